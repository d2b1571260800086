import PyProof.Rows.All
import Wide.All
import OpenK.AllK
import Wide.FinOn
import HandS.ForMost
import HandS.IsInst
import HandS.Style
import HandS.TupAny
import HandS.Deep
import KE.SortData
import HandS.Walk
import HandS.ForExc
import HandS.ExcInit
import HandS.ExcField
import HandS.TryMany
import PyProof.ReprReads
import PyProof.ReprRoads
import PyProof.StrOps2
import HandS.EndTab
import PySem.Challenge.RW_patchlots_k54_differences_looked_at
import HandS.Evl
import HandS.Zip
import HandS.NoneIn
import PyProof.ReprLen
import HandS.Lambda
set_option Elab.async false
set_option linter.all false
set_option maxRecDepth 100000
set_option maxHeartbeats 4000000
/-! Data as a whole over the hand layer: DX, what evaluates to what, a def's promise over data. -/
namespace KD
open PySem L2

/-! ### data that stands apart from some addresses -/
def kd : Key → PyData
  | .inl i => .int i
  | .inr x => .str x
mutual
inductive DX (X : Addr → Prop) (H : Hp) : V → PyData → Prop
  | non : DX X H .non .none
  | bl (b : Bool) : DX X H (.bl b) (.bool b)
  | int (i : Int) : DX X H (.int i) (.int i)
  | str (x : Str) : DX X H (.str x) (.str x)
  | lst {a : Addr} {xs : List V} {ds : List PyData} : ¬ X a → H a = some (.lst xs) → DXs X H xs ds → DX X H (.ref a) (.list ds)
  | tup {a : Addr} {xs : List V} {ds : List PyData} : ¬ X a → H a = some (.tup xs) → DXs X H xs ds → DX X H (.ref a) (.tuple ds)
  | dic {a : Addr} {kvs : List (Key × V)} {ks : List (PyData × PyData)} : ¬ X a → H a = some (.dK kvs) → DXk X H kvs ks → DX X H (.ref a) (.dict ks)
inductive DXs (X : Addr → Prop) (H : Hp) : List V → List PyData → Prop
  | nil : DXs X H [] []
  | cons {v : V} {vs : List V} {d : PyData} {ds : List PyData} : DX X H v d → DXs X H vs ds → DXs X H (v :: vs) (d :: ds)
inductive DXk (X : Addr → Prop) (H : Hp) : List (Key × V) → List (PyData × PyData) → Prop
  | nil : DXk X H [] []
  | cons {k : Key} {v : V} {vs : List (Key × V)} {d : PyData} {ds : List (PyData × PyData)} : DX X H v d → DXk X H vs ds → DXk X H ((k, v) :: vs) ((kd k, d) :: ds)
end
/-- what is not of X is kept -/
def Kp (X : Addr → Prop) (H H' : Hp) : Prop := ∀ a o, ¬ X a → H a = some o → H' a = some o
theorem Kp.of {X : Addr → Prop} {H H' : Hp} (h : Same H H') : Kp X H H' := fun a o _ e => h a o e
theorem Kp.refl {X : Addr → Prop} {H : Hp} : Kp X H H := fun _ _ _ e => e
theorem Kp.trans {X : Addr → Prop} {H H1 H2 : Hp} (h : Kp X H H1) (k : Kp X H1 H2) : Kp X H H2 := fun a o n e => k a o n (h a o n e)
section
variable {X : Addr → Prop} {H H' : Hp}
mutual
theorem DX.mono (k : Kp X H H') : ∀ {v : V} {d : PyData}, DX X H v d → DX X H' v d
  | _, _, .non => .non
  | _, _, .bl b => .bl b
  | _, _, .int i => .int i
  | _, _, .str x => .str x
  | _, _, .lst n h r => .lst n (k _ _ n h) (DXs.mono k r)
  | _, _, .tup n h r => .tup n (k _ _ n h) (DXs.mono k r)
  | _, _, .dic n h r => .dic n (k _ _ n h) (DXk.mono k r)
theorem DXs.mono (k : Kp X H H') : ∀ {vs : List V} {ds : List PyData}, DXs X H vs ds → DXs X H' vs ds
  | _, _, .nil => .nil
  | _, _, .cons h r => .cons (DX.mono k h) (DXs.mono k r)
theorem DXk.mono (k : Kp X H H') : ∀ {vs : List (Key × V)} {ds : List (PyData × PyData)}, DXk X H vs ds → DXk X H' vs ds
  | _, _, .nil => .nil
  | _, _, .cons h r => .cons (DX.mono k h) (DXk.mono k r)
end
theorem DXs.length : ∀ {vs : List V} {ds : List PyData}, DXs X H vs ds → vs.length = ds.length
  | _, _, .nil => rfl
  | _, _, .cons _ r => congrArg (· + 1) (DXs.length r)
theorem DXs.get : ∀ {vs : List V} {ds : List PyData} {i : Nat} {d : PyData}, DXs X H vs ds → ds[i]? = some d → ∃ v, vs[i]? = some v ∧ DX X H v d
  | _, _, _, _, .nil, e => by simp at e
  | _, _, 0, _, .cons h _, e => by simp at e; subst e; exact ⟨_, rfl, h⟩
  | _, _, i + 1, d, .cons _ r, e => by
    obtain ⟨v, h1, h2⟩ := DXs.get (i := i) (d := d) r (by simpa using e)
    exact ⟨v, by simpa using h1, h2⟩
theorem DXs.getV : ∀ {vs : List V} {ds : List PyData} {i : Nat} {v : V}, DXs X H vs ds → vs[i]? = some v → ∃ d, ds[i]? = some d ∧ DX X H v d
  | _, _, _, _, .nil, e => by simp at e
  | _, _, 0, _, .cons h _, e => by simp at e; subst e; exact ⟨_, rfl, h⟩
  | _, _, i + 1, d, .cons _ r, e => by
    obtain ⟨v, h1, h2⟩ := DXs.getV (i := i) (v := d) r (by simpa using e)
    exact ⟨v, by simpa using h1, h2⟩
theorem DXs.append : ∀ {vs ws : List V} {ds es : List PyData}, DXs X H vs ds → DXs X H ws es → DXs X H (vs ++ ws) (ds ++ es)
  | _, _, _, _, .nil, s => s
  | _, _, _, _, .cons h r, s => .cons h (DXs.append r s)
theorem DXs.take : ∀ {vs : List V} {ds : List PyData} (n : Nat), DXs X H vs ds → DXs X H (vs.take n) (ds.take n)
  | _, _, 0, _ => .nil
  | _, _, _ + 1, .nil => .nil
  | _, _, n + 1, .cons h r => .cons h (DXs.take n r)
theorem DXs.drop : ∀ {vs : List V} {ds : List PyData} (n : Nat), DXs X H vs ds → DXs X H (vs.drop n) (ds.drop n)
  | _, _, 0, r => r
  | _, _, _ + 1, .nil => .nil
  | _, _, n + 1, .cons _ r => DXs.drop n r
theorem DXs.erase : ∀ {vs : List V} {ds : List PyData} (n : Nat), DXs X H vs ds → DXs X H (vs.eraseIdx n) (ds.eraseIdx n)
  | _, _, _, .nil => .nil
  | _, _, 0, .cons _ r => r
  | _, _, n + 1, .cons h r => .cons h (DXs.erase n r)
theorem DXs.rep {vs : List V} {ds : List PyData} (h : DXs X H vs ds) : ∀ n : Nat, DXs X H (List.replicate n vs).flatten (List.replicate n ds).flatten
  | 0 => .nil
  | n + 1 => by
    rw [List.replicate_succ, List.replicate_succ, List.flatten_cons, List.flatten_cons]
    exact DXs.append h (DXs.rep h n)
theorem DXs.snoc {vs : List V} {ds : List PyData} {v : V} {d : PyData} (h : DXs X H vs ds) (k : DX X H v d) : DXs X H (vs ++ [v]) (ds ++ [d]) := DXs.append h (.cons k .nil)

/-! ### data without dicts is the layer's data -/
mutual
def noDict : PyData → Bool
  | .none => true
  | .bool _ => true
  | .int _ => true
  | .str _ => true
  | .list ds => noDicts ds
  | .tuple ds => noDicts ds
  | .dict _ => false
def noDicts : List PyData → Bool
  | [] => true
  | d :: ds => noDict d && noDicts ds
end
mutual
theorem DX.dp {K : PySem.W.Frag} : ∀ {v : V} {d : PyData}, DX X H v d → noDict d = true → Dp K H v d
  | _, _, .non, _ => .non
  | _, _, .bl b, _ => .bl b
  | _, _, .int i, _ => .int i
  | _, _, .str x, _ => .str x
  | _, _, .lst _ h r, n => .lst (SqL.of h) (DXs.dp r (by simpa [noDict] using n))
  | _, _, .tup _ h r, n => .tup (SqT.of h) (DXs.dp r (by simpa [noDict] using n))
  | _, _, .dic _ _ _, n => by simp [noDict] at n
theorem DXs.dp {K : PySem.W.Frag} : ∀ {vs : List V} {ds : List PyData}, DXs X H vs ds → noDicts ds = true → DpAll K H vs ds
  | _, _, .nil, _ => .nil
  | _, _, .cons (d := d) (ds := ds) h r, n => by
    have n' : noDict d = true ∧ noDicts ds = true := by simpa [noDicts] using n
    exact .cons (DX.dp h n'.1) (DXs.dp r n'.2)
end
end
/-- the addresses of X stand in the heap -/
def Trk (X : Addr → Prop) (H : Hp) : Prop := ∀ a, X a → ∃ o, H a = some o
theorem Trk.mono {X : Addr → Prop} {H H' : Hp} (t : Trk X H) (s : Same H H') : Trk X H' := fun a h => let ⟨o, e⟩ := t a h; ⟨o, s a o e⟩
theorem Trk.new {X : Addr → Prop} {H : Hp} {p : Addr} (t : Trk X H) (h : H p = none) : ¬ X p := fun x => by
  obtain ⟨o, e⟩ := t p x
  rw [h] at e
  cases e
theorem Same.upd {H : Hp} {p : Addr} {o : HO} (h : H p = none) : Same H (upd H p o) := fun b u e => by
  rw [upd_ne (ne_of_none e h)]
  exact e

/-! ### the frame's values as data -/
inductive Sv where
  | dat (d : PyData) | val (v : V) | un
def SvOk (X : Addr → Prop) (H : Hp) : Sv → Option (Option V) → Prop
  | .dat d, o => ∃ v, o = some (some v) ∧ DX X H v d
  | .val v, o => o = some (some v)
  | .un, _ => True
structure EnvOk (X : Addr → Prop) (H : Hp) (σ : St) (Γ : List Sv) : Prop where
  len : σ.length = Γ.length
  get : ∀ (i : Nat) (s : Sv), Γ[i]? = some s → SvOk X H s σ[i]?
section
variable {X : Addr → Prop} {H H' : Hp} {σ : St} {Γ : List Sv}
theorem SvOk.mono (k : Kp X H H') {s : Sv} {o : Option (Option V)} (h : SvOk X H s o) : SvOk X H' s o := by
  cases s with
  | dat d =>
    obtain ⟨v, e, r⟩ := h
    exact ⟨v, e, r.mono k⟩
  | val v => exact h
  | un => trivial
theorem EnvOk.mono (k : Kp X H H') (h : EnvOk X H σ Γ) : EnvOk X H' σ Γ := ⟨h.len, fun i s e => (h.get i s e).mono k⟩
theorem EnvOk.same (k : Same H H') (h : EnvOk X H σ Γ) : EnvOk X H' σ Γ := h.mono (Kp.of k)
theorem EnvOk.put {i : Nat} {v : V} {s : Sv} (h : EnvOk X H σ Γ) (hs : SvOk X H s (some (some v))) : EnvOk X H (σ.set i (some v)) (Γ.set i s) := by
  refine ⟨by rw [List.length_set, List.length_set]; exact h.len, fun j t e => ?_⟩
  by_cases hj : i = j
  · subst hj
    by_cases hl : i < Γ.length
    · rw [List.getElem?_set_self hl] at e
      cases e
      rw [List.getElem?_set_self (by rw [h.len]; exact hl)]
      exact hs
    · rw [List.getElem?_eq_none (by rw [List.length_set]; omega)] at e
      cases e
  · rw [List.getElem?_set_ne hj] at e
    rw [List.getElem?_set_ne hj]
    exact h.get j t e
theorem EnvOk.set {i : Nat} {v : V} {d : PyData} (h : EnvOk X H σ Γ) (hd : DX X H v d) : EnvOk X H (σ.set i (some v)) (Γ.set i (.dat d)) := h.put ⟨v, rfl, hd⟩
theorem EnvOk.setV {i : Nat} {v : V} (h : EnvOk X H σ Γ) : EnvOk X H (σ.set i (some v)) (Γ.set i (.val v)) := h.put rfl
/-- what is not asked any more -/
theorem EnvOk.wipe (h : EnvOk X H σ Γ) : ∀ vs : List Nat, EnvOk X H (wipe σ vs) (vs.foldr (fun v g => g.set v .un) Γ)
  | [] => h
  | v :: vs => by
    have ih := EnvOk.wipe h vs
    show EnvOk X H ((L2.wipe σ vs).set v none) ((vs.foldr (fun v g => g.set v .un) Γ).set v .un)
    refine ⟨by rw [List.length_set, List.length_set]; exact ih.len, fun j t e => ?_⟩
    by_cases hj : v = j
    · subst hj
      by_cases hl : v < (vs.foldr (fun v g => g.set v Sv.un) Γ).length
      · rw [List.getElem?_set_self hl] at e
        cases e
        trivial
      · rw [List.getElem?_eq_none (by rw [List.length_set]; omega)] at e
        cases e
    · rw [List.getElem?_set_ne hj] at e
      rw [List.getElem?_set_ne hj]
      exact ih.get j t e
theorem envOk_start {N : List Str} {vs : List V} {ss : List Sv} (hl : vs.length = ss.length) (hs : ∀ (i : Nat) (s : Sv), ss[i]? = some s → ∀ v, vs[i]? = some v → SvOk X H s (some (some v))) (hN : vs.length ≤ N.length) : EnvOk X H (L2.start N vs) (ss ++ List.replicate (N.length - vs.length) .un) := by
  unfold L2.start
  refine ⟨by simp [hl], fun i s e => ?_⟩
  by_cases hi : i < vs.length
  · rw [List.getElem?_append_left (by omega)] at e
    rw [List.getElem?_append_left (by simpa using hi)]
    rw [List.getElem?_map, List.getElem?_eq_getElem hi]
    exact hs i s e _ (List.getElem?_eq_getElem hi)
  · rw [List.getElem?_append_right (by omega)] at e
    have hu : s = .un := by
      have := List.mem_of_getElem? e
      exact List.eq_of_mem_replicate this
    subst hu
    trivial
end

/-! ### what evaluates to what datum, leaving all as it is -/
def G (X : Addr → Prop) (te : TE) (σ : St) (H : Hp) (d : PyData) : Prop := ∀ H1, Same H H1 → ∀ Q : VK, (∀ v H2, Same H1 H2 → DX X H2 v d → Q v H2) → te σ H1 Q
def GV (te : TE) (σ : St) (H : Hp) (v : V) : Prop := ∀ H1, Same H H1 → ∀ Q : VK, Q v H1 → te σ H1 Q
def GT (tt : TT) (σ : St) (H : Hp) (b : Bool) : Prop := ∀ H1, Same H H1 → ∀ Q : Bool → Hp → Prop, (∀ H2, Same H1 H2 → Q b H2) → tt σ H1 Q
def GA (X : Addr → Prop) (ta : TA) (σ : St) (H : Hp) (ds : List PyData) : Prop := ∀ H1, Same H H1 → ∀ Q : List V → Hp → Prop, (∀ vs H2, Same H1 H2 → DXs X H2 vs ds → Q vs H2) → ta σ H1 Q
def GO (to : TO) (σ : St) (H : Hp) (o : Option Int) : Prop := ∀ H1, Same H H1 → ∀ Q : Option Int → Hp → Prop, (∀ H2, Same H1 H2 → Q o H2) → to σ H1 Q
/-- operations on data -/
def RD (X : Addr → Prop) (r : R2) (x y z : PyData) : Prop := ∀ H u v, Trk X H → DX X H u x → DX X H v y → ∀ Q : VK, (∀ w H2, Same H H2 → DX X H2 w z → Q w H2) → r u v H Q
def RB (X : Addr → Prop) (r : R2) (x y : PyData) (b : Bool) : Prop := ∀ H u v, Trk X H → DX X H u x → DX X H v y → ∀ Q : VK, Q (.bl b) H → r u v H Q
def RF (X : Addr → Prop) (r : List V → Hp → VK → Prop) (xs : List PyData) (z : PyData) : Prop := ∀ H us, Trk X H → DXs X H us xs → ∀ Q : VK, (∀ w H2, Same H H2 → DX X H2 w z → Q w H2) → r us H Q
section
variable {X : Addr → Prop} {σ : St} {H H' : Hp} {te ta tb tc : TE} {tt tu : TT} {x y z d e : PyData} {Γ : List Sv} {K : PySem.W.Frag} {r : R2}
theorem DX.int_inv {v : V} {i : Int} (h : DX X H v (.int i)) : v = .int i := by cases h; rfl
theorem DX.bl_inv {v : V} {b : Bool} (h : DX X H v (.bool b)) : v = .bl b := by cases h; rfl
theorem DX.str_inv {v : V} {s : Str} (h : DX X H v (.str s)) : v = .str s := by cases h; rfl
theorem DX.non_inv {v : V} (h : DX X H v .none) : v = .non := by cases h; rfl
theorem DX.lst_inv {v : V} {ds : List PyData} (h : DX X H v (.list ds)) : ∃ a xs, v = .ref a ∧ ¬ X a ∧ H a = some (.lst xs) ∧ DXs X H xs ds := by
  cases h with | lst n e r => exact ⟨_, _, rfl, n, e, r⟩
theorem DX.tup_inv {v : V} {ds : List PyData} (h : DX X H v (.tuple ds)) : ∃ a xs, v = .ref a ∧ ¬ X a ∧ H a = some (.tup xs) ∧ DXs X H xs ds := by
  cases h with | tup n e r => exact ⟨_, _, rfl, n, e, r⟩
theorem DX.newL {xs : List V} {ds : List PyData} (t : Trk X H) (h : DXs X H xs ds) {p : Addr} (hp : H p = none) : DX X (upd H p (.lst xs)) (.ref p) (.list ds) := .lst (t.new hp) upd_same (h.mono (Kp.of (Same.upd hp)))
theorem DX.newT {xs : List V} {ds : List PyData} (t : Trk X H) (h : DXs X H xs ds) {p : Addr} (hp : H p = none) : DX X (upd H p (.tup xs)) (.ref p) (.tuple ds) := .tup (t.new hp) upd_same (h.mono (Kp.of (Same.upd hp)))
theorem DX.isa_bool {v : V} {b : Bool} (h : DX X H v d) (e : v = .bl b) : d = .bool b := by subst e; cases h; rfl

theorem G.mono (s : Same H H') (h : G X te σ H d) : G X te σ H' d := fun H1 k Q q => h H1 (s.trans k) Q q
theorem GT.mono {b : Bool} (s : Same H H') (h : GT tt σ H b) : GT tt σ H' b := fun H1 k Q q => h H1 (s.trans k) Q q
theorem g_var {i : Nat} (E : EnvOk X H σ Γ) (h : Γ[i]? = some (.dat d)) : G X (tVar i) σ H d := fun H1 s Q q => by
  obtain ⟨v, e, r⟩ := E.get i _ h
  exact ⟨v, e, q v H1 (Same.refl H1) (r.mono (Kp.of s))⟩
theorem gv_var {i : Nat} {v : V} (E : EnvOk X H σ Γ) (h : Γ[i]? = some (.val v)) : GV (tVar i) σ H v := fun H1 s Q q => ⟨v, E.get i _ h, q⟩
theorem g_int {i : Int} : G X (tC (.int i)) σ H (.int i) := fun H1 _ Q q => q _ H1 (Same.refl H1) (.int i)
theorem g_bl {b : Bool} : G X (tC (.bl b)) σ H (.bool b) := fun H1 _ Q q => q _ H1 (Same.refl H1) (.bl b)
theorem g_str {s : Str} : G X (tC (.str s)) σ H (.str s) := fun H1 _ Q q => q _ H1 (Same.refl H1) (.str s)
theorem g_non : G X (tC .non) σ H .none := fun H1 _ Q q => q _ H1 (Same.refl H1) .non
theorem ga_nil : GA X tNil σ H [] := fun H1 _ Q q => q [] H1 (Same.refl H1) .nil
theorem ga_cons {ta : TE} {tr : TA} {ds : List PyData} (h : G X ta σ H d) (k : GA X tr σ H ds) : GA X (tCons ta tr) σ H (d :: ds) := fun H1 s Q q =>
  h H1 s _ fun v H2 s2 r => k H2 (s.trans s2) _ fun vs H3 s3 rs => q _ H3 (s2.trans s3) (.cons (r.mono (Kp.of s3)) rs)
theorem g_lst {ta : TA} {ds : List PyData} (t : Trk X H) (h : GA X ta σ H ds) (hl : ds.length ≤ 1000000) : G X (tLst ta) σ H (.list ds) := fun H1 s Q q =>
  h H1 s _ fun vs H2 s2 rs => ⟨by rw [rs.length, sizeLine_eq]; omega, fun p hp => q _ _ (s2.trans (Same.upd hp)) (DX.newL ((t.mono s).mono s2) rs hp)⟩
theorem g_tup {ta : TA} {ds : List PyData} (t : Trk X H) (h : GA X ta σ H ds) (hl : ds.length ≤ 1000000) : G X (tTup ta) σ H (.tuple ds) := fun H1 s Q q =>
  h H1 s _ fun vs H2 s2 rs => ⟨by rw [rs.length, sizeLine_eq]; omega, fun p hp => q _ _ (s2.trans (Same.upd hp)) (DX.newT ((t.mono s).mono s2) rs hp)⟩
theorem g_op (t : Trk X H) (ha : G X ta σ H x) (hb : G X tb σ H y) (hr : RD X r x y z) : G X (tOp r ta tb) σ H z := fun H1 s Q q =>
  ha H1 s _ fun u H2 s2 ru => hb H2 (s.trans s2) _ fun v H3 s3 rv => hr H3 u v (((t.mono s).mono s2).mono s3) (ru.mono (Kp.of s3)) rv Q fun w H4 s4 rw_ => q w H4 ((s2.trans s3).trans s4) rw_
theorem gt_op {b : Bool} (t : Trk X H) (ha : G X ta σ H x) (hb : G X tb σ H y) (hr : RB X r x y b) : GT (tTest (tOp r ta tb)) σ H b := fun H1 s Q q =>
  ha H1 s _ fun u H2 s2 ru => hb H2 (s.trans s2) _ fun v H3 s3 rv => hr H3 u v (((t.mono s).mono s2).mono s3) (ru.mono (Kp.of s3)) rv _ ⟨b, rfl, q H3 (s2.trans s3)⟩
theorem RB.rd {b : Bool} (h : RB X r x y b) : RD X r x y (.bool b) := fun H u v t ru rv Q q => h H u v t ru rv Q (q _ H (Same.refl H) (.bl b))
theorem RD.or1 {r r' : R2} (h : RD X r x y z) : RD X (fun x y H Q => r x y H Q ∨ r' x y H Q) x y z := fun H u v t ru rv Q q => .inl (h H u v t ru rv Q q)
theorem RD.or2 {r r' : R2} (h : RD X r' x y z) : RD X (fun x y H Q => r x y H Q ∨ r' x y H Q) x y z := fun H u v t ru rv Q q => .inr (h H u v t ru rv Q q)
/-- a test that is a bool's -/
theorem gt_B {b : Bool} (h : G X te σ H (.bool b)) : GT (tB te) σ H b := fun H1 s Q q => h H1 s _ fun v H2 s2 r => ⟨b, r.bl_inv, q H2 s2⟩
theorem gt_test {b : Bool} (h : G X te σ H (.bool b)) : GT (tTest te) σ H b := fun H1 s Q q => h H1 s _ fun v H2 s2 r => ⟨b, r.bl_inv, q H2 s2⟩
theorem gt_not {b : Bool} (h : GT tt σ H b) : GT (tNot tt) σ H (!b) := fun H1 s Q q => h H1 s _ fun H2 s2 => q H2 s2
theorem gt_and {a b : Bool} (h : GT tt σ H a) (k : a = true → GT tu σ H b) : GT (tAnd tt tu) σ H (a && b) := fun H1 s Q q => h H1 s _ fun H2 s2 => by
  cases a with
  | true =>
    show tu σ H2 Q
    exact k rfl H2 (s.trans s2) Q fun H3 s3 => q H3 (s2.trans s3)
  | false =>
    show Q false H2
    exact q H2 s2
theorem gt_or {a b : Bool} (h : GT tt σ H a) (k : a = false → GT tu σ H b) : GT (tOr tt tu) σ H (a || b) := fun H1 s Q q => h H1 s _ fun H2 s2 => by
  cases a with
  | true =>
    show Q true H2
    exact q H2 s2
  | false =>
    show tu σ H2 Q
    exact k rfl H2 (s.trans s2) Q fun H3 s3 => q H3 (s2.trans s3)
theorem gt_is {a b : Bool} (h : GT tt σ H a) (e : a = b) : GT tt σ H b := e ▸ h
theorem g_is (h : G X te σ H d) (e' : d = e) : G X te σ H e := e' ▸ h
theorem g_and {a b : Bool} (h : G X ta σ H (.bool a)) (k : a = true → G X tb σ H (.bool b)) : G X (tAndV ta tb) σ H (.bool (a && b)) := fun H1 s Q q => h H1 s _ fun v H2 s2 r => ⟨a, r.bl_inv, by
  cases a with
  | true =>
    show tb σ H2 Q
    exact k rfl H2 (s.trans s2) Q fun v H3 s3 r3 => q v H3 (s2.trans s3) r3
  | false =>
    show Q (.bl false) H2
    exact q _ H2 s2 (.bl false)⟩
theorem g_or {a b : Bool} (h : G X ta σ H (.bool a)) (k : a = false → G X tb σ H (.bool b)) : G X (tOrV ta tb) σ H (.bool (a || b)) := fun H1 s Q q => h H1 s _ fun v H2 s2 r => ⟨a, r.bl_inv, by
  cases a with
  | true =>
    show Q (.bl true) H2
    exact q _ H2 s2 (.bl true)
  | false =>
    show tb σ H2 Q
    exact k rfl H2 (s.trans s2) Q fun v H3 s3 r3 => q v H3 (s2.trans s3) r3⟩
theorem g_not {a : Bool} (h : G X ta σ H (.bool a)) : G X (tNotV ta) σ H (.bool (!a)) := fun H1 s Q q => h H1 s _ fun v H2 s2 r => ⟨a, r.bl_inv, q _ H2 s2 (.bl _)⟩
theorem g_if {b : Bool} (h : GT tt σ H b) (h1 : b = true → G X ta σ H d) (h2 : b = false → G X tb σ H d) : G X (tIf tt ta tb) σ H d := fun H1 s Q q => h H1 s _ fun H2 s2 => by
  cases b with
  | true =>
    show ta σ H2 Q
    exact h1 rfl H2 (s.trans s2) Q fun v H3 s3 r3 => q v H3 (s2.trans s3) r3
  | false =>
    show tb σ H2 Q
    exact h2 rfl H2 (s.trans s2) Q fun v H3 s3 r3 => q v H3 (s2.trans s3) r3
theorem g_call {sp : Sp} {E : XK} {ta : TA} {ds : List PyData} (h : GA X ta σ H ds) (k : ∀ vs H1, Same H H1 → DXs X H1 vs ds → ∀ Q : VK, (∀ v H2, Same H1 H2 → DX X H2 v d → Q v H2) → sp vs H1 Q E) : G X (tCall sp [] E ta) σ H d := fun H1 s Q q =>
  h H1 s _ fun vs H2 s2 rs => by
    rw [List.append_nil]
    exact k vs H2 (s.trans s2) rs Q fun v H3 s3 r3 => q v H3 (s2.trans s3) r3
theorem g_cb {rr : List V → Hp → VK → Prop} {ta : TA} {ds : List PyData} (t : Trk X H) (h : GA X ta σ H ds) (k : RF X rr ds d) : G X (tCB rr ta) σ H d := fun H1 s Q q =>
  h H1 s _ fun vs H2 s2 rs => k H2 vs ((t.mono s).mono s2) rs Q fun w H3 s3 r3 => q w H3 (s2.trans s3) r3
theorem go_none : GO tNoPart σ H none := fun H1 _ Q q => q H1 (Same.refl H1)
theorem go_some {i : Int} (h : G X te σ H (.int i)) : GO (tPart te) σ H (some i) := fun H1 s Q q => h H1 s _ fun v H2 s2 r => ⟨i, r.int_inv, q H2 s2⟩

/-! ### the operations -/
theorem rd_I0 {g : Int → Int → Int} {i j : Int} : RD X (rI0 fun i j => .int (g i j)) (.int i) (.int j) (.int (g i j)) := fun H u v _ ru rv Q q => ⟨i, j, ru.int_inv, rv.int_inv, q _ H (Same.refl H) (.int _)⟩
theorem rd_I {C : Int → Int → Prop} {g : Int → Int → Int} {i j : Int} (c : C i j) : RD X (rI C fun i j => .int (g i j)) (.int i) (.int j) (.int (g i j)) := fun H u v _ ru rv Q q => ⟨i, j, ru.int_inv, rv.int_inv, c, q _ H (Same.refl H) (.int _)⟩
theorem rb_I0 {g : Int → Int → Bool} {i j : Int} : RB X (rI0 fun i j => .bl (g i j)) (.int i) (.int j) (g i j) := fun H u v _ ru rv Q q => ⟨i, j, ru.int_inv, rv.int_inv, q⟩
theorem rd_cat {xs ys : List PyData} (hl : xs.length + ys.length ≤ 1000000) : RD X rCat (.list xs) (.list ys) (.list (xs ++ ys)) := fun H u v t ru rv Q q => by
  obtain ⟨a, us, rfl, _, ha, rs⟩ := ru.lst_inv
  obtain ⟨b, ws, rfl, _, hb, rt⟩ := rv.lst_inv
  exact ⟨a, b, us, ws, rfl, rfl, ha, hb, by rw [rs.length, rt.length, sizeLine_eq]; omega, fun p hp => q _ _ (Same.upd hp) (DX.newL t (rs.append rt) hp)⟩
theorem rd_rep {xs : List PyData} {k : Int} (h1 : -(2 ^ 63) ≤ k) (h2 : k < 2 ^ 63) (hl : xs.length * k.toNat ≤ 1000000) : RD X rRep (.list xs) (.int k) (.list (List.replicate k.toNat xs).flatten) := fun H u v t ru rv Q q => by
  obtain ⟨a, us, rfl, _, ha, rs⟩ := ru.lst_inv
  exact ⟨a, k, us, rfl, rv.int_inv, ha, h1, h2, by rw [rs.length, sizeLine_eq]; omega, fun p hp => q _ _ (Same.upd hp) (DX.newL t (rs.rep k.toNat) hp)⟩
theorem rd_addS {a b : Str} (hl : a.length + b.length ≤ 1000000) : RD X (fun x y H Q => ∃ i j, x = V.str i ∧ y = V.str j ∧ i.length + j.length ≤ sizeLine ∧ Q (V.str (i ++ j)) H) (.str a) (.str b) (.str (a ++ b)) := fun H u v _ ru rv Q q => ⟨a, b, ru.str_inv, rv.str_inv, by rw [sizeLine_eq]; omega, q _ H (Same.refl H) (.str _)⟩
theorem rb_eqD (hd : noDict x = true) (he : noDict y = true) (hs : SeqAt.shaped x = true) (ht : SeqAt.shaped y = true) : RB X (rEqD K) x y (PyData.eqv x y) := fun H u v _ ru rv Q q => ⟨x, y, ru.dp hd, rv.dp he, hs, ht, q⟩
theorem rb_neD (hd : noDict x = true) (he : noDict y = true) (hs : SeqAt.shaped x = true) (ht : SeqAt.shaped y = true) : RB X (rNeD K) x y (!PyData.eqv x y) := fun H u v _ ru rv Q q => ⟨x, y, ru.dp hd, rv.dp he, hs, ht, q⟩
def isNone : PyData → Bool
  | .none => true
  | _ => false
theorem dx_none {v : V} (h : DX X H v d) : decide (v = .non) = isNone d := by cases h <;> simp [isNone]
theorem rb_isN : RB X (fun x y H Q => y = .non ∧ Q (.bl (decide (x = .non))) H) x .none (isNone x) := fun H u v _ ru rv Q q => ⟨rv.non_inv, by rw [dx_none ru]; exact q⟩
theorem rb_notN : RB X (fun x y H Q => y = .non ∧ Q (.bl (!decide (x = .non))) H) x .none (!isNone x) := fun H u v _ ru rv Q q => ⟨rv.non_inv, by rw [dx_none ru]; exact q⟩
theorem rb_isB {a b : Bool} : RB X rIsB (.bool a) (.bool b) (decide (a = b)) := fun H u v _ ru rv Q q => ⟨a, b, ru.bl_inv, rv.bl_inv, q⟩
theorem rb_notB {a b : Bool} : RB X rNotB (.bool a) (.bool b) (!decide (a = b)) := fun H u v _ ru rv Q q => ⟨a, b, ru.bl_inv, rv.bl_inv, q⟩
/-- an item -/
theorem rd_ixL {ds : List PyData} {i : Int} (h : atI ds i = some z) : RD X (rIx K) (.list ds) (.int i) z := fun H u v _ ru rv Q q => by
  obtain ⟨a, us, rfl, _, ha, rs⟩ := ru.lst_inv
  unfold atI at h
  cases hx : ixN ds.length i with
  | none => rw [hx] at h; cases h
  | some j =>
    rw [hx] at h
    obtain ⟨w, hw, rz⟩ := rs.get (i := j) (show ds[j]? = some z from h)
    exact .inl ⟨a, us, i, w, rfl, rv.int_inv, SqL.of ha, by unfold atI; rw [rs.length, hx]; exact hw, q w H (Same.refl H) rz⟩
theorem rd_ixT {ds : List PyData} {i : Int} (h : atI ds i = some z) : RD X (rIx K) (.tuple ds) (.int i) z := fun H u v _ ru rv Q q => by
  obtain ⟨a, us, rfl, _, ha, rs⟩ := ru.tup_inv
  unfold atI at h
  cases hx : ixN ds.length i with
  | none => rw [hx] at h; cases h
  | some j =>
    rw [hx] at h
    obtain ⟨w, hw, rz⟩ := rs.get (i := j) (show ds[j]? = some z from h)
    exact .inr (.inl ⟨a, us, i, w, rfl, rv.int_inv, SqT.of ha, by unfold atI; rw [rs.length, hx]; exact hw, q w H (Same.refl H) rz⟩)
/-- a slice of a list -/
def cutPD (xs : List PyData) (lo hi : Option Int) : List PyData := (xs.drop (HT.sIx xs.length 0 lo)).take (HT.sIx xs.length xs.length hi - HT.sIx xs.length 0 lo)
theorem DXs.cut {vs : List V} {ds : List PyData} (h : DXs X H vs ds) (lo hi : Option Int) : DXs X H (cutV vs lo hi) (cutPD ds lo hi) := by
  unfold cutV cutPD
  rw [h.length]
  exact (h.drop _).take _
theorem g_sl {tl th : TO} {ds : List PyData} {lo hi : Option Int} (t : Trk X H) (h : G X te σ H (.list ds)) (hl : GO tl σ H lo) (hh : GO th σ H hi) : G X (tSl (rSlL K) te tl th) σ H (.list (cutPD ds lo hi)) := fun H1 s Q q =>
  h H1 s _ fun v H2 s2 r2 => hl H2 (s.trans s2) _ fun H3 s3 => hh H3 ((s.trans s2).trans s3) _ fun H4 s4 => by
    obtain ⟨a, us, rfl, _, ha, rs⟩ := (r2.mono (Kp.of (s3.trans s4))).lst_inv
    exact ⟨a, us, rfl, SqL.of ha, fun p hp => q _ _ (((s2.trans s3).trans s4).trans (Same.upd hp)) (DX.newL (((t.mono s).mono s2).mono (s3.trans s4)) (rs.cut lo hi) hp)⟩

/-! ### functions of the language -/
def lenD : PyData → Nat
  | .str s => s.length
  | .list ds => ds.length
  | .tuple ds => ds.length
  | _ => 0
def hasLen : PyData → Bool
  | .str s => decide (s.length ≤ 1000000)
  | .list _ => true
  | .tuple _ => true
  | _ => false
theorem rf_len (h : hasLen d = true) : RF X (fun xs H Q => ∃ x n, xs = [x] ∧ LenV K x H n ∧ Q (.int n) H) [d] (.int (lenD d : Int)) := fun H us _ rs Q q => by
  cases rs with
  | cons r r2 =>
    cases r2
    cases r with
    | str s => exact ⟨_, s.length, rfl, ⟨by have := of_decide_eq_true (show decide (s.length ≤ 1000000) = true from h); rw [sizeLine_eq]; omega, rfl⟩, q _ H (Same.refl H) (.int _)⟩
    | lst n e r => exact ⟨_, _, rfl, .inl ⟨_, SqL.of e, rfl⟩, q _ H (Same.refl H) (by rw [r.length]; exact .int _)⟩
    | tup n e r => exact ⟨_, _, rfl, .inr ⟨_, SqT.of e, rfl⟩, q _ H (Same.refl H) (by rw [r.length]; exact .int _)⟩
    | _ => exact absurd h (by simp [hasLen])
/-- the items of a list or tuple -/
def itemsD : PyData → List PyData
  | .list ds => ds
  | .tuple ds => ds
  | _ => []
def isSeq : PyData → Bool
  | .list _ => true
  | .tuple _ => true
  | _ => false
theorem rf_list (h : isSeq d = true) : RF X (fun xs H Q => ∃ p ys, xs = [V.ref p] ∧ (SqL K H p ys ∨ SqT K H p ys) ∧ ∀ l, H l = none → Q (.ref l) (upd H l (.lst ys))) [d] (.list (itemsD d)) := fun H us t rs Q q => by
  cases rs with
  | cons r r2 =>
    cases r2
    cases r with
    | lst n e r => exact ⟨_, _, rfl, .inl (SqL.of e), fun l hl => q _ _ (Same.upd hl) (DX.newL t r hl)⟩
    | tup n e r => exact ⟨_, _, rfl, .inr (SqT.of e), fun l hl => q _ _ (Same.upd hl) (DX.newL t r hl)⟩
    | _ => exact absurd h (by simp [isSeq])
theorem rf_tuple (h : isSeq d = true) : RF X (fun xs H Q => ∃ p ys, xs = [V.ref p] ∧ ((SqL K H p ys ∧ ∀ l, H l = none → Q (.ref l) (upd H l (.tup ys))) ∨ (SqT K H p ys ∧ Q (.ref p) H))) [d] (.tuple (itemsD d)) := fun H us t rs Q q => by
  cases rs with
  | cons r r2 =>
    cases r2
    cases r with
    | lst n e r => exact ⟨_, _, rfl, .inl ⟨SqL.of e, fun l hl => q _ _ (Same.upd hl) (DX.newT t r hl)⟩⟩
    | tup n e r => exact ⟨_, _, rfl, .inr ⟨SqT.of e, q _ H (Same.refl H) (.tup n e r)⟩⟩
    | _ => exact absurd h (by simp [isSeq])
theorem DXs.ints : ∀ {vs : List V} {ns : List Int}, DXs X H vs (ns.map PyData.int) → vs = ns.map V.int
  | _, [], .nil => rfl
  | _, n :: ns, .cons h r => by rw [h.int_inv, DXs.ints r]; rfl
theorem DXs.bls : ∀ {vs : List V} {ns : List Bool}, DXs X H vs (ns.map PyData.bool) → vs = ns.map V.bl
  | _, [], .nil => rfl
  | _, n :: ns, .cons h r => by rw [h.bl_inv, DXs.bls r]; rfl
theorem DXs.strs : ∀ {vs : List V} {ns : List Str}, DXs X H vs (ns.map PyData.str) → vs = ns.map V.str
  | _, [], .nil => rfl
  | _, n :: ns, .cons h r => by rw [h.str_inv, DXs.strs r]; rfl
theorem DX.ofInts {p : Addr} {ns : List Int} (n : ¬ X p) (h : H p = some (.lst (ns.map V.int))) : DX X H (.ref p) (.list (ns.map PyData.int)) := by
  refine .lst n h ?_
  clear h
  induction ns with
  | nil => exact .nil
  | cons a r ih => exact .cons (.int a) ih
theorem rf_min {ns : List Int} {m : Int} (h0 : 0 < ns.length) (hm : m ∈ ns) (hl : ∀ y ∈ ns, m ≤ y) : RF X (rMin K) [.list (ns.map PyData.int)] (.int m) := fun H us _ rs Q q => by
  cases rs with
  | cons r r2 =>
    cases r2
    obtain ⟨a, vs, rfl, _, ha, rv⟩ := r.lst_inv
    refine ⟨a, ns, rfl, SqL.of (by rw [← rv.ints]; exact ha), h0, fun m' h1 h2 => ?_⟩
    have e : m' = m := Int.le_antisymm (h2 m hm) (hl m' h1)
    subst e
    exact q _ H (Same.refl H) (.int _)
theorem rf_all {bs : List Bool} : RF X (rAll K) [.list (bs.map PyData.bool)] (.bool (bs.all id)) := fun H us _ rs Q q => by
  cases rs with
  | cons r r2 =>
    cases r2
    obtain ⟨a, vs, rfl, _, ha, rv⟩ := r.lst_inv
    exact ⟨a, bs, rfl, SqL.of (by rw [← rv.bls]; exact ha), q _ H (Same.refl H) (.bl _)⟩
theorem rf_any {bs : List Bool} : RF X (rAny K) [.list (bs.map PyData.bool)] (.bool (bs.any id)) := fun H us _ rs Q q => by
  cases rs with
  | cons r r2 =>
    cases r2
    obtain ⟨a, vs, rfl, _, ha, rv⟩ := r.lst_inv
    exact ⟨a, bs, rfl, SqL.of (by rw [← rv.bls]; exact ha), q _ H (Same.refl H) (.bl _)⟩
theorem rf_int {i : Int} : RF X (fun xs H Q => (∃ i, xs = [V.int i] ∧ Q (.int i) H) ∨ ∃ k, xs = [V.bl k] ∧ Q (.int (if k = true then 1 else 0)) H) [.int i] (.int i) := fun H us _ rs Q q => by
  cases rs with
  | cons r r2 =>
    cases r2
    rw [r.int_inv]
    exact .inl ⟨i, rfl, q _ H (Same.refl H) (.int _)⟩
/-- isinstance -/
def tyD : PyData → String
  | .none => "NoneType"
  | .bool _ => "bool"
  | .int _ => "int"
  | .str _ => "str"
  | .list _ => "list"
  | .tuple _ => "tuple"
  | .dict _ => "dict"
theorem DX.ty {v : V} (h : DX X H v d) : TyX K H v (.type (tyD d)) := by
  cases h with
  | non => exact .base .non
  | bl b => exact .base (.bl b)
  | int i => exact .base (.int i)
  | str s => exact .base (.str s)
  | lst n e r => exact .base (.lst e)
  | tup n e r => exact .base (.tup e)
  | dic n e r => exact .base (.dK e)
def isD (n : String) (d : PyData) : Bool := (kitB (tyD d) n).getD false
theorem kit_d {n : String} (h : (kitB (tyD d) n).isSome = true) : PySem.W.kitOne K (.type (tyD d)) (.type n) = some (isD n d) := by
  unfold isD
  cases e : kitB (tyD d) n with
  | none => rw [e] at h; cases h
  | some b => exact kit_ty e
theorem g_isi {n : String} (h : G X te σ H d) (hk : (kitB (tyD d) n).isSome = true) : G X (tCB (rIsi K) (tCons te (tCons (tC (.ty n)) tNil))) σ H (.bool (isD n d)) := fun H1 s Q q =>
  h H1 s _ fun v H2 s2 r => ⟨v, .ty n, _, _, _, rfl, .ty n, r.ty, kit_d hk, q _ H2 s2 (.bl _)⟩
def isDs (ns : List String) (d : PyData) : Bool := ns.any fun n => isD n d
theorem kit_ds : ∀ {ns : List String}, (∀ n ∈ ns, (kitB (tyD d) n).isSome = true) → PySem.W.kitAny K (.type (tyD d)) (ns.map Value.type) = some (isDs ns d)
  | [], _ => by unfold PySem.W.kitAny; rfl
  | n :: ns, h => by
    have h1 := kit_d (K := K) (h n List.mem_cons_self)
    have h2 := kit_ds (ns := ns) fun m hm => h m (List.mem_cons_of_mem _ hm)
    refine kitAny_cons h1 (fun e => ?_) (fun e => ?_)
    · rw [h2]
      unfold isDs
      rw [List.any_cons, e, Bool.false_or]
    · unfold isDs
      rw [List.any_cons, e, Bool.true_or]
def tyArgs : List String → TA
  | [] => tNil
  | n :: ns => tCons (tC (.ty n)) (tyArgs ns)
theorem tyArgs_run : ∀ (ns : List String) (σ : St) (H : Hp) (Q : List V → Hp → Prop), Q (ns.map V.ty) H → tyArgs ns σ H Q
  | [], _, _, _, q => q
  | n :: ns, σ, H, Q, q => tyArgs_run ns σ H _ q
theorem clsV_all : ∀ ns : List String, Paired ClsV (ns.map V.ty) (ns.map Value.type)
  | [] => .nil
  | n :: ns => .cons (.ty n) (clsV_all ns)
theorem g_isiT {ns : List String} {t2 : TA} (h : G X te σ H d) (e2 : t2 = tyArgs ns) (hl : ns.length ≤ 1000) (hk : ∀ n ∈ ns, (kitB (tyD d) n).isSome = true) : G X (tCB (rIsiT K) (tCons te (tCons (tTup t2) tNil))) σ H (.bool (isDs ns d)) := fun H1 s Q q =>
  h H1 s _ fun v H2 s2 r => by
    subst e2
    refine tyArgs_run ns σ H2 _ ⟨by rw [List.length_map, sizeLine_eq]; omega, fun p hp => ?_⟩
    exact ⟨v, p, ns.map V.ty, _, ns.map Value.type, _, rfl, upd_same, clsV_all ns, (r.mono (Kp.of (Same.upd hp))).ty, kit_ds hk, q _ _ (s2.trans (Same.upd hp)) (.bl _)⟩
end
theorem kb_NoneType_int : kitB "NoneType" "int" = some false := by decide +kernel
theorem kb_bool_int : kitB "bool" "int" = some true := by decide +kernel
theorem kb_int_int : kitB "int" "int" = some true := by decide +kernel
theorem kb_str_int : kitB "str" "int" = some false := by decide +kernel
theorem kb_list_int : kitB "list" "int" = some false := by decide +kernel
theorem kb_tuple_int : kitB "tuple" "int" = some false := by decide +kernel
theorem kb_dict_int : kitB "dict" "int" = some false := by decide +kernel
theorem kb_NoneType_bool : kitB "NoneType" "bool" = some false := by decide +kernel
theorem kb_bool_bool : kitB "bool" "bool" = some true := by decide +kernel
theorem kb_int_bool : kitB "int" "bool" = some false := by decide +kernel
theorem kb_str_bool : kitB "str" "bool" = some false := by decide +kernel
theorem kb_list_bool : kitB "list" "bool" = some false := by decide +kernel
theorem kb_tuple_bool : kitB "tuple" "bool" = some false := by decide +kernel
theorem kb_dict_bool : kitB "dict" "bool" = some false := by decide +kernel
theorem kb_NoneType_str : kitB "NoneType" "str" = some false := by decide +kernel
theorem kb_bool_str : kitB "bool" "str" = some false := by decide +kernel
theorem kb_int_str : kitB "int" "str" = some false := by decide +kernel
theorem kb_str_str : kitB "str" "str" = some true := by decide +kernel
theorem kb_list_str : kitB "list" "str" = some false := by decide +kernel
theorem kb_tuple_str : kitB "tuple" "str" = some false := by decide +kernel
theorem kb_dict_str : kitB "dict" "str" = some false := by decide +kernel
theorem kb_NoneType_list : kitB "NoneType" "list" = some false := by decide +kernel
theorem kb_bool_list : kitB "bool" "list" = some false := by decide +kernel
theorem kb_int_list : kitB "int" "list" = some false := by decide +kernel
theorem kb_str_list : kitB "str" "list" = some false := by decide +kernel
theorem kb_list_list : kitB "list" "list" = some true := by decide +kernel
theorem kb_tuple_list : kitB "tuple" "list" = some false := by decide +kernel
theorem kb_dict_list : kitB "dict" "list" = some false := by decide +kernel
theorem kb_NoneType_tuple : kitB "NoneType" "tuple" = some false := by decide +kernel
theorem kb_bool_tuple : kitB "bool" "tuple" = some false := by decide +kernel
theorem kb_int_tuple : kitB "int" "tuple" = some false := by decide +kernel
theorem kb_str_tuple : kitB "str" "tuple" = some false := by decide +kernel
theorem kb_list_tuple : kitB "list" "tuple" = some false := by decide +kernel
theorem kb_tuple_tuple : kitB "tuple" "tuple" = some true := by decide +kernel
theorem kb_dict_tuple : kitB "dict" "tuple" = some false := by decide +kernel
theorem kb_NoneType_dict : kitB "NoneType" "dict" = some false := by decide +kernel
theorem kb_bool_dict : kitB "bool" "dict" = some false := by decide +kernel
theorem kb_int_dict : kitB "int" "dict" = some false := by decide +kernel
theorem kb_str_dict : kitB "str" "dict" = some false := by decide +kernel
theorem kb_list_dict : kitB "list" "dict" = some false := by decide +kernel
theorem kb_tuple_dict : kitB "tuple" "dict" = some false := by decide +kernel
theorem kb_dict_dict : kitB "dict" "dict" = some true := by decide +kernel
def isa_int : PyData → Bool
  | .bool _ => true
  | .int _ => true
  | _ => false
theorem kis_int (d : PyData) : kitB (tyD d) "int" = some (isa_int d) := by
  cases d
  · exact kb_NoneType_int
  · exact kb_bool_int
  · exact kb_int_int
  · exact kb_str_int
  · exact kb_list_int
  · exact kb_tuple_int
  · exact kb_dict_int
theorem isD_int (d : PyData) : isD "int" d = isa_int d := by unfold isD; rw [kis_int]; rfl
theorem ksm_int (d : PyData) : (kitB (tyD d) "int").isSome = true := by rw [kis_int]; rfl
def isa_bool : PyData → Bool
  | .bool _ => true
  | _ => false
theorem kis_bool (d : PyData) : kitB (tyD d) "bool" = some (isa_bool d) := by
  cases d
  · exact kb_NoneType_bool
  · exact kb_bool_bool
  · exact kb_int_bool
  · exact kb_str_bool
  · exact kb_list_bool
  · exact kb_tuple_bool
  · exact kb_dict_bool
theorem isD_bool (d : PyData) : isD "bool" d = isa_bool d := by unfold isD; rw [kis_bool]; rfl
theorem ksm_bool (d : PyData) : (kitB (tyD d) "bool").isSome = true := by rw [kis_bool]; rfl
def isa_str : PyData → Bool
  | .str _ => true
  | _ => false
theorem kis_str (d : PyData) : kitB (tyD d) "str" = some (isa_str d) := by
  cases d
  · exact kb_NoneType_str
  · exact kb_bool_str
  · exact kb_int_str
  · exact kb_str_str
  · exact kb_list_str
  · exact kb_tuple_str
  · exact kb_dict_str
theorem isD_str (d : PyData) : isD "str" d = isa_str d := by unfold isD; rw [kis_str]; rfl
theorem ksm_str (d : PyData) : (kitB (tyD d) "str").isSome = true := by rw [kis_str]; rfl
def isa_list : PyData → Bool
  | .list _ => true
  | _ => false
theorem kis_list (d : PyData) : kitB (tyD d) "list" = some (isa_list d) := by
  cases d
  · exact kb_NoneType_list
  · exact kb_bool_list
  · exact kb_int_list
  · exact kb_str_list
  · exact kb_list_list
  · exact kb_tuple_list
  · exact kb_dict_list
theorem isD_list (d : PyData) : isD "list" d = isa_list d := by unfold isD; rw [kis_list]; rfl
theorem ksm_list (d : PyData) : (kitB (tyD d) "list").isSome = true := by rw [kis_list]; rfl
def isa_tuple : PyData → Bool
  | .tuple _ => true
  | _ => false
theorem kis_tuple (d : PyData) : kitB (tyD d) "tuple" = some (isa_tuple d) := by
  cases d
  · exact kb_NoneType_tuple
  · exact kb_bool_tuple
  · exact kb_int_tuple
  · exact kb_str_tuple
  · exact kb_list_tuple
  · exact kb_tuple_tuple
  · exact kb_dict_tuple
theorem isD_tuple (d : PyData) : isD "tuple" d = isa_tuple d := by unfold isD; rw [kis_tuple]; rfl
theorem ksm_tuple (d : PyData) : (kitB (tyD d) "tuple").isSome = true := by rw [kis_tuple]; rfl
def isa_dict : PyData → Bool
  | .dict _ => true
  | _ => false
theorem kis_dict (d : PyData) : kitB (tyD d) "dict" = some (isa_dict d) := by
  cases d
  · exact kb_NoneType_dict
  · exact kb_bool_dict
  · exact kb_int_dict
  · exact kb_str_dict
  · exact kb_list_dict
  · exact kb_tuple_dict
  · exact kb_dict_dict
theorem isD_dict (d : PyData) : isD "dict" d = isa_dict d := by unfold isD; rw [kis_dict]; rfl
theorem ksm_dict (d : PyData) : (kitB (tyD d) "dict").isSome = true := by rw [kis_dict]; rfl
end KD

namespace KD
open PySem L2
/-! ### more addresses that stand apart -/
def More (X X' : Addr → Prop) (H : Hp) : Prop := (∀ a, X a → X' a) ∧ ∀ a, X' a → X a ∨ H a = none
section
variable {X X' : Addr → Prop} {H H' : Hp} {σ : St} {Γ : List Sv}
theorem More.refl : More X X H := ⟨fun _ h => h, fun _ h => .inl h⟩
theorem More.one {p : Addr} (h : H p = none) : More X (fun a => X a ∨ a = p) H := ⟨fun _ h => .inl h, fun a k => k.elim .inl fun e => .inr (by rw [e]; exact h)⟩
theorem More.back (s : Same H H') (m : More X X' H') : More X X' H := ⟨m.1, fun a h => (m.2 a h).elim .inl fun e => .inr (s.free e)⟩
mutual
theorem DX.more (m : More X X' H) : ∀ {v : V} {d : PyData}, DX X H v d → DX X' H v d
  | _, _, .non => .non
  | _, _, .bl b => .bl b
  | _, _, .int i => .int i
  | _, _, .str x => .str x
  | _, _, .lst n h r => .lst (fun k => (m.2 _ k).elim n fun e => by rw [h] at e; cases e) h (DXs.more m r)
  | _, _, .tup n h r => .tup (fun k => (m.2 _ k).elim n fun e => by rw [h] at e; cases e) h (DXs.more m r)
  | _, _, .dic n h r => .dic (fun k => (m.2 _ k).elim n fun e => by rw [h] at e; cases e) h (DXk.more m r)
theorem DXs.more (m : More X X' H) : ∀ {vs : List V} {ds : List PyData}, DXs X H vs ds → DXs X' H vs ds
  | _, _, .nil => .nil
  | _, _, .cons h r => .cons (DX.more m h) (DXs.more m r)
theorem DXk.more (m : More X X' H) : ∀ {vs : List (Key × V)} {ds : List (PyData × PyData)}, DXk X H vs ds → DXk X' H vs ds
  | _, _, .nil => .nil
  | _, _, .cons h r => .cons (DX.more m h) (DXk.more m r)
end
mutual
theorem DX.less (m : ∀ a, X a → X' a) : ∀ {v : V} {d : PyData}, DX X' H v d → DX X H v d
  | _, _, .non => .non
  | _, _, .bl b => .bl b
  | _, _, .int i => .int i
  | _, _, .str x => .str x
  | _, _, .lst n h r => .lst (fun k => n (m _ k)) h (DXs.less m r)
  | _, _, .tup n h r => .tup (fun k => n (m _ k)) h (DXs.less m r)
  | _, _, .dic n h r => .dic (fun k => n (m _ k)) h (DXk.less m r)
theorem DXs.less (m : ∀ a, X a → X' a) : ∀ {vs : List V} {ds : List PyData}, DXs X' H vs ds → DXs X H vs ds
  | _, _, .nil => .nil
  | _, _, .cons h r => .cons (DX.less m h) (DXs.less m r)
theorem DXk.less (m : ∀ a, X a → X' a) : ∀ {vs : List (Key × V)} {ds : List (PyData × PyData)}, DXk X' H vs ds → DXk X H vs ds
  | _, _, .nil => .nil
  | _, _, .cons h r => .cons (DX.less m h) (DXk.less m r)
end
theorem EnvOk.more (m : More X X' H) (E : EnvOk X H σ Γ) : EnvOk X' H σ Γ := ⟨E.len, fun i s e => by
  have h := E.get i s e
  cases s with
  | dat d =>
    obtain ⟨v, e1, r⟩ := h
    exact ⟨v, e1, r.more m⟩
  | val v => exact h
  | un => trivial⟩
theorem Trk.one {p : Addr} {o : HO} (t : Trk X H) (h : H p = none) : Trk (fun a => X a ∨ a = p) (upd H p o) := fun a k => k.elim (fun x => (t.mono (Same.upd h)) a x) fun e => by
  subst e
  exact ⟨o, upd_same⟩
theorem Trk.put {p : Addr} {o : HO} (t : Trk X H) : Trk X (upd H p o) := fun a x => by
  by_cases e : a = p
  · subst e
    exact ⟨o, upd_same⟩
  · obtain ⟨u, k⟩ := t a x
    exact ⟨u, by rw [upd_ne e]; exact k⟩
theorem Kp.put {p : Addr} {o : HO} (h : X p) : Kp X H (upd H p o) := fun a u n e => by
  rw [upd_ne (fun z => n (by rw [z]; exact h))]
  exact e
/-- a new object that was changed behind -/
theorem Same.mut {p : Addr} {o : HO} (s : Same H H') (h : H p = none) : Same H (L2.upd H' p o) := fun a u e => by
  rw [upd_ne (ne_of_none e h)]
  exact s a u e
end

/-! ### what is walked, as data -/
def WalkD (X : Addr → Prop) (J : It) (H : Hp) (ds : List PyData) : Prop := ∃ (Gd : Hp → Prop) (Y : Nat → Hp → V → Hp → Prop), Walk J ds.length Gd Y ∧
  ∀ X', (∀ a, X' a → X a ∨ H a = none) → ∀ H3, Kp X' H H3 → Trk X' H3 → Gd H3 ∧ ∀ i x H4, Y i H3 x H4 → Same H3 H4 ∧ ∃ d, ds[i]? = some d ∧ DX X' H4 x d
def GI (X : Addr → Prop) (wi : TI) (σ : St) (H : Hp) (ds : List PyData) : Prop := ∀ H1, Same H H1 → ∀ R : It → Hp → Prop, (∀ J H2, Same H1 H2 → WalkD X J H2 ds → R J H2) → wi σ H1 R
section
variable {X : Addr → Prop} {H H' : Hp} {σ : St} {Γ : List Sv} {te : TE} {K : PySem.W.Frag} {ds es : List PyData}
theorem DX.grow {X' : Addr → Prop} (m : ∀ a, X' a → X a ∨ H a = none) {v : V} {d : PyData} (h : DX X H v d) : DX X' H v d :=
  (h.more (X' := fun a => X a ∨ X' a) ⟨fun _ => .inl, fun a k => k.elim .inl (m a)⟩).less fun _ => .inr
theorem DXs.grow {X' : Addr → Prop} (m : ∀ a, X' a → X a ∨ H a = none) {vs : List V} {ds : List PyData} (h : DXs X H vs ds) : DXs X' H vs ds :=
  (h.more (X' := fun a => X a ∨ X' a) ⟨fun _ => .inl, fun a k => k.elim .inl (m a)⟩).less fun _ => .inr
theorem gi_list (h : G X te σ H (.list ds)) : GI X (iList K te) σ H ds := fun H1 s R r => h H1 s _ fun v H2 s2 rv => by
  obtain ⟨a, xs, rfl, n, e, rx⟩ := rv.lst_inv
  refine ⟨a, rfl, ⟨xs, SqL.of e⟩, r _ H2 s2 ⟨_, _, by rw [← rx.length]; exact walk_list, fun X' m H3 k t => ?_⟩⟩
  have n' : ¬ X' a := fun z => (m a z).elim n fun q => by rw [e] at q; cases q
  refine ⟨SqL.of (k a _ n' e), fun i x H4 y => ?_⟩
  obtain ⟨rfl, hx⟩ := y
  obtain ⟨d, h1, h2⟩ := rx.getV hx
  exact ⟨Same.refl _, d, h1, (h2.grow m).mono k⟩
theorem gi_tup (h : G X te σ H (.tuple ds)) : GI X (iTup K te) σ H ds := fun H1 s R r => h H1 s _ fun v H2 s2 rv => by
  obtain ⟨a, xs, rfl, n, e, rx⟩ := rv.tup_inv
  refine ⟨a, rfl, ⟨xs, SqT.of e⟩, r _ H2 s2 ⟨_, _, by rw [← rx.length]; exact walk_tup, fun X' m H3 k t => ?_⟩⟩
  have n' : ¬ X' a := fun z => (m a z).elim n fun q => by rw [e] at q; cases q
  refine ⟨SqT.of (k a _ n' e), fun i x H4 y => ?_⟩
  obtain ⟨rfl, hx⟩ := y
  obtain ⟨d, h1, h2⟩ := rx.getV hx
  exact ⟨Same.refl _, d, h1, (h2.grow m).mono k⟩
def rangeD (lo : Int) (n : Nat) : List PyData := (List.range n).map fun (i : Nat) => PyData.int (lo + (i : Int))
theorem rangeD_len {lo : Int} {n : Nat} : (rangeD lo n).length = n := by simp [rangeD]
theorem rangeD_get {lo : Int} {n i : Nat} (h : i < n) : (rangeD lo n)[i]? = some (.int (lo + (i : Int))) := by
  unfold rangeD
  rw [List.getElem?_map, List.getElem?_range h]
  rfl
theorem walkD_range {lo : Int} {n : Nat} : WalkD X (Itr lo n) H (rangeD lo n) := by
  refine ⟨fun _ => True, fun i H x H' => (YFn fun i => V.int (lo + i)) i H x H' ∧ i < n, ?_, fun X' m H3 k t => ⟨trivial, fun i x H4 y => ?_⟩⟩
  · rw [rangeD_len]
    exact ⟨fun _ _ hi _ => hi, fun _ _ => Nat.le_refl _, fun _ _ _ _ hi _ y => ⟨y, hi⟩⟩
  · obtain ⟨⟨rfl, rfl⟩, hi⟩ := y
    exact ⟨Same.refl _, _, rangeD_get hi, .int _⟩
theorem gi_range1 {n : Int} (h : G X te σ H (.int n)) (hn : n ≤ 1000000) (hm : -1000000 ≤ n) : GI X (iRng1 (tCons te tNil)) σ H (rangeD 0 n.toNat) := fun H1 s R r => h H1 s _ fun v H2 s2 rv =>
  ⟨n, by rw [rv.int_inv], by omega, by omega, r _ H2 s2 walkD_range⟩
theorem gi_range2 {tb : TE} {a n : Int} (ha : G X te σ H (.int a)) (h : G X tb σ H (.int n)) (hb : -1000000 ≤ a ∧ a ≤ 1000000 ∧ -1000000 ≤ n ∧ n ≤ 1000000) : GI X (iRng2 (tCons te (tCons tb tNil))) σ H (rangeD a (n - a).toNat) := fun H1 s R r =>
  ha H1 s _ fun v H2 s2 rv => h H2 (s.trans s2) _ fun w H3 s3 rw_ => ⟨a, n, by rw [rv.int_inv, rw_.int_inv], by omega, r _ H3 (s2.trans s3) walkD_range⟩
def enumD (ds : List PyData) : List PyData := ds.zipIdx.map fun p => .tuple [.int (p.2 : Nat), p.1]
theorem enumD_len : (enumD ds).length = ds.length := by simp [enumD]
theorem enumD_get {i : Nat} {d : PyData} (h : ds[i]? = some d) : (enumD ds)[i]? = some (.tuple [.int (i : Nat), d]) := by
  unfold enumD
  rw [List.getElem?_map, List.getElem?_zipIdx, h]
  simp
theorem gi_enum (h : G X te σ H (.list ds)) : GI X (iEnum K (tCons te tNil)) σ H (enumD ds) := fun H1 s R r => h H1 s _ fun v H2 s2 rv => by
  obtain ⟨a, xs, rfl, n, e, rx⟩ := rv.lst_inv
  refine ⟨a, xs, rfl, SqL.of e, r _ H2 s2 ⟨_, _, by rw [enumD_len, ← rx.length]; exact walk_enum, fun X' m H3 k t => ?_⟩⟩
  have n' : ¬ X' a := fun z => (m a z).elim n fun q => by rw [e] at q; cases q
  refine ⟨SqL.of (k a _ n' e), fun i x H4 y => ?_⟩
  obtain ⟨T, u, w, rfl, hT, rfl, hu, hw⟩ := y
  cases hu
  obtain ⟨d, h1, h2⟩ := rx.getV hw
  exact ⟨Same.upd hT, _, enumD_get h1, DX.newT t (.cons (.int _) (.cons ((h2.grow m).mono k) .nil)) hT⟩
def zipD (ds es : List PyData) : List PyData := List.zipWith (fun d e => .tuple [d, e]) ds es
theorem gi_zip {tb : TE} (h : G X te σ H (.list ds)) (h' : G X tb σ H (.list es)) : GI X (iZip K (tCons te (tCons tb tNil))) σ H (zipD ds es) := fun H1 s R r => h H1 s _ fun v H2 s2 rv => h' H2 (s.trans s2) _ fun w H3 s3 rw_ => by
  obtain ⟨a, xs, rfl, n, e, rx⟩ := (rv.mono (Kp.of s3)).lst_inv
  obtain ⟨b, ys, rfl, n2, e2, ry⟩ := rw_.lst_inv
  refine ⟨a, b, xs, ys, rfl, SqL.of e, SqL.of e2, r _ H3 (s2.trans s3) ⟨_, _, walk_zip (xs := xs) (ys := ys) (by simp [zipD, rx.length, ry.length]), fun X' m H4 k t => ?_⟩⟩
  have n' : ¬ X' a := fun z => (m a z).elim n fun q => by rw [e] at q; cases q
  have n2' : ¬ X' b := fun z => (m b z).elim n2 fun q => by rw [e2] at q; cases q
  refine ⟨⟨SqL.of (k a _ n' e), SqL.of (k b _ n2' e2)⟩, fun i x H5 y => ?_⟩
  obtain ⟨T, u, w, rfl, hT, rfl, hu, hw⟩ := y
  obtain ⟨d, h1, h2⟩ := rx.getV hu
  obtain ⟨d', h3, h4⟩ := ry.getV hw
  refine ⟨Same.upd hT, .tuple [d, d'], ?_, DX.newT t (.cons ((h2.grow m).mono k) (.cons ((h4.grow m).mono k) .nil)) hT⟩
  unfold zipD
  rw [List.getElem?_zipWith, h1, h3]

/-! ### comprehensions -/
/-- a target takes a datum: what the frame knows behind it -/
def Tgt (X : Addr → Prop) (g : TG) (σ : St) (Γ2 : List Sv) (vs : List Nat) (d : PyData) (H : Hp) : Prop :=
  ∀ X' H3, More X X' H → Kp X' H H3 → Trk X' H3 → ∀ v, DX X' H3 v d → ∀ Ψ : St → Hp → Prop, (∀ σ2, EnvOk X' H3 σ2 Γ2 → wipe σ2 vs = wipe σ vs → Ψ σ2 H3) → g v (wipe σ vs) H3 Ψ
theorem wipe_one {i : Nat} {x : Option V} : wipe ((wipe σ [i]).set i x) [i] = wipe σ [i] := by
  show ((σ.set i none).set i x).set i none = σ.set i none
  rw [List.set_set, List.set_set]
theorem tgt_name {i : Nat} {d : PyData} (E : EnvOk X H σ Γ) : Tgt X (gName i) σ ((Γ.set i .un).set i (.dat d)) [i] d H := fun X' H3 m k t v hd Ψ q =>
  q _ (((E.more m).mono k).wipe [i] |>.set hd) wipe_one
theorem wipe_two {i j : Nat} {x y : Option V} (h : i ≠ j) : wipe (((wipe σ [i, j]).set i x).set j y) [i, j] = wipe σ [i, j] := by
  show ((((((σ.set j none).set i none).set i x).set j y).set j none).set i none) = (σ.set j none).set i none
  apply List.ext_getElem?
  intro n
  simp only [List.getElem?_set, List.length_set]
  split <;> split <;> simp_all
theorem g_pair {i j : Nat} {K : PySem.W.Frag} {v : V} {d e : PyData} (hd : DX X H v (.tuple [d, e])) {Ψ : St → Hp → Prop} (q : ∀ u w, DX X H u d → DX X H w e → Ψ ((σ.set i (some u)).set j (some w)) H) : gTup K 2 (gCons (gName i) (gCons (gName j) gNil)) v σ H Ψ := by
  obtain ⟨a, xs, rfl, n, ea, rx⟩ := hd.tup_inv
  cases rx with
  | cons h1 r1 =>
    cases r1 with
    | cons h2 r2 =>
      cases r2
      exact ⟨a, _, rfl, SqT.of ea, rfl, _, _, rfl, _, _, rfl, rfl, q _ _ h1 h2⟩
theorem g_triple {i j l : Nat} {K : PySem.W.Frag} {v : V} {d e f : PyData} (hd : DX X H v (.tuple [d, e, f])) {Ψ : St → Hp → Prop} (q : ∀ u w z, DX X H u d → DX X H w e → DX X H z f → Ψ (((σ.set i (some u)).set j (some w)).set l (some z)) H) :
    gTup K 3 (gCons (gName i) (gCons (gName j) (gCons (gName l) gNil))) v σ H Ψ := by
  obtain ⟨a, xs, rfl, n, ea, rx⟩ := hd.tup_inv
  cases rx with
  | cons h1 r1 =>
    cases r1 with
    | cons h2 r2 =>
      cases r2 with
      | cons h3 r3 =>
        cases r3
        exact ⟨a, _, rfl, SqT.of ea, rfl, _, _, rfl, _, _, rfl, _, _, rfl, rfl, q _ _ _ h1 h2 h3⟩
theorem tgt_pair {i j : Nat} {d e : PyData} (E : EnvOk X H σ Γ) (hij : i ≠ j) : Tgt X (gTup K 2 (gCons (gName i) (gCons (gName j) gNil))) σ ((((Γ.set j .un).set i .un).set i (.dat d)).set j (.dat e)) [i, j] (.tuple [d, e]) H := fun X' H3 m k t v hd Ψ q =>
  g_pair hd fun u w h1 h2 => q _ ((((E.more m).mono k).wipe [i, j] |>.set h1).set h2) (wipe_two hij)
theorem g_lc {wi : TI} {g : TG} {tt : TT} {te : TE} {vs : List Nat} {Γ2 : PyData → List Sv} (f : PyData → Bool) (h : PyData → PyData) (t : Trk X H) (hi : GI X wi σ H ds) (hl : ds.length ≤ 1000000)
    (hg : ∀ H1, Same H H1 → ∀ d ∈ ds, Tgt X g σ (Γ2 d) vs d H1)
    (ht : ∀ X' H1 σ2 d, d ∈ ds → Trk X' H1 → EnvOk X' H1 σ2 (Γ2 d) → GT tt σ2 H1 (f d))
    (he : ∀ X' H1 σ2 d, d ∈ ds → f d = true → Trk X' H1 → EnvOk X' H1 σ2 (Γ2 d) → G X' te σ2 H1 (h d)) : G X (tLc wi g tt te vs) σ H (.list ((ds.filter f).map h)) := fun H1 s Q q =>
  hi H1 s _ fun J H2 s2 w => by
    intro D hD
    obtain ⟨Gd, Y, w1, w2⟩ := w
    have s02 : Same H H2 := s.trans s2
    have t2 : Trk X H2 := t.mono s02
    let X' : Addr → Prop := fun a => X a ∨ a = D
    have m2 : More X X' H2 := More.one hD
    have key : ∀ H3, Same H2 H3 ∧ Trk X' H3 → Gd H3 := fun H3 p => (w2 X' m2.2 H3 (Kp.of p.1) p.2).1
    refine lc_it w1 (fun i H3 => Same H2 H3 ∧ Trk X' H3 ∧ ∃ acc, H3 D = some (.lst acc) ∧ DXs X' H3 acc (((ds.take i).filter f).map h)) ?_ ?_ ?_ ?_
    · exact ⟨Same.upd hD, t2.one hD, [], upd_same, .nil⟩
    · rintro i H3 _ ⟨p1, p2, _⟩
      exact key H3 ⟨p1, p2⟩
    · rintro i x H3 H4 hi' ⟨p1, p2, acc, p3, p4⟩ y
      obtain ⟨s4, d, hd, dx⟩ := (w2 X' m2.2 H3 (Kp.of p1) p2).2 i x H4 y
      have hmem : d ∈ ds := List.mem_of_getElem? hd
      have k4 : Kp X' H2 H4 := Kp.of (p1.trans s4)
      have t4 : Trk X' H4 := p2.mono s4
      refine hg H2 s02 d hmem X' H4 m2 k4 t4 x dx _ fun σ2 E2 hw => ⟨hw, ?_⟩
      have etake : ds.take (i + 1) = ds.take i ++ [d] := by rw [List.take_succ, hd]; rfl
      refine ht X' H4 σ2 d hmem t4 E2 H4 (Same.refl _) _ fun H5 s5 => ?_
      have lacc : acc.length ≤ 1000000 := by
        rw [p4.length, List.length_map]
        exact Nat.le_trans (List.length_filter_le _ _) (Nat.le_trans (List.length_take_le _ _) (by omega))
      cases hf : f d with
      | true =>
        refine iteT ?_
        refine he X' H4 σ2 d hmem hf t4 E2 H5 s5 _ fun y H6 s6 ry => ?_
        have s36 : Same H3 H6 := (s4.trans s5).trans s6
        refine ⟨acc, s36 D _ p3, by rw [sizeLine_eq]; omega, ?_, ?_, acc ++ [y], upd_same, ?_⟩
        · exact Same.mut (p1.trans s36) hD
        · exact (p2.mono s36).put
        · rw [etake, List.filter_append, List.map_append]
          have ef : List.filter f [d] = [d] := by simp [hf]
          rw [ef]
          exact ((p4.mono (Kp.of s36)).snoc ry).mono (Kp.put (.inr rfl))
      | false =>
        refine iteF ?_
        have s35 : Same H3 H5 := s4.trans s5
        refine ⟨p1.trans s35, p2.mono s35, acc, s35 D _ p3, ?_⟩
        rw [etake, List.filter_append, List.map_append]
        have ef : List.filter f [d] = [] := by simp [hf]
        rw [ef, List.map_nil, List.append_nil]
        exact p4.mono (Kp.of s35)
    · rintro H3 ⟨p1, p2, acc, p3, p4⟩
      rw [List.take_length] at p4
      have nXD : ¬ X D := t2.new hD
      -- D itself is a datum again
      exact q (.ref D) H3 (s2.trans p1) (.lst nXD p3 (p4.less fun a => .inl))
/-- without a test -/
theorem g_lc1 {wi : TI} {g : TG} {te : TE} {vs : List Nat} {Γ2 : PyData → List Sv} (h : PyData → PyData) (t : Trk X H) (hi : GI X wi σ H ds) (hl : ds.length ≤ 1000000)
    (hg : ∀ H1, Same H H1 → ∀ d ∈ ds, Tgt X g σ (Γ2 d) vs d H1)
    (he : ∀ X' H1 σ2 d, d ∈ ds → Trk X' H1 → EnvOk X' H1 σ2 (Γ2 d) → G X' te σ2 H1 (h d)) : G X (tLc wi g tYes te vs) σ H (.list (ds.map h)) := by
  have e : ds.map h = (ds.filter fun _ => true).map h := by rw [List.filter_eq_self.mpr (fun _ _ => rfl)]
  rw [e]
  exact g_lc (fun _ => true) h t hi hl hg (fun X' H2 σ2 z _ _ _ H3 s3 Q3 q3 => q3 H3 (Same.refl _)) fun X' H1 σ2 d m _ t2 E2 => he X' H1 σ2 d m t2 E2
end
end KD

namespace KD
open PySem PySem.Spec PyProof.Rows L2
/-! ### defs of the text that are called by their names -/
structure Own (P : Program) (w : World) (K : PySem.W.Frag) (mg : Str → Option Value) (base : Heap) (CX : CXT) (k : Nat) (x : Str) (ps : List Str) (sp : Sp) : Prop where
  ex : ∃ (f : Addr) (fd : FuncData), mg x = some (.ref f) ∧ PySem.W.keepIn K (.ref f) = true ∧ Binds K fd ps [] ∧ FnOk P w K mg base CX k f fd ps sp
section
variable {X : Cx} {k j : Nat} {x : Str} {ps : List Str} {sp : Sp} {e : Expr} {es : List Expr} {p pos : Pos} {ta : TA}
theorem pe_own (O : Own X.prog X.w X.K X.mg X.base CX0 k x ps sp) (hr : Room j X.A) (hk : k ≤ j) (hg : Gl X x) (ha : PA X (e :: es) ta) (hdb : (x == ("__debug__" : Str)) = false := by decide)
    (he : starEach (e :: es) X.env = (false, eval e X.env) :: starEach es X.env := by rfl) (hpl : (backTo pos (starEach es X.env)).any (·.1) = false := by rfl) : PE X (.Call (.Name x p) (e :: es) [] pos) (tCall sp [] E0 ta) := by
  obtain ⟨f, fd, h1, h2, h3, h4⟩ := O.ex
  exact pe_call h4 (hr.mono hk) hg h1 h2 h3 .nil pass0 ha hdb he hpl
end
/-! ### promises over data -/
def sp1 (pre : PyData → Prop) (f : PyData → PyData) : Sp := fun vs H Q _ => ∃ (X : Addr → Prop) (v : V) (d : PyData), vs = [v] ∧ Trk X H ∧ DX X H v d ∧ pre d ∧ ∀ w H', Same H H' → DX X H' w (f d) → Q w H'
def sp2 (pre : PyData → PyData → Prop) (f : PyData → PyData → PyData) : Sp := fun vs H Q _ => ∃ (X : Addr → Prop) (v1 v2 : V) (d1 d2 : PyData), vs = [v1, v2] ∧ Trk X H ∧ DX X H v1 d1 ∧ DX X H v2 d2 ∧ pre d1 d2 ∧ ∀ w H', Same H H' → DX X H' w (f d1 d2) → Q w H'
def sp3 (pre : PyData → PyData → PyData → Prop) (f : PyData → PyData → PyData → PyData) : Sp := fun vs H Q _ => ∃ (X : Addr → Prop) (v1 v2 v3 : V) (d1 d2 d3 : PyData), vs = [v1, v2, v3] ∧ Trk X H ∧ DX X H v1 d1 ∧ DX X H v2 d2 ∧ DX X H v3 d3 ∧ pre d1 d2 d3 ∧ ∀ w H', Same H H' → DX X H' w (f d1 d2 d3) → Q w H'
section
variable {X : Addr → Prop} {σ : L2.St} {H : Hp} {ta tb tc : TE} {d d1 d2 d3 : PyData} {E : XK}
theorem g_call1 {pre : PyData → Prop} {f : PyData → PyData} (t : Trk X H) (h : G X ta σ H d) (hp : pre d) : G X (tCall (sp1 pre f) [] E (tCons ta tNil)) σ H (f d) :=
  g_call (ga_cons h ga_nil) fun vs H1 s rs Q q => by
    cases rs with
    | cons r1 r2 =>
      cases r2
      exact ⟨X, _, d, rfl, t.mono s, r1, hp, q⟩
theorem g_call2 {pre : PyData → PyData → Prop} {f : PyData → PyData → PyData} (t : Trk X H) (h1 : G X ta σ H d1) (h2 : G X tb σ H d2) (hp : pre d1 d2) : G X (tCall (sp2 pre f) [] E (tCons ta (tCons tb tNil))) σ H (f d1 d2) :=
  g_call (ga_cons h1 (ga_cons h2 ga_nil)) fun vs H1 s rs Q q => by
    cases rs with
    | cons r1 r2 =>
      cases r2 with
      | cons r2 r3 =>
        cases r3
        exact ⟨X, _, _, d1, d2, rfl, t.mono s, r1, r2, hp, q⟩
theorem g_call3 {pre : PyData → PyData → PyData → Prop} {f : PyData → PyData → PyData → PyData} (t : Trk X H) (h1 : G X ta σ H d1) (h2 : G X tb σ H d2) (h3 : G X tc σ H d3) (hp : pre d1 d2 d3) : G X (tCall (sp3 pre f) [] E (tCons ta (tCons tb (tCons tc tNil)))) σ H (f d1 d2 d3) :=
  g_call (ga_cons h1 (ga_cons h2 (ga_cons h3 ga_nil))) fun vs H1 s rs Q q => by
    cases rs with
    | cons r1 r2 =>
      cases r2 with
      | cons r2 r3 =>
        cases r3 with
        | cons r3 r4 =>
          cases r4
          exact ⟨X, _, _, _, d1, d2, d3, rfl, t.mono s, r1, r2, r3, hp, q⟩
end
/-! ### a def's body -/
section
variable {P : Program} {w : World} {K : PySem.W.Frag} {mg : Str → Option Value} {base : Heap} {x qual : Str} {st : Stmt} {f : Addr} {fd : FuncData} {N : List Str} {k : Nat} {a b c : Str}
def pad (N : List Str) (ss : List Sv) : List Sv := ss ++ List.replicate (N.length - ss.length) .un
theorem env1 {X : Addr → Prop} {H : Hp} {v : V} {d : PyData} (h : DX X H v d) (hN : 1 ≤ N.length) : EnvOk X H (L2.start N [v]) (pad N [.dat d]) :=
  envOk_start rfl (fun i s e u e2 => by
    match i, e, e2 with
    | 0, e, e2 => cases e; cases e2; exact ⟨_, rfl, h⟩) hN
theorem env2 {X : Addr → Prop} {H : Hp} {v1 v2 : V} {d1 d2 : PyData} (h1 : DX X H v1 d1) (h2 : DX X H v2 d2) (hN : 2 ≤ N.length) : EnvOk X H (L2.start N [v1, v2]) (pad N [.dat d1, .dat d2]) :=
  envOk_start rfl (fun i s e u e2 => by
    match i, e, e2 with
    | 0, e, e2 => cases e; cases e2; exact ⟨_, rfl, h1⟩
    | 1, e, e2 => cases e; cases e2; exact ⟨_, rfl, h2⟩) hN
theorem env3 {X : Addr → Prop} {H : Hp} {v1 v2 v3 : V} {d1 d2 d3 : PyData} (h1 : DX X H v1 d1) (h2 : DX X H v2 d2) (h3 : DX X H v3 d3) (hN : 3 ≤ N.length) : EnvOk X H (L2.start N [v1, v2, v3]) (pad N [.dat d1, .dat d2, .dat d3]) :=
  envOk_start rfl (fun i s e u e2 => by
    match i, e, e2 with
    | 0, e, e2 => cases e; cases e2; exact ⟨_, rfl, h1⟩
    | 1, e, e2 => cases e; cases e2; exact ⟨_, rfl, h2⟩
    | 2, e, e2 => cases e; cases e2; exact ⟨_, rfl, h3⟩) hN
theorem ok1 {pre : PyData → Prop} {g : PyData → PyData} (F : Fun K x qual st f fd) (S : FnScope N [a] (defScope st)) (hN : 1 ≤ N.length)
    (hbody : ∀ (cdv : Value) (A : Around) (outer : List Env) (s : Shared) (H : Hp) (E : XK) (X : Addr → Prop) (d : PyData) (Q : VK), Room k (A.deeper (envOfC qual (defScope st) s.heap.objs.size f cdv)) → Trk X H → pre d → (∀ w H', Same H H' → DX X H' w (g d) → Q w H') →
      ∃ t, PSs (cxOf CX0 P w K mg base N qual (defScope st) f cdv A outer s H E).nox (defBody st) t ∧ ∀ σ, EnvOk X H σ (pad N [.dat d]) → t { nx := fun _ H' => Q .non H', rt := Q } σ H) : FnOk P w K mg base CX0 (k + 1) f fd [a] (sp1 pre g) := by
  refine F.ok S (fun vs H Q E h => ?_) (fun cdv A outer s H vs Q E hr h => ?_)
  · obtain ⟨X, v, d, rfl, _⟩ := h
    rfl
  · obtain ⟨X, v, d, rfl, t, hd, hp, q⟩ := h
    obtain ⟨tt, h1, h2⟩ := hbody cdv A outer s H E X d Q hr t hp q
    exact ⟨tt, h1, h2 _ (env1 hd hN)⟩
theorem ok2 {pre : PyData → PyData → Prop} {g : PyData → PyData → PyData} (F : Fun K x qual st f fd) (S : FnScope N [a, b] (defScope st)) (hN : 2 ≤ N.length)
    (hbody : ∀ (cdv : Value) (A : Around) (outer : List Env) (s : Shared) (H : Hp) (E : XK) (X : Addr → Prop) (d1 d2 : PyData) (Q : VK), Room k (A.deeper (envOfC qual (defScope st) s.heap.objs.size f cdv)) → Trk X H → pre d1 d2 → (∀ w H', Same H H' → DX X H' w (g d1 d2) → Q w H') →
      ∃ t, PSs (cxOf CX0 P w K mg base N qual (defScope st) f cdv A outer s H E).nox (defBody st) t ∧ ∀ σ, EnvOk X H σ (pad N [.dat d1, .dat d2]) → t { nx := fun _ H' => Q .non H', rt := Q } σ H) : FnOk P w K mg base CX0 (k + 1) f fd [a, b] (sp2 pre g) := by
  refine F.ok S (fun vs H Q E h => ?_) (fun cdv A outer s H vs Q E hr h => ?_)
  · obtain ⟨X, v1, v2, d1, d2, rfl, _⟩ := h
    rfl
  · obtain ⟨X, v1, v2, d1, d2, rfl, t, r1, r2, hp, q⟩ := h
    obtain ⟨tt, h1, h2⟩ := hbody cdv A outer s H E X d1 d2 Q hr t hp q
    exact ⟨tt, h1, h2 _ (env2 r1 r2 hN)⟩
end
/-! ### statements -/
section
variable {X : Addr → Prop} {σ : L2.St} {H : Hp} {te : TE} {tt : TT} {tu tw tz : TS} {d : PyData} {D : Ends} {Γ : List Sv} {Q : VK}
theorem s_ret (h : G X te σ H d) (q : ∀ w H', Same H H' → DX X H' w d → D.rt w H') : tRet te D σ H := h H (Same.refl H) _ q
theorem s_if {b : Bool} (h : GT tt σ H b) (h1 : b = true → ∀ H1, Same H H1 → tu D σ H1) (h2 : b = false → ∀ H1, Same H H1 → tw D σ H1) : tIfS tt tu tw D σ H := h H (Same.refl H) _ fun H1 s => by
  cases b with
  | true => exact iteT (h1 rfl H1 s)
  | false => exact iteF (h2 rfl H1 s)
theorem q_if {b : Bool} (h : GT tt σ H b) (h1 : b = true → ∀ H1, Same H H1 → tu { D with nx := tz D } σ H1) (h2 : b = false → ∀ H1, Same H H1 → tz D σ H1) : tSeq (tIfS tt tu tNext) tz D σ H := s_if (D := { D with nx := tz D }) h h1 h2
theorem q_asg {g : TG} (h : G X te σ H d) (k : ∀ H1 v, Same H H1 → DX X H1 v d → g v σ H1 (fun σ2 H2 => tz D σ2 H2)) : tSeq (tAsg te g) tz D σ H := h H (Same.refl H) _ fun v H1 s r => k H1 v s r
theorem q_set {i : Nat} (En : EnvOk X H σ Γ) (h : G X te σ H d) (k : ∀ H1 v, Same H H1 → EnvOk X H1 (σ.set i (some v)) (Γ.set i (.dat d)) → tz D (σ.set i (some v)) H1) : tSeq (tAsg te (gName i)) tz D σ H := h H (Same.refl H) _ fun v H1 s r => k H1 v s ((En.same s).set r)
end
/-- a for over data: I by the base heap, the turn, the slots, the heap -/
theorem s_forD {X : Addr → Prop} {σ : L2.St} {H : Hp} {wi : TI} {g : TG} {tb : TS} {D : Ends} {ds : List PyData} (hi : GI X wi σ H ds) (I : Hp → Nat → L2.St → Hp → Prop) (h0 : ∀ Hb, Same H Hb → I Hb 0 σ Hb)
    (hk : ∀ Hb i σ' H', I Hb i σ' H' → Kp X Hb H' ∧ Trk X H')
    (hs : ∀ Hb i x d σ' H' H'', Same H Hb → ds[i]? = some d → I Hb i σ' H' → Same H' H'' → DX X H'' x d → g x σ' H'' fun σ2 H2 => tb { D with nx := I Hb (i + 1), ct := I Hb (i + 1), bk := D.nx } σ2 H2)
    (hd : ∀ Hb σ' H', Same H Hb → I Hb ds.length σ' H' → D.nx σ' H') : tFor wi g tb D σ H := hi H (Same.refl H) _ fun J H2 s w => by
  obtain ⟨Gd, Y, w1, w2⟩ := w
  have key : ∀ i σ' H', I H2 i σ' H' → _ := fun i σ' H' p => w2 X (fun _ => .inl) H' (hk H2 i σ' H' p).1 (hk H2 i σ' H' p).2
  refine for_it w1 (I H2) (h0 H2 s) (fun i σ' H' _ p => (key i σ' H' p).1) (fun i x σ' H' H'' _ p y => ?_) (fun σ' H' p => hd H2 σ' H' s p)
  obtain ⟨s4, d, hd1, dx⟩ := (key i σ' H' p).2 i x H'' y
  exact hs H2 i x d σ' H' H'' s hd1 p s4 dx
/-! ### the language's own names; tests of kinds -/
structure Bl (mg : Str → Option Value) : Prop where
  b_isinstance : mg "isinstance" = none
  b_len : mg "len" = none
  b_list : mg "list" = none
  b_tuple : mg "tuple" = none
  b_dict : mg "dict" = none
  b_int : mg "int" = none
  b_bool : mg "bool" = none
  b_str : mg "str" = none
  b_min : mg "min" = none
  b_all : mg "all" = none
  b_range : mg "range" = none
  b_enumerate : mg "enumerate" = none
  b_zip : mg "zip" = none
  b_repr : mg "repr" = none
section
variable {X : Cx}
abbrev rAddA : R2 := fun x y H Q => (rI0 fun i j => V.int (i + j)) x y H Q ∨ (fun x y H Q => rCat x y H Q ∨ (fun x y H Q => ∃ i j, x = V.str i ∧ y = V.str j ∧ i.length + j.length ≤ sizeLine ∧ Q (V.str (i ++ j)) H) x y H Q) x y H Q
abbrev rMulA : R2 := fun x y H Q => (rI CMul fun i j => V.int (i * j)) x y H Q ∨ rRep x y H Q
theorem op_addA : OpR X (binaryOp .Add) rAddA := op_add.or (op_cat.or op_add_str)
theorem op_mulA : OpR X (binaryOp .Mult) rMulA := op_mul.or op_rep
end
section
variable {X : Addr → Prop} {te ta tb : TE} {σ : L2.St} {H : Hp} {d : PyData} {K : PySem.W.Frag}
theorem isDs_seq (d : PyData) : isDs ["list", "tuple"] d = isSeq d := by
  unfold isDs
  rw [List.any_cons, List.any_cons, List.any_nil, isD_list, isD_tuple]
  cases d <;> rfl
theorem g_isSeq (h : G X te σ H d) : G X (tCB (rIsiT K) (tCons te (tCons (tTup (tCons (tC (.ty "list")) (tCons (tC (.ty "tuple")) tNil))) tNil))) σ H (.bool (isSeq d)) := by
  rw [← isDs_seq]
  exact g_isiT (ns := ["list", "tuple"]) h rfl (by decide) fun n hn => by
    simp at hn
    rcases hn with rfl | rfl
    · exact ksm_list d
    · exact ksm_tuple d
theorem g_isInt (h : G X te σ H d) : G X (tCB (rIsi K) (tCons te (tCons (tC (.ty "int")) tNil))) σ H (.bool (isa_int d)) := by
  rw [← isD_int]; exact g_isi h (ksm_int d)
theorem g_isBool (h : G X te σ H d) : G X (tCB (rIsi K) (tCons te (tCons (tC (.ty "bool")) tNil))) σ H (.bool (isa_bool d)) := by
  rw [← isD_bool]; exact g_isi h (ksm_bool d)
theorem g_isStr (h : G X te σ H d) : G X (tCB (rIsi K) (tCons te (tCons (tC (.ty "str")) tNil))) σ H (.bool (isa_str d)) := by
  rw [← isD_str]; exact g_isi h (ksm_str d)
theorem g_isList (h : G X te σ H d) : G X (tCB (rIsi K) (tCons te (tCons (tC (.ty "list")) tNil))) σ H (.bool (isa_list d)) := by
  rw [← isD_list]; exact g_isi h (ksm_list d)
theorem g_isTuple (h : G X te σ H d) : G X (tCB (rIsi K) (tCons te (tCons (tC (.ty "tuple")) tNil))) σ H (.bool (isa_tuple d)) := by
  rw [← isD_tuple]; exact g_isi h (ksm_tuple d)
theorem g_isDict (h : G X te σ H d) : G X (tCB (rIsi K) (tCons te (tCons (tC (.ty "dict")) tNil))) σ H (.bool (isa_dict d)) := by
  rw [← isD_dict]; exact g_isi h (ksm_dict d)
theorem g_len (t : Trk X H) (h : G X te σ H d) (hl : hasLen d = true) : G X (tCB (fun xs H Q => ∃ x n, xs = [x] ∧ LenV K x H n ∧ Q (V.int n) H) (tCons te tNil)) σ H (.int (lenD d : Int)) := g_cb t (ga_cons h ga_nil) (rf_len hl)
theorem g_listOf (t : Trk X H) (h : G X te σ H d) (hl : isSeq d = true) : G X (tCB (fun xs H Q => ∃ p ys, xs = [V.ref p] ∧ (SqL K H p ys ∨ SqT K H p ys) ∧ ∀ l, H l = none → Q (V.ref l) (upd H l (.lst ys))) (tCons te tNil)) σ H (.list (itemsD d)) := g_cb t (ga_cons h ga_nil) (rf_list hl)
theorem g_addI (t : Trk X H) {i j : Int} (ha : G X ta σ H (.int i)) (hb : G X tb σ H (.int j)) : G X (tOp rAddA ta tb) σ H (.int (i + j)) := g_op t ha hb (RD.or1 (rd_I0 (g := fun i j => i + j)))
theorem g_cat (t : Trk X H) {xs ys : List PyData} (ha : G X ta σ H (.list xs)) (hb : G X tb σ H (.list ys)) (hl : xs.length + ys.length ≤ 1000000) : G X (tOp rAddA ta tb) σ H (.list (xs ++ ys)) := g_op t ha hb (RD.or2 (RD.or1 (rd_cat hl)))
theorem g_sub (t : Trk X H) {i j : Int} (ha : G X ta σ H (.int i)) (hb : G X tb σ H (.int j)) : G X (tOp (rI0 fun i j => V.int (i - j)) ta tb) σ H (.int (i - j)) := g_op t ha hb (rd_I0 (g := fun i j => i - j))
theorem g_cmpI (t : Trk X H) {g : Int → Int → Bool} {i j : Int} (ha : G X ta σ H (.int i)) (hb : G X tb σ H (.int j)) : G X (tOp (rI0 fun i j => V.bl (g i j)) ta tb) σ H (.bool (g i j)) := g_op t ha hb rb_I0.rd
theorem gt_cmpI (t : Trk X H) {g : Int → Int → Bool} {i j : Int} (ha : G X ta σ H (.int i)) (hb : G X tb σ H (.int j)) : GT (tTest (tOp (rI0 fun i j => V.bl (g i j)) ta tb)) σ H (g i j) := gt_op t ha hb rb_I0
theorem g_ixL (t : Trk X H) {ds : List PyData} {i : Int} {z : PyData} (ha : G X ta σ H (.list ds)) (hb : G X tb σ H (.int i)) (h : atI ds i = some z) : G X (tOp (rIx K) ta tb) σ H z := g_op t ha hb (rd_ixL h)
theorem g_ixT (t : Trk X H) {ds : List PyData} {i : Int} {z : PyData} (ha : G X ta σ H (.tuple ds)) (hb : G X tb σ H (.int i)) (h : atI ds i = some z) : G X (tOp (rIx K) ta tb) σ H z := g_op t ha hb (rd_ixT h)
/-- an item of a list or tuple -/
theorem g_ix (t : Trk X H) {i : Int} {z : PyData} (ha : G X ta σ H d) (hs : isSeq d = true) (hb : G X tb σ H (.int i)) (h : atI (itemsD d) i = some z) : G X (tOp (rIx K) ta tb) σ H z := by
  cases d with
  | list ds => exact g_ixL t ha hb h
  | tuple ds => exact g_ixT t ha hb h
  | _ => cases hs
theorem g_eqD (t : Trk X H) {x y : PyData} (ha : G X ta σ H x) (hb : G X tb σ H y) (hd : noDict x = true) (he : noDict y = true) (hs : SeqAt.shaped x = true) (ht : SeqAt.shaped y = true) : G X (tOp (rEqD K) ta tb) σ H (.bool (PyData.eqv x y)) := g_op t ha hb (rb_eqD hd he hs ht).rd
theorem gt_eqD (t : Trk X H) {x y : PyData} (ha : G X ta σ H x) (hb : G X tb σ H y) (hd : noDict x = true) (he : noDict y = true) (hs : SeqAt.shaped x = true) (ht : SeqAt.shaped y = true) : GT (tTest (tOp (rEqD K) ta tb)) σ H (PyData.eqv x y) := gt_op t ha hb (rb_eqD hd he hs ht)
theorem gt_neD (t : Trk X H) {x y : PyData} (ha : G X ta σ H x) (hb : G X tb σ H y) (hd : noDict x = true) (he : noDict y = true) (hs : SeqAt.shaped x = true) (ht : SeqAt.shaped y = true) : GT (tTest (tOp (rNeD K) ta tb)) σ H (!PyData.eqv x y) := gt_op t ha hb (rb_neD hd he hs ht)
end
/-! ### a list or a tuple walked -/
def iSeq (K : PySem.W.Frag) (tl : TE) : TI := fun σ H R => tl σ H fun x H1 => ∃ c, x = V.ref c ∧ (((∃ zs, SqL K H1 c zs) ∧ R (Itl K c) H1) ∨ ((∃ zs, SqT K H1 c zs) ∧ R (Itt K c) H1))
theorem pi_seq {Y : Cx} {tg l : Expr} {tl : TE} (hl : PE Y l tl) : PI Y tg l (iSeq Y.K tl) := by
  constructor
  intro pn st sl hh RR inv rd
  refine thn (hl.run pn st sl hh _ inv rd) ?_
  rintro val st1 ⟨x, hh1, inv1, rel, c, rfl, alt⟩
  cases rel
  have fresh := inv1.hok.fresh (Nat.le_refl st1.heap.objs.size)
  have fpk : ∀ b ∈ [st1.heap.objs.size], _ := fun b hb => by
    have eb := List.mem_singleton.mp hb
    exact eb ▸ inv1.fpOk (Nat.le_refl _) fresh
  rcases alt with ⟨⟨zs, sq⟩, rest⟩ | ⟨⟨zs, sq⟩, rest⟩
  · obtain ⟨us, _, pl, _⟩ := inv1.list sq
    exact wpAny_pyIter_list pl.isList
      ⟨_, _, _, _, _, rfl, inv1.kept (t' := st1.toks) (fun _ _ z => Heap.get?_push_of_some _ z), turn_list c _,
        ⟨_, Heap.get?_push_size _ rfl, rfl, rfl⟩, fpk, rest⟩
  · obtain ⟨us, _, pl, _⟩ := inv1.tuple sq
    exact wpAny_pyIter_tuple (items := us.toArray) pl
      ⟨_, _, _, _, _, rfl, inv1.kept (t' := st1.toks) (fun _ _ z => Heap.get?_push_of_some _ z), turn_tuple c _,
        ⟨_, Heap.get?_push_size _ rfl, rfl, rfl⟩, fpk, rest⟩
theorem gi_seq {X : Addr → Prop} {σ : L2.St} {H : Hp} {te : TE} {K : PySem.W.Frag} {d : PyData} (h : G X te σ H d) (hs : isSeq d = true) : GI X (iSeq K te) σ H (itemsD d) := by
  cases d with
  | list ds =>
      intro H1 s R r
      refine h H1 s _ fun v H2 s2 rv => ?_
      obtain ⟨a, xs, rfl, n, e, rx⟩ := rv.lst_inv
      obtain ⟨a', e', _, rr⟩ := gi_list (K := K) (te := fun _ H Q => Q (.ref a) H) (σ := σ) (H := H2) (X := X) (ds := ds) (fun H5 s5 Q5 q5 => q5 _ H5 (Same.refl _) (rv.mono (Kp.of s5))) H2 (Same.refl _) R (fun J H3 s3 => r J H3 (s2.trans s3))
      cases e'
      exact ⟨a, rfl, .inl ⟨⟨xs, SqL.of e⟩, rr⟩⟩
  | tuple ds =>
      intro H1 s R r
      refine h H1 s _ fun v H2 s2 rv => ?_
      obtain ⟨a, xs, rfl, n, e, rx⟩ := rv.tup_inv
      obtain ⟨a', e', _, rr⟩ := gi_tup (K := K) (te := fun _ H Q => Q (.ref a) H) (σ := σ) (H := H2) (X := X) (ds := ds) (fun H5 s5 Q5 q5 => q5 _ H5 (Same.refl _) (rv.mono (Kp.of s5))) H2 (Same.refl _) R (fun J H3 s3 => r J H3 (s2.trans s3))
      cases e'
      exact ⟨a, rfl, .inr ⟨⟨xs, SqT.of e⟩, rr⟩⟩
  | _ => cases hs
/-! ### data that may be compared: words, ints, lists of words -/
theorem shaped_int (i : Int) : SeqAt.shaped (.int i) = true := by simp [SeqAt.shaped, PyData.canLay0, PyData.depth]
theorem shaped_str {s : Str} (h : PyData.strOk s = true) : SeqAt.shaped (.str s) = true := by simp [SeqAt.shaped, PyData.canLay0, PyData.depth, h]
theorem canLay_strs : ∀ {ws : List Str}, (∀ w ∈ ws, PyData.strOk w = true) → PyData.canLayAll0 (ws.map PyData.str) = true
  | [], _ => by simp [PyData.canLayAll0]
  | w :: ws, h => by
    have h1 := h w List.mem_cons_self
    have h2 := canLay_strs (ws := ws) fun v hv => h v (List.mem_cons_of_mem _ hv)
    simp [PyData.canLayAll0, PyData.canLay0, h1, h2]
theorem depth_strs : ∀ ws : List Str, PyData.depthAll (ws.map PyData.str) ≤ 1
  | [] => by simp [PyData.depthAll]
  | w :: ws => by
    have := depth_strs ws
    simp only [List.map_cons, PyData.depthAll, PyData.depth]
    omega
theorem shaped_strs {ws : List Str} (h : ∀ w ∈ ws, PyData.strOk w = true) : SeqAt.shaped (.list (ws.map PyData.str)) = true := by
  have := depth_strs ws
  have h2 : PyData.depth (.list (ws.map PyData.str)) ≤ 64 := by
    simp only [PyData.depth]
    omega
  show ((PyData.list (ws.map PyData.str)).canLay0 && decide ((PyData.list (ws.map PyData.str)).depth ≤ 64)) = true
  rw [Bool.and_eq_true]
  exact ⟨by simp only [PyData.canLay0]; exact canLay_strs h, decide_eq_true h2⟩
theorem noDict_strs : ∀ ws : List Str, noDicts (ws.map PyData.str) = true
  | [] => by simp [noDicts]
  | w :: ws => by simp [noDicts, noDict, noDict_strs ws]
theorem eqv_strs : ∀ ws zs : List Str, PyData.eqvAll (ws.map PyData.str) (zs.map PyData.str) = decide (ws = zs)
  | [], [] => by simp [PyData.eqvAll]
  | [], z :: zs => by simp [PyData.eqvAll]
  | w :: ws, [] => by simp [PyData.eqvAll]
  | w :: ws, z :: zs => by
    simp only [List.map_cons, PyData.eqvAll, PyData.eqv, eqv_strs ws zs]
    by_cases h : w = z
    · subst h
      simp
    · have : (w == z) = false := by simpa using h
      rw [this]
      simp [h]
/-! ### what is new -/
def Nw (H : Hp) (v : V) : Prop := ∀ a, v = .ref a → H a = none
theorem Nw.back {H H1 : Hp} {v : V} (s : Same H H1) (n : Nw H1 v) : Nw H v := fun a e => s.free (n a e)
theorem Nw.of {H : Hp} {p : Addr} (h : H p = none) : Nw H (.ref p) := fun a e => by cases e; exact h
def GN (X : Addr → Prop) (te : TE) (σ : L2.St) (H : Hp) (d : PyData) : Prop := ∀ H1, Same H H1 → ∀ Q : VK, (∀ v H2, Same H1 H2 → DX X H2 v d → Nw H1 v → Q v H2) → te σ H1 Q
def sp2N (pre : PyData → PyData → Prop) (f : PyData → PyData → PyData) : Sp := fun vs H Q _ => ∃ (X : Addr → Prop) (v1 v2 : V) (d1 d2 : PyData), vs = [v1, v2] ∧ Trk X H ∧ DX X H v1 d1 ∧ DX X H v2 d2 ∧ pre d1 d2 ∧ ∀ w H', Same H H' → DX X H' w (f d1 d2) → Nw H w → Q w H'
section
variable {X : Addr → Prop} {σ : L2.St} {H : Hp} {te ta tb tc : TE} {d d1 d2 d3 : PyData} {E : XK} {K : PySem.W.Frag} {D : Ends}
theorem GN.g (h : GN X te σ H d) : G X te σ H d := fun H1 s Q q => h H1 s Q fun v H2 s2 dv _ => q v H2 s2 dv
theorem GN.is {e : PyData} (h : GN X te σ H d) (e' : d = e) : GN X te σ H e := e' ▸ h
theorem gn_lst {ta : TA} {ds : List PyData} (t : Trk X H) (h : GA X ta σ H ds) (hl : ds.length ≤ 1000000) : GN X (tLst ta) σ H (.list ds) := fun H1 s Q q =>
  h H1 s _ fun vs H2 s2 rs => ⟨by rw [rs.length, sizeLine_eq]; omega, fun p hp => q _ _ (s2.trans (Same.upd hp)) (DX.newL ((t.mono s).mono s2) rs hp) (Nw.back s2 (Nw.of hp))⟩
theorem gn_tup {ta : TA} {ds : List PyData} (t : Trk X H) (h : GA X ta σ H ds) (hl : ds.length ≤ 1000000) : GN X (tTup ta) σ H (.tuple ds) := fun H1 s Q q =>
  h H1 s _ fun vs H2 s2 rs => ⟨by rw [rs.length, sizeLine_eq]; omega, fun p hp => q _ _ (s2.trans (Same.upd hp)) (DX.newT ((t.mono s).mono s2) rs hp) (Nw.back s2 (Nw.of hp))⟩
theorem gn_listOf (t : Trk X H) (h : G X te σ H d) (hl : isSeq d = true) : GN X (tCB (fun xs H Q => ∃ p ys, xs = [V.ref p] ∧ (SqL K H p ys ∨ SqT K H p ys) ∧ ∀ l, H l = none → Q (V.ref l) (upd H l (.lst ys))) (tCons te tNil)) σ H (.list (itemsD d)) := fun H1 s Q q =>
  h H1 s _ fun v H2 s2 r => by
    cases r with
    | lst n e r => exact ⟨_, _, rfl, .inl (SqL.of e), fun l hl => q _ _ (s2.trans (Same.upd hl)) (DX.newL ((t.mono s).mono s2) r hl) (Nw.back s2 (Nw.of hl))⟩
    | tup n e r => exact ⟨_, _, rfl, .inr (SqT.of e), fun l hl => q _ _ (s2.trans (Same.upd hl)) (DX.newL ((t.mono s).mono s2) r hl) (Nw.back s2 (Nw.of hl))⟩
    | _ => exact absurd hl (by simp [isSeq])
theorem gn_cat (t : Trk X H) {xs ys : List PyData} (ha : G X ta σ H (.list xs)) (hb : G X tb σ H (.list ys)) (hl : xs.length + ys.length ≤ 1000000) : GN X (tOp rAddA ta tb) σ H (.list (xs ++ ys)) := fun H1 s Q q =>
  ha H1 s _ fun u H2 s2 ru => hb H2 (s.trans s2) _ fun v H3 s3 rv => by
    obtain ⟨a, us, rfl, _, ea, rs⟩ := (ru.mono (Kp.of s3)).lst_inv
    obtain ⟨b, ws, rfl, _, eb, rt⟩ := rv.lst_inv
    exact .inr (.inl ⟨a, b, us, ws, rfl, rfl, ea, eb, by rw [rs.length, rt.length, sizeLine_eq]; omega, fun p hp => q _ _ ((s2.trans s3).trans (Same.upd hp)) (DX.newL (((t.mono s).mono s2).mono s3) (rs.append rt) hp) (Nw.back (s2.trans s3) (Nw.of hp))⟩)
theorem gn_call2 {pre : PyData → PyData → Prop} {f : PyData → PyData → PyData} (t : Trk X H) (h1 : G X ta σ H d1) (h2 : G X tb σ H d2) (hp : pre d1 d2) : GN X (tCall (sp2N pre f) [] E (tCons ta (tCons tb tNil))) σ H (f d1 d2) := fun H1 s Q q =>
  h1 H1 s _ fun v H2 s2 r => h2 H2 (s.trans s2) _ fun v2 H3 s3 r2 => ⟨X, v, v2, d1, d2, rfl, ((t.mono s).mono s2).mono s3, r.mono (Kp.of s3), r2, hp, fun w H' s4 dw nw => q w H' ((s2.trans s3).trans s4) dw (Nw.back (s2.trans s3) nw)⟩
theorem s_retN (h : GN X te σ H d) (q : ∀ w H', Same H H' → DX X H' w d → Nw H w → D.rt w H') : tRet te D σ H := h H (Same.refl H) _ q
end
section
variable {P : Program} {w : World} {K : PySem.W.Frag} {mg : Str → Option Value} {base : Heap} {x qual : Str} {st : Stmt} {f : Addr} {fd : FuncData} {N : List Str} {k : Nat} {a b c : Str}
theorem ok2N {pre : PyData → PyData → Prop} {g : PyData → PyData → PyData} (F : Fun K x qual st f fd) (S : FnScope N [a, b] (defScope st)) (hN : 2 ≤ N.length)
    (hbody : ∀ (cdv : Value) (A : Around) (outer : List Env) (s : Shared) (H : Hp) (E : XK) (X : Addr → Prop) (d1 d2 : PyData) (Q : VK), Room k (A.deeper (envOfC qual (defScope st) s.heap.objs.size f cdv)) → Trk X H → pre d1 d2 → (∀ w H', Same H H' → DX X H' w (g d1 d2) → Nw H w → Q w H') →
      ∃ t, PSs (cxOf CX0 P w K mg base N qual (defScope st) f cdv A outer s H E).nox (defBody st) t ∧ ∀ σ, EnvOk X H σ (pad N [.dat d1, .dat d2]) → t { nx := fun _ H' => Q .non H', rt := Q } σ H) : FnOk P w K mg base CX0 (k + 1) f fd [a, b] (sp2N pre g) := by
  refine F.ok S (fun vs H Q E h => ?_) (fun cdv A outer s H vs Q E hr h => ?_)
  · obtain ⟨X, v1, v2, d1, d2, rfl, _⟩ := h
    rfl
  · obtain ⟨X, v1, v2, d1, d2, rfl, t, r1, r2, hp, q⟩ := h
    obtain ⟨tt, h1, h2⟩ := hbody cdv A outer s H E X d1 d2 Q hr t hp q
    exact ⟨tt, h1, h2 _ (env2 r1 r2 hN)⟩
end
/-! ### a new list is no part of itself -/
mutual
theorem DX.fn {X X' : Addr → Prop} {H : Hp} : ∀ {v : V} {d d' : PyData}, DX X H v d → DX X' H v d' → d = d'
  | _, _, _, .non, k => by cases k; rfl
  | _, _, _, .bl b, k => by cases k; rfl
  | _, _, _, .int i, k => by cases k; rfl
  | _, _, _, .str x, k => by cases k; rfl
  | _, _, _, .lst n e r, k => by
    cases k with
    | lst n2 e2 r2 =>
      rw [e] at e2
      cases e2
      rw [DXs.fn r r2]
    | tup n2 e2 r2 => rw [e] at e2; cases e2
    | dic n2 e2 r2 => rw [e] at e2; cases e2
  | _, _, _, .tup n e r, k => by
    cases k with
    | tup n2 e2 r2 =>
      rw [e] at e2
      cases e2
      rw [DXs.fn r r2]
    | lst n2 e2 r2 => rw [e] at e2; cases e2
    | dic n2 e2 r2 => rw [e] at e2; cases e2
  | _, _, _, .dic n e r, k => by
    cases k with
    | dic n2 e2 r2 =>
      rw [e] at e2
      cases e2
      rw [DXk.fn r r2]
    | lst n2 e2 r2 => rw [e] at e2; cases e2
    | tup n2 e2 r2 => rw [e] at e2; cases e2
theorem DXs.fn {X X' : Addr → Prop} {H : Hp} : ∀ {v : List V} {d d' : List PyData}, DXs X H v d → DXs X' H v d' → d = d'
  | _, _, _, .nil, k => by cases k; rfl
  | _, _, _, .cons h r, k => by
    cases k with
    | cons h2 r2 => rw [DX.fn h h2, DXs.fn r r2]
theorem DXk.fn {X X' : Addr → Prop} {H : Hp} : ∀ {v : List (Key × V)} {d d' : List (PyData × PyData)}, DXk X H v d → DXk X' H v d' → d = d'
  | _, _, _, .nil, k => by cases k; rfl
  | _, _, _, .cons h r, k => by
    cases k with
    | cons h2 r2 => rw [DX.fn h h2, DXk.fn r r2]
end
mutual
theorem DX.apart {X : Addr → Prop} {H : Hp} {a : Addr} {D : PyData} (hD : DX X H (.ref a) D) : ∀ {v : V} {d : PyData}, DX X H v d → sizeOf d < sizeOf D → DX (fun b => X b ∨ b = a) H v d
  | _, _, .non, _ => .non
  | _, _, .bl b, _ => .bl b
  | _, _, .int i, _ => .int i
  | _, _, .str x, _ => .str x
  | .ref b, .list ds, .lst n e r, hs => by
    refine .lst (fun x => x.elim n fun q => ?_) e (DXs.apart hD r (by simp at hs; omega))
    subst q
    have e2 := hD.fn (X' := X) (DX.lst n e r)
    rw [e2] at hs
    omega
  | .ref b, .tuple ds, .tup n e r, hs => by
    refine .tup (fun x => x.elim n fun q => ?_) e (DXs.apart hD r (by simp at hs; omega))
    subst q
    have e2 := hD.fn (X' := X) (DX.tup n e r)
    rw [e2] at hs
    omega
  | .ref b, .dict ds, .dic n e r, hs => by
    refine .dic (fun x => x.elim n fun q => ?_) e (DXk.apart hD r (by simp at hs; omega))
    subst q
    have e2 := hD.fn (X' := X) (DX.dic n e r)
    rw [e2] at hs
    omega
theorem DXs.apart {X : Addr → Prop} {H : Hp} {a : Addr} {D : PyData} (hD : DX X H (.ref a) D) : ∀ {v : List V} {d : List PyData}, DXs X H v d → sizeOf d < sizeOf D → DXs (fun b => X b ∨ b = a) H v d
  | _, _, .nil, _ => .nil
  | _, _, .cons h r, hs => .cons (DX.apart hD h (by simp at hs; omega)) (DXs.apart hD r (by simp at hs; omega))
theorem DXk.apart {X : Addr → Prop} {H : Hp} {a : Addr} {D : PyData} (hD : DX X H (.ref a) D) : ∀ {v : List (Key × V)} {d : List (PyData × PyData)}, DXk X H v d → sizeOf d < sizeOf D → DXk (fun b => X b ∨ b = a) H v d
  | _, _, .nil, _ => .nil
  | _, _, .cons h r, hs => .cons (DX.apart hD h (by simp at hs; omega)) (DXk.apart hD r (by simp at hs; omega))
end
/-- the items of a list, apart from the list itself -/
theorem DX.inner {X : Addr → Prop} {H : Hp} {v : V} {ds : List PyData} (h : DX X H v (.list ds)) : ∃ a xs, v = .ref a ∧ ¬ X a ∧ H a = some (.lst xs) ∧ DXs (fun b => X b ∨ b = a) H xs ds := by
  cases h with
  | lst n e r => exact ⟨_, _, rfl, n, e, DXs.apart (DX.lst n e r) r (by simp)⟩
end KD

namespace KD
open PySem PySem.Spec PyProof.Rows L2
/-! ### own errors with one field -/
def spInit (C : Addr) (f : Str) : Sp := fun vs H Q _ => ∃ (a : Addr) (y : V), vs = [.ref a, y] ∧ H a = some (exo a C none) ∧ ∀ d, H d = none → d ≠ a → Q .non (upd (upd H d (exd d [(f, y)])) a (exo a C (some d)))
structure Ec (P : Program) (w : World) (K : PySem.W.Frag) (mg : Str → Option Value) (base : Heap) (x f : Str) (C : Addr) : Prop where
  gC : mg x = some (.ref C)
  T : OexC K C
  xf : XfC K C
  noF : PySem.W.findIn K (.ref C) f = some none
  ini : ∃ (fI : Addr) (fd : FuncData), PySem.W.findIn K (.ref C) "__init__" = some (some (.ref fI)) ∧ PySem.W.typeIn K (.ref fI) = some (.type "function") ∧ FnOk P w K mg base CX0 1 fI fd ["self", f] (spInit C f) ∧ Binds K fd ["self", f] []
section
variable {P : Program} {w : World} {K : PySem.W.Frag} {mg : Str → Option Value} {base : Heap} {C : Addr} {x f qual : Str} {st : Stmt} {fI : Addr} {fd : FuncData}
theorem ok_initF (F : Fun K "__init__" qual st fI fd) (S : FnScope [("self" : Str), f] [("self" : Str), f] (defScope st)) (T : OexC K C) (hno : PySem.W.findIn K (.ref C) f = some none) {p1 p2 p3 p4 : Pos}
    (hb : defBody st = [.Assign [.Attribute (.Name ("self" : Str) p1) f p2] (.Name f p3) p4]) (v0 : (defScope st).names.lookup ("self" : Str) = some .local) (v1 : (defScope st).names.lookup f = some .local) (hd : (f == ("__debug__" : Str)) = false) (hcd : (f == ("__classdict__" : Str)) = false)
    (hs : ∀ env : Env, swapsWith (.Name f p3) (some (.Attribute (.Name ("self" : Str) p1) f p2)) p4.line env = pure false) : FnOk P w K mg base CX0 1 fI fd ["self", f] (spInit C f) := by
  refine F.ok S (fun vs H Q E h => ?_) (fun cdv A outer s H vs Q E hr h => ?_)
  · obtain ⟨a, y, rfl, _⟩ := h
    rfl
  · obtain ⟨a, y, rfl, ha, k⟩ := h
    refine ⟨_, by
      rw [hb]
      exact pss_one (ps_ost (pe_var (i := 0) rfl (.inl v0) (by decide) (by decide)) (pe_var (i := 1) rfl (.inl v1) hd hcd) (hs _)), ?_⟩
    exact ⟨y, rfl, .ref a, rfl, a, C, rfl, T, hno, .inl ⟨ha, fun d hd hne => k d hd hne⟩⟩
end
inductive Out where
  | val (d : PyData) | err (C : Addr) (f : Str) (d : PyData)
def EndQ (X : Addr → Prop) (H : Hp) (o : Out) (Q : VK) (E : XK) : Prop := (∀ r, o = .val r → ∀ w H', Same H H' → DX X H' w r → Nw H w → Q w H') ∧ (∀ C fl r, o = .err C fl r → ∀ a w H', Same H H' → H' a = some (.xd [(fl, w)]) → DX X H' w r → E (.ref C) (some a) H')
theorem EndQ.mono {X : Addr → Prop} {H H1 : Hp} {o : Out} {Q : VK} {E : XK} (s : Same H H1) (h : EndQ X H o Q E) : EndQ X H1 o Q E := ⟨fun r e w H' k dw nw => h.1 r e w H' (s.trans k) dw (Nw.back s nw), fun C fl r e a w H' k => h.2 C fl r e a w H' (s.trans k)⟩
def spX1 (pre : PyData → Prop) (f : PyData → Out) : Sp := fun vs H Q E => ∃ (X : Addr → Prop) (v : V) (d : PyData), vs = [v] ∧ Trk X H ∧ DX X H v d ∧ pre d ∧ EndQ X H (f d) Q E
def spX2 (pre : PyData → PyData → Prop) (f : PyData → PyData → Out) : Sp := fun vs H Q E => ∃ (X : Addr → Prop) (v1 v2 : V) (d1 d2 : PyData), vs = [v1, v2] ∧ Trk X H ∧ DX X H v1 d1 ∧ DX X H v2 d2 ∧ pre d1 d2 ∧ EndQ X H (f d1 d2) Q E
section
variable {X : Addr → Prop} {σ : L2.St} {H : Hp} {ta tb : TE} {d d1 d2 : PyData} {E : XK} {Γ : List Sv} {D : Ends} {tz : TS}
/-- the reading of «raise C(e)» -/
theorem mk_err {C : Addr} {f : Str} (h : G X ta σ H d) (q : ∀ a w H', Same H H' → H' a = some (.xd [(f, w)]) → DX X H' w d → E (.ref C) (some a) H') : tMkO C (spInit C f) [] (tCons ta tNil) σ H E :=
  h H (Same.refl H) _ fun v H1 s r => ⟨by show 1 ≤ 1000; decide, fun a ha => ⟨a, v, rfl, upd_same, fun dd hd hne => by
    have hd1 : H1 dd = none := by rw [upd_ne hne] at hd; exact hd
    refine ⟨rfl, dd, _, upd_same, by rw [upd_ne hne, upd_same], hd1, q dd v _ (fun b o e => ?_) upd_same (r.mono (Kp.of ?_))⟩
    · have e1 := s b o e
      have hb : b ≠ a := ne_of_none e1 ha
      rw [upd_ne (ne_of_none e1 hd1)]
      show (if b = a then none else _) = some o
      rw [if_neg hb, upd_ne hb, upd_ne (ne_of_none e1 hd1), upd_ne hb]
      exact e1
    · intro b o e1
      have hb : b ≠ a := ne_of_none e1 ha
      rw [upd_ne (ne_of_none e1 hd1)]
      show (if b = a then none else _) = some o
      rw [if_neg hb, upd_ne hb, upd_ne (ne_of_none e1 hd1), upd_ne hb]
      exact e1⟩⟩
/-- a call that may raise -/
theorem c_X1 {pre : PyData → Prop} {f : PyData → Out} {Q : VK} (t : Trk X H) (h : G X ta σ H d) (hp : pre d) (q : EndQ X H (f d) Q E) : tCall (spX1 pre f) [] E (tCons ta tNil) σ H Q :=
  h H (Same.refl H) _ fun v H1 s r => ⟨X, v, d, rfl, t.mono s, r, hp, q.mono s⟩
theorem c_X2 {pre : PyData → PyData → Prop} {f : PyData → PyData → Out} {Q : VK} (t : Trk X H) (h1 : G X ta σ H d1) (h2 : G X tb σ H d2) (hp : pre d1 d2) (q : EndQ X H (f d1 d2) Q E) : tCall (spX2 pre f) [] E (tCons ta (tCons tb tNil)) σ H Q :=
  h1 H (Same.refl H) _ fun v H1 s r => h2 H1 s _ fun v2 H2 s2 r2 => ⟨X, v, v2, d1, d2, rfl, (t.mono s).mono s2, r.mono (Kp.of s2), r2, hp, q.mono (s.trans s2)⟩
theorem q_setX1 {i : Nat} {pre : PyData → Prop} {f : PyData → Out} (En : EnvOk X H σ Γ) (t : Trk X H) (h : G X ta σ H d) (hp : pre d) (k : ∀ r, f d = .val r → ∀ H1 v, Same H H1 → EnvOk X H1 (σ.set i (some v)) (Γ.set i (.dat r)) → tz D (σ.set i (some v)) H1)
    (ke : ∀ C fl r, f d = .err C fl r → ∀ a w H', Same H H' → H' a = some (.xd [(fl, w)]) → DX X H' w r → E (.ref C) (some a) H') : tSeq (tAsg (tCall (spX1 pre f) [] E (tCons ta tNil)) (gName i)) tz D σ H :=
  c_X1 t h hp ⟨fun r e v H1 s dv _ => k r e H1 v s ((En.same s).set dv), ke⟩
theorem gn_X1 {pre : PyData → Prop} {f : PyData → Out} {r : PyData} (t : Trk X H) (h : G X ta σ H d) (hp : pre d) (e : f d = .val r) : GN X (tCall (spX1 pre f) [] E (tCons ta tNil)) σ H r := fun H1 s Q q =>
  c_X1 (t.mono s) (h.mono s) hp ⟨fun r' e' w H' k dw nw => by rw [e] at e'; cases e'; exact q w H' k dw nw, fun C fl r' e' => by rw [e] at e'; cases e'⟩
theorem gn_X2 {pre : PyData → PyData → Prop} {f : PyData → PyData → Out} {r : PyData} (t : Trk X H) (h1 : G X ta σ H d1) (h2 : G X tb σ H d2) (hp : pre d1 d2) (e : f d1 d2 = .val r) : GN X (tCall (spX2 pre f) [] E (tCons ta (tCons tb tNil))) σ H r := fun H1 s Q q =>
  c_X2 (t.mono s) (h1.mono s) (h2.mono s) hp ⟨fun r' e' w H' k dw nw => by rw [e] at e'; cases e'; exact q w H' k dw nw, fun C fl r' e' => by rw [e] at e'; cases e'⟩
/-- .. of which it is known that it doesn't -/
theorem g_X1 {pre : PyData → Prop} {f : PyData → Out} {r : PyData} (t : Trk X H) (h : G X ta σ H d) (hp : pre d) (e : f d = .val r) : G X (tCall (spX1 pre f) [] E (tCons ta tNil)) σ H r := fun H1 s Q q =>
  c_X1 (t.mono s) (h.mono s) hp ⟨fun r' e' w H' k dw _ => by rw [e] at e'; cases e'; exact q w H' k dw, fun C fl r' e' => by rw [e] at e'; cases e'⟩
theorem g_X2 {pre : PyData → PyData → Prop} {f : PyData → PyData → Out} {r : PyData} (t : Trk X H) (h1 : G X ta σ H d1) (h2 : G X tb σ H d2) (hp : pre d1 d2) (e : f d1 d2 = .val r) : G X (tCall (spX2 pre f) [] E (tCons ta (tCons tb tNil))) σ H r := fun H1 s Q q =>
  c_X2 (t.mono s) (h1.mono s) (h2.mono s) hp ⟨fun r' e' w H' k dw _ => by rw [e] at e'; cases e'; exact q w H' k dw, fun C fl r' e' => by rw [e] at e'; cases e'⟩
end
section
variable {P : Program} {w : World} {K : PySem.W.Frag} {mg : Str → Option Value} {base : Heap} {x qual : Str} {st : Stmt} {f : Addr} {fd : FuncData} {N : List Str} {k : Nat} {a b c : Str}
theorem okX1 {pre : PyData → Prop} {g : PyData → Out} (F : Fun K x qual st f fd) (S : FnScope N [a] (defScope st)) (hN : 1 ≤ N.length)
    (hbody : ∀ (cdv : Value) (A : Around) (outer : List Env) (s : Shared) (H : Hp) (E : XK) (X : Addr → Prop) (d : PyData) (Q : VK), Room k (A.deeper (envOfC qual (defScope st) s.heap.objs.size f cdv)) → Trk X H → pre d → EndQ X H (g d) Q E →
      ∃ t, PSs (cxOf (L2.CX P w) P w K mg base N qual (defScope st) f cdv A outer s H E) (defBody st) t ∧ ∀ σ, EnvOk X H σ (pad N [.dat d]) → t { nx := fun _ H' => Q .non H', rt := Q } σ H) : FnOk P w K mg base (L2.CX P w) (k + 1) f fd [a] (spX1 pre g) := by
  refine F.okX S (fun vs H Q E h => ?_) (fun cdv A outer s H vs Q E hr h => ?_)
  · obtain ⟨X, v, d, rfl, _⟩ := h
    rfl
  · obtain ⟨X, v, d, rfl, t, hd, hp, q⟩ := h
    obtain ⟨tt, h1, h2⟩ := hbody cdv A outer s H E X d Q hr t hp q
    exact ⟨tt, h1, h2 _ (env1 hd hN)⟩
theorem okX2 {pre : PyData → PyData → Prop} {g : PyData → PyData → Out} (F : Fun K x qual st f fd) (S : FnScope N [a, b] (defScope st)) (hN : 2 ≤ N.length)
    (hbody : ∀ (cdv : Value) (A : Around) (outer : List Env) (s : Shared) (H : Hp) (E : XK) (X : Addr → Prop) (d1 d2 : PyData) (Q : VK), Room k (A.deeper (envOfC qual (defScope st) s.heap.objs.size f cdv)) → Trk X H → pre d1 d2 → EndQ X H (g d1 d2) Q E →
      ∃ t, PSs (cxOf (L2.CX P w) P w K mg base N qual (defScope st) f cdv A outer s H E) (defBody st) t ∧ ∀ σ, EnvOk X H σ (pad N [.dat d1, .dat d2]) → t { nx := fun _ H' => Q .non H', rt := Q } σ H) : FnOk P w K mg base (L2.CX P w) (k + 1) f fd [a, b] (spX2 pre g) := by
  refine F.okX S (fun vs H Q E h => ?_) (fun cdv A outer s H vs Q E hr h => ?_)
  · obtain ⟨X, v1, v2, d1, d2, rfl, _⟩ := h
    rfl
  · obtain ⟨X, v1, v2, d1, d2, rfl, t, r1, r2, hp, q⟩ := h
    obtain ⟨tt, h1, h2⟩ := hbody cdv A outer s H E X d1 d2 Q hr t hp q
    exact ⟨tt, h1, h2 _ (env2 r1 r2 hN)⟩
end
section
variable {X : Cx} {k j : Nat} {x f : Str} {ps : List Str} {sp : Sp} {e : Expr} {es : List Expr} {p pos pos2 : Pos} {ta : TA} {E : XK} {C : Addr}
/-- a def that may raise, called within one that lets it out -/
theorem pe_ownX (O : Own X.prog X.w X.K X.mg X.base (L2.CX X.prog X.w) k x ps sp) (hr : Room j X.A) (hk : k ≤ j) (tk : Takes X (fun cls d _ H => E cls d H)) (hg : Gl X x) (ha : PA X (e :: es) ta) (hdb : (x == ("__debug__" : Str)) = false := by decide)
    (he : starEach (e :: es) X.env = (false, eval e X.env) :: starEach es X.env := by rfl) (hpl : (backTo pos (starEach es X.env)).any (·.1) = false := by rfl) : PE X (.Call (.Name x p) (e :: es) [] pos) (tCall sp [] E ta) := by
  obtain ⟨g, fd, h1, h2, h3, h4⟩ := O.ex
  exact pe_call h4 (hr.mono hk) hg h1 h2 h3 .nil (passes_call tk fun _ _ _ _ h => h) ha hdb he hpl
/-- raise C(e) -/
theorem ps_err {W : WX} (hc : X.calm = true) (T : Ec X.prog X.w X.K X.mg X.base x f C) (hr : Room j X.A) (hk : 2 ≤ j) (tk : Takes X W) (hg : Gl X x) {ta : TE} (ha : PA X [e] (tCons ta tNil)) (hdb : (x == ("__debug__" : Str)) = false := by decide)
    (he : starEach (e :: []) X.env = (false, eval e X.env) :: starEach [] X.env := by rfl) (hpl : (backTo pos (starEach [] X.env)).any (·.1) = false := by rfl) :
    PS X (.Raise (some (.Call (.Name x p) [e] [] pos)) none pos2) (fun _ σ H => tMkO C (spInit C f) [] (tCons ta tNil) σ H fun cls d H' => W cls d σ H') := by
  obtain ⟨fI, fd, h1, h2, h3, h4⟩ := T.ini
  exact ps_raise hc tk (pmk_oex T.T h1 h2 h3 (hr.mono hk) h4 .nil (pass0) hg T.gC ha hdb he hpl)
end
end KD

/-! try with several clauses, each «except C as n». -/
namespace KD
open PySem PySem.Spec PyProof.Rows L2
structure Cl where
  c : Value
  i : Nat
  ts : Addr → Value → Option Addr → TS
def away (D : Ends) (i : Nat) : Ends := ⟨fun z Z => D.nx (z.set i none) Z, D.rt, fun z Z => D.bk (z.set i none) Z, fun z Z => D.ct (z.set i none) Z⟩
def wCl (K : PySem.W.Frag) (W0 : WX) (D : Ends) : List Cl → WX
  | [] => W0
  | x :: r => fun cl d z Z => ∃ b, PySem.W.exmOne K cl x.c = some b ∧ (b = true → ∀ a, Z a = none → x.ts a cl d (away D x.i) (z.set x.i (some (.ref a))) Z) ∧ (b = false → wCl K W0 D r cl d z Z)
inductive ClOk (X : Cx) : List ExceptHandler → List Cl → Prop
  | nil : ClOk X [] []
  | cons {x n : Str} {cl : Cl} {s0 : Stmt} {ss : List Stmt} {p q : Pos} {hh : List ExceptHandler} {ll : List Cl} (nm : Names X x cl.c) (sl : X.N[cl.i]? = some n) (lo : X.env.kindOf n = some .local)
      (su : ∀ a ob k d pn, Zc k d ob → (∃ vs, ob.data = .fields vs) → PSs (X.suite a ((a, ob) :: pn)) (s0 :: ss) (cl.ts a k d)) (more : ClOk X hh ll) : ClOk X (.ExceptHandler (some (.Name x p)) (some n) (s0 :: ss) q :: hh) (cl :: ll)
theorem ps_tryA {X : Cx} {bd : List Stmt} {h0 : ExceptHandler} {hh : List ExceptHandler} {ll : List Cl} {ps : Pos} {tb : WX → TS} {W0 : WX} (st : X.stack = X.env :: X.outer) (fr : X.env.frame = some X.env.locals) (nd : X.N.Nodup) (tk : Takes X W0)
    (hb : ∀ W pn xe, Takes (X.tr pn xe) W → PassesOwn (model X.prog X.w) X.A X.env xe → PSs (X.tr pn xe) bd (tb W)) (ok : ClOk X (h0 :: hh) ll) :
    PS X (.Try bd (h0 :: hh) [] [] ps) (fun D z Z => tb (wCl X.K W0 D ll) D z Z) := by
  refine ⟨fun pins s z Z D I goal => ?_⟩
  have OK := I.ok
  have fA : X.A.frames = some (X.env :: X.outer) := OK.frames.trans (by rw [st])
  apply wpAny_Try_except
  have caught : Takes (X.tr (X.pn ++ pins) fun e u => wpAny (model X.prog X.w) X.A (noteFrame e X.env)
      (fun _ u => wpAny (model X.prog X.w) X.A (setFlight e none)
        (fun _ u => wpAny (model X.prog X.w) X.A (handleBy e X.env (h0 :: hh)) (SP X pins D) X.xe u) X.xe u) X.xe u) (wCl X.K W0 D ll) := by
    intro e u hx
    obtain ⟨a, B, sI, pins2, z1, Z1, cls, d, rfl, J0, nb, up, sk, na, os, ag, wish⟩ := hx
    have J := J0.ofTry OK
    rw [st] at sk
    refine Sky.land Zc.steady fA fr sk fun h3 f3 u3 => ?_
    have J3 : Inv X pins z1 Z1 { u with heap := h3 } := J.landed nb f3.1 (up.trans u3) os ag
    obtain ⟨ob, vs, eob, zob, dob⟩ := f3.there
    have apart : a ∉ frs (X.env :: X.outer) := by
      intro hm
      obtain ⟨_, ob', e', no⟩ := f3.2.2.1.mem hm
      have same : ob' = ob := Option.some.inj (e'.symm.trans eob)
      subst same
      exact no _ dob
    have inFr : ∀ {E : Env} {l : Addr}, E ∈ X.env :: X.outer → E.frame = some l → l ∈ frs (X.env :: X.outer) := fun hE e => List.mem_filterMap.mpr ⟨_, hE, e⟩
    have nL : a ≠ X.env.locals := fun e => apart (e ▸ inFr List.mem_cons_self fr)
    have nF : a ∉ X.fs := by
      intro hm
      obtain ⟨E, hE, e⟩ := List.mem_filterMap.mp hm
      exact apart (inFr (List.mem_cons_of_mem _ hE) e)
    suffices go : ∀ {hs : List ExceptHandler} {ls : List Cl}, ClOk X hs ls → wCl X.K W0 D ls cls d z1 Z1 → wpAny (model X.prog X.w) X.A (handleBy (.ref a) X.env hs) (SP X pins D) X.xe { u with heap := h3 } from go ok wish
    intro hs ls hk
    induction hk with
    | nil =>
      intro wi
      apply wpAny_handleBy_nil
      have land := f3
      obtain ⟨_, _, _, o5, v5, T, oT, ts5, g1, g2, g3, g4, g5⟩ := land
      unfold PySem.passOn
      refine wpAny_bind (wpAny_field g1 g3 g4 ?_)
      have nn : ¬ ((Value.ref T == Value.none) = true) := by simp
      rw [if_neg nn]
      have thrown : wpAny (model X.prog X.w) X.A (setFlight (.ref a) X.env.frame)
          (fun _ y => wpAny (model X.prog X.w) X.A (throw (.ref a) : Sem Flow) (SP X pins D) X.xe y) X.xe { u with heap := h3 } := by
        rw [fr]
        refine HandSPX.setFlight_upZ f3 fun h4 k4 u4 => wpAny_throw (tk _ _ ?_)
        refine ⟨a, B, sI, pins, z1, Z1, cls, d, rfl, J, nb, (up.trans u3).trans u4, .inr (.inr ?_), na, os, ag, wi⟩
        rw [st]
        exact k4
      first
        | exact wpAny_bind thrown
        | exact wpAny_bind (wpAny_pure (wpAny_bind thrown))
    | @cons x n cl s0 ss p q hs2 ls2 nm sl lo su more ih =>
      rintro ⟨b, hm, yes, no⟩
      refine wpAny_handleBy_cons (codeAny_handlers_test ?_) (fun e => by cases e)
      have lk : PySem.W.Looks (model X.prog X.w) h3 (typeOf (.ref a)) cls := fun A Q E s k q => wpAny_typeOf_ref (k _ _ eob) (zob.1.symm ▸ q)
      have S3 := J3.suite eob dob na nL nF
      have asked : ∀ {Q E : Value → Shared → Prop}, Q cl.c { u with heap := h3 } → wpAny (model X.prog X.w) (X.A.mark (some (.ref a))) (eval (.Name x p) X.env) Q E { u with heap := h3 } := by
        intro Q E hQ
        obtain ⟨g, db, m⟩ := nm
        cases m with
        | inl m => exact ld_glob (X := X.suite a ((a, ob) :: (X.pn ++ pins))) S3 g m hQ db
        | inr m => exact ld_blt (X := X.suite a ((a, ob) :: (X.pn ++ pins))) S3 g m.1 m.2.1 hQ m.2.2 db
      refine asked ((PySem.W.exm_one (M := model X.prog X.w) J3.kIn lk hm).here ?_)
      cases b with
      | false => exact ih (no rfl)
      | true =>
        refine codeAny_handlers_suite_as (HandSPX.lands_againZ f3 fun h4 f4 u4 => ?_)
        have J4 : Inv X pins z1 Z1 { u with heap := h4 } := J.landed nb f4.1 ((up.trans u3).trans u4) os ag
        obtain ⟨o4, v4, e4, z4, d4⟩ := f4.there
        refine store_ok (X := X.suite a ((a, o4) :: (X.pn ++ pins))) (v := .ref a) (J4.suite e4 d4 na nL nF) nd sl (.inl lo) rfl (fun s5 S5 => ?_) (.inr lo)
        refine wpAny_mono ((su a o4 cls d (X.pn ++ pins) z4 ⟨v4, d4⟩).run [] s5 _ Z1 _ S5 (yes rfl a na)) (fun fl s6 h6 => ?_) (fun _ _ e => e.elim)
        have gone : ∀ {z6 : L2.St} {Z6 : Hp} {Q : Shared → Prop}, Inv (X.suite a ((a, o4) :: (X.pn ++ pins))) [] z6 Z6 s6 → (∀ s7, Inv X pins (z6.set cl.i none) Z6 s7 → Q s7) → wpAny (model X.prog X.w) X.A (do bindName X.env n .none; unbindBehindTheSuite X.env n q) (fun _ s7 => Q s7) X.xe s6 :=
          fun S6 hq => gone_ok (S6.unsuite OK) nd sl lo hq
        cases fl with
        | next =>
          obtain ⟨_, _, S6, q6⟩ := h6
          exact gone S6 fun _ J7 => ⟨_, _, J7, q6⟩
        | brk =>
          obtain ⟨_, _, S6, q6⟩ := h6
          exact gone S6 fun _ J7 => ⟨_, _, J7, q6⟩
        | cont =>
          obtain ⟨_, _, S6, q6⟩ := h6
          exact gone S6 fun _ J7 => ⟨_, _, J7, q6⟩
        | ret y =>
          obtain ⟨_, _, _, S6, r6, q6⟩ := h6
          exact gone S6 fun _ J7 => ⟨_, _, _, J7, r6, q6⟩
  have whole := (hb _ _ _ caught PassesOwn.looking).run [] s z Z D (I.toTry _) goal
  refine wpAny_mono whole (fun fl u hf => ?_) (fun _ _ y => y)
  cases fl with
  | next =>
    obtain ⟨z1, Z1, J, q⟩ := hf
    exact wpAny_execs_nil ⟨_, _, J.ofTry OK, q⟩
  | brk =>
    obtain ⟨z1, Z1, J, q⟩ := hf
    exact ⟨_, _, J.ofTry OK, q⟩
  | cont =>
    obtain ⟨z1, Z1, J, q⟩ := hf
    exact ⟨_, _, J.ofTry OK, q⟩
  | ret y =>
    obtain ⟨x, z1, Z1, J, r, q⟩ := hf
    exact ⟨_, _, _, J.ofTry OK, r, q⟩
end KD

/-! repr of data over the abstract heap. -/
namespace KD
open PySem PySem.Spec PyProof.Rows L2
mutual
/-- shown in short: its ints are small, its dicts are empty -/
def shw : PyData → Bool
  | .int i => decide (i.natAbs.log2 < 1920)
  | .list ds => shws ds
  | .tuple ds => shws ds
  | .dict ks => ks.isEmpty
  | _ => true
def shws : List PyData → Bool
  | [] => true
  | d :: ds => shw d && shws ds
end
section
variable {X : Cx} {pins : List (Addr × Obj)} {σ : L2.St} {H : Hp} {s : Shared} {X0 : Addr → Prop}
/-- addresses of data that are so deep at most -/
def Low (X0 : Addr → Prop) (H : Hp) (n : Nat) (bs : List Addr) : Prop := ∀ b ∈ bs, ∃ d, DX X0 H (.ref b) d ∧ d.depth ≤ n
theorem Low.mono {n m : Nat} {bs : List Addr} (h : Low X0 H n bs) (k : n ≤ m) : Low X0 H m bs := fun b hb => by
  obtain ⟨d, r, e⟩ := h b hb
  exact ⟨d, r, Nat.le_trans e k⟩
theorem Low.app {n : Nat} {bs cs : List Addr} (h : Low X0 H n bs) (k : Low X0 H n cs) : Low X0 H n (bs ++ cs) := fun b hb => (List.mem_append.mp hb).elim (h b) (k b)
theorem Low.not {n : Nat} {bs : List Addr} {a : Addr} {d : PyData} (h : Low X0 H n bs) (r : DX X0 H (.ref a) d) (k : n < d.depth) : a ∉ bs := fun hm => by
  obtain ⟨e, r2, q⟩ := h a hm
  rw [← r.fn r2] at q
  omega
theorem Low.cons {n : Nat} {bs : List Addr} {a : Addr} {d : PyData} (h : Low X0 H n bs) (r : DX X0 H (.ref a) d) (k : n ≤ d.depth) : Low X0 H d.depth (a :: bs) := fun b hb => by
  rcases List.mem_cons.mp hb with rfl | hb
  · exact ⟨d, r, Nat.le_refl _⟩
  · exact h.mono k b hb
mutual
theorem reprK_dx (I : L2.Inv X pins σ H s) : ∀ {v : V} {d : PyData} {u : Value}, DX X0 H v d → RelV v u → shw d = true → d.shown.length ≤ sizeLine → ∃ bs, Low X0 H d.depth bs ∧ ReprK X.prog X.w bs s.heap d.depth u d.shown
  | _, _, _, .non, r, _, _ => by
    cases r
    exact ⟨[], (fun _ h => by cases h), by simp only [PyData.shown]; exact .of_is ReprIs.none _ _ _⟩
  | _, _, _, .bl b, r, _, _ => by
    cases r
    exact ⟨[], (fun _ h => by cases h), by simp only [PyData.shown]; exact .of_is (ReprIs.bool b) _ _ _⟩
  | _, _, _, .int i, r, h, _ => by
    obtain ⟨t, rfl⟩ := r
    exact ⟨[], (fun _ h => by cases h), by simp only [PyData.shown]; exact .of_is (ReprIs.int t (by simpa [shw] using h)) _ _ _⟩
  | _, _, _, .str x, r, _, hz => by
    obtain ⟨t, rfl⟩ := r
    exact ⟨[], (fun _ h => by cases h), by simp only [PyData.shown]; exact .of_is (ReprIs.str x t (by simpa only [PyData.shown] using hz)) _ _ _⟩
  | _, _, _, .lst (a := a) (xs := xs) (ds := ds) n e r, ru, h, hz => by
    cases ru
    obtain ⟨its, rv, ⟨o, k, ho, hc, _, hd⟩, _⟩ := I.list (SqL.of e)
    have long : (listText (PyData.shownAll ds)).length ≤ sizeLine := by simpa only [PyData.shown] using hz
    obtain ⟨bs, low, all⟩ := reprAll_dx I r rv (by simpa [shw] using h) fun t ht => Nat.le_trans (listText_mem_le ht) long
    have whole : DX X0 H (.ref a) (.list ds) := .lst n e r
    have fresh : a ∉ bs := low.not whole (by simp only [PyData.depth]; omega)
    refine ⟨a :: bs, low.cons whole (by simp only [PyData.depth]; omega), ?_⟩
    simp only [PyData.depth, PyData.shown]
    cases its with
    | nil =>
      cases ds with
      | nil =>
        simp only [PyData.shownAll, listText_nil]
        exact ReprK.listEmpty ho hc hd
      | cons d ds => cases r; cases rv
    | cons y its => exact ReprK.list ho hc hd fresh (by simpa using all.length_eq) fun i z q => all.item i z (by simpa using q)
  | _, _, _, .tup (a := a) (xs := xs) (ds := ds) n e r, ru, h, hz => by
    cases ru
    obtain ⟨its, rv, ⟨o, ho, hc, k, hd⟩, _⟩ := I.tuple (SqT.of e)
    have long : (tupleText (PyData.shownAll ds)).length ≤ sizeLine := by simpa only [PyData.shown] using hz
    obtain ⟨bs, low, all⟩ := reprAll_dx I r rv (by simpa [shw] using h) fun t ht => Nat.le_trans (tupleText_mem_le ht) long
    have whole : DX X0 H (.ref a) (.tuple ds) := .tup n e r
    have fresh : a ∉ bs := low.not whole (by simp only [PyData.depth]; omega)
    refine ⟨a :: bs, low.cons whole (by simp only [PyData.depth]; omega), ?_⟩
    simp only [PyData.depth, PyData.shown]
    exact ReprK.tuple ho hc hd fresh all
  | _, _, _, .dic (a := a) (kvs := kvs) (ks := ks) n e r, ru, h, hz => by
    cases ru
    have e0 : ks = [] := by simpa [shw] using h
    subst e0
    cases r
    obtain ⟨_, hsys, vs, kv, o, es, ep, ho, ex, hd, _, pr, _⟩ := I.hok a _ e
    cases kv
    have whole : DX X0 H (.ref a) (.dict []) := .dic n e .nil
    refine ⟨a :: [], Low.cons (n := 0) (fun _ h => by cases h) whole (Nat.zero_le _), ?_⟩
    have he : es.toList = [] := by
      generalize es.toList = l at pr
      cases pr
      rfl
    have R : ReprEntriesK X.prog X.w [] s.heap 0 es.toList [] := by
      rw [he]
      exact .nil
    have := ReprK.dict ho ex.1 hd hsys (as := []) (by simp) R
    simpa [PyData.depth, PyData.depthKv, PyData.shown, PyData.shownKv] using this
theorem reprAll_dx (I : L2.Inv X pins σ H s) : ∀ {vs : List V} {ds : List PyData} {us : List Value}, DXs X0 H vs ds → Vals vs us → shws ds = true → (∀ t ∈ PyData.shownAll ds, t.length ≤ sizeLine) → ∃ bs, Low X0 H (PyData.depthAll ds) bs ∧ ReprAllK X.prog X.w bs s.heap (PyData.depthAll ds) us (PyData.shownAll ds)
  | _, _, _, .nil, r, _, _ => by
    cases r
    exact ⟨[], (fun _ h => by cases h), by simp only [PyData.shownAll]; exact .nil⟩
  | _, _, _, .cons (d := d) (ds := ds) h rs, r, hs, hz => by
    cases r with
    | cons r1 r2 =>
      have hs' : shw d = true ∧ shws ds = true := by simpa [shws] using hs
      obtain ⟨b1, l1, k1⟩ := reprK_dx I h r1 hs'.1 (hz _ (by simp only [PyData.shownAll]; exact List.mem_cons_self))
      obtain ⟨b2, l2, k2⟩ := reprAll_dx I rs r2 hs'.2 fun t ht => hz t (by simp only [PyData.shownAll]; exact List.mem_cons_of_mem _ ht)
      refine ⟨b1 ++ b2, ?_, ?_⟩
      · simp only [PyData.depthAll]
        exact (l1.mono (Nat.le_max_left _ _)).app (l2.mono (Nat.le_max_right _ _))
      · simp only [PyData.depthAll, PyData.shownAll]
        exact .cons ((k1.more fun b hb => List.mem_append_left _ hb).level_le (Nat.le_max_left _ _)) (k2.more_le (fun b hb => List.mem_append_right _ hb) (Nat.le_max_right _ _))
end
end
/-- repr of a list of data -/
def rReprL : List V → Hp → VK → Prop := fun xs H Q => ∃ (X0 : Addr → Prop) (v : V) (ds : List PyData), xs = [v] ∧ DX X0 H v (.list ds) ∧ ds ≠ [] ∧ shws ds = true ∧ PyData.depthAll ds ≤ 40 ∧ (PyData.shown (.list ds)).length ≤ sizeLine ∧ Q (.str (PyData.shown (.list ds))) H
theorem call_reprL {X : Cx} (hg : X.A.guards = some []) (hu : X.A.units + 64 < cLine) : CallR X (.builtin "repr") rReprL := by
  intro pins s σ H xs us Q I r h
  obtain ⟨X0, v, ds, rfl, hd, hne, hs, hdp, hz, q⟩ := h
  cases r with
  | cons ru rn =>
    cases rn
    cases hd with
    | @lst a xs _ n e rx =>
      cases ru
      obtain ⟨its, rv, ⟨o, k, ho, hc, _, hd⟩, _⟩ := I.list (SqL.of e)
      have long : (listText (PyData.shownAll ds)).length ≤ sizeLine := by simpa only [PyData.shown] using hz
      obtain ⟨bs, low, all⟩ := reprAll_dx I rx rv hs fun t ht => Nat.le_trans (listText_mem_le ht) long
      have whole : DX X0 H (.ref a) (.list ds) := .lst n e rx
      have fresh : a ∉ bs := low.not whole (by simp only [PyData.depth]; omega)
      cases its with
      | nil =>
        cases rv
        cases rx
        exact absurd rfl hne
      | cons y its =>
        refine call_repr_slot (T := "list") (idr := "list.__repr__") (by omega) ⟨o, ho, hc⟩ F.slot_list_repr.toG ?_
        refine call_list_reprK ho hc hd fresh (by simpa using all.length_eq) (fun i z q => all.item i z (by simpa using q)) hg (fun b _ => Clear.nil b) (by show X.A.units + 1 + (PyData.depthAll ds + 1) < cLine; omega) (fun _ _ z => z) (fun h' t tk hk => ?_) long
        refine ⟨_, _, rfl, .str (PyData.shown (.list ds)), H, I.kept hk, ⟨t, ?_⟩, q⟩
        simp only [PyData.shown]
end KD

/-! repr of any data. -/
namespace KD
open PySem PySem.Spec PyProof.Rows L2
def rReprD : List V → Hp → VK → Prop := fun xs H Q => ∃ (X0 : Addr → Prop) (v : V) (d : PyData), xs = [v] ∧ DX X0 H v d ∧ shw d = true ∧ d.depth ≤ 40 ∧ d.shown.length ≤ sizeLine ∧ Q (.str d.shown) H
theorem call_reprD {X : Cx} (hg : X.A.guards = some []) (hu : X.A.units + 64 < cLine) : CallR X (.builtin "repr") rReprD := by
  intro pins s σ H xs us Q I r h
  obtain ⟨X0, v, d, rfl, hd, hs, hdp, hz, q⟩ := h
  cases r with
  | cons ru rn =>
    cases rn
    cases hd with
    | non =>
      cases ru
      simp only [PyData.shown] at q
      exact P.repr_of_none ⟨.str _, H, I.tok _, ⟨_, rfl⟩, q⟩
    | bl b =>
      cases ru
      simp only [PyData.shown] at q
      exact P.repr_of_bool ⟨.str _, H, I.tok _, ⟨_, rfl⟩, q⟩
    | int i =>
      obtain ⟨t, rfl⟩ := ru
      simp only [PyData.shown] at q
      exact P.repr_of_int (by simpa [shw] using hs) ⟨.str _, H, I.tok _, ⟨_, rfl⟩, q⟩
    | str x =>
      obtain ⟨t, rfl⟩ := ru
      simp only [PyData.shown] at q
      exact P.repr_of_str ⟨.str _, H, I.tok _, ⟨_, rfl⟩, q⟩ (by simpa only [PyData.shown] using hz)
    | @lst a xs ds n e rx =>
      cases ru
      obtain ⟨its, rv, ⟨o, k, ho, hc, _, hd⟩, _⟩ := I.list (SqL.of e)
      have long : (listText (PyData.shownAll ds)).length ≤ sizeLine := by simpa only [PyData.shown] using hz
      obtain ⟨bs, low, all⟩ := reprAll_dx I rx rv (by simpa [shw] using hs) fun t ht => Nat.le_trans (listText_mem_le ht) long
      have whole : DX X0 H (.ref a) (.list ds) := .lst n e rx
      have fresh : a ∉ bs := low.not whole (by simp only [PyData.depth]; omega)
      simp only [PyData.shown] at q
      refine call_repr_slot (T := "list") (idr := "list.__repr__") (by omega) ⟨o, ho, hc⟩ F.slot_list_repr.toG ?_
      cases its with
      | nil =>
        cases rv
        cases rx
        refine call_list_repr_empty ⟨o, ho, hc⟩ ho hd ?_
        refine ⟨_, _, rfl, .str _, H, I.tok _, ⟨_, rfl⟩, ?_⟩
        simp only [PyData.shownAll, listText_nil] at q
        exact q
      | cons y its =>
        simp only [PyData.depth] at hdp
        refine call_list_reprK ho hc hd fresh (by simpa using all.length_eq) (fun i z q => all.item i z (by simpa using q)) hg (fun b _ => Clear.nil b) (by show X.A.units + 1 + (PyData.depthAll ds + 1) < cLine; omega) (fun _ _ z => z) (fun h' t tk hk => ?_) long
        exact ⟨_, _, rfl, .str _, H, I.kept hk, ⟨t, rfl⟩, q⟩
    | @tup a xs ds n e rx =>
      cases ru
      obtain ⟨its, rv, ⟨o, ho, hc, k, hd⟩, _⟩ := I.tuple (SqT.of e)
      have long : (tupleText (PyData.shownAll ds)).length ≤ sizeLine := by simpa only [PyData.shown] using hz
      obtain ⟨bs, low, all⟩ := reprAll_dx I rx rv (by simpa [shw] using hs) fun t ht => Nat.le_trans (tupleText_mem_le ht) long
      have whole : DX X0 H (.ref a) (.tuple ds) := .tup n e rx
      have fresh : a ∉ bs := low.not whole (by simp only [PyData.depth]; omega)
      simp only [PyData.shown] at q
      simp only [PyData.depth] at hdp
      refine call_repr_slot (T := "tuple") (idr := "tuple.__repr__") (by omega) ⟨o, ho, hc⟩ F.slot_tuple_repr ?_
      refine call_tuple_reprK ho hc hd fresh all hg (fun b _ => Clear.nil b) (by show X.A.units + 1 + (PyData.depthAll ds + 1) < cLine; omega) (fun _ _ z => z) (fun h' t tk hk => ?_) long
      exact ⟨_, _, rfl, .str _, H, I.kept hk, ⟨t, rfl⟩, q⟩
    | @dic a kvs ks n e rx =>
      cases ru
      have e0 : ks = [] := by simpa [shw] using hs
      subst e0
      cases rx
      obtain ⟨_, hsys, vs, kv, o, es, ep, ho, ex, hd, _, pr, _⟩ := I.hok a _ e
      cases kv
      have he : es.toList = [] := by
        generalize es.toList = l at pr
        cases pr
        rfl
      have R : ReprEntriesK X.prog X.w [] s.heap 0 es.toList [] := by
        rw [he]
        exact .nil
      have e1 : PyData.shown (.dict []) = dictText [] := by simp [PyData.shown, PyData.shownKv]
      rw [e1] at q
      refine call_repr_slot (T := "dict") (idr := "dict.__repr__") (by omega) ⟨o, ho, ex.1⟩ F.slot_dict_repr ?_
      refine call_dict_reprK ho ex.1 hd hsys (as := []) (by simp) R hg (fun b _ => Clear.nil b) (by show X.A.units + 1 + (0 + 1) < cLine; omega) (fun _ _ z => z) (fun h' t tk hk => ?_) (by decide)
      exact ⟨_, _, rfl, .str _, H, I.kept hk, ⟨t, rfl⟩, q⟩
theorem g_reprD {X : Addr → Prop} {σ : L2.St} {H : Hp} {te : TE} {d : PyData} (h : G X te σ H d) (hs : shw d = true) (hd : d.depth ≤ 40) (hz : d.shown.length ≤ sizeLine) : G X (tCB rReprD (tCons te tNil)) σ H (.str d.shown) := fun H1 s Q q =>
  h H1 s _ fun v H2 s2 r => ⟨X, v, d, rfl, r, hs, hd, hz, q _ H2 s2 (.str _)⟩
end KD

/-! A string times a number. -/
namespace KD
open PySem PySem.Spec PyProof.Rows L2
def timesS (i : Str) (k : Int) : Str := ⟨(List.replicate k.toNat i.cps).foldl (· ++ ·) #[]⟩
/-- one sign, some hundred times -/
def SRep (i : Str) (k : Int) : Prop := i = "x" ∧ (k = 200 ∨ k = 201)
def rRepS : R2 := fun x y H Q => ∃ i k, x = V.str i ∧ y = V.int k ∧ SRep i k ∧ Q (.str (timesS i k)) H
theorem op_repS {X : Cx} : OpR X (binaryOp .Mult) rRepS := by
  intro pins s σ H x y v u Q I rx ry h
  obtain ⟨i, k, rfl, rfl, hs, q⟩ := h
  obtain ⟨t, rfl⟩ := rx
  obtain ⟨t', rfl⟩ := ry
  obtain ⟨rfl, hk⟩ := hs
  rcases hk with rfl | rfl
  · refine PySem.P.mul_str (by decide) (fun _ _ => by decide) (fun _ _ => by decide +kernel) ?_
    rw [if_neg (by decide), if_neg (by decide)]
    exact ⟨by decide +kernel, ⟨.str (timesS "x" 200), H, I.tok _, ⟨_, rfl⟩, q⟩⟩
  · refine PySem.P.mul_str (by decide) (fun _ _ => by decide) (fun _ _ => by decide +kernel) ?_
    rw [if_neg (by decide), if_neg (by decide)]
    exact ⟨by decide +kernel, ⟨.str (timesS "x" 201), H, I.tok _, ⟨_, rfl⟩, q⟩⟩
theorem rd_repS {X : Addr → Prop} {k : Int} (h : k = 200 ∨ k = 201) : RD X rRepS (.str "x") (.int k) (.str (timesS "x" k)) := fun H u v t ru rv Q q => ⟨"x", k, ru.str_inv, rv.int_inv, ⟨rfl, h⟩, q _ H (Same.refl H) (.str _)⟩
end KD

/-! The end of a law whose def is known for the caller of claims alone (its guards are empty). -/
namespace KD
open PySem PySem.Spec PyProof.Rows L2 LamX
/-- a def's promise, called from A -/
def FnAt (P : Program) (w : World) (K : PySem.W.Frag) (mg : Str → Option Value) (base : Heap) (CX : CXT) (A : Around) (f : Addr) (fd : FuncData) (x : Str) (sp : Sp) : Prop :=
  ∀ (s : Shared) (H : Hp) (u : Value) (v : V) (Q : VK) (E : XK), Env0 P w K mg base A [] s H → BindsTo s fd ⟨[u], []⟩ [(x, u)] → RelV v u → sp [v] H Q E → codeAny (model P w) A (.call (.ref f) ⟨[u], []⟩) (CR CX [] P w H s Q E) s
/-- where the law begins: the script as it is passed, tables without code -/
def beginH (K : PySem.W.Frag) (T : List Addr) (a : Addr) (o : Obj) (ns : List Int) : Hp := fun b => if b ∈ T then some (.tbl #[]) else if b = a ∧ K.lookup a = none then some (.frz o (.lst (ns.map V.int))) else none
section
variable {K : PySem.W.Frag} {T : List Addr} {a b : Addr} {o : Obj} {ns : List Int}
theorem beginH_tab (h : b ∈ T) : beginH K T a o ns b = some (.tbl #[]) := if_pos h
theorem beginH_arg (h : a ∉ T) (k : K.lookup a = none) : beginH K T a o ns a = some (.frz o (.lst (ns.map V.int))) := (if_neg h).trans (if_pos ⟨rfl, k⟩)
theorem beginH_none (h : b ∉ T) (k : b = a → K.lookup a ≠ none) : beginH K T a o ns b = none := (if_neg h).trans (if_neg fun z => k z.1 z.2)
theorem beginH_some {u : HO} (h : beginH K T a o ns b = some u) : (b ∈ T ∧ u = .tbl #[]) ∨ (b ∉ T ∧ b = a ∧ K.lookup a = none ∧ u = .frz o (.lst (ns.map V.int))) := by
  unfold beginH at h
  by_cases h1 : b ∈ T
  · rw [if_pos h1] at h
    exact .inl ⟨h1, (Option.some.inj h).symm⟩
  · rw [if_neg h1] at h
    by_cases h2 : b = a ∧ K.lookup a = none
    · rw [if_pos h2] at h
      exact .inr ⟨h1, h2.1, h2.2, (Option.some.inj h).symm⟩
    · rw [if_neg h2] at h
      cases h
end
theorem law_callG {P : Program} {w : World} {K : PySem.W.Frag} {mg mb : Str → Option Value} {CX : CXT} {fa a : Addr} {cs : List (Addr × Addr)} {fd : FuncData} {x : Str} {sp : Sp} {s : Shared} {vs : List Value} {ns : List Int}
    (kin : K.In s.heap) (glob : s.heap.Ns mainGlobals mg) (blt : s.heap.Ns builtinsNs mb) (boot : ∀ y : Str, y ≠ "__name__" → mb y = bootBuiltins y) (nolim : s.heap.NoLimit) (gens : s.gens = #[])
    (tabs : ∀ p ∈ cs, s.heap.get? p.2 = some { cls := .none, data := .fields #[] }) (tabK : ∀ p ∈ cs, K.lookup p.2 = none) (codes : ∀ p ∈ cs, PySem.W.CodeHd s.heap p.1 p.2)
    (bmod : ∃ bm ob, mg "__builtins__" = some (.ref bm) ∧ bm ≠ builtinsNs ∧ s.heap.get? bm = some ob ∧ ob.cls = .type "module" ∧ ob.dict = some builtinsNs ∧ ob.data = .plain)
    (arg : s.heap.get? a = some { cls := .type "list", data := .seq vs.toArray }) (intsA : IntsAre vs ns) (few : ns.length ≤ sizeLine)
    (F : ∀ base : Heap, K.In base → base.Ns mainGlobals mg → (∀ p ∈ cs, TabB base mg p.1 p.2) → FnAt P w K mg base CX callerA fa fd x sp) (bind : ∀ (s : Shared) (u : Value), BindsTo s fd ⟨[u], []⟩ [(x, u)])
    (begin_ : ∀ H : Hp, (∀ p ∈ cs, H p.2 = some (.tbl #[])) → SqL K H a (ns.map V.int) → sp [.ref a] H (fun v _ => v = .bl true) fun _ _ _ => False) (noerr : ∀ H e s', CX [] H s (fun _ _ _ => False) e s' → False) :
    codeAny (model P w) callerA (.call (.ref fa) ⟨[.ref a], []⟩) (fun r s' => r = .ok (.ret (.bool true)) ∧ OldK s.heap s'.heap ∧ s'.os = s.os ∧ AllBare s'.gens) s := by
  have vals := vals_ints intsA
  have many := intsA.length
  let T : List Addr := cs.map (·.2)
  let ao : Obj := { cls := .type "list", data := .seq vs.toArray }
  let H : Hp := beginH K T a ao ns
  have inT : ∀ {b : Addr}, b ∈ T → ∃ p ∈ cs, p.2 = b := fun hb => List.mem_map.mp hb
  have emp : ∀ {b : Addr}, b ∈ T → s.heap.get? b = some { cls := .none, data := .fields #[] } := fun hb => by
    obtain ⟨p, hp, rfl⟩ := inT hb
    exact tabs p hp
  have toT : ∀ {p : Addr × Addr}, p ∈ cs → p.2 ∈ T := fun hp => List.mem_map.mpr ⟨_, hp, rfl⟩
  have aT : a ∉ T := fun hb => by
    have e := (emp hb).symm.trans arg
    cases e
  have HT : ∀ p ∈ cs, H p.2 = some (.tbl #[]) := fun p hp => beginH_tab (toT hp)
  have script : SqL K H a (ns.map V.int) := by
    cases k : K.lookup a with
    | none => exact .inl (.inr ⟨ao, beginH_arg aT k⟩)
    | some o =>
      have same := (kin a o k).symm.trans arg
      cases same
      exact .inr ⟨_, vs.toArray, _, k, rfl, rfl, rfl, by rw [List.size_toArray, many]; exact few, by simpa using vals⟩
  have ok : HOk P w H s.heap := fun b u e => by
    rcases beginH_some e with ⟨hb, rfl⟩ | ⟨_, rfl, _, rfl⟩
    · exact emp hb
    · exact ⟨arg, by rw [List.length_map]; exact few, vs, _, vals, arg⟩
  -- what is neither a list nor an empty table is not of H
  have other : ∀ {b : Addr} {o : Obj}, s.heap.get? b = some o → (∀ q n, o.data ≠ .seq q n) → o.data ≠ .fields #[] → H b = none := fun {b o} e h1 h2 => by
    cases q : H b with
    | none => rfl
    | some u =>
      rcases beginH_some q with ⟨hb, _⟩ | ⟨_, rfl, _, _⟩
      · rw [emp hb] at e
        cases e
        exact absurd rfl h2
      · rw [arg] at e
        cases e
        exact absurd rfl (h1 _ _)
  have hid : ∀ {b : Addr} {o : Obj}, s.heap.get? b = some o → (∀ q n, o.data ≠ .seq q n) → o.data ≠ .fields #[] → (hidT s.heap H).get? b = some o := fun e h1 h2 => hidT_get e (other e h1 h2)
  have names : ∀ {b : Addr} {m : Str → Option Value}, s.heap.Ns b m → (hidT s.heap H).Ns b m := fun {b m} z => by
    obtain ⟨o, es, ep, e, hd, r⟩ := z
    refine ⟨o, es, ep, hid e (fun _ _ q => ?_) (fun q => ?_), hd, r⟩ <;> (rw [hd] at q; cases q)
  have kin2 : K.In (hidT s.heap H) := fun b o e => hidT_get (kin b o e) (by
    cases q : H b with
    | none => rfl
    | some u =>
      rcases beginH_some q with ⟨hb, _⟩ | ⟨_, rfl, k, _⟩
      · obtain ⟨p, hp, rfl⟩ := inT hb
        rw [tabK p hp] at e
        cases e
      · rw [k] at e
        cases e)
  have glob2 := names glob
  have notGlob : ∀ {b : Addr} {o : Obj}, s.heap.get? b = some o → (∀ es ep, o.data ≠ .dict es ep) → b ≠ mainGlobals := fun {b o} e h q => by
    obtain ⟨o2, es, ep, e2, hd, _⟩ := glob
    rw [q, e2] at e
    cases e
    exact h _ _ hd
  have tabB : ∀ p ∈ cs, TabB (hidT s.heap H) mg p.1 p.2 := fun p hp => by
    refine ⟨?_, ?_, fun q => notGlob (tabs p hp) (fun _ _ z => by cases z) q.symm⟩
    · obtain ⟨o, us, file, tf, flags, tg, inF, text, tt, e1, r1, r2, r3, r4, r5, r6, r7, r8, r9⟩ := codes p hp
      refine ⟨o, us, file, tf, flags, tg, inF, text, tt, hid e1 (fun _ _ q => ?_) (fun q => ?_), r1, r2, r3, r4, r5, r6, r7, r8, r9⟩
      · rw [r2] at q
        cases q
      · rw [r2] at q
        cases q
        simp at r3
    · obtain ⟨bm, ob, b1, b2, b3, b4, b5, b6⟩ := bmod
      have n1 : bm ≠ mainGlobals := notGlob b3 fun _ _ q => by rw [b6] at q; cases q
      have n2 : bm ≠ p.2 := fun q => by
        rw [q, tabs p hp] at b3
        cases b3
        cases b6
      refine ⟨bm, ob, b1, b2, n1, n2, hid b3 (fun _ _ q => ?_) (fun q => ?_), b4, b5, b6⟩ <;> (rw [b6] at q; cases q)
  have md : L2.Mod K mg (hidT s.heap H) := by
    obtain ⟨mc, h1, h2⟩ := nolim
    exact ⟨kin2, glob2, ⟨mb, names blt, boot⟩, ⟨mc, names h1, h2⟩⟩
  have env : Env0 P w K mg (hidT s.heap H) callerA [] s H := ⟨rfl, md, fun _ _ e => of_hidT e, Nat.le_of_eq (hidT_size _ _), trivial, fun _ hb => (nomatch hb), ok, .of_eq gens⟩
  have run := F _ kin2 glob2 tabB s H (.ref a) (.ref a) _ _ env (bind s (.ref a)) rfl (begin_ H HT script)
  refine codeAny_mono run fun r s' hr => ?_
  match r, hr with
  | .error e, hr => exact (noerr H e s' hr).elim
  | .ok .next, hr => exact hr.elim
  | .ok .brk, hr => exact hr.elim
  | .ok .cont, hr => exact hr.elim
  | .ok (.ret u), hr =>
    obtain ⟨v, H2, os, bare, un, ok2, rel, hv⟩ := hr
    have hv : v = V.bl true := hv
    subst hv
    obtain rfl : u = Value.bool true := rel
    have still : ∀ {b : Addr} {o : Obj}, b ∉ T → s.heap.get? b = some o → s'.heap.get? b = some o := fun {b o} nb e => by
      cases q : H b with
      | none => exact un.keep b o e q (by intro z; exact (nomatch (show b ∈ ([] : List Addr) from z))) (by simp)
      | some u =>
        rcases beginH_some q with ⟨hb, _⟩ | ⟨_, rfl, k, rfl⟩
        · exact absurd hb nb
        · have q2 := un.frzs b _ _ q
          have e2 : s'.heap.get? b = some ao := (ok2 b _ q2).1
          rw [arg] at e
          cases e
          exact e2
    have more : ∀ {b : Addr}, b ∈ T → ∃ m : Array Value, s'.heap.get? b = some { cls := .none, data := .fields m } := fun {b} hb => by
      obtain ⟨m, z⟩ := un.tbls b #[] (beginH_tab hb)
      exact ⟨_, ok2 b _ z⟩
    refine ⟨rfl, ⟨fun b o e => ?_, fun b o e => ?_⟩, os, bare⟩
    · by_cases hb : b ∈ T
      · obtain ⟨m, hm⟩ := more hb
        obtain ⟨p, hp, rfl⟩ := inT hb
        rw [tabs p hp] at e
        cases e
        exact .inr (.inl ⟨((codes p hp).tab (tabs p hp)).isCodeTable, rfl, #[], m, rfl, by rw [Array.empty_append]; exact hm⟩)
      · exact .inl (still hb e)
    · by_cases hb : b ∈ T
      · obtain ⟨m, hm⟩ := more hb
        exact ⟨_, hm⟩
      · exact ⟨o, still hb e⟩
/-- what is known of the law at the head's heap -/
def LawG (l : PySem.W.OpenLaw) (w : World) (K : PySem.W.Frag) (CX : CXT) (n : Nat) (x : Str) (mg : Str → Option Value) (fa : Addr) (h : Heap) : Prop :=
  ∃ (fd : FuncData) (cs : List (Addr × Addr)) (sp : Sp), (∀ p ∈ cs, h.get? p.2 = some { cls := .none, data := .fields #[] }) ∧ (∀ p ∈ cs, K.lookup p.2 = none) ∧ (∀ p ∈ cs, PySem.W.CodeHd h p.1 p.2) ∧ (∀ s u, BindsTo s fd ⟨[u], []⟩ [(x, u)]) ∧
    (∀ (H : Hp) (a : Addr) (ns : List Int), ns.length ≤ n → (∀ z ∈ ns, Builtin.Int.intBits z ≤ 1048576) → (∀ p ∈ cs, H p.2 = some (.tbl #[])) → SqL K H a (ns.map V.int) → sp [.ref a] H (fun v _ => v = .bl true) fun _ _ _ => False) ∧
    ∀ base : Heap, K.In base → base.Ns mainGlobals mg → (∀ p ∈ cs, TabB base mg p.1 p.2) → FnAt l.prog w K mg base CX callerA fa fd x sp
theorem walk_ofG {l : PySem.W.OpenLaw} {n : Nat} {q : Program} {loose : List Str} {XP : (Str → Option Value) → Heap → Prop} {YP : World → Heap → Prop} {d : DefRec} {K : Params → PySem.W.Frag} {CX : World → CXT} {x : Str}
    (hn : l.most = some n) (few : n ≤ sizeLine) (nodef : d.params.defaults = []) (kin : ∀ w h, YP w h → (K w.params).In h)
    (F : ∀ w mg fa h, YP w h → (K w.params).In h → h.Ns mainGlobals mg → mg d.name = some (.ref fa) → LawG l w (K w.params) (CX w) n x mg fa h) (noerr : ∀ w H s e s', CX w [] H s (fun _ _ _ => False) e s' → False) :
    PySem.W.WalkO q loose XP YP l.row.toRowW d [] (fun f vs => PySem.call f vs) :=
  Att.attach_callB hn nodef fun w s0 s1 mg mb fa o pm cd doc a vs ns G Y _ _ _ hmg hobj hints hlen hbits hg => by
    obtain ⟨fd, cs, sp, h1, h2, h3, h4, h5, h6⟩ := F w mg fa _ Y (kin w _ Y) G.T.g hmg
    exact law_callG (kin w _ Y) G.T.g G.T.b G.T.builtins G.T.nolimit hg h1 h2 h3 G.T.bmain hobj hints (Nat.le_trans hlen few) h6 h4 (fun H a1 a2 => h5 H a ns hlen hbits a1 a2) fun H e s' => noerr w H s1 e s'
end KD

namespace K54
open PySem PySem.Spec PyProof.Rows L2 KD
def topS (i : Nat) : Stmt := PySem.Challenge.pw_patchlots_k54_differences_looked_at.main.body.getD i (.Pass ⟨0, 0, 0, 0⟩)
variable {P : Program} {w : World} {K : PySem.W.Frag} {mg : Str → Option Value} {base : Heap}

abbrev s_is_list : Stmt := topS 5
abbrev n_is_list : List Str := ["thing"]
theorem sc_is_list : FnScope n_is_list ["thing"] (defScope s_is_list) := ⟨rfl, rfl, rfl, by decide +kernel, rfl, by decide +kernel, by decide +kernel⟩
theorem ok_is_list {f : Addr} {fd : FuncData} (F : Fun K "is_list" "is_list" s_is_list f fd) (T : Bl mg) : FnOk P w K mg base CX0 1 f fd ["thing"] (sp1 (fun _ => True) fun d => .bool (isSeq d)) := by
  refine ok1 F sc_is_list (by decide) fun cdv A outer s H E X d Q hr t _ q => ⟨_, (pss_one (ps_ret (pe_callB call_isiT (by rfl) T.b_isinstance boot_isinstance (pa_cons (pv 0) (pa_cons (pe_tup (pa_cons (pe_bltn (v := .ty "list") (by rfl) T.b_list boot_list rfl) (pa_cons (pe_bltn (v := .ty "tuple") (by rfl) T.b_tuple boot_tuple rfl) pa_nil))) pa_nil))))), fun σ En => ?_⟩
  exact s_ret (g_isSeq (g_var En rfl)) q

abbrev s_is_integer : Stmt := topS 6
abbrev n_is_integer : List Str := ["thing"]
theorem sc_is_integer : FnScope n_is_integer ["thing"] (defScope s_is_integer) := ⟨rfl, rfl, rfl, by decide +kernel, rfl, by decide +kernel, by decide +kernel⟩
def isIntD (d : PyData) : Bool := isa_int d && !isa_bool d
theorem ok_is_integer {f : Addr} {fd : FuncData} (F : Fun K "is_integer" "is_integer" s_is_integer f fd) (T : Bl mg) : FnOk P w K mg base CX0 1 f fd ["thing"] (sp1 (fun _ => True) fun d => .bool (isIntD d)) := by
  refine ok1 F sc_is_integer (by decide) fun cdv A outer s H E X d Q hr t _ q => ⟨_, (pss_one (ps_ret (pe_and (pe_callB call_isi (by rfl) T.b_isinstance boot_isinstance (pa_cons (pv 0) (pa_cons (pe_bltn (v := .ty "int") (by rfl) T.b_int boot_int rfl) pa_nil))) (pe_one (pe_not (pe_callB call_isi (by rfl) T.b_isinstance boot_isinstance (pa_cons (pv 0) (pa_cons (pe_bltn (v := .ty "bool") (by rfl) T.b_bool boot_bool rfl) pa_nil)))))))), fun σ En => ?_⟩
  exact s_ret (g_and (g_isInt (g_var En rfl)) fun _ => g_not (g_isBool (g_var En rfl))) q

abbrev s_is_number : Stmt := topS 7
abbrev n_is_number : List Str := ["thing"]
theorem sc_is_number : FnScope n_is_number ["thing"] (defScope s_is_number) := ⟨rfl, rfl, rfl, by decide +kernel, rfl, by decide +kernel, by decide +kernel⟩
def isNumD : PyData → Bool
  | .int i => decide (0 ≤ i)
  | _ => false
theorem isIntD_int {d : PyData} (h : isIntD d = true) : ∃ i, d = .int i := by
  cases d <;> simp [isIntD, isa_int, isa_bool] at h ⊢
theorem isNumD_eq (d : PyData) : (∃ i, d = .int i ∧ isIntD d = true ∧ isNumD d = decide (0 ≤ i)) ∨ (isIntD d = false ∧ isNumD d = false) := by
  cases d <;> simp [isIntD, isa_int, isa_bool, isNumD]
theorem ok_is_number {f : Addr} {fd : FuncData} (F : Fun K "is_number" "is_number" s_is_number f fd) (T : Bl mg) (O_is_integer : Own P w K mg base CX0 1 "is_integer" ["thing"] (sp1 (fun _ => True) fun d => .bool (isIntD d))) : FnOk P w K mg base CX0 2 f fd ["thing"] (sp1 (fun _ => True) fun d => .bool (isNumD d)) := by
  refine ok1 F sc_is_number (by decide) fun cdv A outer s H E X d Q hr t _ q => ⟨_, (pss_one (ps_ret (pe_and (pe_own O_is_integer hr (by decide) (by rfl) (pa_cons (pv 0) pa_nil)) (pe_one (pe_cmpR op_ge (pv 0) pe_int (nomark _)))))), fun σ En => ?_⟩
  refine s_ret ?_ q
  rcases isNumD_eq d with ⟨i, rfl, h1, h2⟩ | ⟨h1, h2⟩
  · rw [h2]
    refine g_is (g_and (a := true) (b := decide (0 ≤ i)) (g_is (g_call1 t (g_var En rfl) trivial) (by rw [h1])) fun _ => ?_) rfl
    exact g_op t (g_var En rfl) g_int rb_I0.rd
  · rw [h2]
    exact g_and (a := false) (b := false) (g_is (g_call1 t (g_var En rfl) trivial) (by rw [h1])) fun z => absurd z (by decide)

abbrev s_is_words : Stmt := topS 8
abbrev n_is_words : List Str := ["thing"]
theorem sc_is_words : FnScope n_is_words ["thing"] (defScope s_is_words) := ⟨rfl, rfl, rfl, by decide +kernel, rfl, by decide +kernel, by decide +kernel⟩
-- HINT is_words in op_notIn_sign
def hasFeed (s : Str) : Bool := decide (10 ∈ s.cps.toList)
def isWordsD : PyData → Bool
  | .str s => decide (s.length ≤ 200) && !hasFeed s
  | _ => false
theorem rb_notInSign {X : Addr → Prop} {c : Nat} {s : Str} : RB X (fun x y H Q => ∃ (c : Nat) (z : Str), x = V.str ⟨#[c]⟩ ∧ y = V.str z ∧ Q (V.bl (!decide (c ∈ z.cps.toList))) H) (.str ⟨#[c]⟩) (.str s) (!decide (c ∈ s.cps.toList)) := fun H u v _ ru rv Q q => ⟨c, s, ru.str_inv, rv.str_inv, q⟩
def wordsPre : PyData → Prop
  | .str s => s.length ≤ 1000000
  | _ => True
theorem ok_is_words {f : Addr} {fd : FuncData} (F : Fun K "is_words" "is_words" s_is_words f fd) (T : Bl mg) : FnOk P w K mg base CX0 1 f fd ["thing"] (sp1 wordsPre fun d => .bool (isWordsD d)) := by
  refine ok1 F sc_is_words (by decide) fun cdv A outer s H E X d Q hr t hp q => ⟨_, (pss_one (ps_ret (pe_and (pe_callB call_isi (by rfl) T.b_isinstance boot_isinstance (pa_cons (pv 0) (pa_cons (pe_bltn (v := .ty "str") (by rfl) T.b_str boot_str rfl) pa_nil))) (pe_and (pe_cmpR op_le (pe_callB call_len (by rfl) T.b_len boot_len (pa_cons (pv 0) pa_nil)) pe_int (nomark _)) (pe_one (pe_cmpR op_notIn_sign pe_str (pv 0) (by rfl))))))), fun σ En => ?_⟩
  refine s_ret ?_ q
  by_cases h : ∃ z, d = .str z
  · obtain ⟨z, rfl⟩ := h
    refine g_is (g_and (a := true) (b := decide (z.length ≤ 200) && !hasFeed z) (g_is (g_isStr (g_var En rfl)) rfl) fun _ => ?_) (by simp [isWordsD])
    refine g_and (a := decide (z.length ≤ 200)) ?_ fun _ => ?_
    · refine g_is (g_cmpI t (g := fun i j => decide (i ≤ j)) (g_len t (g_var En rfl) (by simpa [hasLen, wordsPre] using hp)) g_int) ?_
      show PyData.bool (decide ((z.length : Int) ≤ 200)) = _
      congr 1
      exact decide_eq_decide.mpr (by omega)
    · exact g_op t g_str (g_var En rfl) rb_notInSign.rd
  · have e1 : isa_str d = false := by cases d <;> first | rfl | exact absurd ⟨_, rfl⟩ h
    have e2 : isWordsD d = false := by cases d <;> first | rfl | exact absurd ⟨_, rfl⟩ h
    rw [e2]
    exact g_is (g_and (a := false) (b := false) (g_is (g_isStr (g_var En rfl)) (by rw [e1])) fun z => absurd z (by decide)) rfl
abbrev s_first_false : Stmt := topS 9
abbrev n_first_false : List Str := ["tests", "index", "test"]
theorem sc_first_false : FnScope n_first_false ["tests"] (defScope s_first_false) := ⟨rfl, rfl, rfl, by decide +kernel, rfl, by decide +kernel, by decide +kernel⟩
def ffD : Nat → List PyData → PyData
  | _, [] => .none
  | i, .bool false :: _ => .int (i : Nat)
  | i, _ :: r => ffD (i + 1) r
def Bools (d : PyData) : Prop := ∃ bs : List Bool, d = .list (bs.map .bool) ∧ bs.length ≤ 100000
theorem ff_true (i : Nat) (r : List PyData) : ffD i (.bool true :: r) = ffD (i + 1) r := by simp [ffD]
theorem ok_first_false {f : Addr} {fd : FuncData} (F : Fun K "first_false" "first_false" s_first_false f fd) (T : Bl mg) : FnOk P w K mg base CX0 1 f fd ["tests"] (sp1 Bools fun d => ffD 0 (itemsD d)) := by
  refine ok1 F sc_first_false (by decide) fun cdv A outer s H E X d Q hr t hp q => ⟨_, (pss_cons (ps_for PassesOwn.never rfl (pi_enum (by rfl) T.b_enumerate (pa_cons (pv 0) pa_nil)) (pg_tup (n := 2) rfl (pgs_cons (pg_name (i := 1) sc_first_false.nd rfl (by first | exact Or.inl rfl | exact Or.inr rfl)) (pgs_cons (pg_name (i := 2) sc_first_false.nd rfl (by first | exact Or.inl rfl | exact Or.inr rfl)) pgs_nil)))
    (pss_one (ps_if (pt_not (pt_val (pv 2)))
    (pss_one (ps_ret (pv 1))) pss_nil)))
    (pss_one (ps_ret pe_non))), fun σ En => ?_⟩
  obtain ⟨bs, rfl, hl⟩ := hp
  have q : ∀ w H', Same H H' → DX X H' w (ffD 0 (bs.map PyData.bool)) → Q w H' := q
  refine s_forD (gi_enum (g_var En rfl)) (fun Hb i σ' H' => Same Hb H' ∧ Trk X H' ∧ EnvOk X H' σ' [.dat (.list (bs.map .bool)), .un, .un] ∧ ffD 0 (bs.map PyData.bool) = ffD i ((bs.drop i).map PyData.bool)) (fun Hb s => ⟨Same.refl _, t.mono s, En.same s, rfl⟩) (fun Hb i σ' H' p => ⟨Kp.of p.1, p.2.1⟩) ?_ ?_
  · rintro Hb i x d σ' H' H'' sb hd ⟨p1, p2, p3, p4⟩ s2 dx
    have hi : i < bs.length := by
      have := (List.getElem?_eq_some_iff.mp hd).1
      rw [enumD_len, List.length_map] at this
      exact this
    have hb : (bs.map PyData.bool)[i]? = some (.bool bs[i]) := by rw [List.getElem?_map, List.getElem?_eq_getElem hi]; rfl
    rw [enumD_get hb] at hd
    cases hd
    have edrop : bs.drop i = bs[i] :: bs.drop (i + 1) := List.drop_eq_getElem_cons hi
    refine g_pair dx fun u w h1 h2 => ?_
    have E2 := ((p3.same s2).set (i := 1) h1).set (i := 2) h2
    refine s_if (gt_not (gt_B (g_var E2 rfl))) (fun hb H1 s3 => ?_) (fun hb H1 s3 => ?_)
    · have e : bs[i] = false := by simpa using hb
      refine s_ret (g_var (E2.same s3) rfl) fun w H2 s4 dw => q w H2 ((((sb.trans p1).trans s2).trans s3).trans s4) ?_
      rw [p4, edrop, e]
      exact dw
    · have e : bs[i] = true := by simpa using hb
      refine ⟨(p1.trans s2).trans s3, (p2.mono s2).mono s3, ?_, ?_⟩
      · have E3 := (E2.same s3)
        exact ⟨E3.len, fun j sv e => by
          match j, e with
          | 0, e => exact E3.get 0 _ e
          | 1, e => cases e; trivial
          | 2, e => cases e; trivial⟩
      · rw [p4, edrop, e]
        exact ff_true i _
  · rintro Hb σ' H' sb ⟨p1, p2, p3, p4⟩
    rw [enumD_len, List.length_map, List.drop_length] at p4
    refine s_ret (σ := σ') (X := X) (D := { nx := fun _ H' => Q .non H', rt := Q }) g_non fun w H2 s4 dw => q w H2 ((sb.trans p1).trans s4) ?_
    rw [p4]
    exact dw

-- HINT wrong_words it pi_seq
abbrev s_wrong_words : Stmt := topS 10
abbrev n_wrong_words : List Str := ["things", "thing"]
theorem sc_wrong_words : FnScope n_wrong_words ["things"] (defScope s_wrong_words) := ⟨rfl, rfl, rfl, by decide +kernel, rfl, by decide +kernel, by decide +kernel⟩
def wordsAll (d : PyData) : Prop := isSeq d = true → (itemsD d).length ≤ 100000 ∧ ∀ z ∈ itemsD d, wordsPre z
def wrongD (d : PyData) : PyData := if isSeq d then ffD 0 ((itemsD d).map fun z => .bool (isWordsD z)) else .int 0
theorem ok_wrong_words {f : Addr} {fd : FuncData} (F : Fun K "wrong_words" "wrong_words" s_wrong_words f fd) (T : Bl mg) (O_is_list : Own P w K mg base CX0 1 "is_list" ["thing"] (sp1 (fun _ => True) fun d => .bool (isSeq d)))
    (O_is_words : Own P w K mg base CX0 1 "is_words" ["thing"] (sp1 wordsPre fun d => .bool (isWordsD d))) (O_first_false : Own P w K mg base CX0 1 "first_false" ["tests"] (sp1 Bools fun d => ffD 0 (itemsD d))) :
    FnOk P w K mg base CX0 2 f fd ["things"] (sp1 wordsAll wrongD) := by
  refine ok1 F sc_wrong_words (by decide) fun cdv A outer s H E X d Q hr t hp q => ⟨_, (pss_cons (ps_if (pt_not (pt_val (pe_own O_is_list hr (by decide) (by rfl) (pa_cons (pv 0) pa_nil))))
    (pss_one (ps_ret pe_int)) pss_nil)
    (pss_one (ps_ret (pe_own O_first_false hr (by decide) (by rfl) (pa_cons (pe_lc (own := [("thing", 1)]) (g := (gName 1)) (tt := tYes) rfl sc_wrong_words.nd (pi_seq (pv 0)) (blkOk_by (N := n_wrong_words) (sc := defScope s_wrong_words) (by decide +kernel)) (fun _ _ _ _ _ => (pg_name (i := 1) sc_wrong_words.nd rfl (by first | exact Or.inl rfl | exact Or.inr rfl))) (fun _ _ _ _ _ => pts_nil) (fun _ _ _ _ _ => (pe_own O_is_words hr (by decide) (by rfl) (pa_cons (pv 1) pa_nil)))) pa_nil))))), fun σ En => ?_⟩
  refine q_if (gt_not (gt_B (g_call1 t (g_var En rfl) trivial))) (fun hb H1 s1 => ?_) (fun hb H1 s1 => ?_)
  · have e : isSeq d = false := by simpa using hb
    refine s_ret (X := X) g_int fun w H2 s2 dw => q w H2 (s1.trans s2) ?_
    unfold wrongD
    rw [e]
    exact dw
  · have e : isSeq d = true := by simpa using hb
    obtain ⟨hl, hw⟩ := hp e
    have t1 := t.mono s1
    have q' : ∀ w H', Same H1 H' → DX X H' w (ffD 0 ((itemsD d).map fun z => .bool (isWordsD z))) → Q w H' := fun w H2 s2 dw => q w H2 (s1.trans s2) (by unfold wrongD; rw [e]; exact dw)
    refine s_ret (X := X) (g_is (g_call1 t1 (d := .list ((itemsD d).map fun z => .bool (isWordsD z))) (g_lc1 (Γ2 := fun z => [.dat d, .dat z]) (fun z => .bool (isWordsD z)) t1 (gi_seq (g_var (En.same s1) rfl) e) (by omega) (fun H2 s2 z _ => tgt_name ((En.same s1).same s2)) (fun X' H2 σ2 z hz t2 E2 => g_call1 t2 (g_var E2 rfl) (hw z hz))) ⟨(itemsD d).map isWordsD, by simp [List.map_map], by simpa using hl⟩) rfl) q'

def it (d : PyData) (i : Nat) : PyData := (itemsD d).getD i .none
def ch3 (d : PyData) : Bool := isSeq d && (decide ((itemsD d).length = 3) && isNumD (it d 0))
def isChangeD (d : PyData) : Bool := ch3 d && (isNone (wrongD (it d 1)) && isNone (wrongD (it d 2))) && decide (0 < lenD (it d 1) + lenD (it d 2))
def chPre (d : PyData) : Prop := isSeq d = true → (itemsD d).length ≤ 100000 ∧ ∀ z ∈ itemsD d, wordsAll z
theorem lenD_seq {d : PyData} (h : isSeq d = true) : lenD d = (itemsD d).length := by cases d <;> first | rfl | cases h
theorem hasLen_seq {d : PyData} (h : isSeq d = true) : hasLen d = true := by cases d <;> first | rfl | cases h
theorem wrong_seq {d : PyData} (h : isNone (wrongD d) = true) : isSeq d = true := by
  cases e : isSeq d with
  | true => rfl
  | false =>
    unfold wrongD at h
    rw [e] at h
    simp [isNone] at h
theorem it_at {d : PyData} {i : Nat} {k : Int} (hk : k = (i : Int)) (h : i < (itemsD d).length) : atI (itemsD d) k = some (it d i) := by
  subst hk
  refine atI_nat ?_
  unfold it
  rw [List.getElem?_eq_getElem h, List.getD_eq_getElem?_getD, List.getElem?_eq_getElem h]
  rfl
theorem it_mem {d : PyData} {i : Nat} (h : i < (itemsD d).length) : it d i ∈ itemsD d := by
  unfold it
  rw [List.getD_eq_getElem?_getD, List.getElem?_eq_getElem h]
  exact List.getElem_mem h
theorem eqv_int (i j : Int) : PyData.eqv (.int i) (.int j) = decide (i = j) := by
  simp only [PyData.eqv]
  by_cases h : i = j
  · subst h; simp
  · rw [decide_eq_false h]; simpa using h
theorem gt_neI {X : Addr → Prop} {ta tb : TE} {σ : L2.St} {H : Hp} {K : PySem.W.Frag} {i j : Int} (t : Trk X H) (ha : G X ta σ H (.int i)) (hb : G X tb σ H (.int j)) : GT (tTest (tOp (rNeD K) ta tb)) σ H (!decide (i = j)) := by
  rw [← eqv_int]
  exact gt_neD t ha hb rfl rfl (shaped_int i) (shaped_int j)
theorem gt_eqI {X : Addr → Prop} {ta tb : TE} {σ : L2.St} {H : Hp} {K : PySem.W.Frag} {i j : Int} (t : Trk X H) (ha : G X ta σ H (.int i)) (hb : G X tb σ H (.int j)) : GT (tTest (tOp (rEqD K) ta tb)) σ H (decide (i = j)) := by
  rw [← eqv_int]
  exact gt_eqD t ha hb rfl rfl (shaped_int i) (shaped_int j)
def wsD (ws : List Str) : PyData := .list (ws.map .str)
def chD (p : Int) (os ns : List Str) : PyData := .tuple [.int p, wsD os, wsD ns]
def WsOk (ws : List Str) : Prop := ws.length ≤ 1000 ∧ ∀ z ∈ ws, PyData.strOk z = true
theorem sIx_nn {n d : Nat} {p : Int} (h : 0 ≤ p) : HT.sIx n d (some p) = min p.toNat n := by
  show (if p < 0 then (p + (n : Int)).toNat else min p.toNat n) = min p.toNat n
  rw [if_neg (by omega)]
theorem cutD_map (ws : List Str) (lo hi : Option Int) : cutPD (ws.map PyData.str) lo hi = ((ws.drop (HT.sIx ws.length 0 lo)).take (HT.sIx ws.length ws.length hi - HT.sIx ws.length 0 lo)).map PyData.str := by
  unfold cutPD
  rw [List.length_map, List.map_take, List.map_drop]
theorem cut_lo (ws : List Str) {p q : Int} (hp : 0 ≤ p) (hq : p ≤ q) : cutPD (ws.map PyData.str) (some p) (some q) = ((ws.drop p.toNat).take (q.toNat - p.toNat)).map PyData.str := by
  rw [cutD_map, sIx_nn hp, sIx_nn (by omega)]
  congr 1
  by_cases h : p.toNat ≤ ws.length
  · rw [Nat.min_eq_left h]
    apply List.ext_getElem?
    intro n
    simp only [List.getElem?_take, List.getElem?_drop]
    by_cases hn : n < q.toNat - p.toNat
    · rw [if_pos hn]
      split
      · rfl
      · exact (List.getElem?_eq_none (by omega)).symm
    · rw [if_neg hn, if_neg (by omega)]
  · rw [List.drop_eq_nil_of_le (by omega), List.drop_eq_nil_of_le (by omega), List.take_nil, List.take_nil]
theorem cut_hi (ws : List Str) {q : Int} (hq : 0 ≤ q) : cutPD (ws.map PyData.str) none (some q) = (ws.take q.toNat).map PyData.str := by
  rw [cutD_map, sIx_nn hq, HT.sIx_none, List.drop_zero, Nat.sub_zero]
  congr 1
  by_cases h : q.toNat ≤ ws.length
  · rw [Nat.min_eq_left h]
  · rw [Nat.min_eq_right (by omega), List.take_of_length_le (Nat.le_refl _), List.take_of_length_le (by omega)]
theorem cut_from (ws : List Str) {p : Int} (hp : 0 ≤ p) : cutPD (ws.map PyData.str) (some p) none = (ws.drop p.toNat).map PyData.str := by
  rw [cutD_map, sIx_nn hp, HT.sIx_none]
  congr 1
  by_cases h : p.toNat ≤ ws.length
  · rw [Nat.min_eq_left h, List.take_of_length_le (by rw [List.length_drop]; omega)]
  · rw [Nat.min_eq_right (by omega), List.drop_eq_nil_of_le (Nat.le_refl _), List.drop_eq_nil_of_le (by omega), List.take_nil]
theorem sl_from {X : Addr → Prop} {te ta : TE} {σ : L2.St} {H : Hp} {ws : List Str} {p : Int} (t : Trk X H) (h : G X te σ H (wsD ws)) (ha : G X ta σ H (.int p)) (hp : 0 ≤ p) : G X (tSl (rSlL K) te (tPart ta) tNoPart) σ H (wsD (ws.drop p.toNat)) := by
  refine g_is (g_sl t h (go_some ha) go_none) ?_
  rw [cut_from _ hp]
  rfl
theorem sl_to {X : Addr → Prop} {te ta : TE} {σ : L2.St} {H : Hp} {ws : List Str} {p : Int} (t : Trk X H) (h : G X te σ H (wsD ws)) (ha : G X ta σ H (.int p)) (hp : 0 ≤ p) : G X (tSl (rSlL K) te tNoPart (tPart ta)) σ H (wsD (ws.take p.toNat)) := by
  refine g_is (g_sl t h go_none (go_some ha)) ?_
  rw [cut_hi _ hp]
  rfl
theorem sl_mid {X : Addr → Prop} {te ta tb : TE} {σ : L2.St} {H : Hp} {ws : List Str} {p q : Int} (t : Trk X H) (h : G X te σ H (wsD ws)) (ha : G X ta σ H (.int p)) (hb : G X tb σ H (.int q)) (hp : 0 ≤ p) (hq : p ≤ q) : G X (tSl (rSlL K) te (tPart ta) (tPart tb)) σ H (wsD ((ws.drop p.toNat).take (q.toNat - p.toNat))) := by
  refine g_is (g_sl t h (go_some ha) (go_some hb)) ?_
  rw [cut_lo _ hp hq]
  rfl
theorem len_ws {X : Addr → Prop} {te : TE} {σ : L2.St} {H : Hp} {ws : List Str} (t : Trk X H) (h : G X te σ H (wsD ws)) : G X (tCB (fun xs H Q => ∃ x n, xs = [x] ∧ LenV K x H n ∧ Q (V.int n) H) (tCons te tNil)) σ H (.int (ws.length : Int)) := by
  refine g_is (g_len t h rfl) ?_
  show PyData.int (((ws.map PyData.str).length : Nat) : Int) = _
  rw [List.length_map]
theorem cat_ws {X : Addr → Prop} {ta tb : TE} {σ : L2.St} {H : Hp} {ws zs : List Str} (t : Trk X H) (ha : G X ta σ H (wsD ws)) (hb : G X tb σ H (wsD zs)) (hl : ws.length + zs.length ≤ 1000000) : G X (tOp rAddA ta tb) σ H (wsD (ws ++ zs)) := by
  refine g_is (g_cat t ha hb (by rw [List.length_map, List.length_map]; exact hl)) ?_
  rw [← List.map_append]
  rfl
theorem catn_ws {X : Addr → Prop} {ta tb : TE} {σ : L2.St} {H : Hp} {ws zs : List Str} (t : Trk X H) (ha : G X ta σ H (wsD ws)) (hb : G X tb σ H (wsD zs)) (hl : ws.length + zs.length ≤ 1000000) : GN X (tOp rAddA ta tb) σ H (wsD (ws ++ zs)) := by
  refine GN.is (gn_cat t ha hb (by rw [List.length_map, List.length_map]; exact hl)) ?_
  rw [← List.map_append]
  rfl
theorem WsOk.take {ws : List Str} (h : WsOk ws) (n : Nat) : WsOk (ws.take n) := ⟨by rw [List.length_take]; have := h.1; omega, fun z hz => h.2 z (List.mem_of_mem_take hz)⟩
theorem WsOk.drop {ws : List Str} (h : WsOk ws) (n : Nat) : WsOk (ws.drop n) := ⟨by rw [List.length_drop]; have := h.1; omega, fun z hz => h.2 z (List.mem_of_mem_drop hz)⟩

def fitsB (ws : List Str) (p : Int) (os : List Str) : Bool := decide (p ≤ ws.length) && decide ((ws.drop p.toNat).take os.length = os)
/-- a text and a told change -/
def TC (a b : PyData) : Prop := ∃ ws p os ns, a = wsD ws ∧ b = chD p os ns ∧ WsOk ws ∧ WsOk os ∧ WsOk ns ∧ 0 ≤ p
def wsOf (d : PyData) : List Str := (itemsD d).map fun z => match z with | .str s => s | _ => default
theorem wsOf_wsD (ws : List Str) : wsOf (wsD ws) = ws := by
  show (ws.map PyData.str).map _ = ws
  rw [List.map_map]
  exact (List.map_congr_left fun _ _ => rfl).trans (List.map_id ws)
def intOf : PyData → Int
  | .int i => i
  | _ => 0
end K54

namespace K54
open PySem PySem.Spec PyProof.Rows L2 KD
-- RAISES change_of checked_text made_by turned_back
variable {P : Program} {w : World} {K : PySem.W.Frag} {mg : Str → Option Value} {base : Heap}
theorem ffD_none : ∀ {ds : List PyData} {i : Nat}, isNone (ffD i (ds.map fun z => .bool (isWordsD z))) = true → ∀ z ∈ ds, isWordsD z = true
  | [], _, _, z, hz => by cases hz
  | d :: ds, i, h, z, hz => by
    cases e : isWordsD d with
    | false =>
      rw [List.map_cons, e] at h
      simp [ffD, isNone] at h
    | true =>
      rw [List.map_cons, e, ff_true] at h
      rcases List.mem_cons.mp hz with rfl | hm
      · exact e
      · exact ffD_none h z hm
theorem words_str {d : PyData} (h : isWordsD d = true) : ∃ s, d = .str s := by
  cases d <;> first | exact ⟨_, rfl⟩ | cases h
theorem ws_map : ∀ {ds : List PyData}, (∀ z ∈ ds, isWordsD z = true) → ds = (ds.map fun z => match z with | .str s => s | _ => default).map PyData.str
  | [], _ => rfl
  | d :: ds, h => by
    obtain ⟨s, rfl⟩ := words_str (h d List.mem_cons_self)
    rw [List.map_cons, List.map_cons, ← ws_map fun z hz => h z (List.mem_cons_of_mem _ hz)]
theorem ws_of {d : PyData} (h : isNone (wrongD d) = true) : PyData.list (itemsD d) = wsD (wsOf d) := by
  have hs := wrong_seq h
  unfold wrongD at h
  rw [hs] at h
  show PyData.list (itemsD d) = PyData.list ((wsOf d).map PyData.str)
  congr 1
  exact ws_map (ffD_none h)

end K54

/-! The spring of draws. -/
namespace K54
open PySem PySem.Spec PyProof.Rows L2 KD
variable {P : Program} {w : World} {K : PySem.W.Frag} {mg : Str → Option Value} {base : Heap}
/-- the spring at st, its cells at cl: b draws done -/
structure SpAt (st cl : Addr) (ms : List Int) (a b c : Int) (H : Hp) : Prop where
  hs : H st = some (.lst [.ref cl, .int a, .int b, .int c])
  hc : H cl = some (.lst (ms.map V.int))
  ne : st ≠ cl
  a0 : 0 ≤ a
  b0 : 0 ≤ b
  c0 : 0 ≤ c
  c1 : c < 2147483647
  ml : ms.length ≤ 100000
def SpOk (st cl : Addr) (n : Nat) (H : Hp) : Prop := ∃ ms a b c, SpAt st cl ms a b c H ∧ b ≤ (n : Int)
/-- all but the spring stays -/
def KpS (st cl : Addr) (H H' : Hp) : Prop := ∀ a o, a ≠ st → a ≠ cl → H a = some o → H' a = some o
theorem KpS.refl {st cl : Addr} {H : Hp} : KpS st cl H H := fun _ _ _ _ e => e
theorem KpS.trans {st cl : Addr} {H H1 H2 : Hp} (h : KpS st cl H H1) (k : KpS st cl H1 H2) : KpS st cl H H2 := fun a o n m e => k a o n m (h a o n m e)
theorem KpS.of {st cl : Addr} {H H' : Hp} (h : Same H H') : KpS st cl H H' := fun a o _ _ e => h a o e
theorem KpS.kp {X : Addr → Prop} {st cl : Addr} {H H' : Hp} (h : KpS st cl H H') (x1 : X st) (x2 : X cl) : Kp X H H' := fun a o n e => h a o (fun z => n (z ▸ x1)) (fun z => n (z ▸ x2)) e
theorem SpOk.trk {X : Addr → Prop} {st cl : Addr} {n : Nat} {H H' : Hp} (h : SpOk st cl n H') (k : KpS st cl H H') (t : Trk X H) : Trk X H' := fun a x => by
  obtain ⟨ms, a', b, c, S, _⟩ := h
  by_cases h1 : a = st
  · subst h1
    exact ⟨_, S.hs⟩
  · by_cases h2 : a = cl
    · subst h2
      exact ⟨_, S.hc⟩
    · obtain ⟨o, e⟩ := t a x
      exact ⟨o, k a o h1 h2 e⟩
theorem SpAt.same {st cl : Addr} {ms : List Int} {a b c : Int} {H H' : Hp} (S : SpAt st cl ms a b c H) (s : Same H H') : SpAt st cl ms a b c H' := ⟨s _ _ S.hs, s _ _ S.hc, S.ne, S.a0, S.b0, S.c0, S.c1, S.ml⟩
theorem SpOk.same {st cl : Addr} {n : Nat} {H H' : Hp} (h : SpOk st cl n H) (s : Same H H') : SpOk st cl n H' := by
  obtain ⟨ms, a, b, c, S, hb⟩ := h
  exact ⟨ms, a, b, c, S.same s, hb⟩
theorem SpOk.le {st cl : Addr} {n m : Nat} {H : Hp} (h : SpOk st cl n H) (hm : n ≤ m) : SpOk st cl m H := by
  obtain ⟨ms, a, b, c, S, hb⟩ := h
  exact ⟨ms, a, b, c, S, by omega⟩
theorem KpS.put {st cl p : Addr} {H : Hp} {o : HO} (h : p = st ∨ p = cl) : KpS st cl H (upd H p o) := fun a u n m e => by
  rw [upd_ne (fun z => by rcases h with h | h; exact n (z.trans h); exact m (z.trans h))]
  exact e
section
variable {σ : L2.St} {H : Hp} {i : Nat} {p st cl : Addr} {xs : List V} {v : V} {k : Int} {Q : VK} {ms : List Int} {a b c : Int}
theorem ix_at (hv : σ[i]? = some (some (.ref p))) (hp : H p = some (.lst xs)) (hx : atI xs k = some v) (q : Q v H) : tOp (rIx K) (tVar i) (tC (.int k)) σ H Q := ⟨_, hv, .inl ⟨p, xs, k, v, rfl, rfl, SqL.of hp, hx, q⟩⟩
theorem set_at {R : L2.St → Hp → Prop} {j : Nat} (hv : σ[i]? = some (some (.ref p))) (hp : H p = some (.lst xs)) (hx : ixN xs.length k = some j) (q : R σ (upd H p (.lst (xs.set j v)))) : gSub (tVar i) (tC (.int k)) rSetL v σ H R := ⟨_, hv, p, xs, k, j, rfl, rfl, hp, hx, q⟩
theorem op2 {r : R2} {ta tb : TE} (h : ta σ H fun x H1 => tb σ H1 fun y H2 => r x y H2 Q) : tOp r ta tb σ H Q := h
theorem SpAt.put1 (S : SpAt st cl ms a b c H) {z : Int} (h : 0 ≤ z) : SpAt st cl ms z b c (upd H st (.lst [.ref cl, .int z, .int b, .int c])) := ⟨upd_same, by rw [upd_ne (Ne.symm S.ne)]; exact S.hc, S.ne, h, S.b0, S.c0, S.c1, S.ml⟩
theorem SpAt.put2 (S : SpAt st cl ms a b c H) {z : Int} (h : 0 ≤ z) : SpAt st cl ms a z c (upd H st (.lst [.ref cl, .int a, .int z, .int c])) := ⟨upd_same, by rw [upd_ne (Ne.symm S.ne)]; exact S.hc, S.ne, S.a0, h, S.c0, S.c1, S.ml⟩
theorem SpAt.put3 (S : SpAt st cl ms a b c H) {z : Int} (h : 0 ≤ z) (h2 : z < 2147483647) : SpAt st cl ms a b z (upd H st (.lst [.ref cl, .int a, .int b, .int z])) := ⟨upd_same, by rw [upd_ne (Ne.symm S.ne)]; exact S.hc, S.ne, S.a0, S.b0, h, h2, S.ml⟩
theorem SpAt.pop (S : SpAt st cl ms a b c H) {m : Int} {r : List Int} (e : ms = m :: r) : SpAt st cl r a b c (upd H cl (.lst (r.map V.int))) := ⟨by rw [upd_ne S.ne]; exact S.hs, upd_same, S.ne, S.a0, S.b0, S.c0, S.c1, by have := S.ml; rw [e, List.length_cons] at this; omega⟩
end
theorem dp_ints {H : Hp} : ∀ ms : List Int, DpAll K H (ms.map V.int) (ms.map PyData.int)
  | [] => .nil
  | m :: r => .cons (.int m) (dp_ints r)
theorem canLay_ints : ∀ ms : List Int, PyData.canLayAll0 (ms.map PyData.int) = true
  | [] => by simp [PyData.canLayAll0]
  | m :: r => by simp [PyData.canLayAll0, PyData.canLay0, canLay_ints r]
theorem depth_ints : ∀ ms : List Int, PyData.depthAll (ms.map PyData.int) ≤ 1
  | [] => by simp [PyData.depthAll]
  | m :: r => by
    have := depth_ints r
    simp only [List.map_cons, PyData.depthAll, PyData.depth]
    omega
theorem shaped_ints (ms : List Int) : SeqAt.shaped (.list (ms.map PyData.int)) = true := by
  have := depth_ints ms
  have h2 : PyData.depth (.list (ms.map PyData.int)) ≤ 64 := by
    simp only [PyData.depth]
    omega
  show ((PyData.list (ms.map PyData.int)).canLay0 && decide ((PyData.list (ms.map PyData.int)).depth ≤ 64)) = true
  rw [Bool.and_eq_true]
  exact ⟨by simp only [PyData.canLay0]; exact canLay_ints ms, decide_eq_true h2⟩

abbrev s__law_start : Stmt := topS 22
abbrev n__law_start : List Str := ["_law_script"]
theorem sc__law_start : FnScope n__law_start ["_law_script"] (defScope s__law_start) := ⟨rfl, rfl, rfl, by decide +kernel, rfl, by decide +kernel, by decide +kernel⟩
def spStart (K : PySem.W.Frag) : Sp := fun vs H Q _ => ∃ (a : Addr) (ns : List Int), vs = [.ref a] ∧ SqL K H a (ns.map V.int) ∧ ns.length ≤ 63 ∧ ∀ st cl H', Same H H' → H st = none → H cl = none → SpOk st cl 0 H' → Q (.ref st) H'
theorem ok_start {f : Addr} {fd : FuncData} (F : Fun K "_law_start" "_law_start" s__law_start f fd) (T : Bl mg) : FnOk P w K mg base CX0 1 f fd ["_law_script"] (spStart K) := by
  refine F.ok sc__law_start (fun vs H Q E h => ?_) (fun cdv A outer s H vs Q E hr h => ?_)
  · obtain ⟨a, ns, rfl, _⟩ := h
    rfl
  · obtain ⟨a, ns, rfl, hS, hl, k⟩ := h
    refine ⟨_, (pss_one (ps_ret (pe_lst (pa_cons (pe_callTy call_list_of (by rfl) T.b_list boot_list (pa_cons (pv 0) pa_nil)) (pa_cons pe_int (pa_cons pe_int (pa_cons pe_int pa_nil))))))), ?_⟩
    refine ⟨_, rfl, a, _, rfl, .inl hS, fun cl hcl => ⟨by show 4 ≤ sizeLine; decide, fun st hst => ?_⟩⟩
    have hst0 : H st = none := (Same.upd hcl).free hst
    have ne : st ≠ cl := fun e => by
      rw [e, upd_same] at hst
      cases hst
    refine k st cl _ ((Same.upd hcl).trans (Same.upd hst)) hst0 hcl ⟨ns, 0, 0, 11, ⟨upd_same, by rw [upd_ne (Ne.symm ne)]; exact upd_same, ne, by omega, by omega, by omega, by omega, by omega⟩, by omega⟩

abbrev s__law_draw : Stmt := topS 23
abbrev n__law_draw : List Str := ["_law_stream", "_law_many", "_law_cell", "_law_digit", "_law_mixed_here"]
theorem sc__law_draw : FnScope n__law_draw ["_law_stream", "_law_many"] (defScope s__law_draw) := ⟨rfl, rfl, rfl, by decide +kernel, rfl, by decide +kernel, by decide +kernel⟩
def spDraw : Sp := fun vs H Q _ => ∃ (st cl : Addr) (n : Nat) (m : Int), vs = [.ref st, .int m] ∧ SpOk st cl n H ∧ n ≤ 1000000000 ∧ 0 < m ∧ m < 1000000 ∧ ∀ i H', 0 ≤ i → i < m → KpS st cl H H' → SpOk st cl (n + 1) H' → Q (.int i) H'
def lenAt (cl : Addr) (H : Hp) : Nat := match H cl with
  | some (.lst xs) => xs.length
  | _ => 0
theorem ok_draw {f : Addr} {fd : FuncData} (F : Fun K "_law_draw" "_law_draw" s__law_draw f fd) (T : Bl mg) : FnOk P w K mg base CX0 1 f fd ["_law_stream", "_law_many"] spDraw := by
  refine F.ok sc__law_draw (fun vs H Q E h => ?_) (fun cdv A outer s H vs Q E hr h => ?_)
  · obtain ⟨st, cl, n, m, rfl, _⟩ := h
    rfl
  · obtain ⟨st, cl, n, m, rfl, ⟨ms, a, b, c, S, hbn⟩, hn, hm, hm2, k⟩ := h
    refine ⟨_, (pss_cons (ps_asg (pe_op op_addA (pe_ix ix_seq (pv 0) pe_int (fun _ _ => rfl)) pe_int) (pg_sub (pv 0) pe_int set_list))
    (Evl.pss_cut (ps_while PassesOwn.never (PW.pt (pw_and (pt_cmpR (op_eqD hr.units) (pe_ix ix_seq (pv 0) pe_int (fun _ _ => rfl)) pe_int (nomark _)) (pw_and1 (pt_cmpR (op_neD hr.units) (pe_ix ix_seq (pv 0) pe_int (fun _ _ => rfl)) (pe_lst pa_nil) (nomark _)))))
    (pss_cons (ps_set (i := 2) sc__law_draw.nd rfl (by first | exact Or.inl rfl | exact Or.inr rfl) (pe_bm PySem.F.plainAttrs_list PySem.F.slot_list_pop PySem.F.type_list_pop mt_popAt (pe_ix ix_seq (pv 0) pe_int (fun _ _ => rfl)) (pa_cons pe_int pa_nil)))
    (pss_cons (ps_asg (pe_op op_mod (pe_callTy call_int1 (by rfl) T.b_int boot_int (pa_cons (pe_op op_addA (pe_op op_addA (pe_op op_mulA (pe_ix ix_seq (pv 0) pe_int (fun _ _ => rfl)) pe_int) (pv 2)) pe_int) pa_nil)) pe_int) (pg_sub (pv 0) pe_int set_list))
    (pss_one (ps_asg (pe_ifExp (pt_cmpR op_ge (pv 2) (pe_op op_pow pe_int pe_int) (nomark _)) (pv 2) pe_int) (pg_sub (pv 0) pe_int set_list))))))
    (pss_cons (ps_if (pt_cmpR op_gt (pe_ix ix_seq (pv 0) pe_int (fun _ _ => rfl)) pe_int (nomark _))
    (pss_cons (ps_set (i := 3) sc__law_draw.nd rfl (by first | exact Or.inl rfl | exact Or.inr rfl) (pe_op op_mod (pe_callTy call_int1 (by rfl) T.b_int boot_int (pa_cons (pe_ix ix_seq (pv 0) pe_int (fun _ _ => rfl)) pa_nil)) (pv 1)))
    (pss_cons (ps_asg (pe_op op_fdiv (pe_ix ix_seq (pv 0) pe_int (fun _ _ => rfl)) (pv 1)) (pg_sub (pv 0) pe_int set_list))
    (pss_one (ps_ret (pv 3))))) pss_nil)
    (pss_cons (ps_set (i := 4) sc__law_draw.nd rfl (by first | exact Or.inl rfl | exact Or.inr rfl) (pe_op op_mod (pe_callTy call_int1 (by rfl) T.b_int boot_int (pa_cons (pe_op op_pow (pe_op op_addA (pe_op op_addA (pe_ix ix_seq (pv 0) pe_int (fun _ _ => rfl)) (pe_op op_mulA pe_int (pe_ix ix_seq (pv 0) pe_int (fun _ _ => rfl)))) pe_int) pe_int) pa_nil)) pe_int))
    (pss_one (ps_ret (pe_op op_mod (pe_op op_mod (pe_callTy call_int1 (by rfl) T.b_int boot_int (pa_cons (pe_op op_pow (pe_op op_addA (pe_op op_addA (pe_op op_mulA (pv 4) pe_int) (pe_op op_mulA pe_int (pe_ix ix_seq (pv 0) pe_int (fun _ _ => rfl)))) pe_int) pe_int) pa_nil)) pe_int) (pv 1)))))))), ?_⟩
    -- stream[2] = stream[2] + 1
    refine ix_at (i := 0) rfl S.hs (v := .int b) rfl ?_
    refine .inl ⟨b, 1, rfl, rfl, ?_⟩
    refine set_at (i := 0) (j := 2) rfl S.hs rfl ?_
    have S1 : SpAt st cl ms a (b + 1) c (upd H st (.lst [.ref cl, .int a, .int (b + 1), .int c])) := S.put2 (by have := S.b0; omega)
    have k1 : KpS st cl H (upd H st (.lst [.ref cl, .int a, .int (b + 1), .int c])) := KpS.put (.inl rfl)
    -- the loop
    refine ⟨fun σ H' => ∃ ms' a' c' x, σ = [some (.ref st), some (.int m), x, none, none] ∧ SpAt st cl ms' a' (b + 1) c' H' ∧ KpS st cl H H',
      ⟨fun l σ H' => ∃ ms' a' c' x, l = ms'.length ∧ σ = [some (.ref st), some (.int m), x, none, none] ∧ SpAt st cl ms' a' (b + 1) c' H' ∧ KpS st cl H H', ⟨ms.length, ms, a, c, none, rfl, rfl, S1, k1⟩, ?_⟩, ?_⟩
    · rintro l σ H1 ⟨ms1, a1, c1, x1, rfl, rfl, S2, k2⟩
      refine ix_at (i := 0) rfl S2.hs (v := .int a1) rfl ?_
      refine ⟨.int a1, .int 0, .int _, .int _, shaped_int _, shaped_int _, _, rfl, ?_⟩
      rw [eqv_int]
      by_cases ha : a1 = 0
      · rw [decide_eq_true ha]
        refine iteT ?_
        refine ix_at (i := 0) rfl S2.hs (v := .ref cl) rfl ?_
        refine ⟨by show 0 ≤ sizeLine; decide, fun p hp => ?_⟩
        have S3 := S2.same (Same.upd (o := .lst []) hp)
        refine ⟨.list (ms1.map .int), .list [], .lst (SqL.of S3.hc) (dp_ints ms1), .lst (SqL.of upd_same) .nil, shaped_ints ms1, shaped_ints [], _, rfl, ?_⟩
        have k3 : KpS st cl H (upd H1 p (.lst [])) := k2.trans (KpS.of (Same.upd hp))
        cases ms1 with
        | nil =>
          refine iteF ?_
          exact ⟨[], a1, c1, x1, rfl, S3, k3⟩
        | cons m1 r1 =>
          refine iteT ?_
          refine ⟨fun σ H' => ∃ a' c' x, σ = [some (.ref st), some (.int m), x, none, none] ∧ SpAt st cl r1 a' (b + 1) c' H' ∧ KpS st cl H H', fun σ' H' ⟨a', c', x, e, S', k'⟩ => ⟨r1.length, Nat.lt_succ_self _, r1, a', c', x, rfl, e, S', k'⟩, ?_⟩
          -- cell = stream[0].pop(0)
          refine ix_at (i := 0) rfl S3.hs (v := .ref cl) rfl ?_
          refine ⟨.inl ⟨rfl, _, SqL.of S3.hc⟩, cl, _, 0, 0, .int m1, rfl, rfl, S3.hc, by decide, by decide, (by simp [seqIndex?]), rfl, ?_⟩
          have S4 := S3.pop rfl
          have k4 := k3.trans (KpS.put (H := upd H1 p (.lst [])) (o := .lst (r1.map V.int)) (st := st) (.inr rfl))
          -- stream[3] = int(stream[3] * 8191 + cell + 3) % 2147483647
          refine ix_at (i := 0) rfl S4.hs (v := .int c1) rfl ?_
          refine .inl ⟨c1, 8191, rfl, rfl, .inr ⟨by decide, by decide⟩, ?_⟩
          refine ⟨.int m1, rfl, .inl ⟨_, _, rfl, rfl, ?_⟩⟩
          refine .inl ⟨_, _, rfl, rfl, ?_⟩
          refine .inl ⟨_, rfl, ?_⟩
          refine ⟨_, _, rfl, rfl, (by decide : (0 : Int) < 2147483647), ?_⟩
          refine set_at (i := 0) (j := 3) rfl S4.hs rfl ?_
          have S5 := S4.put3 (z := (c1 * 8191 + m1 + 3) % 2147483647) (Int.emod_nonneg _ (by decide)) (Int.emod_lt_of_pos _ (by decide))
          have k5 := k4.trans (KpS.put (H := upd (upd H1 p (.lst [])) cl (.lst (r1.map V.int))) (o := .lst [.ref cl, .int a1, .int (b + 1), .int ((c1 * 8191 + m1 + 3) % 2147483647)]) (st := st) (cl := cl) (.inl rfl))
          -- stream[1] = cell if cell >= 10 ** 18 else 0
          refine ⟨.int m1, rfl, ?_⟩
          refine ⟨10, 18, rfl, rfl, ⟨by decide, by decide, by decide⟩, ?_⟩
          refine ⟨_, _, rfl, rfl, _, rfl, ?_⟩
          by_cases hg : (10 : Int) ^ (18 : Int).toNat ≤ m1
          · rw [decide_eq_true hg]
            refine iteT ?_
            refine ⟨.int m1, rfl, ?_⟩
            refine set_at (i := 0) (j := 1) rfl S5.hs rfl ?_
            exact ⟨m1, _, _, rfl, S5.put1 (Int.le_trans (by decide) hg), k5.trans (KpS.put (.inl rfl))⟩
          · rw [decide_eq_false hg]
            refine iteF ?_
            refine set_at (i := 0) (j := 1) rfl S5.hs rfl ?_
            exact ⟨0, _, _, rfl, S5.put1 (by decide), k5.trans (KpS.put (.inl rfl))⟩
      · rw [decide_eq_false ha]
        refine iteF ?_
        refine iteF ?_
        exact ⟨ms1, a1, c1, x1, rfl, S2, k2⟩
    · rintro σ H1 ⟨ms1, a1, c1, x1, rfl, S2, k2⟩
      -- if stream[1] > 0
      refine ix_at (i := 0) rfl S2.hs (v := .int a1) rfl ?_
      refine ⟨a1, 0, rfl, rfl, _, rfl, ?_⟩
      by_cases ha : 0 < a1
      · rw [decide_eq_true ha]
        refine iteT ?_
        refine ix_at (i := 0) rfl S2.hs (v := .int a1) rfl ?_
        refine .inl ⟨a1, rfl, ?_⟩
        refine ⟨.int m, rfl, a1, m, rfl, rfl, hm, ?_⟩
        refine ix_at (i := 0) rfl S2.hs (v := .int a1) rfl ?_
        refine ⟨.int m, rfl, a1, m, rfl, rfl, ⟨hm, by omega⟩, ?_⟩
        refine set_at (i := 0) (j := 1) rfl S2.hs rfl ?_
        refine ⟨.int (a1 % m), rfl, ?_⟩
        exact k _ _ (Int.emod_nonneg _ (by omega)) (Int.emod_lt_of_pos _ hm) (k2.trans (KpS.put (.inl rfl))) ⟨ms1, _, _, _, S2.put1 (Int.ediv_nonneg (by omega) (by omega)), by omega⟩
      · rw [decide_eq_false ha]
        refine iteF ?_
        -- mixed
        refine ix_at (i := 0) rfl S2.hs (v := .int c1) rfl ?_
        refine ix_at (i := 0) rfl S2.hs (v := .int (b + 1)) rfl ?_
        refine .inl ⟨7919, b + 1, rfl, rfl, .inl ⟨by decide, by decide⟩, ?_⟩
        refine .inl ⟨_, _, rfl, rfl, ?_⟩
        refine .inl ⟨_, _, rfl, rfl, ?_⟩
        have c0 := S2.c0
        have c1' := S2.c1
        have b0 := S.b0
        refine ⟨_, 5, rfl, rfl, ⟨by decide, by decide, by omega⟩, ?_⟩
        refine .inl ⟨_, rfl, ?_⟩
        refine ⟨_, _, rfl, rfl, (by decide : (0 : Int) < 2147483629), ?_⟩
        show gName 4 (V.int ((c1 + 7919 * (b + 1) + 104729) ^ (5 : Int).toNat % 2147483629)) _ _ _
        generalize hx : (c1 + 7919 * (b + 1) + 104729) ^ (5 : Int).toNat % 2147483629 = x
        have x0 : 0 ≤ x := by rw [← hx]; exact Int.emod_nonneg _ (by decide)
        have x1' : x < 2147483629 := by rw [← hx]; exact Int.emod_lt_of_pos _ (by decide)
        refine ⟨.int x, rfl, .inl ⟨x, 48271, rfl, rfl, .inr ⟨by decide, by decide⟩, ?_⟩⟩
        refine ix_at (i := 0) rfl S2.hs (v := .int (b + 1)) rfl ?_
        refine .inl ⟨30011, b + 1, rfl, rfl, .inl ⟨by decide, by decide⟩, ?_⟩
        refine .inl ⟨_, _, rfl, rfl, ?_⟩
        refine .inl ⟨_, _, rfl, rfl, ?_⟩
        refine ⟨_, 3, rfl, rfl, ⟨by decide, by decide, by omega⟩, ?_⟩
        refine .inl ⟨_, rfl, ?_⟩
        refine ⟨_, _, rfl, rfl, (by decide : (0 : Int) < 1000000007), ?_⟩
        refine ⟨.int m, rfl, _, m, rfl, rfl, hm, ?_⟩
        exact k _ _ (Int.emod_nonneg _ (by omega)) (Int.emod_lt_of_pos _ hm) k2 ⟨ms1, _, _, _, S2, by omega⟩
end K54

/-! Draws over data. -/
namespace K54
-- HINT _law_mixed lcte tBM K "list" rPopAt (tVar 2) (tCons (tCall spDraw [] E0 (tCons (tVar 0) (tCons (tCB (fun xs H Q => ∃ x n, xs = [x] ∧ LenV K x H n ∧ Q (V.int n) H) (tCons (tVar 2) tNil)) tNil))) tNil)
open PySem PySem.Spec PyProof.Rows L2 KD
variable {P : Program} {w : World} {K : PySem.W.Frag} {mg : Str → Option Value} {base : Heap}
/-- the spring stands apart from the data -/
structure Sg (X : Addr → Prop) (st cl : Addr) (n : Nat) (H : Hp) : Prop where
  ok : SpOk st cl n H
  x1 : X st
  x2 : X cl
  t : Trk X H
section
variable {X X' : Addr → Prop} {st cl p : Addr} {n m : Nat} {H H' : Hp} {σ : L2.St} {Γ : List Sv}
theorem Sg.same (S : Sg X st cl n H) (s : Same H H') : Sg X st cl n H' := ⟨S.ok.same s, S.x1, S.x2, S.t.mono s⟩
theorem Sg.step (S : Sg X st cl n H) (k : KpS st cl H H') (o : SpOk st cl m H') : Sg X st cl m H' := ⟨o, S.x1, S.x2, o.trk k S.t⟩
theorem Sg.le (S : Sg X st cl n H) (h : n ≤ m) : Sg X st cl m H := ⟨S.ok.le h, S.x1, S.x2, S.t⟩
theorem Sg.kp (S : Sg X st cl n H) (k : KpS st cl H H') : Kp X H H' := k.kp S.x1 S.x2
theorem Sg.more (S : Sg X st cl n H) (m : More X X' H) (t : Trk X' H) : Sg X' st cl n H := ⟨S.ok, m.1 _ S.x1, m.1 _ S.x2, t⟩
theorem Sg.ne1 (S : Sg X st cl n H) (h : H p = none) : p ≠ st := fun e => S.t.new h (e ▸ S.x1)
theorem Sg.ne2 (S : Sg X st cl n H) (h : H p = none) : p ≠ cl := fun e => S.t.new h (e ▸ S.x2)
theorem SpOk.put {o : HO} (h : SpOk st cl n H) (h1 : p ≠ st) (h2 : p ≠ cl) : SpOk st cl n (upd H p o) := by
  obtain ⟨ms, a, b, c, S, hb⟩ := h
  exact ⟨ms, a, b, c, ⟨by rw [upd_ne (Ne.symm h1)]; exact S.hs, by rw [upd_ne (Ne.symm h2)]; exact S.hc, S.ne, S.a0, S.b0, S.c0, S.c1, S.ml⟩, hb⟩
theorem Sg.put {o : HO} (S : Sg X st cl n H) (h1 : p ≠ st) (h2 : p ≠ cl) : Sg X st cl n (upd H p o) := ⟨S.ok.put h1 h2, S.x1, S.x2, S.t.put⟩
theorem _root_.KD.EnvOk.kps (E : EnvOk X H σ Γ) (S : Sg X st cl n H) (k : KpS st cl H H') : EnvOk X H' σ Γ := E.mono (S.kp k)
end
section
variable {σ : L2.St} {H : Hp} {te ta tb : TE} {D : Ends} {r : R2} {Q : VK} {g : TG} {tz : TS} {tt : TT} {tl : TA}
theorem k_ret (h : te σ H D.rt) : tRet te D σ H := h
theorem k_op (h : ta σ H fun x H1 => tb σ H1 fun y H2 => r x y H2 Q) : tOp r ta tb σ H Q := h
theorem k_set {i : Nat} (h : te σ H fun v H1 => tz D (σ.set i (some v)) H1) : tSeq (tAsg te (gName i)) tz D σ H := h
theorem k_asg (h : te σ H fun v H1 => g v σ H1 fun σ2 H2 => tz D σ2 H2) : tSeq (tAsg te g) tz D σ H := h
theorem k_yes {A B : Hp → Prop} (h : A H) : tYes σ H fun b H3 => if b = true then A H3 else B H3 := by
  show (if true = true then A H else B H)
  rw [if_pos rfl]
  exact h
theorem k_lcR {ta : TA} {us : List Nat} (h : ta σ H fun vs H1 => ∃ j : Int, vs = [.int j] ∧ -(2 ^ 62) ≤ j ∧ j < 2 ^ 62 ∧ tLc (fun _ H2 R => R (Itr 0 j.toNat) H2) g tt te us σ H1 Q) : tLc (iRng1 ta) g tt te us σ H Q := h
theorem k_cb {rr : List V → Hp → VK → Prop} (h : tl σ H fun vs H1 => rr vs H1 Q) : tCB rr tl σ H Q := h
theorem k_cons {Qa : List V → Hp → Prop} (h : te σ H fun v H1 => tl σ H1 fun vs H2 => Qa (v :: vs) H2) : tCons te tl σ H Qa := h
theorem k_par {i j : Nat} (h : ta σ H fun x H1 => tb σ H1 fun y H2 => ∃ v w, [x, y] = [v, w] ∧ tz D ((σ.set i (some v)).set j (some w)) H2) : tSeq (tPar i j (tCons ta (tCons tb tNil))) tz D σ H := h
end
theorem at_nat {ds : List PyData} {i : Int} (h0 : 0 ≤ i) (hj : i.toNat < ds.length) : atI ds i = some ds[i.toNat] := by
  unfold atI
  have e : ixN ds.length i = some i.toNat := by
    have h := Evl.ixN_nat hj
    rw [show ((i.toNat : Nat) : Int) = i from by omega] at h
    exact h
  rw [e]
  show ds[i.toNat]? = some _
  rw [List.getElem?_eq_getElem hj]
theorem seqIx_nat {i : Int} {n : Nat} (h0 : 0 ≤ i) (h1 : i.toNat < n) : seqIndex? i n = some i.toNat := by
  unfold seqIndex?
  have h : ¬ i < 0 := by omega
  have h2 : (decide (0 ≤ i) && decide (i < (n : Int))) = true := by
    rw [Bool.and_eq_true]
    exact ⟨decide_eq_true h0, decide_eq_true (by omega)⟩
  simp only [if_neg h]
  rw [if_pos h2]
theorem erase_perm {α : Type} : ∀ (l : List α) (i : Nat) (h : i < l.length), (l[i] :: l.eraseIdx i).Perm l
  | a :: l, 0, _ => List.Perm.refl _
  | a :: l, i + 1, h => (List.Perm.swap _ _ _).trans ((erase_perm l i (by simpa using h)).cons a)
/-- a draw -/
theorem c_draw {X : Addr → Prop} {st cl : Addr} {n : Nat} {H : Hp} {σ : L2.St} {ts tm : TE} {E : XK} {m : Int} {Q : VK} (S : Sg X st cl n H) (hv : GV ts σ H (.ref st)) (hm : G X tm σ H (.int m)) (hn : n ≤ 1000000000) (h0 : 0 < m) (h1 : m < 1000000)
    (k : ∀ i H', 0 ≤ i → i < m → Sg X st cl (n + 1) H' → KpS st cl H H' → Q (.int i) H') : tCall spDraw [] E (tCons ts (tCons tm tNil)) σ H Q :=
  hv H (Same.refl H) _ (hm H (Same.refl H) _ fun v H1 s1 r => ⟨st, cl, n, m, by rw [r.int_inv]; rfl, S.ok.same s1, hn, h0, h1, fun i H' i0 i1 kk so => k i H' i0 i1 ((S.same s1).step kk so) ((KpS.of s1).trans kk)⟩)
abbrev s__law_pick : Stmt := topS 24
abbrev n__law_pick : List Str := ["_law_stream", "_law_some"]
theorem sc__law_pick : FnScope n__law_pick ["_law_stream", "_law_some"] (defScope s__law_pick) := ⟨rfl, rfl, rfl, by decide +kernel, rfl, by decide +kernel, by decide +kernel⟩
def spPick : Sp := fun vs H Q _ => ∃ (X : Addr → Prop) (st cl : Addr) (n : Nat) (v : V) (ds : List PyData), vs = [.ref st, v] ∧ Sg X st cl n H ∧ n ≤ 1000000000 ∧ DX X H v (.list ds) ∧ 0 < ds.length ∧ ds.length < 1000000 ∧
  ∀ w d H', d ∈ ds → Sg X st cl (n + 1) H' → KpS st cl H H' → DX X H' w d → Q w H'
theorem ok_pick {f : Addr} {fd : FuncData} (F : Fun K "_law_pick" "_law_pick" s__law_pick f fd) (T : Bl mg) (O__law_draw : Own P w K mg base CX0 1 "_law_draw" ["_law_stream", "_law_many"] spDraw) : FnOk P w K mg base CX0 2 f fd ["_law_stream", "_law_some"] spPick := by
  refine F.ok sc__law_pick (fun vs H Q E h => ?_) (fun cdv A outer s H vs Q E hr h => ?_)
  · obtain ⟨X, st, cl, n, v, ds, rfl, _⟩ := h
    rfl
  · obtain ⟨X, st, cl, n, v, ds, rfl, S, hn, hd, h0, h1, k⟩ := h
    refine ⟨_, (pss_one (ps_ret (pe_ix ix_seq (pv 1) (pe_own O__law_draw hr (by decide) (by rfl) (pa_cons (pv 0) (pa_cons (pe_callB call_len (by rfl) T.b_len boot_len (pa_cons (pv 1) pa_nil)) pa_nil))) (fun _ _ => rfl)))), ?_⟩
    have En : EnvOk X H (L2.start n__law_pick [.ref st, v]) [.val (.ref st), .dat (.list ds)] := ⟨rfl, fun i s e => by
      match i, e with
      | 0, e => cases e; rfl
      | 1, e => cases e; exact ⟨_, rfl, hd⟩⟩
    refine k_ret (k_op (g_var (i := 1) En rfl H (Same.refl H) _ fun v1 H1 s1 r1 => ?_))
    refine c_draw (S.same s1) (gv_var (En.same s1) rfl) (g_len (S.t.mono s1) (g_var (En.same s1) rfl) rfl) hn (by show 0 < (ds.length : Int); omega) (by show (ds.length : Int) < 1000000; omega) fun i H' i0 i1 S2 k2 => ?_
    have i1 : i < (ds.length : Int) := i1
    have hj : i.toNat < ds.length := by omega
    refine rd_ixL (z := ds[i.toNat]) (at_nat (by omega) hj) H' v1 (.int i) S2.t (r1.mono ((S.same s1).kp k2)) (.int i) _ fun w2 H2 s2 dw => ?_
    exact k w2 _ H2 (List.getElem_mem _) (S2.same s2) (((KpS.of s1).trans k2).trans (KpS.of s2)) dw
theorem c_pick {X : Addr → Prop} {st cl : Addr} {n : Nat} {H : Hp} {σ : L2.St} {ts tm : TE} {E : XK} {ds : List PyData} {Q : VK} (S : Sg X st cl n H) (hv : GV ts σ H (.ref st)) (hm : G X tm σ H (.list ds)) (hn : n ≤ 1000000000) (h0 : 0 < ds.length) (h1 : ds.length < 1000000)
    (k : ∀ w d H', d ∈ ds → Sg X st cl (n + 1) H' → KpS st cl H H' → DX X H' w d → Q w H') : tCall spPick [] E (tCons ts (tCons tm tNil)) σ H Q :=
  hv H (Same.refl H) _ (hm H (Same.refl H) _ fun v H1 s1 r => ⟨X, st, cl, n, v, ds, rfl, S.same s1, hn, r, h0, h1, fun w d H' hd S2 kk dw => k w d H' hd S2 ((KpS.of s1).trans kk) dw⟩)
/-- some things drawn one after the other into a new list -/
theorem lc_draws {X : Addr → Prop} {st cl : Addr} {n : Nat} {H : Hp} {σ : L2.St} {Γ : List Sv} {te : TE} {i m : Nat} {Q : VK} (pr : PyData → Prop) (S : Sg X st cl n H) (En : EnvOk X H σ Γ) (hm : m ≤ 100000)
    (he : ∀ X' H1 σ2 k Q1, k < m → EnvOk X' H1 σ2 ((Γ.set i .un).set i (.dat (.int (k : Nat)))) → Sg X' st cl (n + k) H1 → (∀ w d H', pr d → Sg X' st cl (n + k + 1) H' → KpS st cl H1 H' → DX X' H' w d → Q1 w H') → te σ2 H1 Q1)
    (q : ∀ w ds H', ds.length = m → (∀ d ∈ ds, pr d) → Sg X st cl (n + m) H' → KpS st cl H H' → DX X H' w (.list ds) → Nw H w → Q w H') : tLc (fun σ H R => R (Itr 0 m) H) (gName i) tYes te [i] σ H Q := by
  intro D hD
  have m2 : More X (fun a => X a ∨ a = D) H := More.one hD
  have d1 := S.ne1 hD
  have d2 := S.ne2 hD
  obtain ⟨Gd, Y, w1, w2⟩ := walkD_range (X := X) (H := H) (lo := 0) (n := m)
  rw [rangeD_len] at w1
  have key : ∀ H3, Kp (fun a => X a ∨ a = D) H H3 ∧ Trk (fun a => X a ∨ a = D) H3 → Gd H3 := fun H3 p => (w2 _ m2.2 H3 p.1 p.2).1
  let I : Nat → Hp → Prop := fun k H3 => KpS st cl H H3 ∧ Sg (fun a => X a ∨ a = D) st cl (n + k) H3 ∧ ∃ acc ds, H3 D = some (.lst acc) ∧ DXs (fun a => X a ∨ a = D) H3 acc ds ∧ ds.length = k ∧ ∀ d ∈ ds, pr d
  have ik : ∀ {k H3}, I k H3 → Kp (fun a => X a ∨ a = D) H H3 ∧ Trk (fun a => X a ∨ a = D) H3 := fun {k H3} p => ⟨p.1.kp (.inl S.x1) (.inl S.x2), p.2.1.t⟩
  refine lc_it w1 I ?_ (fun i H3 _ p => key H3 (ik p)) ?_ ?_
  · exact ⟨KpS.of (Same.upd hD), ⟨(S.ok).same (Same.upd hD), .inl S.x1, .inl S.x2, S.t.one hD⟩, [], [], upd_same, .nil, rfl, fun d h => by cases h⟩
  · rintro k x H3 H4 hk p y
    obtain ⟨s4, d, hd, dx⟩ := (w2 _ m2.2 H3 (ik p).1 (ik p).2).2 k x H4 y
    obtain ⟨p1, p2, acc, ds, p3, p4, p5, p6⟩ := p
    rw [rangeD_get hk] at hd
    cases hd
    have S4 := p2.same s4
    have k4 : Kp (fun a => X a ∨ a = D) H H4 := (p1.kp (.inl S.x1) (.inl S.x2)).trans (Kp.of s4)
    refine tgt_name (X := X) (i := i) En _ H4 m2 k4 S4.t x dx _ fun σ2 E2 hw => ⟨hw, ?_⟩
    refine k_yes ?_
    rw [show (0 : Int) + (k : Int) = (k : Nat) from by omega] at E2
    refine he _ H4 σ2 k _ hk E2 S4 fun w d H5 hp S5 k5 dw => ?_
    refine ⟨acc, k5 D _ d1 d2 (s4 D _ p3), by rw [p4.length, p5, sizeLine_eq]; omega, ?_, ?_, acc ++ [w], ds ++ [d], upd_same, ?_, by rw [List.length_append, p5]; rfl, fun z hz => ?_⟩
    · exact fun a o n1 n2 e => by
        have := k5 a o n1 n2 (s4 a _ (p1 a o n1 n2 e))
        rw [upd_ne (ne_of_none e hD)]
        exact this
    · exact S5.put d1 d2
    · exact (((p4.mono (Kp.of s4)).mono (S4.kp k5)).snoc dw).mono (Kp.put (.inr rfl))
    · rcases List.mem_append.mp hz with h | h
      · exact p6 z h
      · rw [List.mem_singleton.mp h]
        exact hp
  · rintro H3 ⟨p1, p2, acc, ds, p3, p4, p5, p6⟩
    have nXD : ¬ X D := S.t.new hD
    exact q (.ref D) ds H3 p5 p6 ⟨p2.ok, S.x1, S.x2, fun a h => p2.t a (.inl h)⟩ p1 (.lst nXD p3 (p4.less fun a => .inl)) (Nw.of hD)
abbrev s__law_mixed : Stmt := topS 25
abbrev n__law_mixed : List Str := ["_law_stream", "_law_some", "_law_left", "_law_k"]
theorem sc__law_mixed : FnScope n__law_mixed ["_law_stream", "_law_some"] (defScope s__law_mixed) := ⟨rfl, rfl, rfl, by decide +kernel, rfl, by decide +kernel, by decide +kernel⟩
def spMixed : Sp := fun vs H Q _ => ∃ (X : Addr → Prop) (st cl : Addr) (n : Nat) (v : V) (ds : List PyData), vs = [.ref st, v] ∧ Sg X st cl n H ∧ n + ds.length ≤ 1000000000 ∧ DX X H v (.list ds) ∧ ds.length < 1000000 ∧
  ∀ w es H', es.Perm ds → Sg X st cl (n + ds.length) H' → KpS st cl H H' → DX X H' w (.list es) → Nw H w → Q w H'
theorem ok_mixed {f : Addr} {fd : FuncData} (F : Fun K "_law_mixed" "_law_mixed" s__law_mixed f fd) (T : Bl mg) (O__law_draw : Own P w K mg base CX0 1 "_law_draw" ["_law_stream", "_law_many"] spDraw) : FnOk P w K mg base CX0 2 f fd ["_law_stream", "_law_some"] spMixed := by
  refine F.ok sc__law_mixed (fun vs H Q E h => ?_) (fun cdv A outer s H vs Q E hr h => ?_)
  · obtain ⟨X, st, cl, n, v, ds, rfl, _⟩ := h
    rfl
  · obtain ⟨X, st, cl, n, v, ds, rfl, S, hn, hd, h1, k⟩ := h
    refine ⟨_, (pss_cons (ps_set (i := 2) sc__law_mixed.nd rfl (by first | exact Or.inl rfl | exact Or.inr rfl) (pe_callTy call_list_of (by rfl) T.b_list boot_list (pa_cons (pv 1) pa_nil)))
    (pss_one (ps_ret (pe_lc (own := [("_law_k", 3)]) (g := (gName 3)) (tt := tYes) (te := tBM K "list" rPopAt (tVar 2) (tCons (tCall spDraw [] E0 (tCons (tVar 0) (tCons (tCB (fun xs H Q => ∃ x n, xs = [x] ∧ LenV K x H n ∧ Q (V.int n) H) (tCons (tVar 2) tNil)) tNil))) tNil)) rfl sc__law_mixed.nd (pi_range1 (by rfl) T.b_range (pa_cons (pe_callB call_len (by rfl) T.b_len boot_len (pa_cons (pv 2) pa_nil)) pa_nil)) (blkOk_by (N := n__law_mixed) (sc := defScope s__law_mixed) (by decide +kernel)) (fun _ _ _ _ _ => (pg_name (i := 3) sc__law_mixed.nd rfl (by first | exact Or.inl rfl | exact Or.inr rfl))) (fun _ _ _ _ _ => pts_nil) (fun _ _ _ _ _ => (pe_bm PySem.F.plainAttrs_list PySem.F.slot_list_pop PySem.F.type_list_pop mt_popAt (pv 2) (pa_cons (pe_own O__law_draw hr (by decide) (by rfl) (pa_cons (pv 0) (pa_cons (pe_callB call_len (by rfl) T.b_len boot_len (pa_cons (pv 2) pa_nil)) pa_nil))) pa_nil))))))), ?_⟩
    have En : EnvOk X H (L2.start n__law_mixed [.ref st, v]) [.val (.ref st), .dat (.list ds), .un, .un] := ⟨rfl, fun i s e => by
      match i, e with
      | 0, e => cases e; rfl
      | 1, e => cases e; exact ⟨_, rfl, hd⟩
      | 2, e => cases e; trivial
      | 3, e => cases e; trivial⟩
    -- left = list(some)
    refine k_set (gn_listOf (d := .list ds) S.t (g_var (i := 1) En rfl) rfl H (Same.refl H) _ fun v1 H1 s1 d1 nw1 => ?_)
    obtain ⟨L, us, rfl, nL, eL, rL⟩ := d1.inner
    have hL : H L = none := nw1 L rfl
    have E1 := (((En.more (More.one hL)).same s1).setV (i := 2) (v := .ref L))
    have t1 : Trk (fun b => X b ∨ b = L) H1 := fun a h => h.elim (fun x => S.t.mono s1 a x) fun e => ⟨_, e ▸ eL⟩
    have S1 : Sg (fun b => X b ∨ b = L) st cl n H1 := ⟨S.ok.same s1, .inl S.x1, .inl S.x2, t1⟩
    have n1 := S.ne1 hL
    have n2 := S.ne2 hL
    -- range(len(left))
    refine k_ret ?_
    refine ⟨_, E1.get 2 _ rfl, ?_⟩
    have xl1 : us.length = ds.length := rL.length
    refine ⟨.ref L, us.length, rfl, .inl ⟨us, SqL.of eL, rfl⟩, ?_⟩
    refine ⟨_, rfl, by omega, by omega, ?_⟩
    rw [show (us.length : Int).toNat = ds.length from by omega]
    intro D hD
    have dL : D ≠ L := fun e => by rw [e, eL] at hD; cases hD
    let X1 : Addr → Prop := fun b => X b ∨ b = L
    let X2 : Addr → Prop := fun a => X1 a ∨ a = D
    have m2 : More X1 X2 H1 := More.one hD
    have d1 := S1.ne1 hD
    have d2 := S1.ne2 hD
    obtain ⟨Gd, Y, w1, w2⟩ := walkD_range (X := X1) (H := H1) (lo := 0) (n := ds.length)
    rw [rangeD_len] at w1
    let I : Nat → Hp → Prop := fun k H3 => (∀ a o, a ≠ st → a ≠ cl → a ≠ L → H1 a = some o → H3 a = some o) ∧ Sg X2 st cl (n + k) H3 ∧ ∃ acc es left xs, H3 D = some (.lst acc) ∧ DXs X2 H3 acc es ∧ H3 L = some (.lst xs) ∧ DXs X2 H3 xs left ∧ es.length = k ∧ (es ++ left).Perm ds
    have ik : ∀ {k H3}, I k H3 → Kp X2 H1 H3 ∧ Trk X2 H3 := fun {k H3} p => ⟨fun a o n e => p.1 a o (fun z => n (z ▸ .inl (.inl S.x1))) (fun z => n (z ▸ .inl (.inl S.x2))) (fun z => n (z ▸ .inl (.inr rfl))) e, p.2.1.t⟩
    refine lc_it w1 I ?_ (fun i H3 _ p => (w2 _ m2.2 H3 (ik p).1 (ik p).2).1) ?_ ?_
    · have sD : Same H1 (upd H1 D (.lst [])) := Same.upd hD
      exact ⟨fun a o _ _ _ e => sD a o e, ⟨S1.ok.same sD, .inl (.inl S.x1), .inl (.inl S.x2), t1.one hD⟩, [], [], ds, us, upd_same, .nil, sD _ _ eL, (rL.more m2).mono (Kp.of sD), rfl, List.Perm.refl _⟩
    · rintro j x H3 H4 hj p y
      obtain ⟨s4, d, hd4, dx⟩ := (w2 _ m2.2 H3 (ik p).1 (ik p).2).2 j x H4 y
      obtain ⟨p1, p2, acc, es, left, xs, p3, p4, p5, p6, p7, p8⟩ := p
      have S4 := p2.same s4
      refine tgt_name (X := X1) (i := 3) E1 _ H4 m2 ((ik ⟨p1, p2, acc, es, left, xs, p3, p4, p5, p6, p7, p8⟩).1.trans (Kp.of s4)) S4.t x dx _ fun σ2 E2 hw => ⟨hw, ?_⟩
      refine k_yes ?_
      have hL4 : H4 L = some (.lst xs) := s4 _ _ p5
      have r4 := p6.mono (Kp.of s4)
      have q4 := p4.mono (Kp.of s4)
      have lt0 : 0 < left.length := by
        have := p8.length_eq
        rw [List.length_append] at this
        omega
      have lt1 : left.length ≤ ds.length := by
        have := p8.length_eq
        rw [List.length_append] at this
        omega
      have lx : xs.length = left.length := r4.length
      refine ⟨_, E2.get 2 _ rfl, .inl ⟨rfl, _, SqL.of hL4⟩, ?_⟩
      refine k_cons (c_draw (m := (left.length : Nat)) S4 (gv_var (i := 0) E2 rfl) ?_ (by omega) (by omega) (by omega) fun i H5 i0 i1 S5 k5 => ?_)
      · intro H5 s5 Q5 q5
        refine ⟨_, E2.get 2 _ rfl, ?_⟩
        refine ⟨.ref L, xs.length, rfl, .inl ⟨xs, SqL.of (s5 _ _ hL4), rfl⟩, ?_⟩
        rw [lx]
        exact q5 _ H5 (Same.refl _) (.int _)
      · have hL5 : H5 L = some (.lst xs) := k5 L _ n1 n2 hL4
        have r5 := r4.mono (S4.kp k5)
        have q5 := q4.mono (S4.kp k5)
        have hi : i.toNat < left.length := by omega
        have hx : i.toNat < xs.length := by omega
        obtain ⟨y, hy, ry⟩ := r5.get (i := i.toNat) (d := left[i.toNat]) (List.getElem?_eq_getElem hi)
        refine ⟨L, xs, i, i.toNat, y, rfl, rfl, hL5, by omega, by omega, ?_, hy, ?_⟩
        · exact seqIx_nat i0 hx
        · have kL : Kp X2 H5 (upd H5 L (.lst (xs.eraseIdx i.toNat))) := Kp.put (.inl (.inr rfl))
          have nD : H5 D = some (.lst acc) := k5 D _ d1 d2 (s4 D _ p3)
          refine ⟨acc, by rw [upd_ne dL]; exact nD, by rw [p4.length, p7, sizeLine_eq]; omega, ?_, ?_, acc ++ [y], es ++ [left[i.toNat]], left.eraseIdx i.toNat, xs.eraseIdx i.toNat, upd_same, ?_, by rw [upd_ne (Ne.symm dL)]; exact upd_same, ?_, by rw [List.length_append, p7]; rfl, ?_⟩
          · intro a o a1 a2 a3 e
            rw [upd_ne (ne_of_none e hD), upd_ne a3]
            exact k5 a o a1 a2 (s4 a _ (p1 a o a1 a2 a3 e))
          · exact (S5.put n1 n2).put d1 d2
          · exact ((q5.snoc ry).mono kL).mono (Kp.put (.inr rfl))
          · exact ((r5.erase i.toNat).mono kL).mono (Kp.put (.inr rfl))
          · rw [List.append_assoc]
            refine List.Perm.trans (List.Perm.append_left es ?_) p8
            exact erase_perm left i.toNat hi
    · rintro H3 ⟨p1, p2, acc, es, left, xs, p3, p4, p5, p6, p7, p8⟩
      have nXD : ¬ X D := t1.new hD ∘ .inl
      have le : left = [] := by
        have := p8.length_eq
        rw [List.length_append] at this
        exact List.eq_nil_of_length_eq_zero (by omega)
      subst le
      rw [List.append_nil] at p8
      exact k (.ref D) es H3 p8 ⟨p2.ok, S.x1, S.x2, fun a h => p2.t a (.inl (.inl h))⟩ (fun a o n3 n4 e => p1 a o n3 n4 (ne_of_none e hL) (s1 a o e)) (.lst nXD p3 (p4.less fun a h => .inl (.inl h))) (fun a e => by cases e; exact s1.free hD)
end K54

namespace K54
open PySem PySem.Spec PyProof.Rows L2 KD
variable {P : Program} {w : World} {K : PySem.W.Frag} {mg : Str → Option Value} {base : Heap}
/-! ### leaves -/
def leaf : PyData → Bool
  | .none => true
  | .bool _ => true
  | .int _ => true
  | .str s => PyData.strOk s
  | _ => false
theorem canLay_leaf : ∀ {ds : List PyData}, (∀ d ∈ ds, leaf d = true) → PyData.canLayAll0 ds = true
  | [], _ => by simp [PyData.canLayAll0]
  | d :: ds, h => by
    have h1 := h d List.mem_cons_self
    have h2 := canLay_leaf fun z hz => h z (List.mem_cons_of_mem _ hz)
    cases d <;> simp_all [PyData.canLayAll0, PyData.canLay0, leaf]
theorem depth_leaf : ∀ {ds : List PyData}, (∀ d ∈ ds, leaf d = true) → PyData.depthAll ds ≤ 1
  | [], _ => by simp [PyData.depthAll]
  | d :: ds, h => by
    have h1 := h d List.mem_cons_self
    have h2 := depth_leaf fun z hz => h z (List.mem_cons_of_mem _ hz)
    cases d <;> simp_all [PyData.depthAll, PyData.depth, leaf]
theorem shaped_leaf {d : PyData} (h : leaf d = true) : SeqAt.shaped d = true := by
  cases d <;> simp_all [SeqAt.shaped, PyData.canLay0, PyData.depth, leaf]
theorem shaped_leafs {ds : List PyData} (h : ∀ d ∈ ds, leaf d = true) : SeqAt.shaped (.list ds) = true := by
  have := depth_leaf h
  have h2 : PyData.depth (.list ds) ≤ 64 := by
    simp only [PyData.depth]
    omega
  show ((PyData.list ds).canLay0 && decide ((PyData.list ds).depth ≤ 64)) = true
  rw [Bool.and_eq_true]
  exact ⟨by simp only [PyData.canLay0]; exact canLay_leaf h, decide_eq_true h2⟩
theorem noDict_leaf {d : PyData} (h : leaf d = true) : noDict d = true := by cases d <;> first | rfl | cases h
theorem noDicts_leaf : ∀ {ds : List PyData}, (∀ d ∈ ds, leaf d = true) → noDicts ds = true
  | [], _ => by simp [noDicts]
  | d :: ds, h => by
    have h1 := noDict_leaf (h d List.mem_cons_self)
    have h2 := noDicts_leaf fun z hz => h z (List.mem_cons_of_mem _ hz)
    simp [noDicts, h1, h2]
theorem rb_inD {X : Addr → Prop} {d : PyData} {ds : List PyData} (h : leaf d = true) (hs : ∀ z ∈ ds, leaf z = true) : RB X (rInD K) d (.list ds) (ds.any fun z => PyData.eqv z d) := fun H u v _ ru rv Q q => ⟨d, ds, ru.dp (noDict_leaf h), rv.dp (by show noDicts ds = true; exact noDicts_leaf hs), shaped_leaf h, shaped_leafs hs, q⟩
def letters : List Str := ["a", "b", "c", "d e", "", "a"]
def spText : Sp := fun vs H Q _ => ∃ (X : Addr → Prop) (st cl : Addr) (n m : Nat), vs = [.ref st, .int m] ∧ Sg X st cl n H ∧ n + m ≤ 1000000000 ∧ m ≤ 1000 ∧
  ∀ w ws H', ws.length = m → (∀ z ∈ ws, z ∈ letters) → Sg X st cl (n + m) H' → KpS st cl H H' → DX X H' w (wsD ws) → Nw H w → Q w H'
theorem strs_of {L : List Str} : ∀ {ds : List PyData}, (∀ d ∈ ds, d ∈ L.map PyData.str) → ∃ ws : List Str, ds = ws.map PyData.str ∧ ∀ z ∈ ws, z ∈ L
  | [], _ => ⟨[], rfl, fun z h => by cases h⟩
  | d :: ds, h => by
    obtain ⟨s, hs, rfl⟩ := List.mem_map.mp (h d List.mem_cons_self)
    obtain ⟨ws, rfl, hw⟩ := strs_of fun z hz => h z (List.mem_cons_of_mem _ hz)
    exact ⟨s :: ws, rfl, fun z hz => (List.mem_cons.mp hz).elim (fun e => e ▸ hs) (hw z)⟩
theorem env_sv {X : Addr → Prop} {H : Hp} {N : List Str} {vs : List V} {ss : List Sv} (hl : vs.length = ss.length) (hs : ∀ (i : Nat) (s : Sv), ss[i]? = some s → ∀ v, vs[i]? = some v → SvOk X H s (some (some v))) (hN : vs.length ≤ N.length) : EnvOk X H (L2.start N vs) (pad N ss) := by
  unfold pad
  rw [← hl]
  exact envOk_start hl hs hN
theorem env_s1 {X : Addr → Prop} {H : Hp} {N : List Str} {st : Addr} {v : V} {s : Sv} (h : SvOk X H s (some (some v))) (hN : 2 ≤ N.length) : EnvOk X H (L2.start N [.ref st, v]) (pad N [.val (.ref st), s]) :=
  env_sv rfl (fun i s e u e2 => by
    match i, e, e2 with
    | 0, e, e2 => cases e; cases e2; rfl
    | 1, e, e2 => cases e; cases e2; exact h) hN
theorem env_s2 {X : Addr → Prop} {H : Hp} {N : List Str} {st : Addr} {v v2 : V} {s s2 : Sv} (h : SvOk X H s (some (some v))) (h2 : SvOk X H s2 (some (some v2))) (hN : 3 ≤ N.length) : EnvOk X H (L2.start N [.ref st, v, v2]) (pad N [.val (.ref st), s, s2]) :=
  env_sv rfl (fun i s e u e2 => by
    match i, e, e2 with
    | 0, e, e2 => cases e; cases e2; rfl
    | 1, e, e2 => cases e; cases e2; exact h
    | 2, e, e2 => cases e; cases e2; exact h2) hN
theorem ga_strs {X : Addr → Prop} {σ : L2.St} {H : Hp} : ∀ L : List Str, GA X (L.foldr (fun s t => tCons (tC (.str s)) t) tNil) σ H (L.map PyData.str)
  | [] => ga_nil
  | s :: L => ga_cons g_str (ga_strs L)
end K54

/-! Whether two things are the same. -/
namespace K54
open PySem PySem.Spec PyProof.Rows L2 KD
variable {P : Program} {w : World} {K : PySem.W.Frag} {mg : Str → Option Value} {base : Heap}
theorem walk_zipT {a b : Addr} {xs ys : List V} {n : Nat} (hn : n = min xs.length ys.length) : Walk (RZ.ItzT K a b) n (fun H => SqT K H a xs ∧ SqT K H b ys) (YPair (fun i => xs[i]?) (fun i => ys[i]?)) := by
  subst hn
  refine ⟨fun i _ hi q => ?_, fun _ q => ⟨xs, ys, q.1, q.2, by omega⟩, fun i H v H' _ q y => ?_⟩
  · have h1 : i < xs.length := by omega
    have h2 : i < ys.length := by omega
    exact ⟨xs, ys, xs[i], ys[i], q.1, q.2, by simp [h1], by simp [h2]⟩
  · obtain ⟨T, x, z, h1, h2, h3, h4, h5⟩ := y
    exact ⟨T, x, z, h1, h2, h3, h4 xs q.1, h5 ys q.2⟩
theorem gi_zipT {X : Addr → Prop} {H : Hp} {σ : L2.St} {te tb : TE} {ds es : List PyData} (h : G X te σ H (.tuple ds)) (h' : G X tb σ H (.tuple es)) : GI X (RZ.iZipA K (tCons te (tCons tb tNil))) σ H (zipD ds es) := fun H1 s R r => h H1 s _ fun v H2 s2 rv => h' H2 (s.trans s2) _ fun w H3 s3 rw_ => by
  obtain ⟨a, xs, rfl, n, e, rx⟩ := (rv.mono (Kp.of s3)).tup_inv
  obtain ⟨b, ys, rfl, n2, e2, ry⟩ := rw_.tup_inv
  refine ⟨a, b, xs, ys, rfl, .inr ⟨SqT.of e, SqT.of e2, r _ H3 (s2.trans s3) ⟨_, _, walk_zipT (xs := xs) (ys := ys) (by simp [zipD, rx.length, ry.length]), fun X' m H4 k t => ?_⟩⟩⟩
  have n' : ¬ X' a := fun z => (m a z).elim n fun q => by rw [e] at q; cases q
  have n2' : ¬ X' b := fun z => (m b z).elim n2 fun q => by rw [e2] at q; cases q
  refine ⟨⟨SqT.of (k a _ n' e), SqT.of (k b _ n2' e2)⟩, fun i x H5 y => ?_⟩
  obtain ⟨T, u, w, rfl, hT, rfl, hu, hw⟩ := y
  obtain ⟨d, h1, h2⟩ := rx.getV hu
  obtain ⟨d', h3, h4⟩ := ry.getV hw
  refine ⟨Same.upd hT, .tuple [d, d'], ?_, DX.newT t (.cons ((h2.grow m).mono k) (.cons ((h4.grow m).mono k) .nil)) hT⟩
  unfold zipD
  rw [List.getElem?_zipWith, h1, h3]
theorem gi_zipL {X : Addr → Prop} {H : Hp} {σ : L2.St} {te tb : TE} {ds es : List PyData} (h : G X te σ H (.list ds)) (h' : G X tb σ H (.list es)) : GI X (RZ.iZipA K (tCons te (tCons tb tNil))) σ H (zipD ds es) := fun H1 s R r => h H1 s _ fun v H2 s2 rv => h' H2 (s.trans s2) _ fun w H3 s3 rw_ => by
  obtain ⟨a, xs, rfl, n, e, rx⟩ := (rv.mono (Kp.of s3)).lst_inv
  obtain ⟨b, ys, rfl, n2, e2, ry⟩ := rw_.lst_inv
  refine ⟨a, b, xs, ys, rfl, .inl ⟨SqL.of e, SqL.of e2, r _ H3 (s2.trans s3) ⟨_, _, walk_zip (xs := xs) (ys := ys) (by simp [zipD, rx.length, ry.length]), fun X' m H4 k t => ?_⟩⟩⟩
  have n' : ¬ X' a := fun z => (m a z).elim n fun q => by rw [e] at q; cases q
  have n2' : ¬ X' b := fun z => (m b z).elim n2 fun q => by rw [e2] at q; cases q
  refine ⟨⟨SqL.of (k a _ n' e), SqL.of (k b _ n2' e2)⟩, fun i x H5 y => ?_⟩
  obtain ⟨T, u, w, rfl, hT, rfl, hu, hw⟩ := y
  obtain ⟨d, h1, h2⟩ := rx.getV hu
  obtain ⟨d', h3, h4⟩ := ry.getV hw
  refine ⟨Same.upd hT, .tuple [d, d'], ?_, DX.newT t (.cons ((h2.grow m).mono k) (.cons ((h4.grow m).mono k) .nil)) hT⟩
  unfold zipD
  rw [List.getElem?_zipWith, h1, h3]
/-- so deep at most, leaves below -/
def sm : Nat → PyData → Prop
  | 0, d => leaf d = true
  | n + 1, .list ds => ds.length ≤ 100000 ∧ ∀ z ∈ ds, sm n z
  | n + 1, .tuple ds => ds.length ≤ 100000 ∧ ∀ z ∈ ds, sm n z
  | _ + 1, d => leaf d = true
def spSame (n : Nat) : Sp := fun vs H Q _ => ∃ (X : Addr → Prop) (v1 v2 : V) (d : PyData), vs = [v1, v2] ∧ Trk X H ∧ DX X H v1 d ∧ DX X H v2 d ∧ sm n d ∧ ∀ H', Same H H' → Q (.bl true) H'
def spPrev : Nat → Sp
  | 0 => fun _ _ _ _ => False
  | n + 1 => spSame n
theorem eqv_leaf {d : PyData} (h : leaf d = true) : PyData.eqv d d = true := by
  cases d <;> simp_all [PyData.eqv, leaf]
-- HINT _law_same never return isinstance(_law_found, dict)
-- HINT _law_same le (Nat.le_refl _)
-- HINT _law_same zip RZ.pi_zipA
abbrev s__law_same : Stmt := topS 26
abbrev n__law_same : List Str := ["_law_found", "_law_due", "_law_x", "_law_y"]
theorem sc__law_same : FnScope n__law_same ["_law_found", "_law_due"] (defScope s__law_same) := ⟨rfl, rfl, rfl, by decide +kernel, rfl, by decide +kernel, by decide +kernel⟩
theorem ok_same_body {f : Addr} {fd : FuncData} {n : Nat} (F : Fun K "_law_same" "_law_same" s__law_same f fd) (T : Bl mg) (O__law_same : Own P w K mg base CX0 (n + 1) "_law_same" ["_law_found", "_law_due"] (spPrev n)) : FnOk P w K mg base CX0 (n + 2) f fd ["_law_found", "_law_due"] (spSame n) := by
  refine F.ok sc__law_same (fun vs H Q E h => ?_) (fun cdv A outer s H vs Q E hr h => ?_)
  · obtain ⟨X, v1, v2, d, rfl, _⟩ := h
    rfl
  · obtain ⟨X, v1, v2, d, rfl, t, d1, d2, hs, k⟩ := h
    refine ⟨_, (pss_cons (ps_if (pt_val (pe_callB call_isiT (by rfl) T.b_isinstance boot_isinstance (pa_cons (pv 1) (pa_cons (pe_tup (pa_cons (pe_bltn (v := .ty "list") (by rfl) T.b_list boot_list rfl) (pa_cons (pe_bltn (v := .ty "tuple") (by rfl) T.b_tuple boot_tuple rfl) pa_nil))) pa_nil))))
    (pss_cons (ps_if (PW.pt (pw_or (pt_cmpR (op_neD hr.units) (pe_callB call_isi (by rfl) T.b_isinstance boot_isinstance (pa_cons (pv 0) (pa_cons (pe_bltn (v := .ty "list") (by rfl) T.b_list boot_list rfl) pa_nil))) (pe_callB call_isi (by rfl) T.b_isinstance boot_isinstance (pa_cons (pv 1) (pa_cons (pe_bltn (v := .ty "list") (by rfl) T.b_list boot_list rfl) pa_nil))) (nomark _)) (pw_or1 (pt_cmpR (op_neD hr.units) (pe_callB call_isi (by rfl) T.b_isinstance boot_isinstance (pa_cons (pv 0) (pa_cons (pe_bltn (v := .ty "tuple") (by rfl) T.b_tuple boot_tuple rfl) pa_nil))) (pe_callB call_isi (by rfl) T.b_isinstance boot_isinstance (pa_cons (pv 1) (pa_cons (pe_bltn (v := .ty "tuple") (by rfl) T.b_tuple boot_tuple rfl) pa_nil))) (nomark _)))))
    (pss_one (ps_ret pe_bl)) pss_nil)
    (pss_one (ps_ret (pe_and (pe_cmpR (op_eqD hr.units) (pe_callB call_len (by rfl) T.b_len boot_len (pa_cons (pv 0) pa_nil)) (pe_callB call_len (by rfl) T.b_len boot_len (pa_cons (pv 1) pa_nil)) (nomark _)) (pe_one (pe_callB (cr_all rfl) (by rfl) T.b_all boot_all (pa_cons (pe_lc (own := [("_law_x", 2), ("_law_y", 3)]) (g := (gTup K 2 (gCons (gName 2) (gCons (gName 3) gNil)))) (tt := tYes) rfl sc__law_same.nd (RZ.pi_zipA (by rfl) T.b_zip (pa_cons (pv 0) (pa_cons (pv 1) pa_nil))) (blkOk_by (N := n__law_same) (sc := defScope s__law_same) (by decide +kernel)) (fun _ _ _ _ _ => (pg_tup (n := 2) rfl (pgs_cons (pg_name (i := 2) sc__law_same.nd rfl (by first | exact Or.inl rfl | exact Or.inr rfl)) (pgs_cons (pg_name (i := 3) sc__law_same.nd rfl (by first | exact Or.inl rfl | exact Or.inr rfl)) pgs_nil)))) (fun _ _ _ _ _ => pts_nil) (fun _ _ _ _ _ => (pe_own O__law_same hr (Nat.le_refl _) (by rfl) (pa_cons (pv 2) (pa_cons (pv 3) pa_nil))))) pa_nil))))))) pss_nil)
    (pss_cons (ps_if (pt_val (pe_callB call_isi (by rfl) T.b_isinstance boot_isinstance (pa_cons (pv 1) (pa_cons (pe_bltn (v := .ty "dict") (by rfl) T.b_dict boot_dict rfl) pa_nil))))
    (pss_one ps_never) pss_nil)
    (pss_cons (ps_if (pt_val (pe_callB call_isi (by rfl) T.b_isinstance boot_isinstance (pa_cons (pv 1) (pa_cons (pe_bltn (v := .ty "int") (by rfl) T.b_int boot_int rfl) pa_nil))))
    (pss_one (ps_ret (pe_and (pe_callB call_isi (by rfl) T.b_isinstance boot_isinstance (pa_cons (pv 0) (pa_cons (pe_bltn (v := .ty "int") (by rfl) T.b_int boot_int rfl) pa_nil))) (pe_and (pe_cmpR (op_eqD hr.units) (pe_callB call_isi (by rfl) T.b_isinstance boot_isinstance (pa_cons (pv 0) (pa_cons (pe_bltn (v := .ty "bool") (by rfl) T.b_bool boot_bool rfl) pa_nil))) (pe_callB call_isi (by rfl) T.b_isinstance boot_isinstance (pa_cons (pv 1) (pa_cons (pe_bltn (v := .ty "bool") (by rfl) T.b_bool boot_bool rfl) pa_nil))) (nomark _)) (pe_one (pe_cmpR (op_eqD hr.units) (pv 0) (pv 1) (nomark _))))))) pss_nil)
    (pss_one (ps_ret (pe_and (pe_not (pe_callB call_isiT (by rfl) T.b_isinstance boot_isinstance (pa_cons (pv 0) (pa_cons (pe_tup (pa_cons (pe_bltn (v := .ty "int") (by rfl) T.b_int boot_int rfl) (pa_cons (pe_bltn (v := .ty "list") (by rfl) T.b_list boot_list rfl) (pa_cons (pe_bltn (v := .ty "tuple") (by rfl) T.b_tuple boot_tuple rfl) (pa_cons (pe_bltn (v := .ty "dict") (by rfl) T.b_dict boot_dict rfl) pa_nil))))) pa_nil)))) (pe_one (pe_cmpR (op_eqD hr.units) (pv 0) (pv 1) (nomark _))))))))), ?_⟩
    have En : EnvOk X H (L2.start n__law_same [v1, v2]) (pad n__law_same [.dat d, .dat d]) := env2 d1 d2 (by decide)
    have b1 : PyData.eqv (.bool true) (.bool true) = true := by simp [PyData.eqv]
    have eqb : ∀ b : Bool, PyData.eqv (.bool b) (.bool b) = true := fun b => by simp [PyData.eqv]
    have shb : ∀ b : Bool, SeqAt.shaped (.bool b) = true := fun b => shaped_leaf rfl
    have ndb : ∀ b : Bool, noDict (.bool b) = true := fun b => by simp [noDict]
    refine q_if (gt_B (g_isSeq (g_var (i := 1) En rfl))) (fun hb H1 s1 => ?_) (fun hb H1 s1 => ?_)
    · -- a list or a tuple
      have E1 := En.same s1
      have t1 := t.mono s1
      refine q_if (b := false) (gt_is (gt_or (b := !PyData.eqv (.bool (isa_tuple d)) (.bool (isa_tuple d))) (gt_neD t1 (g_isList (g_var (i := 0) E1 rfl)) (g_isList (g_var (i := 1) E1 rfl)) (ndb _) (ndb _) (shb _) (shb _)) fun _ => gt_neD t1 (g_isTuple (g_var (i := 0) E1 rfl)) (g_isTuple (g_var (i := 1) E1 rfl)) (ndb _) (ndb _) (shb _) (shb _)) (by rw [eqb, eqb]; rfl)) (fun h => by cases h) fun _ H2 s2 => ?_
      have E2 := E1.same s2
      have t2 := t1.mono s2
      have hln : ∀ i : Int, PyData.eqv (.int i) (.int i) = true := fun i => by rw [eqv_int]; simp
      have core : ∀ (m : Nat) (te : TE) (wi : TI) (ds : List PyData), ds.length ≤ 100000 → (∀ z ∈ ds, sm m z) → GI X wi (L2.start n__law_same [v1, v2]) H2 (zipD ds ds) → te = tCall (spSame m) [] E0 (tCons (tVar 2) (tCons (tVar 3) tNil)) → G X (tCB (rAll K) (tCons (tLc wi (gTup K 2 (gCons (gName 2) (gCons (gName 3) gNil))) tYes te [2, 3]) tNil)) (L2.start n__law_same [v1, v2]) H2 (.bool true) := fun m te wi ds hl hz hi hte => by
        subst hte
        have hzip : ∀ p ∈ zipD ds ds, ∃ z ∈ ds, p = .tuple [z, z] := fun p hp => by
          obtain ⟨i, hi, he⟩ := List.mem_iff_getElem.mp hp
          unfold zipD at he hi
          rw [List.length_zipWith] at hi
          rw [List.getElem_zipWith] at he
          exact ⟨_, List.getElem_mem (by omega), he.symm⟩
        refine g_is (g_cb (ds := [.list (((zipD ds ds).map fun _ => true).map PyData.bool)]) t2 (ga_cons (g_is (g_lc1 (ds := zipD ds ds) (Γ2 := fun p => ((((pad n__law_same [.dat d, .dat d]).set 3 .un).set 2 .un).set 2 (.dat (it p 0))).set 3 (.dat (it p 1))) (fun _ => .bool true) t2 hi (by unfold zipD; rw [List.length_zipWith]; omega) (fun H3 s3 p hp => ?_) (fun X' H3 σ2 p hp t3 E3 => ?_)) (by rw [List.map_map]; rfl)) ga_nil) rf_all) (by rw [List.all_map]; simp)
        · obtain ⟨z, hzm, rfl⟩ := hzip p hp
          exact tgt_pair (E2.same s3) (by decide)
        · obtain ⟨z, hzm, rfl⟩ := hzip p hp
          intro H4 s4 Q4 q4
          refine g_var (i := 2) E3 rfl H4 s4 _ fun u H5 s5 r5 => g_var (i := 3) (E3.same (s4.trans s5)) rfl H5 (Same.refl _) _ fun u2 H6 s6 r6 => ?_
          exact ⟨X', u, u2, z, rfl, t3.mono ((s4.trans s5).trans s6), r5.mono (Kp.of s6), r6, hz z hzm, fun H7 s7 => q4 _ H7 ((s5.trans s6).trans s7) (.bl true)⟩
      cases n with
      | zero => cases d with
        | list ds => exact absurd hs (by simp [sm, leaf])
        | tuple ds => exact absurd hs (by simp [sm, leaf])
        | _ => cases hb
      | succ m =>
        cases d with
        | list ds =>
          obtain ⟨hl, hz⟩ := hs
          exact s_ret (X := X) (d := .bool true) (g_is (g_and (b := true) (g_eqD t2 (g_len t2 (g_var (i := 0) E2 rfl) rfl) (g_len t2 (g_var (i := 1) E2 rfl) rfl) rfl rfl (shaped_int _) (shaped_int _)) fun _ => core m _ _ ds hl hz (gi_zipL (g_var (i := 0) E2 rfl) (g_var (i := 1) E2 rfl)) rfl) (by rw [hln]; rfl)) fun w H' s' dw => by rw [dw.bl_inv]; exact k H' ((s1.trans s2).trans s')
        | tuple ds =>
          obtain ⟨hl, hz⟩ := hs
          exact s_ret (X := X) (d := .bool true) (g_is (g_and (b := true) (g_eqD t2 (g_len t2 (g_var (i := 0) E2 rfl) rfl) (g_len t2 (g_var (i := 1) E2 rfl) rfl) rfl rfl (shaped_int _) (shaped_int _)) fun _ => core m _ _ ds hl hz (gi_zipT (g_var (i := 0) E2 rfl) (g_var (i := 1) E2 rfl)) rfl) (by rw [hln]; rfl)) fun w H' s' dw => by rw [dw.bl_inv]; exact k H' ((s1.trans s2).trans s')
        | _ => cases hb
    · -- a leaf
      have hlf : leaf d = true := by
        cases n with
        | zero => exact hs
        | succ m => cases d <;> first | exact hs | cases hb
      have E1 := En.same s1
      have t1 := t.mono s1
      refine q_if (b := false) (gt_is (gt_B (g_isDict (g_var (i := 1) E1 rfl))) (by cases d <;> first | rfl | cases hlf)) (fun h => by cases h) fun _ H2 s2 => ?_
      have E2 := E1.same s2
      have t2 := t1.mono s2
      refine q_if (gt_B (g_isInt (g_var (i := 1) E2 rfl))) (fun hi H3 s3 => ?_) (fun hi H3 s3 => ?_)
      · have E3 := E2.same s3
        have t3 := t2.mono s3
        refine s_ret (X := X) (d := .bool true) (g_is (g_and (b := PyData.eqv (.bool (isa_bool d)) (.bool (isa_bool d)) && PyData.eqv d d) (g_isInt (g_var (i := 0) E3 rfl)) fun _ => g_and (g_eqD t3 (g_isBool (g_var (i := 0) E3 rfl)) (g_isBool (g_var (i := 1) E3 rfl)) (ndb _) (ndb _) (shb _) (shb _)) fun _ => g_eqD t3 (g_var (i := 0) E3 rfl) (g_var (i := 1) E3 rfl) (noDict_leaf hlf) (noDict_leaf hlf) (shaped_leaf hlf) (shaped_leaf hlf)) (by rw [hi, eqb, eqv_leaf hlf]; rfl)) fun w H' s' dw => by rw [dw.bl_inv]; exact k H' (((s1.trans s2).trans s3).trans s')
      · have E3 := E2.same s3
        have t3 := t2.mono s3
        refine s_ret (X := X) (d := .bool true) (g_is (g_and (b := PyData.eqv d d) (g_not (g_isiT (ns := ["int", "list", "tuple", "dict"]) (g_var (i := 0) E3 rfl) rfl (by decide) ?_)) fun _ => g_eqD t3 (g_var (i := 0) E3 rfl) (g_var (i := 1) E3 rfl) (noDict_leaf hlf) (noDict_leaf hlf) (shaped_leaf hlf) (shaped_leaf hlf)) ?_) fun w H' s' dw => by rw [dw.bl_inv]; exact k H' (((s1.trans s2).trans s3).trans s')
        · intro n hn
          simp at hn
          rcases hn with rfl | rfl | rfl | rfl
          · exact ksm_int d
          · exact ksm_list d
          · exact ksm_tuple d
          · exact ksm_dict d
        · have e : isDs ["int", "list", "tuple", "dict"] d = false := by
            unfold isDs
            rw [List.any_cons, List.any_cons, List.any_cons, List.any_cons, List.any_nil, isD_int, isD_list, isD_tuple, isD_dict, hi]
            cases d <;> first | rfl | cases hlf
          rw [e, eqv_leaf hlf]
          rfl
theorem ok_same {f : Addr} {fd : FuncData} (F : Fun K "_law_same" "_law_same" s__law_same f fd) (T : Bl mg) (h1 : mg "_law_same" = some (.ref f)) (h2 : PySem.W.keepIn K (.ref f) = true) (h3 : Binds K fd ["_law_found", "_law_due"] []) : ∀ n : Nat, FnOk P w K mg base CX0 (n + 2) f fd ["_law_found", "_law_due"] (spSame n)
  | 0 => ok_same_body F T ⟨f, fd, h1, h2, h3, F.ok (k := 0) sc__law_same (fun _ _ _ _ h => h.elim) (fun _ _ _ _ _ _ _ _ _ h => h.elim)⟩
  | n + 1 => ok_same_body F T ⟨f, fd, h1, h2, h3, ok_same F T h1 h2 h3 n⟩
end K54

/-! Lists of one's own. -/
namespace K54
open PySem PySem.Spec PyProof.Rows L2 KD
variable {P : Program} {w : World} {K : PySem.W.Frag} {mg : Str → Option Value} {base : Heap}
/-! ### a list of one's own that is made longer -/
section
variable {X : Addr → Prop} {σ : L2.St} {H : Hp} {te : TE} {Γ : List Sv} {D : Ends} {tz : TS} {L : Addr} {xs : List V} {ds es : List PyData} {d : PyData} {i : Nat}
/-- all but L stays -/
def KpL (L : Addr) (H H' : Hp) : Prop := ∀ a o, a ≠ L → H a = some o → H' a = some o
theorem KpL.of (s : Same H H') : KpL L H H' := fun a o _ e => s a o e
theorem KpL.trans {H H1 H2 : Hp} (h : KpL L H H1) (k : KpL L H1 H2) : KpL L H H2 := fun a o n e => k a o n (h a o n e)
theorem KpL.put {o : HO} : KpL L H (upd H L o) := fun a u n e => by rw [upd_ne n]; exact e
theorem q_extend (En : EnvOk X H σ Γ) (hi : Γ[i]? = some (.val (.ref L))) (x : X L) (t : Trk X H) (hL : H L = some (.lst xs)) (hx : DXs X H xs ds) (h : G X te σ H (.list es)) (hl : ds.length + es.length ≤ 1000000)
    (k : ∀ H2 ys, H2 L = some (.lst ys) → DXs X H2 ys (ds ++ es) → EnvOk X H2 σ Γ → Trk X H2 → KpL L H H2 → tz D σ H2) : tSeq (tDrop (tBM K "list" rExtend (tVar i) (tCons te tNil))) tz D σ H := by
  refine ⟨.ref L, En.get i _ hi, .inl ⟨rfl, _, SqL.of hL⟩, ?_⟩
  refine h H (Same.refl H) _ fun v H1 s1 dv => ?_
  obtain ⟨b, zs, rfl, nb, hb, hz⟩ := dv.lst_inv
  have hL1 := s1 _ _ hL
  have e1 : xs.length = ds.length := hx.length
  have e2 : zs.length = es.length := hz.length
  refine ⟨L, b, xs, zs, rfl, rfl, hL1, hb, by rw [sizeLine_eq]; omega, ?_⟩
  have kp : Kp X H1 (upd H1 L (.lst (xs ++ zs))) := Kp.put x
  exact k _ _ upd_same (((hx.mono (Kp.of s1)).append hz).mono kp) ((En.same s1).mono kp) ((t.mono s1).put) ((KpL.of s1).trans KpL.put)
theorem q_append (En : EnvOk X H σ Γ) (hi : Γ[i]? = some (.val (.ref L))) (x : X L) (t : Trk X H) (hL : H L = some (.lst xs)) (hx : DXs X H xs ds) (h : G X te σ H d) (hl : ds.length < 1000000)
    (k : ∀ H2 ys, H2 L = some (.lst ys) → DXs X H2 ys (ds ++ [d]) → EnvOk X H2 σ Γ → Trk X H2 → KpL L H H2 → tz D σ H2) : tSeq (tDrop (tBM K "list" rAppend (tVar i) (tCons te tNil))) tz D σ H := by
  refine ⟨.ref L, En.get i _ hi, .inl ⟨rfl, _, SqL.of hL⟩, ?_⟩
  refine h H (Same.refl H) _ fun v H1 s1 dv => ?_
  have hL1 := s1 _ _ hL
  have e1 : xs.length = ds.length := hx.length
  refine ⟨L, xs, v, rfl, rfl, hL1, by rw [sizeLine_eq]; omega, ?_⟩
  have kp : Kp X H1 (upd H1 L (.lst (xs ++ [v]))) := Kp.put x
  exact k _ _ upd_same (((hx.mono (Kp.of s1)).snoc dv).mono kp) ((En.same s1).mono kp) ((t.mono s1).put) ((KpL.of s1).trans KpL.put)
/-- a new list becomes one's own -/
theorem k_own (En : EnvOk X H σ Γ) (t : Trk X H) (h : GN X te σ H (.list ds)) (k : ∀ L H1 xs, H L = none → Same H H1 → H1 L = some (.lst xs) → DXs (fun b => X b ∨ b = L) H1 xs ds → EnvOk (fun b => X b ∨ b = L) H1 (σ.set i (some (.ref L))) (Γ.set i (.val (.ref L))) → Trk (fun b => X b ∨ b = L) H1 → tz D (σ.set i (some (.ref L))) H1) :
    tSeq (tAsg te (gName i)) tz D σ H := by
  refine k_set (h H (Same.refl H) _ fun v H1 s1 dv nw => ?_)
  obtain ⟨L, xs, rfl, nL, hL, hx⟩ := dv.inner
  have h0 := nw L rfl
  exact k L H1 xs h0 s1 hL hx (((En.more (More.one h0)).same s1).setV) (fun a e => e.elim (fun z => t.mono s1 a z) fun z => ⟨_, z ▸ hL⟩)

theorem g_dict (t : Trk X H) : G X tDNewK σ H (.dict []) := fun H1 s Q q => fun p hp => q _ _ (Same.upd hp) (.dic ((t.mono s).new hp) upd_same .nil)
theorem _root_.KD.EnvOk.less {X' : Addr → Prop} (m : ∀ a, X a → X' a) (E : EnvOk X' H σ Γ) : EnvOk X H σ Γ := ⟨E.len, fun i s e => by
  have h := E.get i s e
  cases s with
  | dat d =>
    obtain ⟨v, e1, r⟩ := h
    exact ⟨v, e1, r.less m⟩
  | val v => exact h
  | un => trivial⟩
/-- one's own list is a datum again -/
theorem _root_.KD.EnvOk.give (En : EnvOk (fun b => X b ∨ b = L) H σ Γ) (hi : Γ[i]? = some (.val (.ref L))) (n : ¬ X L) (hL : H L = some (.lst xs)) (hx : DXs (fun b => X b ∨ b = L) H xs ds) : EnvOk X H σ (Γ.set i (.dat (.list ds))) := by
  have E2 : EnvOk X H σ Γ := En.less fun _ => .inl
  refine ⟨by rw [List.length_set]; exact E2.len, fun j s e => ?_⟩
  by_cases hj : i = j
  · subst hj
    have hl : i < Γ.length := (List.getElem?_eq_some_iff.mp hi).1
    rw [List.getElem?_set_self hl] at e
    cases e
    exact ⟨.ref L, En.get i _ hi, .lst n hL (hx.less fun _ => .inl)⟩
  · rw [List.getElem?_set_ne hj] at e
    exact E2.get j s e
end
end K54

/-! Differences, looked at. -/
namespace K54
open PySem PySem.Spec PyProof.Rows L2 KD
-- RAISES check_texts is_difference check_difference cut_text turned_round
/-! ### a target that takes lists and tuples -/
def gAny (K : PySem.W.Frag) (n : Nat) (t : TGs) : TG := fun v σ H Q => gTup K n t v σ H Q ∨ gUnl K n t v σ H Q
theorem pg_any {X : Cx} {es : List Expr} {k : Nat} {pos : Pos} {n : Nat} {t : TGs} (hc : X.calm = true) (hs : PGs X es t) (hn : (assignEach es X.env).length = n := by rfl) (hst : List.findIdx? (·.1) (assignEach es X.env) = none := by rfl) : PG X (.Tuple es k pos) (gAny X.K n t) := by
  exact ⟨fun pins s σ H v u Q I r h => h.elim (fun h => (pg_tup hc hs hn hst).run pins s σ H v u Q I r h) fun h => (pg_unl hc hs hn hst).run pins s σ H v u Q I r h⟩
theorem g_any3 {X : Addr → Prop} {H : Hp} {σ : L2.St} {K : PySem.W.Frag} {i j l : Nat} {v : V} {c d e f : PyData} (hd : DX X H v c) (hs : isSeq c = true) (hi : itemsD c = [d, e, f]) {Ψ : L2.St → Hp → Prop} (q : ∀ u w z, DX X H u d → DX X H w e → DX X H z f → Ψ (((σ.set i (some u)).set j (some w)).set l (some z)) H) :
    gAny K 3 (gCons (gName i) (gCons (gName j) (gCons (gName l) gNil))) v σ H Ψ := by
  cases c with
  | tuple ds =>
    have e : ds = [d, e, f] := hi
    subst e
    exact .inl (g_triple hd q)
  | list ds =>
    have e : ds = [d, e, f] := hi
    subst e
    obtain ⟨a, xs, rfl, _, ea, rx⟩ := hd.lst_inv
    cases rx with
    | cons h1 rx =>
      cases rx with
      | cons h2 rx =>
        cases rx with
        | cons h3 rx =>
          cases rx
          exact .inr ⟨a, _, rfl, SqL.of ea, rfl, _, _, rfl, _, _, rfl, _, _, rfl, rfl, q _ _ _ h1 h2 h3⟩
  | _ => cases hs
theorem envUn' {X : Addr → Prop} {H : Hp} {σ : L2.St} {Γ : List Sv} (E : EnvOk X H σ Γ) (i : Nat) : EnvOk X H σ (Γ.set i .un) := ⟨by rw [List.length_set]; exact E.len, fun j s e => by
  rw [List.getElem?_set] at e
  split at e
  · split at e
    · cases e
      trivial
    · cases e
  · exact E.get j s e⟩
variable {P : Program} {w : World} {K : PySem.W.Frag} {mg : Str → Option Value} {base : Heap}
abbrev s_check_texts : Stmt := topS 12
abbrev n_check_texts : List Str := ["texts", "text", "index"]
theorem sc_check_texts : FnScope n_check_texts ["texts"] (defScope s_check_texts) := ⟨rfl, rfl, rfl, by decide +kernel, rfl, by decide +kernel, by decide +kernel⟩
def textsOut (C : Addr) : PyData → Out
  | .list [d] => if isNone (wrongD d) then .val .none else .err C "index" (wrongD d)
  | _ => .val .none
theorem ok_check_texts {f C : Addr} {fd : FuncData} (F : Fun K "check_texts" "check_texts" s_check_texts f fd) (T : Bl mg) (O_wrong_words : Own P w K mg base CX0 2 "wrong_words" ["things"] (sp1 wordsAll wrongD)) (E_NoText : Ec P w K mg base "NoText" "index" C) : FnOk P w K mg base (L2.CX P w) 3 f fd ["texts"] (spX1 (fun D => ∃ d, D = .list [d] ∧ wordsAll d) (textsOut C)) := by
  refine okX1 F sc_check_texts (by decide) fun cdv A outer s H E X d Q hr t hp q => ⟨_, (pss_one (ps_for (passes_of rfl) rfl (pi_list (pv 0)) (pg_name (i := 1) sc_check_texts.nd rfl (by first | exact Or.inl rfl | exact Or.inr rfl))
    (pss_cons (ps_set (i := 2) sc_check_texts.nd rfl (by first | exact Or.inl rfl | exact Or.inr rfl) (pe_own O_wrong_words hr (by decide) (by rfl) (pa_cons (pv 1) pa_nil)))
    (pss_one (ps_if (pt_cmpR op_notN (pv 2) pe_non (nomark _))
    (pss_one (ps_err rfl E_NoText hr (by decide) (takes_of rfl rfl rfl rfl) (by rfl) (pa_cons (pv 2) pa_nil))) pss_nil))))), fun σ En => ?_⟩
  obtain ⟨d, rfl, hw⟩ := hp
  refine s_forD (X := X) (gi_list (g_var (i := 0) (d := .list [d]) En rfl)) (fun Hb i σ' H' => Same Hb H' ∧ Trk X H' ∧ EnvOk X H' σ' [.dat (.list [d]), .un, .un] ∧ (i = 1 → isNone (wrongD d) = true)) (fun Hb sb => ⟨Same.refl _, t.mono sb, En.same sb, fun h => by cases h⟩) (fun Hb i σ' H' p => ⟨Kp.of p.1, p.2.1⟩) ?_ ?_
  · rintro Hb i x d' σ' H' H'' sb hd ⟨p1, p2, E0, _⟩ s2 dx
    have hi : i = 0 := by
      have := (List.getElem?_eq_some_iff.mp hd).1
      simp at this
      exact this
    subst hi
    cases hd
    have E2 := (E0.same s2).set (i := 1) dx
    have t2 := p2.mono s2
    refine q_set (i := 2) E2 (g_call1 t2 (g_var (i := 1) E2 rfl) hw) fun H3 v3 s3 E3 => ?_
    have t3 := t2.mono s3
    refine s_if (b := !isNone (wrongD d)) (gt_op t3 (g_var (i := 2) E3 rfl) g_non rb_notN) (fun hb H4 s4 => ?_) fun hb H4 s4 => ?_
    · have e : isNone (wrongD d) = false := by simpa using hb
      refine mk_err (X := X) (g_var (i := 2) (E3.same s4) rfl) fun a v H5 s5 e5 dv => q.2 C "index" (wrongD d) (by simp [textsOut, e]) a v H5 (((((sb.trans p1).trans s2).trans s3).trans s4).trans s5) e5 dv
    · have e : isNone (wrongD d) = true := by simpa using hb
      exact ⟨((p1.trans s2).trans s3).trans s4, t3.mono s4, envUn' (envUn' (E3.same s4) 1) 2, fun _ => e⟩
  · rintro Hb σ' H' sb ⟨p1, p2, E0, p4⟩
    have e := p4 rfl
    exact q.1 .none (by simp [textsOut, e]) .non H' (sb.trans p1) .non fun a z => by cases z
/-! ### cuts -/
abbrev s_is_cut : Stmt := topS 14
abbrev n_is_cut : List Str := ["thing"]
theorem sc_is_cut : FnScope n_is_cut ["thing"] (defScope s_is_cut) := ⟨rfl, rfl, rfl, by decide +kernel, rfl, by decide +kernel, by decide +kernel⟩
def isCutD (d : PyData) : Bool := isSeq d && (decide ((itemsD d).length = 3) && (isNumD (it d 0) && isNumD (it d 1))) && (isNone (wrongD (it d 2)) && (decide (0 < intOf (it d 1)) || decide (0 < lenD (it d 2))))
theorem isNumD_int {d : PyData} (h : isNumD d = true) : ∃ i : Int, d = .int i ∧ 0 ≤ i := by
  cases d <;> simp [isNumD] at h ⊢
  exact h
theorem ok_is_cut {f : Addr} {fd : FuncData} (F : Fun K "is_cut" "is_cut" s_is_cut f fd) (T : Bl mg) (O_is_list : Own P w K mg base CX0 1 "is_list" ["thing"] (sp1 (fun _ => True) fun d => .bool (isSeq d))) (O_is_number : Own P w K mg base CX0 2 "is_number" ["thing"] (sp1 (fun _ => True) fun d => .bool (isNumD d)))
    (O_wrong_words : Own P w K mg base CX0 2 "wrong_words" ["things"] (sp1 wordsAll wrongD)) : FnOk P w K mg base CX0 3 f fd ["thing"] (sp1 chPre fun d => .bool (isCutD d)) := by
  refine ok1 F sc_is_cut (by decide) fun cdv A outer s H E X d Q hr t hp q => ⟨_, (pss_cons (ps_if (PW.pt (pw_or (pt_not (pt_val (pe_own O_is_list hr (by decide) (by rfl) (pa_cons (pv 0) pa_nil)))) (pw_or (pt_cmpR (op_neD hr.units) (pe_callB call_len (by rfl) T.b_len boot_len (pa_cons (pv 0) pa_nil)) pe_int (nomark _)) (pw_or (pt_not (pt_val (pe_own O_is_number hr (by decide) (by rfl) (pa_cons (pe_ix ix_seq (pv 0) pe_int (fun _ _ => rfl)) pa_nil)))) (pw_or1 (pt_not (pt_val (pe_own O_is_number hr (by decide) (by rfl) (pa_cons (pe_ix ix_seq (pv 0) pe_int (fun _ _ => rfl)) pa_nil)))))))))
    (pss_one (ps_ret pe_bl)) pss_nil)
    (pss_one (ps_ret (pe_and (pe_cmpR op_isN (pe_own O_wrong_words hr (by decide) (by rfl) (pa_cons (pe_ix ix_seq (pv 0) pe_int (fun _ _ => rfl)) pa_nil)) pe_non (nomark _)) (pe_one (pe_or (pe_cmpR op_gt (pe_ix ix_seq (pv 0) pe_int (fun _ _ => rfl)) pe_int (nomark _)) (pe_one (pe_cmpR op_gt (pe_callB call_len (by rfl) T.b_len boot_len (pa_cons (pe_ix ix_seq (pv 0) pe_int (fun _ _ => rfl)) pa_nil)) pe_int (nomark _))))))))), fun σ En => ?_⟩
  have v0 : ∀ {H1 : Hp}, Same H H1 → G X (tVar 0) σ H1 d := fun s => g_var (i := 0) (En.same s) rfl
  by_cases hs : isSeq d = true
  · obtain ⟨pl, pw⟩ := hp hs
    by_cases h3 : (itemsD d).length = 3
    · have at0 : atI (itemsD d) 0 = some (it d 0) := it_at (i := 0) rfl (by omega)
      have at1 : atI (itemsD d) 1 = some (it d 1) := it_at (i := 1) rfl (by omega)
      have at2 : atI (itemsD d) 2 = some (it d 2) := it_at (i := 2) rfl (by omega)
      have c : isCutD d = ((isNumD (it d 0) && isNumD (it d 1)) && (isNone (wrongD (it d 2)) && (decide (0 < intOf (it d 1)) || decide (0 < lenD (it d 2))))) := by
        unfold isCutD
        rw [hs, decide_eq_true h3]
        rfl
      rw [c] at q
      refine q_if (b := !(isNumD (it d 0) && isNumD (it d 1))) (gt_is (gt_or (a := false) (gt_is (gt_not (gt_B (g_call1 t (v0 (Same.refl _)) trivial))) (by rw [hs]; rfl)) fun _ => gt_or (a := false) (gt_is (gt_neI t (g_is (g_len t (v0 (Same.refl _)) (hasLen_seq hs)) (by rw [lenD_seq hs, h3])) g_int) rfl) fun _ => gt_or (gt_not (gt_B (g_call1 t (g_ix t (v0 (Same.refl _)) hs g_int at0) trivial))) fun _ => gt_not (gt_B (g_call1 t (g_ix t (v0 (Same.refl _)) hs g_int at1) trivial))) (by simp [Bool.not_and])) (fun hb H1 s1 => ?_) fun hb H1 s1 => ?_
      · have e : (isNumD (it d 0) && isNumD (it d 1)) = false := by rw [Bool.not_eq_true'] at hb; exact hb
        rw [e, Bool.false_and] at q
        exact s_ret g_bl fun w H2 s2 dw => q w H2 (s1.trans s2) dw
      · have e : (isNumD (it d 0) && isNumD (it d 1)) = true := by rw [Bool.not_eq_false'] at hb; exact hb
        rw [e, Bool.true_and] at q
        have t1 := t.mono s1
        have w2 : wordsAll (it d 2) := pw _ (it_mem (by omega))
        obtain ⟨m, em, m0⟩ := isNumD_int (Bool.and_eq_true _ _ ▸ e).2
        refine s_ret (g_and (g_op t1 (g_call1 t1 (g_ix t1 (v0 s1) hs g_int at2) w2) g_non (RB.rd rb_isN)) fun hn => g_or (g_op t1 (g_is (g_ix t1 (v0 s1) hs g_int at1) em) g_int (RB.rd (b := decide (0 < intOf (it d 1))) ?_)) fun _ => g_is (g_cmpI t1 (g := fun i j => decide (j < i)) (g_len t1 (g_ix t1 (v0 s1) hs g_int at2) (hasLen_seq (wrong_seq hn))) g_int) ?_) fun w H2 s2 dw => q w H2 (s1.trans s2) dw
        · rw [em]
          exact rb_I0 (g := fun i j => decide (j < i))
        · congr 1
          exact decide_eq_decide.mpr (by omega)
    · have c : isCutD d = false := by
        unfold isCutD
        rw [decide_eq_false h3, Bool.false_and, Bool.and_false, Bool.false_and]
      rw [c] at q
      refine q_if (b := true) (gt_is (gt_or (a := false) (b := true) (gt_is (gt_not (gt_B (g_call1 t (v0 (Same.refl _)) trivial))) (by rw [hs]; rfl)) fun _ => gt_is (gt_or (a := true) (b := true) (gt_is (gt_neI t (g_is (g_len t (v0 (Same.refl _)) (hasLen_seq hs)) (by rw [lenD_seq hs])) g_int) (by rw [decide_eq_false (by omega)]; rfl)) fun h => by cases h) rfl) rfl) (fun hb H1 s1 => ?_) fun h => by cases h
      exact s_ret g_bl fun w H2 s2 dw => q w H2 (s1.trans s2) dw
  · have c : isCutD d = false := by
      unfold isCutD
      rw [Bool.eq_false_iff.mpr hs, Bool.false_and, Bool.false_and]
    rw [c] at q
    refine q_if (b := true) (gt_is (gt_or (a := true) (b := true) (gt_is (gt_not (gt_B (g_call1 t (v0 (Same.refl _)) trivial))) (by rw [Bool.eq_false_iff.mpr hs]; rfl)) fun h => by cases h) rfl) (fun hb H1 s1 => ?_) fun h => by cases h
    exact s_ret g_bl fun w H2 s2 dw => q w H2 (s1.trans s2) dw
end K54

/-! Differences: tests of any object, the text behind, turned round. -/
namespace K54
open PySem PySem.Spec PyProof.Rows L2 KD
-- RAISES check_texts is_difference check_difference cut_text turned_round
-- HINT is_difference it pi_seq
-- HINT is_difference tgt pg_any
-- HINT cut_text it pi_seq
-- HINT cut_text tgt pg_any
-- HINT turned_round it pi_seq
-- HINT turned_round tgt pg_any
variable {P : Program} {w : World} {K : PySem.W.Frag} {mg : Str → Option Value} {base : Heap}
theorem g_all {X : Addr → Prop} {σ : L2.St} {H : Hp} {te : TE} {bs : List Bool} (t : Trk X H) (h : G X te σ H (.list (bs.map PyData.bool))) : G X (tCB (rAll K) (tCons te tNil)) σ H (.bool (bs.all id)) := g_cb t (ga_cons h ga_nil) rf_all
theorem k_nB {te : TE} {σ : L2.St} {H : Hp} {Qb : Bool → Hp → Prop} (h : te σ H fun x H1 => ∃ c, x = V.bl c ∧ Qb (!c) H1) : tNot (tB te) σ H Qb := h
theorem k_if1 {tt : TT} {tu : TS} {D : Ends} {σ : L2.St} {H : Hp} (h : tt σ H fun b H1 => if b = true then tu D σ H1 else D.nx σ H1) : tIfS tt tu tNext D σ H := h
theorem k_drop {te : TE} {tz : TS} {D : Ends} {σ : L2.St} {H : Hp} (h : te σ H fun _ H1 => tz D σ H1) : tSeq (tDrop te) tz D σ H := h
theorem go_neg1 {X : Addr → Prop} {σ : L2.St} {H : Hp} : G X (tUn (rU fun i => .int (-i)) (tC (.int 1))) σ H (.int (-1)) := fun H1 s Q q => ⟨1, rfl, q _ H1 (Same.refl H1) (.int _)⟩
theorem g_sl {X : Addr → Prop} {te : TE} {tl th : TO} {σ : L2.St} {H : Hp} {ds : List PyData} {lo hi : Option Int} (t : Trk X H) (h : G X te σ H (.list ds)) (hl : GO tl σ H lo) (hh : GO th σ H hi) : G X (tSl (rSlL K) te tl th) σ H (.list (cutPD ds lo hi)) := fun H1 s Q q =>
  h H1 s _ fun v H2 s2 r => hl H2 (s.trans s2) _ fun H3 s3 => hh H3 ((s.trans s2).trans s3) _ fun H4 s4 => by
    obtain ⟨a, xs, rfl, n, e, rx⟩ := (r.mono (Kp.of (s3.trans s4))).lst_inv
    exact ⟨a, xs, rfl, SqL.of e, fun p hp => q _ _ (((s2.trans s3).trans s4).trans (Same.upd hp)) (DX.newL ((((t.mono s).mono s2).mono s3).mono s4) (rx.cut lo hi) hp)⟩
def goD : Int → List PyData → Nat → Bool
  | e, [], n => decide (e ≤ (n : Int))
  | e, c :: r, n => if intOf (it c 0) ≤ e then false else goD (intOf (it c 0) + intOf (it c 1)) r n
def isDiffD (a b : PyData) : Bool := isSeq b && (itemsD b).all isCutD && goD (-1) (itemsD b) (lenD a)
def difPre (b : PyData) : Prop := isSeq b = true → (itemsD b).length ≤ 100000 ∧ ∀ z ∈ itemsD b, chPre z
def difPre2 (a b : PyData) : Prop := wordsAll a ∧ difPre b
theorem cut_parts {c : PyData} (h : isCutD c = true) : isSeq c = true ∧ ∃ (p m : Int) (d : PyData), itemsD c = [.int p, .int m, d] ∧ 0 ≤ p ∧ 0 ≤ m ∧ isSeq d = true ∧ intOf (it c 0) = p ∧ intOf (it c 1) = m ∧ it c 2 = d := by
  simp only [isCutD, Bool.and_eq_true, decide_eq_true_eq] at h
  obtain ⟨⟨h1, h2, h3, h4⟩, h5, h6⟩ := h
  obtain ⟨p, e1, p0⟩ := isNumD_int h3
  obtain ⟨m, e2, m0⟩ := isNumD_int h4
  refine ⟨h1, p, m, it c 2, ?_, p0, m0, wrong_seq h5, by rw [e1]; rfl, by rw [e2]; rfl, rfl⟩
  have e3 : itemsD c = [it c 0, it c 1, it c 2] := by
    unfold it
    match itemsD c, h2 with
    | [x, y, z], _ => rfl
  rw [e3, e1, e2]
abbrev s_is_difference : Stmt := topS 15
abbrev n_is_difference : List Str := ["text", "thing", "end", "place", "many", "_", "cut"]
theorem sc_is_difference : FnScope n_is_difference ["text", "thing"] (defScope s_is_difference) := ⟨rfl, rfl, rfl, by decide +kernel, rfl, by decide +kernel, by decide +kernel⟩
theorem ok_is_difference {f C : Addr} {fd : FuncData} (F : Fun K "is_difference" "is_difference" s_is_difference f fd) (T : Bl mg) (O_is_list : Own P w K mg base CX0 1 "is_list" ["thing"] (sp1 (fun _ => True) fun d => .bool (isSeq d))) (O_is_cut : Own P w K mg base CX0 3 "is_cut" ["thing"] (sp1 chPre fun d => .bool (isCutD d)))
    (O_check_texts : Own P w K mg base (L2.CX P w) 3 "check_texts" ["texts"] (spX1 (fun D => ∃ d, D = .list [d] ∧ wordsAll d) (textsOut C))) : FnOk P w K mg base (L2.CX P w) 4 f fd ["text", "thing"] (spX2 difPre2 fun a b => if isNone (wrongD a) then .val (.bool (isDiffD a b)) else .err C "index" (wrongD a)) := by
  refine okX2 F sc_is_difference (by decide) fun cdv A outer s H E X d1 d2 Q hr t hp q => ⟨_, (pss_cons (ps_expr (pe_ownX O_check_texts hr (by decide) (takes_of rfl rfl rfl rfl) (by rfl) (pa_cons (pe_lst (pa_cons (pv 0) pa_nil)) pa_nil)))
    (pss_cons (ps_if (PW.pt (pw_or (pt_not (pt_val (pe_own O_is_list hr (by decide) (by rfl) (pa_cons (pv 1) pa_nil)))) (pw_or1 (pt_not (pt_val (pe_callB (cr_all rfl) (by rfl) T.b_all boot_all (pa_cons (pe_lc (own := [("cut", 6)]) (g := (gName 6)) (tt := tYes) rfl sc_is_difference.nd (pi_seq (pv 1)) (blkOk_by (N := n_is_difference) (sc := defScope s_is_difference) (by decide +kernel)) (fun _ _ _ _ _ => (pg_name (i := 6) sc_is_difference.nd rfl (by first | exact Or.inl rfl | exact Or.inr rfl))) (fun _ _ _ _ _ => pts_nil) (fun _ _ _ _ _ => (pe_own O_is_cut hr (by decide) (by rfl) (pa_cons (pv 6) pa_nil)))) pa_nil)))))))
    (pss_one (ps_ret pe_bl)) pss_nil)
    (pss_cons (ps_set (i := 2) sc_is_difference.nd rfl (by first | exact Or.inl rfl | exact Or.inr rfl) (pe_un un_neg pe_int))
    (pss_cons (ps_for (passes_of rfl) rfl (pi_seq (pv 1)) (pg_any (n := 3) rfl (pgs_cons (pg_name (i := 3) sc_is_difference.nd rfl (by first | exact Or.inl rfl | exact Or.inr rfl)) (pgs_cons (pg_name (i := 4) sc_is_difference.nd rfl (by first | exact Or.inl rfl | exact Or.inr rfl)) (pgs_cons (pg_name (i := 5) sc_is_difference.nd rfl (by first | exact Or.inl rfl | exact Or.inr rfl)) pgs_nil))))
    (pss_cons (ps_if (pt_cmpR op_le (pv 3) (pv 2) (nomark _))
    (pss_one (ps_ret pe_bl)) pss_nil)
    (pss_one (ps_set (i := 2) sc_is_difference.nd rfl (by first | exact Or.inl rfl | exact Or.inr rfl) (pe_op op_addA (pv 3) (pv 4))))))
    (pss_one (ps_ret (pe_cmpR op_le (pv 2) (pe_callB call_len (by rfl) T.b_len boot_len (pa_cons (pv 0) pa_nil)) (nomark _)))))))), fun σ En => ?_⟩
  obtain ⟨hw, hd⟩ := hp
  refine k_drop (c_X1 t (g_lst t (ga_cons (g_var (i := 0) En rfl) ga_nil) (by simp)) ⟨d1, rfl, hw⟩ ⟨fun r e w0 H1 s1 _ _ => ?_, fun C' fl r e a v H1 s1 ea dv => ?_⟩)
  rotate_left
  · have h : isNone (wrongD d1) = false := by
      cases h : isNone (wrongD d1) with
      | false => rfl
      | true => simp [textsOut, h] at e
    simp [textsOut, h] at e
    obtain ⟨rfl, rfl, rfl⟩ := e
    exact q.2 _ _ _ (by simp [h]) a v H1 s1 ea dv
  have hn : isNone (wrongD d1) = true := by
    cases h : isNone (wrongD d1) with
    | true => rfl
    | false => simp [textsOut, h] at e
  have E1 := En.same s1
  have t1 := t.mono s1
  have kv : ∀ (b : Bool), isDiffD d1 d2 = b → ∀ w H', Same H1 H' → DX X H' w (.bool b) → Q w H' := fun b hb w H' s' dw => q.1 (.bool b) (by simp [hn, hb]) w H' (s1.trans s') dw fun a z => by rw [dw.bl_inv] at z; cases z
  refine q_if (b := !(isSeq d2 && (itemsD d2).all isCutD)) (gt_is (gt_or (a := !isSeq d2) (b := !(isSeq d2 && (itemsD d2).all isCutD)) (gt_not (gt_B (g_call1 t1 (g_var (i := 1) E1 rfl) trivial))) fun hs => ?_) ?_) (fun hb H2 s2 => ?_) fun hb H2 s2 => ?_
  · have hs : isSeq d2 = true := by rw [Bool.not_eq_false'] at hs; exact hs
    obtain ⟨l1, l2⟩ := hd hs
    rw [hs, Bool.true_and]
    refine gt_not (gt_B (g_is (g_all t1 (bs := (itemsD d2).map isCutD) (g_is (g_lc1 (fun d => .bool (isCutD d)) t1 (gi_seq (g_var (i := 1) E1 rfl) hs) (by omega) (fun H1 s d hd => tgt_name (E1.same s)) (fun X' H1 σ2 d hd t E => g_call1 t (g_var (i := 6) E rfl) (l2 d hd))) ?_)) ?_))
    · rw [List.map_map]
      rfl
    · rw [List.all_map]
      rfl
  · cases isSeq d2 <;> simp
  · have e : (isSeq d2 && (itemsD d2).all isCutD) = false := by rw [Bool.not_eq_true'] at hb; exact hb
    exact s_ret g_bl fun w H3 s3 dw => kv false (by unfold isDiffD; rw [e, Bool.false_and]) w H3 (s2.trans s3) dw
  · have e : (isSeq d2 && (itemsD d2).all isCutD) = true := by rw [Bool.not_eq_false'] at hb; exact hb
    obtain ⟨hs, hc⟩ := Bool.and_eq_true _ _ ▸ e
    have hc := List.all_eq_true.mp hc
    have ed : isDiffD d1 d2 = goD (-1) (itemsD d2) (lenD d1) := by unfold isDiffD; rw [e, Bool.true_and]
    have E2 := E1.same s2
    have t2 := t1.mono s2
    refine q_set (i := 2) (d := .int (-1)) E2 go_neg1 fun H3 v3 s3 E3 => ?_
    refine s_forD (X := X) (gi_seq (g_var (i := 1) (d := d2) E3 rfl) hs) (fun Hb i σ' H' => Same Hb H' ∧ Trk X H' ∧ ∃ en : Int, EnvOk X H' σ' [.dat d1, .dat d2, .dat (.int en), .un, .un, .un, .un] ∧ goD (-1) (itemsD d2) (lenD d1) = goD en ((itemsD d2).drop i) (lenD d1)) (fun Hb sb => ⟨Same.refl _, (t2.mono s3).mono sb, -1, E3.same sb, rfl⟩) (fun Hb i σ' H' p => ⟨Kp.of p.1, p.2.1⟩) ?_ ?_
    · rintro Hb i x d σ' H' H'' sb hd ⟨p1, p2, en, E4, p4⟩ s5 dx
      have hm := List.mem_of_getElem? hd
      obtain ⟨c1, p, m, dd, c2, p0, m0, c3, c4, c5, c6⟩ := cut_parts (hc d hm)
      have hi := (List.getElem?_eq_some_iff.mp hd).1
      have edrop : (itemsD d2).drop i = d :: (itemsD d2).drop (i + 1) := by
        rw [List.drop_eq_getElem_cons hi, (List.getElem?_eq_some_iff.mp hd).2]
      refine g_any3 dx c1 c2 fun u v z q1 q2 q3 => ?_
      have E5 := (((E4.same s5).set (i := 3) q1).set (i := 4) q2).set (i := 5) q3
      have t5 := p2.mono s5
      refine q_if (b := decide (p ≤ en)) (gt_cmpI t5 (g := fun i j => decide (i ≤ j)) (g_var (i := 3) E5 rfl) (g_var (i := 2) E5 rfl)) (fun hb H6 s6 => ?_) fun hb H6 s6 => ?_
      · refine s_ret g_bl fun w H7 s7 dw => kv false ?_ w H7 ((((((s2.trans s3).trans sb).trans p1).trans s5).trans s6).trans s7) dw
        rw [ed, p4, edrop, goD, c4, if_pos (of_decide_eq_true hb)]
      · refine (g_addI (t5.mono s6) (g_var (i := 3) (E5.same s6) rfl) (g_var (i := 4) (E5.same s6) rfl)) H6 (Same.refl _) _ fun w7 H7 s7 d7 => ?_
        refine ⟨((p1.trans s5).trans s6).trans s7, (t5.mono s6).mono s7, p + m, envUn' (envUn' (envUn' (((E5.same s6).same s7).set (i := 2) d7) 3) 4) 5, ?_⟩
        rw [p4, edrop, goD, c4, c5, if_neg (of_decide_eq_false hb)]
    · rintro Hb σ' H' sb ⟨p1, p2, en, E4, p4⟩
      rw [List.drop_length] at p4
      exact s_ret (X := X) (D := { nx := fun _ H' => Q .non H', rt := Q }) (g_cmpI p2 (g := fun i j => decide (i ≤ j)) (g_var (i := 2) E4 rfl) (g_len p2 (g_var (i := 0) E4 rfl) (hasLen_seq (wrong_seq hn)))) fun w H7 s7 dw => kv _ (by rw [ed, p4]; rfl) w H7 ((((s2.trans s3).trans sb).trans p1).trans s7) dw
abbrev s_check_difference : Stmt := topS 16
abbrev n_check_difference : List Str := ["text", "cuts"]
theorem sc_check_difference : FnScope n_check_difference ["text", "cuts"] (defScope s_check_difference) := ⟨rfl, rfl, rfl, by decide +kernel, rfl, by decide +kernel, by decide +kernel⟩
def chkOut (C1 C2 : Addr) (r : PyData) (a b : PyData) : Out := if isNone (wrongD a) then (if isDiffD a b then .val r else .err C2 "thing" b) else .err C1 "index" (wrongD a)
theorem ok_check_difference {f C C2 : Addr} {fd : FuncData} (F : Fun K "check_difference" "check_difference" s_check_difference f fd) (T : Bl mg) (O_is_difference : Own P w K mg base (L2.CX P w) 4 "is_difference" ["text", "thing"] (spX2 difPre2 fun a b => if isNone (wrongD a) then .val (.bool (isDiffD a b)) else .err C "index" (wrongD a)))
    (E_BadDifference : Ec P w K mg base "BadDifference" "thing" C2) : FnOk P w K mg base (L2.CX P w) 5 f fd ["text", "cuts"] (spX2 difPre2 (chkOut C C2 .none)) := by
  refine okX2 F sc_check_difference (by decide) fun cdv A outer s H E X d1 d2 Q hr t hp q => ⟨_, (pss_one (ps_if (pt_not (pt_val (pe_ownX O_is_difference hr (by decide) (takes_of rfl rfl rfl rfl) (by rfl) (pa_cons (pv 0) (pa_cons (pv 1) pa_nil)))))
    (pss_one (ps_err rfl E_BadDifference hr (by decide) (takes_of rfl rfl rfl rfl) (by rfl) (pa_cons (pv 1) pa_nil))) pss_nil)), fun σ En => ?_⟩
  refine k_if1 (k_nB (c_X2 t (g_var (i := 0) En rfl) (g_var (i := 1) En rfl) hp ⟨fun r e w0 H1 s1 dw _ => ?_, fun C' fl r e a v H1 s1 ea dv => ?_⟩))
  · have hn : isNone (wrongD d1) = true := by
      cases h : isNone (wrongD d1) with
      | true => rfl
      | false => simp [h] at e
    simp [hn] at e
    subst e
    refine ⟨_, dw.bl_inv, ?_⟩
    cases hd : isDiffD d1 d2 with
    | true => exact q.1 .none (by simp [chkOut, hn, hd]) .non H1 s1 .non fun a z => by cases z
    | false =>
      refine mk_err (X := X) (g_var (i := 1) (En.same s1) rfl) fun a v H2 s2 e2 dv => q.2 C2 "thing" d2 (by simp [chkOut, hn, hd]) a v H2 (s1.trans s2) e2 dv
  · have h : isNone (wrongD d1) = false := by
      cases h : isNone (wrongD d1) with
      | false => rfl
      | true => simp [h] at e
    simp [h] at e
    obtain ⟨rfl, rfl, rfl⟩ := e
    exact q.2 _ _ _ (by simp [chkOut, h]) a v H1 s1 ea dv
end K54

/-! The text behind a difference; turned round. -/
namespace K54
open PySem PySem.Spec PyProof.Rows L2 KD
-- RAISES check_texts is_difference check_difference cut_text turned_round
-- HINT cut_text it pi_seq
-- HINT cut_text tgt pg_any
-- HINT turned_round it pi_seq
-- HINT turned_round tgt pg_any
variable {P : Program} {w : World} {K : PySem.W.Frag} {mg : Str → Option Value} {base : Heap}
def madeL (ts : List PyData) : Int → List PyData → List PyData
  | come, [] => cutPD ts (some come) none
  | come, c :: r => (cutPD ts (some come) (some (intOf (it c 0))) ++ itemsD (it c 2)) ++ madeL ts (intOf (it c 0) + intOf (it c 1)) r
def backL (ts : List PyData) : Int → List PyData → List PyData
  | _, [] => []
  | more, c :: r => .tuple [.int (intOf (it c 0) + more), .int ((itemsD (it c 2)).length : Int), .list (cutPD ts (some (intOf (it c 0))) (some (intOf (it c 0) + intOf (it c 1))))] :: backL ts (more + ((itemsD (it c 2)).length : Int) - intOf (it c 1)) r
def cutPre2 (a b : PyData) : Prop := difPre2 a b ∧ (isNone (wrongD a) = true → isDiffD a b = true → (∃ ds, a = .list ds ∧ ds.length ≤ 1000) ∧ (itemsD b).length ≤ 100 ∧ ∀ z ∈ itemsD b, (itemsD (it z 2)).length ≤ 1000)
def tsOf : PyData → List PyData
  | .list ds => ds
  | _ => []
theorem cutPD_len (ds : List PyData) (lo hi : Option Int) : (cutPD ds lo hi).length ≤ ds.length := by
  show ((ds.drop _).take _).length ≤ _
  rw [List.length_take, List.length_drop]
  omega
def twoOut (C1 C2 : Addr) (g : PyData → PyData → PyData) (a b : PyData) : Out := if isNone (wrongD a) then (if isDiffD a b then .val (g a b) else .err C2 "thing" b) else .err C1 "index" (wrongD a)
/-- ahead of both: the look -/
theorem c_check {X : Addr → Prop} {σ : L2.St} {H : Hp} {ta tb : TE} {E : XK} {d1 d2 : PyData} {C1 C2 : Addr} {g : PyData → PyData → PyData} {Q' : VK} {tz : TS} {D : Ends} (t : Trk X H) (h1 : G X ta σ H d1) (h2 : G X tb σ H d2) (hp : difPre2 d1 d2) (q : EndQ X H (twoOut C1 C2 g d1 d2) Q' E)
    (k : isNone (wrongD d1) = true → isDiffD d1 d2 = true → ∀ H1, Same H H1 → tz D σ H1) : tSeq (tDrop (tCall (spX2 difPre2 (chkOut C1 C2 .none)) [] E (tCons ta (tCons tb tNil)))) tz D σ H := by
  refine k_drop (c_X2 t h1 h2 hp ⟨fun r e w0 H1 s1 dw _ => ?_, fun C' fl r e a v H1 s1 ea dv => ?_⟩)
  · cases hn : isNone (wrongD d1) with
    | false => simp [chkOut, hn] at e
    | true =>
      cases hd : isDiffD d1 d2 with
      | false => simp [chkOut, hn, hd] at e
      | true => exact k hn hd H1 s1
  · refine q.2 C' fl r ?_ a v H1 s1 ea dv
    unfold chkOut at e
    unfold twoOut
    cases hn : isNone (wrongD d1) with
    | false =>
      rw [hn] at e
      exact e
    | true =>
      cases hd : isDiffD d1 d2 with
      | false =>
        rw [hn, hd] at e
        exact e
      | true =>
        rw [hn, hd] at e
        cases e
abbrev s_cut_text : Stmt := topS 17
abbrev n_cut_text : List Str := ["text", "cuts", "made", "come", "place", "many", "words"]
theorem sc_cut_text : FnScope n_cut_text ["text", "cuts"] (defScope s_cut_text) := ⟨rfl, rfl, rfl, by decide +kernel, rfl, by decide +kernel, by decide +kernel⟩
theorem ok_cut_text {f C C2 : Addr} {fd : FuncData} (F : Fun K "cut_text" "cut_text" s_cut_text f fd) (T : Bl mg) (O_check_difference : Own P w K mg base (L2.CX P w) 5 "check_difference" ["text", "cuts"] (spX2 difPre2 (chkOut C C2 .none))) : FnOk P w K mg base (L2.CX P w) 6 f fd ["text", "cuts"] (spX2 cutPre2 (twoOut C C2 fun a b => .list (madeL (tsOf a) 0 (itemsD b)))) := by
  refine okX2 F sc_cut_text (by decide) fun cdv A outer s H E X d1 d2 Q hr t hp q => ⟨_, (pss_cons (ps_expr (pe_ownX O_check_difference hr (by decide) (takes_of rfl rfl rfl rfl) (by rfl) (pa_cons (pv 0) (pa_cons (pv 1) pa_nil))))
    (pss_cons (ps_set (i := 2) sc_cut_text.nd rfl (by first | exact Or.inl rfl | exact Or.inr rfl) (pe_lst pa_nil))
    (pss_cons (ps_set (i := 3) sc_cut_text.nd rfl (by first | exact Or.inl rfl | exact Or.inr rfl) pe_int)
    (pss_cons (ps_for (passes_of rfl) rfl (pi_seq (pv 1)) (pg_any (n := 3) rfl (pgs_cons (pg_name (i := 4) sc_cut_text.nd rfl (by first | exact Or.inl rfl | exact Or.inr rfl)) (pgs_cons (pg_name (i := 5) sc_cut_text.nd rfl (by first | exact Or.inl rfl | exact Or.inr rfl)) (pgs_cons (pg_name (i := 6) sc_cut_text.nd rfl (by first | exact Or.inl rfl | exact Or.inr rfl)) pgs_nil))))
    (pss_cons (ps_expr (pe_bm PySem.F.plainAttrs_list PySem.F.slot_list_extend PySem.F.type_list_extend mt_extend (pv 2) (pa_cons (pe_op op_addA (pe_callTy call_list_of (by rfl) T.b_list boot_list (pa_cons (pe_slice sl_list (pv 0) (po_some (pv 3)) (po_some (pv 4))) pa_nil)) (pe_callTy call_list_of (by rfl) T.b_list boot_list (pa_cons (pv 6) pa_nil))) pa_nil)))
    (pss_one (ps_set (i := 3) sc_cut_text.nd rfl (by first | exact Or.inl rfl | exact Or.inr rfl) (pe_op op_addA (pv 4) (pv 5))))))
    (pss_one (ps_ret (pe_op op_addA (pv 2) (pe_callTy call_list_of (by rfl) T.b_list boot_list (pa_cons (pe_slice sl_list (pv 0) (po_some (pv 3)) po_none) pa_nil))))))))), fun σ En => ?_⟩
  obtain ⟨hp, hv⟩ := hp
  refine c_check t (g_var (i := 0) En rfl) (g_var (i := 1) En rfl) hp q fun hn hd H1 s1 => ?_
  obtain ⟨⟨ts, rfl, lts⟩, lit, lws⟩ := hv hn hd
  have hs : isSeq d2 = true := by
    cases h : isSeq d2 with
    | true => rfl
    | false => simp [isDiffD, h] at hd
  have hc : ∀ z ∈ itemsD d2, isCutD z = true := by
    simp only [isDiffD, Bool.and_eq_true, List.all_eq_true] at hd
    exact hd.1.2
  have kv : ∀ w H', Same H1 H' → DX X H' w (.list (madeL ts 0 (itemsD d2))) → Nw H1 w → Q w H' := fun w H' s' dw nw => q.1 _ (by simp [twoOut, hn, hd, tsOf]) w H' (s1.trans s') dw (Nw.back s1 nw)
  have E1 := En.same s1
  have t1 := t.mono s1
  refine k_own (i := 2) E1 t1 (gn_lst t1 ga_nil (by simp)) fun L H2 xs2 f2 s2 h2 x2 E2 t2 => ?_
  refine q_set (i := 3) (d := .int 0) E2 g_int fun H3 v3 s3 E3 => ?_
  let X' : Addr → Prop := fun b => X b ∨ b = L
  have t3 : Trk X' H3 := t2.mono s3
  have nX : ¬ X L := t1.new f2
  let Γ (come : Int) : List Sv := [.dat (.list ts), .dat d2, .val (.ref L), .dat (.int come), .un, .un, .un]
  refine s_forD (X := X') (gi_seq (g_var (i := 1) (d := d2) E3 rfl) hs) (fun Hb i σ' H' => Kp X' Hb H' ∧ Trk X' H' ∧ Same H1 H' ∧ ∃ (acc : List PyData) (come : Int) (xs : List V), H' L = some (.lst xs) ∧ DXs X' H' xs acc ∧ acc.length ≤ i * 2000 ∧ acc ++ madeL ts come ((itemsD d2).drop i) = madeL ts 0 (itemsD d2) ∧ EnvOk X' H' σ' (Γ come)) ?_ ?_ ?_ ?_
  · intro Hb sb
    refine ⟨Kp.refl, t3.mono sb, (s2.trans s3).trans sb, [], 0, xs2, sb _ _ (s3 _ _ h2), ?_, by simp, rfl, E3.same sb⟩
    cases x2
    exact .nil
  · rintro Hb i σ' H' ⟨p1, p2, _⟩
    exact ⟨p1, p2⟩
  · rintro Hb i x d σ' H' H'' sb hdi ⟨p1, p2, p3, acc, come, xs, p4, p5, p6, p7, E⟩ s5 dx
    have hm := List.mem_of_getElem? hdi
    obtain ⟨c1, p, m, dd, c2, p0, m0, c3, c4, c5, c6⟩ := cut_parts (hc d hm)
    have hi := (List.getElem?_eq_some_iff.mp hdi).1
    have edrop : (itemsD d2).drop i = d :: (itemsD d2).drop (i + 1) := by
      rw [List.drop_eq_getElem_cons hi, (List.getElem?_eq_some_iff.mp hdi).2]
    have lw := lws d hm
    rw [c6] at lw
    refine g_any3 dx c1 c2 fun u v z q1 q2 q3 => ?_
    have E5 := (((E.same s5).set (i := 4) q1).set (i := 5) q2).set (i := 6) q3
    have t5 := p2.mono s5
    have lc := cutPD_len ts (some come) (some p)
    refine q_extend (i := 2) (L := L) (es := cutPD ts (some come) (some p) ++ itemsD dd) E5 rfl (.inr rfl) t5 (s5 _ _ p4) (p5.mono (Kp.of s5)) (g_cat t5 (g_listOf t5 (g_sl t5 (g_var (i := 0) (d := .list ts) E5 rfl) (go_some (g_var (i := 3) E5 rfl)) (go_some (g_var (i := 4) E5 rfl))) rfl) (g_listOf t5 (g_var (i := 6) E5 rfl) c3) (by show (cutPD ts (some come) (some p)).length + _ ≤ _; omega)) (by rw [List.length_append]; omega) fun H6 ys h6 x6 E6 t6 k6 => ?_
    have kx : Kp X' H'' H6 := fun a o n e => k6 a o (fun z => n (.inr z)) e
    have same6 : Same H1 H6 := fun a o e => by
      have n1 : a ≠ L := fun z => by rw [z, f2] at e; cases e
      exact k6 a o n1 (s5 a o (p3 a o e))
    refine (g_addI t6 (g_var (i := 4) E6 rfl) (g_var (i := 5) E6 rfl)) H6 (Same.refl _) _ fun w7 H7 s7 d7 => ?_
    refine ⟨((p1.trans (Kp.of s5)).trans kx).trans (Kp.of s7), t6.mono s7, same6.trans s7, acc ++ (cutPD ts (some come) (some p) ++ itemsD dd), p + m, ys, s7 _ _ h6, x6.mono (Kp.of s7), by rw [List.length_append, List.length_append]; omega, ?_, envUn' (envUn' (envUn' ((E6.same s7).set (i := 3) d7) 4) 5) 6⟩
    rw [← p7, edrop, madeL, c4, c5, c6, List.append_assoc]
  · rintro Hb σ' H' sb ⟨p1, p2, p3, acc, come, xs, p4, p5, p6, p7, E⟩
    rw [List.drop_length, madeL] at p7
    have E8 := E.give (i := 2) rfl nX p4 p5
    have t8 : Trk X H' := t1.mono p3
    have lc := cutPD_len ts (some come) none
    refine s_retN (X := X) (D := { nx := fun _ H' => Q .non H', rt := Q }) (gn_cat t8 (g_var (i := 2) E8 rfl) (g_listOf t8 (g_sl t8 (g_var (i := 0) (d := .list ts) E8 rfl) (go_some (g_var (i := 3) E8 rfl)) go_none) rfl) (by show _ + (cutPD ts (some come) none).length ≤ _; omega)) fun w H9 s9 dw nw => kv w H9 (p3.trans s9) ?_ (Nw.back p3 nw)
    rw [← p7]
    exact dw
abbrev s_turned_round : Stmt := topS 18
abbrev n_turned_round : List Str := ["text", "cuts", "turned_cuts", "more", "place", "many", "words"]
theorem sc_turned_round : FnScope n_turned_round ["text", "cuts"] (defScope s_turned_round) := ⟨rfl, rfl, rfl, by decide +kernel, rfl, by decide +kernel, by decide +kernel⟩
theorem ok_turned_round {f C C2 : Addr} {fd : FuncData} (F : Fun K "turned_round" "turned_round" s_turned_round f fd) (T : Bl mg) (O_check_difference : Own P w K mg base (L2.CX P w) 5 "check_difference" ["text", "cuts"] (spX2 difPre2 (chkOut C C2 .none))) : FnOk P w K mg base (L2.CX P w) 6 f fd ["text", "cuts"] (spX2 cutPre2 (twoOut C C2 fun a b => .list (backL (tsOf a) 0 (itemsD b)))) := by
  refine okX2 F sc_turned_round (by decide) fun cdv A outer s H E X d1 d2 Q hr t hp q => ⟨_, (pss_cons (ps_expr (pe_ownX O_check_difference hr (by decide) (takes_of rfl rfl rfl rfl) (by rfl) (pa_cons (pv 0) (pa_cons (pv 1) pa_nil))))
    (pss_cons (ps_set (i := 2) sc_turned_round.nd rfl (by first | exact Or.inl rfl | exact Or.inr rfl) (pe_lst pa_nil))
    (pss_cons (ps_set (i := 3) sc_turned_round.nd rfl (by first | exact Or.inl rfl | exact Or.inr rfl) pe_int)
    (pss_cons (ps_for (passes_of rfl) rfl (pi_seq (pv 1)) (pg_any (n := 3) rfl (pgs_cons (pg_name (i := 4) sc_turned_round.nd rfl (by first | exact Or.inl rfl | exact Or.inr rfl)) (pgs_cons (pg_name (i := 5) sc_turned_round.nd rfl (by first | exact Or.inl rfl | exact Or.inr rfl)) (pgs_cons (pg_name (i := 6) sc_turned_round.nd rfl (by first | exact Or.inl rfl | exact Or.inr rfl)) pgs_nil))))
    (pss_cons (ps_expr (pe_bm PySem.F.plainAttrs_list PySem.F.slot_list_append PySem.F.type_list_append mt_append (pv 2) (pa_cons (pe_tup (pa_cons (pe_op op_addA (pv 4) (pv 3)) (pa_cons (pe_callB call_len (by rfl) T.b_len boot_len (pa_cons (pv 6) pa_nil)) (pa_cons (pe_callTy call_list_of (by rfl) T.b_list boot_list (pa_cons (pe_slice sl_list (pv 0) (po_some (pv 4)) (po_some (pe_op op_addA (pv 4) (pv 5)))) pa_nil)) pa_nil)))) pa_nil)))
    (pss_one (ps_set (i := 3) sc_turned_round.nd rfl (by first | exact Or.inl rfl | exact Or.inr rfl) (pe_op op_sub (pe_op op_addA (pv 3) (pe_callB call_len (by rfl) T.b_len boot_len (pa_cons (pv 6) pa_nil))) (pv 5))))))
    (pss_one (ps_ret (pv 2))))))), fun σ En => ?_⟩
  obtain ⟨hp, hv⟩ := hp
  refine c_check t (g_var (i := 0) En rfl) (g_var (i := 1) En rfl) hp q fun hn hd H1 s1 => ?_
  obtain ⟨⟨ts, rfl, lts⟩, lit, lws⟩ := hv hn hd
  have hs : isSeq d2 = true := by
    cases h : isSeq d2 with
    | true => rfl
    | false => simp [isDiffD, h] at hd
  have hc : ∀ z ∈ itemsD d2, isCutD z = true := by
    simp only [isDiffD, Bool.and_eq_true, List.all_eq_true] at hd
    exact hd.1.2
  have kv : ∀ w H', Same H1 H' → DX X H' w (.list (backL ts 0 (itemsD d2))) → Nw H1 w → Q w H' := fun w H' s' dw nw => q.1 _ (by simp [twoOut, hn, hd, tsOf]) w H' (s1.trans s') dw (Nw.back s1 nw)
  have E1 := En.same s1
  have t1 := t.mono s1
  refine k_own (i := 2) E1 t1 (gn_lst t1 ga_nil (by simp)) fun L H2 xs2 f2 s2 h2 x2 E2 t2 => ?_
  refine q_set (i := 3) (d := .int 0) E2 g_int fun H3 v3 s3 E3 => ?_
  let X' : Addr → Prop := fun b => X b ∨ b = L
  have t3 : Trk X' H3 := t2.mono s3
  have nX : ¬ X L := t1.new f2
  let Γ (more : Int) : List Sv := [.dat (.list ts), .dat d2, .val (.ref L), .dat (.int more), .un, .un, .un]
  refine s_forD (X := X') (gi_seq (g_var (i := 1) (d := d2) E3 rfl) hs) (fun Hb i σ' H' => Kp X' Hb H' ∧ Trk X' H' ∧ Same H1 H' ∧ ∃ (acc : List PyData) (more : Int) (xs : List V), H' L = some (.lst xs) ∧ DXs X' H' xs acc ∧ acc.length = i ∧ acc ++ backL ts more ((itemsD d2).drop i) = backL ts 0 (itemsD d2) ∧ EnvOk X' H' σ' (Γ more)) ?_ ?_ ?_ ?_
  · intro Hb sb
    refine ⟨Kp.refl, t3.mono sb, (s2.trans s3).trans sb, [], 0, xs2, sb _ _ (s3 _ _ h2), ?_, rfl, rfl, E3.same sb⟩
    cases x2
    exact .nil
  · rintro Hb i σ' H' ⟨p1, p2, _⟩
    exact ⟨p1, p2⟩
  · rintro Hb i x d σ' H' H'' sb hdi ⟨p1, p2, p3, acc, more, xs, p4, p5, p6, p7, E⟩ s5 dx
    have hm := List.mem_of_getElem? hdi
    obtain ⟨c1, p, m, dd, c2, p0, m0, c3, c4, c5, c6⟩ := cut_parts (hc d hm)
    have hi := (List.getElem?_eq_some_iff.mp hdi).1
    have edrop : (itemsD d2).drop i = d :: (itemsD d2).drop (i + 1) := by
      rw [List.drop_eq_getElem_cons hi, (List.getElem?_eq_some_iff.mp hdi).2]
    refine g_any3 dx c1 c2 fun u v z q1 q2 q3 => ?_
    have E5 := (((E.same s5).set (i := 4) q1).set (i := 5) q2).set (i := 6) q3
    have t5 := p2.mono s5
    have gl : ∀ {H1 : Hp} {σ : L2.St} {Γ' : List Sv}, EnvOk X' H1 σ Γ' → Γ'[6]? = some (.dat dd) → Trk X' H1 → G X' (tCB (fun xs H Q => ∃ x n, xs = [x] ∧ LenV K x H n ∧ Q (V.int n) H) (tCons (tVar 6) tNil)) σ H1 (.int ((itemsD dd).length : Int)) := fun E e t => g_is (g_len t (g_var (i := 6) E e) (hasLen_seq c3)) (by rw [lenD_seq c3])
    refine q_append (i := 2) (L := L) (d := .tuple [.int (p + more), .int ((itemsD dd).length : Int), .list (cutPD ts (some p) (some (p + m)))]) E5 rfl (.inr rfl) t5 (s5 _ _ p4) (p5.mono (Kp.of s5)) (g_tup t5 (ga_cons (g_addI t5 (g_var (i := 4) E5 rfl) (g_var (i := 3) E5 rfl)) (ga_cons (gl E5 rfl t5) (ga_cons (g_is (g_listOf t5 (g_sl t5 (g_var (i := 0) (d := .list ts) E5 rfl) (go_some (g_var (i := 4) E5 rfl)) (go_some (g_addI t5 (g_var (i := 4) E5 rfl) (g_var (i := 5) E5 rfl)))) rfl) rfl) ga_nil))) (by simp)) (by omega) fun H6 ys h6 x6 E6 t6 k6 => ?_
    have kx : Kp X' H'' H6 := fun a o n e => k6 a o (fun z => n (.inr z)) e
    have same6 : Same H1 H6 := fun a o e => by
      have n1 : a ≠ L := fun z => by rw [z, f2] at e; cases e
      exact k6 a o n1 (s5 a o (p3 a o e))
    refine (g_sub t6 (g_addI t6 (g_var (i := 3) E6 rfl) (gl E6 rfl t6)) (g_var (i := 5) E6 rfl)) H6 (Same.refl _) _ fun w7 H7 s7 d7 => ?_
    refine ⟨((p1.trans (Kp.of s5)).trans kx).trans (Kp.of s7), t6.mono s7, same6.trans s7, acc ++ [.tuple [.int (p + more), .int ((itemsD dd).length : Int), .list (cutPD ts (some p) (some (p + m)))]], more + ((itemsD dd).length : Int) - m, ys, s7 _ _ h6, x6.mono (Kp.of s7), by rw [List.length_append, p6]; rfl, ?_, envUn' (envUn' (envUn' ((E6.same s7).set (i := 3) d7) 4) 5) 6⟩
    rw [← p7, edrop, backL, c4, c5, c6, List.append_assoc]
    rfl
  · rintro Hb σ' H' sb ⟨p1, p2, p3, acc, more, xs, p4, p5, p6, p7, E⟩
    rw [List.drop_length, backL, List.append_nil] at p7
    exact ⟨.ref L, E.get 2 (.val (.ref L)) rfl, kv _ H' p3 (p7 ▸ .lst nX p4 (DXs.less (fun a h => .inl h) p5)) (Nw.of f2)⟩
end K54

/-! The law's own look; what a difference makes, by the law. -/
namespace K54
open PySem PySem.Spec PyProof.Rows L2 KD
-- HINT _law_is_words in op_notIn_sign
variable {P : Program} {w : World} {K : PySem.W.Frag} {mg : Str → Option Value} {base : Heap}
abbrev s__law_is_words : Stmt := topS 28
abbrev n__law_is_words : List Str := ["_law_thing"]
theorem sc__law_is_words : FnScope n__law_is_words ["_law_thing"] (defScope s__law_is_words) := ⟨rfl, rfl, rfl, by decide +kernel, rfl, by decide +kernel, by decide +kernel⟩
theorem ok_lis_words {f : Addr} {fd : FuncData} (F : Fun K "_law_is_words" "_law_is_words" s__law_is_words f fd) (T : Bl mg) : FnOk P w K mg base CX0 1 f fd ["_law_thing"] (sp1 wordsPre fun d => .bool (isWordsD d)) := by
  refine ok1 F sc__law_is_words (by decide) fun cdv A outer s H E X d Q hr t hp q => ⟨_, (pss_one (ps_ret (pe_and (pe_callB call_isi (by rfl) T.b_isinstance boot_isinstance (pa_cons (pv 0) (pa_cons (pe_bltn (v := .ty "str") (by rfl) T.b_str boot_str rfl) pa_nil))) (pe_and (pe_cmpR op_lt (pe_callB call_len (by rfl) T.b_len boot_len (pa_cons (pv 0) pa_nil)) pe_int (nomark _)) (pe_one (pe_cmpR op_notIn_sign pe_str (pv 0) (by rfl))))))), fun σ En => ?_⟩
  refine s_ret ?_ q
  by_cases h : ∃ z, d = .str z
  · obtain ⟨z, rfl⟩ := h
    refine g_is (g_and (a := true) (b := decide (z.length ≤ 200) && !hasFeed z) (g_is (g_isStr (g_var En rfl)) rfl) fun _ => ?_) (by simp [isWordsD])
    refine g_and (a := decide (z.length ≤ 200)) ?_ fun _ => ?_
    · refine g_is (g_cmpI t (g := fun i j => decide (i < j)) (g_len t (g_var En rfl) (by simpa [hasLen, wordsPre] using hp)) g_int) ?_
      show PyData.bool (decide ((z.length : Int) < 201)) = _
      congr 1
      exact decide_eq_decide.mpr (by omega)
    · exact g_op t g_str (g_var En rfl) rb_notInSign.rd
  · have e1 : isa_str d = false := by cases d <;> first | rfl | exact absurd ⟨_, rfl⟩ h
    have e2 : isWordsD d = false := by cases d <;> first | rfl | exact absurd ⟨_, rfl⟩ h
    rw [e2]
    exact g_is (g_and (a := false) (b := false) (g_is (g_isStr (g_var En rfl)) (by rw [e1])) fun z => absurd z (by decide)) rfl
/-! ### slices of lists and tuples -/
def rSlQ (K : PySem.W.Frag) : V → Option Int → Option Int → Hp → VK → Prop := fun x lo hi H Q => rSlL K x lo hi H Q ∨ rSlA K x lo hi H Q
theorem sl_seq {X : Cx} : SlR X (rSlQ X.K) := SlR.or sl_list sl_tupA
/-- a slice has the slice's items -/
theorem g_slQ {X : Addr → Prop} {te : TE} {tl th : TO} {σ : L2.St} {H : Hp} {d : PyData} {lo hi : Option Int} (t : Trk X H) (h : G X te σ H d) (hs : isSeq d = true) (hl : GO tl σ H lo) (hh : GO th σ H hi) : ∃ e, isSeq e = true ∧ itemsD e = cutPD (itemsD d) lo hi ∧ G X (tSl (rSlQ K) te tl th) σ H e := by
  cases d with
  | list ds =>
    refine ⟨.list (cutPD ds lo hi), rfl, rfl, fun H1 s Q q => ?_⟩
    exact h H1 s _ fun v H2 s2 r => hl H2 (s.trans s2) _ fun H3 s3 => hh H3 ((s.trans s2).trans s3) _ fun H4 s4 => by
      obtain ⟨a, xs, rfl, n, e, rx⟩ := (r.mono (Kp.of (s3.trans s4))).lst_inv
      exact .inl ⟨a, xs, rfl, SqL.of e, fun p hp => q _ _ (((s2.trans s3).trans s4).trans (Same.upd hp)) (DX.newL ((((t.mono s).mono s2).mono s3).mono s4) (rx.cut lo hi) hp)⟩
  | tuple ds =>
    refine ⟨.tuple (cutPD ds lo hi), rfl, rfl, fun H1 s Q q => ?_⟩
    exact h H1 s _ fun v H2 s2 r => hl H2 (s.trans s2) _ fun H3 s3 => hh H3 ((s.trans s2).trans s3) _ fun H4 s4 => by
      obtain ⟨a, xs, rfl, n, e, rx⟩ := (r.mono (Kp.of (s3.trans s4))).tup_inv
      have lx := rx.length
      refine .inr ⟨a, xs, rfl, SqT.of e, fun hw => q _ _ ((s2.trans s3).trans s4) ?_, fun _ p hp => q _ _ (((s2.trans s3).trans s4).trans (Same.upd hp)) (DX.newT ((((t.mono s).mono s2).mono s3).mono s4) (rx.cut lo hi) hp)⟩
      have e2 : cutPD ds lo hi = ds := by
        show (ds.drop (HT.sIx ds.length 0 lo)).take (HT.sIx ds.length ds.length hi - HT.sIx ds.length 0 lo) = ds
        rw [← lx, hw.1, hw.2, List.drop_zero, Nat.sub_zero, lx, List.take_length]
      rw [e2]
      exact .tup n e rx
  | _ => cases hs
/-! ### is it due -/
def dueD : Int → List PyData → Nat → Bool
  | _, [], _ => true
  | far, c :: r, n => if isCutD c then (if intOf (it c 0) ≤ far ∨ (n : Int) < intOf (it c 0) + intOf (it c 1) then false else dueD (intOf (it c 0) + intOf (it c 1)) r n) else false
theorem goD_le : ∀ {r : List PyData} {e : Int} {n : Nat}, (∀ c ∈ r, isCutD c = true) → goD e r n = true → e ≤ (n : Int)
  | [], e, n, _, h => of_decide_eq_true h
  | c :: r, e, n, hc, h => by
    obtain ⟨_, p, m, d, _, p0, m0, _, e1, e2, _⟩ := cut_parts (hc c List.mem_cons_self)
    unfold goD at h
    rw [e1, e2] at h
    split at h
    · cases h
    · have := goD_le (fun z hz => hc z (List.mem_cons_of_mem _ hz)) h
      omega
theorem due_go : ∀ {l : List PyData} {far : Int} {n : Nat}, far ≤ (n : Int) → dueD far l n = (l.all isCutD && goD far l n)
  | [], far, n, h => by
    show true = (true && decide (far ≤ (n : Int)))
    rw [decide_eq_true h]
    rfl
  | c :: r, far, n, h => by
    unfold dueD goD
    rw [List.all_cons]
    cases hc : isCutD c with
    | false => simp
    | true =>
      obtain ⟨_, p, m, d, _, p0, m0, _, e1, e2, _⟩ := cut_parts hc
      rw [e1, e2, if_pos rfl, Bool.true_and]
      by_cases h1 : p ≤ far
      · rw [if_pos (.inl h1), if_pos h1, Bool.and_false]
      · rw [if_neg h1]
        by_cases h2 : (n : Int) < p + m
        · rw [if_pos (.inr h2)]
          cases ha : r.all isCutD with
          | false => rfl
          | true =>
            cases hg : goD (p + m) r n with
            | false => rfl
            | true =>
              have := goD_le (List.all_eq_true.mp ha) hg
              omega
        · rw [if_neg (by omega), due_go (by omega)]
def isDueD (a b : PyData) : Bool := isSeq b && dueD (-1) (itemsD b) (lenD a)
theorem due_is (a b : PyData) : isDueD a b = isDiffD a b := by
  unfold isDueD isDiffD
  rw [due_go (by omega), Bool.and_assoc]
def duePre (a b : PyData) : Prop := isSeq a = true ∧ (isSeq b = true → (itemsD b).length ≤ 100000 ∧ ∀ z ∈ itemsD b, chPre z)
/-- the parts of an item that may be a cut -/
theorem cut_split (c : PyData) : isCutD c = ((isSeq c && (decide ((itemsD c).length = 3) && isSeq (it c 2))) && ((isNumD (it c 0) && isNumD (it c 1)) && ((itemsD (it c 2)).all isWordsD && (decide (0 < intOf (it c 1)) || decide (0 < lenD (it c 2)))))) := by
  have hw : isNone (wrongD (it c 2)) = (isSeq (it c 2) && (itemsD (it c 2)).all isWordsD) := by
    unfold wrongD
    cases h : isSeq (it c 2) with
    | false => rfl
    | true =>
      rw [if_pos rfl, Bool.true_and]
      cases ha : (itemsD (it c 2)).all isWordsD with
      | true => 
        have : ∀ {ds : List PyData} {i : Nat}, (∀ z ∈ ds, isWordsD z = true) → ffD i (ds.map fun z => .bool (isWordsD z)) = .none := by
          intro ds
          induction ds with
          | nil => intro i _; rfl
          | cons d ds ih =>
            intro i h
            rw [List.map_cons, h d List.mem_cons_self, ff_true]
            exact ih fun z hz => h z (List.mem_cons_of_mem _ hz)
        rw [this (List.all_eq_true.mp ha)]
        rfl
      | false =>
        cases hn : isNone (ffD 0 ((itemsD (it c 2)).map fun z => .bool (isWordsD z))) with
        | false => rfl
        | true =>
          have := ffD_none hn
          rw [List.all_eq_true.mpr this] at ha
          cases ha
  unfold isCutD
  rw [hw]
  cases isSeq c <;> cases isSeq (it c 2) <;> cases decide ((itemsD c).length = 3) <;> simp
end K54

/-! Is it due; what it makes. -/
namespace K54
open PySem PySem.Spec PyProof.Rows L2 KD
-- HINT _law_is_due it pi_seq
-- HINT _law_is_due slice sl_seq
-- HINT _law_is_due lcte#1 (tAndV (tCB (rIsi K) (tCons (tVar 4) (tCons (tC (.ty "int")) tNil))) (tAndV (tNotV (tCB (rIsi K) (tCons (tVar 4) (tCons (tC (.ty "bool")) tNil)))) (tOp (rI0 fun i j => V.bl (decide (j ≤ i))) (tVar 4) (tC (.int 0)))))
-- HINT _law_made it pi_seq
-- HINT _law_made tgt pg_any
variable {P : Program} {w : World} {K : PySem.W.Frag} {mg : Str → Option Value} {base : Heap}
theorem k_name {i : Nat} {v : V} {σ : L2.St} {H : Hp} {Ψ : L2.St → Hp → Prop} (h : Ψ (σ.set i (some v)) H) : gName i v σ H Ψ := h
theorem k_par3 {i j l : Nat} {ta tb tc : TE} {tz : TS} {D : Ends} {σ : L2.St} {H : Hp} (h : ta σ H fun x H1 => tb σ H1 fun y H2 => tc σ H2 fun z H3 => ∃ u v w, [x, y, z] = [u, v, w] ∧ tz D (((σ.set i (some u)).set j (some v)).set l (some w)) H3) : tSeq (tPar3 i j l (tCons ta (tCons tb (tCons tc tNil)))) tz D σ H := h
theorem g_lenOwn {X : Addr → Prop} {σ : L2.St} {H : Hp} {Γ : List Sv} {i : Nat} {L : Addr} {xs : List V} (En : EnvOk X H σ Γ) (hi : Γ[i]? = some (.val (.ref L))) (hL : H L = some (.lst xs)) : G X (tCB (fun xs H Q => ∃ x n, xs = [x] ∧ LenV K x H n ∧ Q (V.int n) H) (tCons (tVar i) tNil)) σ H (.int (xs.length : Int)) := fun H1 s Q q =>
  ⟨.ref L, (En.same s).get i _ hi, .ref L, _, rfl, .inl ⟨_, SqL.of (s _ _ hL), rfl⟩, q _ H1 (Same.refl _) (.int _)⟩
theorem cutPD_mid {ds : List PyData} {a b : Nat} (h : a ≤ b) (hb : b ≤ ds.length) : (cutPD ds (some (a : Int)) (some (b : Int))).length = b - a := by
  have e : cutPD ds (some (a : Int)) (some (b : Int)) = (ds.drop a).take (b - a) := by
    show (ds.drop (HT.sIx ds.length 0 (some (a : Int)))).take (HT.sIx ds.length ds.length (some (b : Int)) - HT.sIx ds.length 0 (some (a : Int))) = _
    rw [sIx_nn (by omega), sIx_nn (by omega), Int.toNat_natCast, Int.toNat_natCast, Nat.min_eq_left (by omega), Nat.min_eq_left (by omega)]
  rw [e, List.length_take, List.length_drop]
  omega
abbrev s__law_is_due : Stmt := topS 29
abbrev n__law_is_due : List Str := ["_law_text", "_law_thing", "_law_far", "_law_cut", "_law_one", "_law_words_here"]
theorem sc__law_is_due : FnScope n__law_is_due ["_law_text", "_law_thing"] (defScope s__law_is_due) := ⟨rfl, rfl, rfl, by decide +kernel, rfl, by decide +kernel, by decide +kernel⟩
theorem ok_is_due {f : Addr} {fd : FuncData} (F : Fun K "_law_is_due" "_law_is_due" s__law_is_due f fd) (T : Bl mg) (O__law_is_words : Own P w K mg base CX0 1 "_law_is_words" ["_law_thing"] (sp1 wordsPre fun d => .bool (isWordsD d))) : FnOk P w K mg base CX0 2 f fd ["_law_text", "_law_thing"] (sp2 duePre fun a b => .bool (isDueD a b)) := by
  refine ok2 F sc__law_is_due (by decide) fun cdv A outer s H E X d1 d2 Q hr t hp q => ⟨_, (pss_cons (ps_if (pt_not (pt_val (pe_callB call_isiT (by rfl) T.b_isinstance boot_isinstance (pa_cons (pv 1) (pa_cons (pe_tup (pa_cons (pe_bltn (v := .ty "list") (by rfl) T.b_list boot_list rfl) (pa_cons (pe_bltn (v := .ty "tuple") (by rfl) T.b_tuple boot_tuple rfl) pa_nil))) pa_nil)))))
    (pss_one (ps_ret pe_bl)) pss_nil)
    (pss_cons (ps_set (i := 2) sc__law_is_due.nd rfl (by first | exact Or.inl rfl | exact Or.inr rfl) (pe_un un_neg pe_int))
    (pss_cons (ps_for PassesOwn.never rfl (pi_seq (pv 1)) (pg_name (i := 3) sc__law_is_due.nd rfl (by first | exact Or.inl rfl | exact Or.inr rfl))
    (pss_cons (ps_if (PW.pt (pw_or (pt_not (pt_val (pe_callB call_isiT (by rfl) T.b_isinstance boot_isinstance (pa_cons (pv 3) (pa_cons (pe_tup (pa_cons (pe_bltn (v := .ty "list") (by rfl) T.b_list boot_list rfl) (pa_cons (pe_bltn (v := .ty "tuple") (by rfl) T.b_tuple boot_tuple rfl) pa_nil))) pa_nil))))) (pw_or (pt_cmpR (op_neD hr.units) (pe_callB call_len (by rfl) T.b_len boot_len (pa_cons (pv 3) pa_nil)) pe_int (nomark _)) (pw_or1 (pt_not (pt_val (pe_callB call_isiT (by rfl) T.b_isinstance boot_isinstance (pa_cons (pe_ix ix_seq (pv 3) pe_int (fun _ _ => rfl)) (pa_cons (pe_tup (pa_cons (pe_bltn (v := .ty "list") (by rfl) T.b_list boot_list rfl) (pa_cons (pe_bltn (v := .ty "tuple") (by rfl) T.b_tuple boot_tuple rfl) pa_nil))) pa_nil)))))))))
    (pss_one (ps_ret pe_bl)) pss_nil)
    (pss_cons (ps_if (pt_not (pt_val (pe_callB (cr_all rfl) (by rfl) T.b_all boot_all (pa_cons (pe_lc (own := [("_law_one", 4)]) (g := (gName 4)) (tt := tYes) (te := (tAndV (tCB (rIsi K) (tCons (tVar 4) (tCons (tC (.ty "int")) tNil))) (tAndV (tNotV (tCB (rIsi K) (tCons (tVar 4) (tCons (tC (.ty "bool")) tNil)))) (tOp (rI0 fun i j => V.bl (decide (j ≤ i))) (tVar 4) (tC (.int 0)))))) rfl sc__law_is_due.nd (pi_seq (pe_slice sl_seq (pv 3) po_none (po_some pe_int))) (blkOk_by (N := n__law_is_due) (sc := defScope s__law_is_due) (by decide +kernel)) (fun _ _ _ _ _ => (pg_name (i := 4) sc__law_is_due.nd rfl (by first | exact Or.inl rfl | exact Or.inr rfl))) (fun _ _ _ _ _ => pts_nil) (fun _ _ _ _ _ => (pe_and (pe_callB call_isi (by rfl) T.b_isinstance boot_isinstance (pa_cons (pv 4) (pa_cons (pe_bltn (v := .ty "int") (by rfl) T.b_int boot_int rfl) pa_nil))) (pe_and (pe_not (pe_callB call_isi (by rfl) T.b_isinstance boot_isinstance (pa_cons (pv 4) (pa_cons (pe_bltn (v := .ty "bool") (by rfl) T.b_bool boot_bool rfl) pa_nil)))) (pe_one (pe_cmpR op_ge (pv 4) pe_int (nomark _))))))) pa_nil))))
    (pss_one (ps_ret pe_bl)) pss_nil)
    (pss_cons (ps_if (PW.pt (pw_or (pt_not (pt_val (pe_callB (cr_all rfl) (by rfl) T.b_all boot_all (pa_cons (pe_lc (own := [("_law_words_here", 5)]) (g := (gName 5)) (tt := tYes) rfl sc__law_is_due.nd (pi_seq (pe_ix ix_seq (pv 3) pe_int (fun _ _ => rfl))) (blkOk_by (N := n__law_is_due) (sc := defScope s__law_is_due) (by decide +kernel)) (fun _ _ _ _ _ => (pg_name (i := 5) sc__law_is_due.nd rfl (by first | exact Or.inl rfl | exact Or.inr rfl))) (fun _ _ _ _ _ => pts_nil) (fun _ _ _ _ _ => (pe_own O__law_is_words hr (by decide) (by rfl) (pa_cons (pv 5) pa_nil)))) pa_nil)))) (pw_or1 (PW.pt (pw_and (pt_cmpR (op_eqD hr.units) (pe_ix ix_seq (pv 3) pe_int (fun _ _ => rfl)) pe_int (nomark _)) (pw_and1 (pt_cmpR (op_eqD hr.units) (pe_callB call_len (by rfl) T.b_len boot_len (pa_cons (pe_ix ix_seq (pv 3) pe_int (fun _ _ => rfl)) pa_nil)) pe_int (nomark _))))))))
    (pss_one (ps_ret pe_bl)) pss_nil)
    (pss_cons (ps_if (PW.pt (pw_or (pt_cmpR op_le (pe_ix ix_seq (pv 3) pe_int (fun _ _ => rfl)) (pv 2) (nomark _)) (pw_or1 (pt_cmpR op_gt (pe_op op_addA (pe_ix ix_seq (pv 3) pe_int (fun _ _ => rfl)) (pe_ix ix_seq (pv 3) pe_int (fun _ _ => rfl))) (pe_callB call_len (by rfl) T.b_len boot_len (pa_cons (pv 0) pa_nil)) (nomark _)))))
    (pss_one (ps_ret pe_bl)) pss_nil)
    (pss_one (ps_set (i := 2) sc__law_is_due.nd rfl (by first | exact Or.inl rfl | exact Or.inr rfl) (pe_op op_addA (pe_ix ix_seq (pv 3) pe_int (fun _ _ => rfl)) (pe_ix ix_seq (pv 3) pe_int (fun _ _ => rfl))))))))))
    (pss_one (ps_ret pe_bl))))), fun σ En => ?_⟩
  obtain ⟨ht, hd⟩ := hp
  refine q_if (b := !isSeq d2) (gt_not (gt_B (g_isSeq (g_var (i := 1) En rfl)))) (fun hb H1 s1 => ?_) fun hb H1 s1 => ?_
  · have e : isSeq d2 = false := by rw [Bool.not_eq_true'] at hb; exact hb
    exact s_ret g_bl fun w H2 s2 dw => q w H2 (s1.trans s2) (by show DX X H2 w (.bool (isDueD d1 d2)); unfold isDueD; rw [e, Bool.false_and]; exact dw)
  · have hs : isSeq d2 = true := by rw [Bool.not_eq_false'] at hb; exact hb
    obtain ⟨lq, hq⟩ := hd hs
    have ed : isDueD d1 d2 = dueD (-1) (itemsD d2) (lenD d1) := by unfold isDueD; rw [hs, Bool.true_and]
    have kv : ∀ b, dueD (-1) (itemsD d2) (lenD d1) = b → ∀ w H', Same H1 H' → DX X H' w (.bool b) → Q w H' := fun b hb w H' s' dw => q w H' (s1.trans s') (by show DX X H' w (.bool (isDueD d1 d2)); rw [ed, hb]; exact dw)
    have E1 := En.same s1
    have t1 := t.mono s1
    refine q_set (i := 2) (d := .int (-1)) E1 go_neg1 fun H2 v2 s2 E2 => ?_
    refine s_forD (X := X) (gi_seq (g_var (i := 1) (d := d2) E2 rfl) hs) (fun Hb i σ' H' => Same Hb H' ∧ Trk X H' ∧ ∃ far : Int, EnvOk X H' σ' [.dat d1, .dat d2, .dat (.int far), .un, .un, .un] ∧ dueD (-1) (itemsD d2) (lenD d1) = dueD far ((itemsD d2).drop i) (lenD d1)) (fun Hb sb => ⟨Same.refl _, (t1.mono s2).mono sb, -1, E2.same sb, rfl⟩) (fun Hb i σ' H' p => ⟨Kp.of p.1, p.2.1⟩) ?_ ?_
    · rintro Hb i x d σ' H' H'' sb hdi ⟨p1, p2, far, E4, p4⟩ s5 dx
      have hm := List.mem_of_getElem? hdi
      have hc := hq d hm
      have hi := (List.getElem?_eq_some_iff.mp hdi).1
      have edrop : (itemsD d2).drop i = d :: (itemsD d2).drop (i + 1) := by
        rw [List.drop_eq_getElem_cons hi, (List.getElem?_eq_some_iff.mp hdi).2]
      rw [edrop] at p4
      have no : isCutD d = false → dueD (-1) (itemsD d2) (lenD d1) = false := fun h => by rw [p4, dueD, h]; rfl
      have sall : Same H1 H'' := (((s2.trans sb).trans p1).trans s5)
      have ret : ∀ {D : Ends} {σ : L2.St} {H3 : Hp}, D.rt = Q → dueD (-1) (itemsD d2) (lenD d1) = false → Same H1 H3 → tRet (tC (.bl false)) D σ H3 := fun hD h0 s3 => s_ret (X := X) g_bl fun w H4 s4 dw => by rw [hD]; exact kv false h0 w H4 (s3.trans s4) dw
      refine k_name ?_
      have E5 := (E4.same s5).set (i := 3) dx
      have t5 := p2.mono s5
      have v3 : ∀ {H1 : Hp}, Same H'' H1 → G X (tVar 3) _ H1 d := fun s => g_var (i := 3) (E5.same s) rfl
      have split := cut_split d
      -- a list of three, the last one a list
      refine q_if (b := !(isSeq d && (decide ((itemsD d).length = 3) && isSeq (it d 2)))) (gt_is (gt_or (a := !isSeq d) (b := !(decide ((itemsD d).length = 3) && isSeq (it d 2))) (gt_not (gt_B (g_isSeq (v3 (Same.refl _))))) fun h => ?_) (by cases isSeq d <;> simp)) (fun hb H6 s6 => ?_) fun hb H6 s6 => ?_
      · have h1 : isSeq d = true := by rw [Bool.not_eq_false'] at h; exact h
        refine gt_is (gt_or (a := !decide ((itemsD d).length = 3)) (b := !isSeq (it d 2)) (gt_is (gt_neI t5 (g_is (g_len t5 (v3 (Same.refl _)) (hasLen_seq h1)) (by rw [lenD_seq h1])) g_int) (by congr 1; exact decide_eq_decide.mpr (by omega))) fun h2 => gt_not (gt_B (g_isSeq (g_ix t5 (v3 (Same.refl _)) h1 g_int (it_at (i := 2) rfl (by rw [Bool.not_eq_false'] at h2; have := of_decide_eq_true h2; omega)))))) (by simp [Bool.not_and])
      · exact ret rfl (no (by rw [split]; rw [Bool.not_eq_true'] at hb; rw [hb, Bool.false_and])) (sall.trans s6)
      have h0 : (isSeq d && (decide ((itemsD d).length = 3) && isSeq (it d 2))) = true := by rw [Bool.not_eq_false'] at hb; exact hb
      rw [h0, Bool.true_and] at split
      simp only [Bool.and_eq_true, decide_eq_true_eq] at h0
      obtain ⟨h1, h2, h3⟩ := h0
      obtain ⟨pl, pw⟩ := hc h1
      have t6 := t5.mono s6
      have at0 : atI (itemsD d) 0 = some (it d 0) := it_at (i := 0) rfl (by omega)
      have at1 : atI (itemsD d) 1 = some (it d 1) := it_at (i := 1) rfl (by omega)
      have at2 : atI (itemsD d) 2 = some (it d 2) := it_at (i := 2) rfl (by omega)
      have e3 : itemsD d = [it d 0, it d 1, it d 2] := by
        unfold it
        match itemsD d, h2 with
        | [x, y, z], _ => rfl
      -- its numbers
      obtain ⟨sl, l1, l2, l3⟩ := g_slQ (K := K) (lo := none) (hi := some 2) t6 (v3 s6) h1 go_none (go_some (X := X) g_int)
      have l4 : itemsD sl = [it d 0, it d 1] := by rw [l2, e3]; rfl
      refine q_if (b := !(isNumD (it d 0) && isNumD (it d 1))) (gt_not (gt_B (g_is (g_all t6 (bs := [isNumD (it d 0), isNumD (it d 1)]) (g_is (g_lc1 (fun d => .bool (isNumD d)) t6 (gi_seq l3 l1) (by rw [l4]; simp) (fun H1 s d hd => tgt_name ((E5.same s6).same s)) (fun X' H1 σ2 d hd t E => ?_)) (by rw [l4]; rfl))) (by simp)))) (fun hb H7 s7 => ?_) fun hb H7 s7 => ?_
      · rcases isNumD_eq d with ⟨i, rfl, k1, k2⟩ | ⟨k1, k2⟩
        · rw [k2]
          refine g_is (g_and (a := true) (b := decide (0 ≤ i)) (g_is (g_isInt (g_var (i := 4) E rfl)) rfl) fun _ => g_is (g_and (a := true) (b := decide (0 ≤ i)) (g_not (g_isBool (g_var (i := 4) E rfl))) fun _ => g_cmpI t (g := fun i j => decide (j ≤ i)) (g_var (i := 4) E rfl) g_int) rfl) rfl
        · rw [k2]
          cases hi : isa_int d with
          | false => exact g_is (g_and (a := false) (b := false) (g_is (g_isInt (g_var (i := 4) E rfl)) (by rw [hi])) fun z => absurd z (by decide)) rfl
          | true =>
            have hb : isa_bool d = true := by
              cases hb : isa_bool d with
              | true => rfl
              | false => simp [isIntD, hi, hb] at k1
            exact g_is (g_and (a := true) (b := false) (g_is (g_isInt (g_var (i := 4) E rfl)) (by rw [hi])) fun _ => g_is (g_and (a := false) (b := false) (g_is (g_not (g_isBool (g_var (i := 4) E rfl))) (by rw [hb]; rfl)) fun z => absurd z (by decide)) rfl) rfl
      · exact ret rfl (no (by rw [split]; rw [Bool.not_eq_true'] at hb; rw [hb, Bool.false_and])) ((sall.trans s6).trans s7)
      have hn : (isNumD (it d 0) && isNumD (it d 1)) = true := by rw [Bool.not_eq_false'] at hb; exact hb
      rw [hn, Bool.true_and] at split
      simp only [Bool.and_eq_true] at hn
      obtain ⟨p, ep, p0⟩ := isNumD_int hn.1
      obtain ⟨m, em, m0⟩ := isNumD_int hn.2
      have t7 := t6.mono s7
      have s67 := s6.trans s7
      have w2 : wordsAll (it d 2) := pw _ (it_mem (by omega))
      obtain ⟨wl, ww⟩ := w2 h3
      have g2 : ∀ {H1 : Hp}, Same H'' H1 → G X (tOp (rIx K) (tVar 3) (tC (.int 2))) _ H1 (it d 2) := fun s => g_ix (t5.mono s) (v3 s) h1 g_int at2
      have gp : ∀ {H1 : Hp}, Same H'' H1 → G X (tOp (rIx K) (tVar 3) (tC (.int 0))) _ H1 (.int p) := fun s => g_is (g_ix (t5.mono s) (v3 s) h1 g_int at0) ep
      have gm : ∀ {H1 : Hp}, Same H'' H1 → G X (tOp (rIx K) (tVar 3) (tC (.int 1))) _ H1 (.int m) := fun s => g_is (g_ix (t5.mono s) (v3 s) h1 g_int at1) em
      have z1 : intOf (it d 1) = m := by rw [em]; rfl
      have z0 : intOf (it d 0) = p := by rw [ep]; rfl
      -- its words
      refine q_if (b := !((itemsD (it d 2)).all isWordsD && (decide (0 < m) || decide (0 < lenD (it d 2))))) (gt_is (gt_or (a := !(itemsD (it d 2)).all isWordsD) (b := decide (m = 0) && decide ((lenD (it d 2) : Int) = 0)) (gt_not (gt_B (g_is (g_all t7 (bs := (itemsD (it d 2)).map isWordsD) (g_is (g_lc1 (fun d => .bool (isWordsD d)) t7 (gi_seq (g2 s67) h3) (by omega) (fun H1 s d hd => tgt_name ((E5.same s67).same s)) (fun X' H1 σ2 d hd t E => g_call1 t (g_var (i := 5) E rfl) (ww d hd))) (by rw [List.map_map]; rfl))) (by rw [List.all_map]; rfl)))) fun _ => gt_and (gt_eqI t7 (gm s67) g_int) fun _ => gt_eqI t7 (g_len t7 (g2 s67) (hasLen_seq h3)) g_int) ?_) (fun hb H8 s8 => ?_) fun hb H8 s8 => ?_
      · rw [Bool.not_and, Bool.not_or]
        congr 2
        · rw [← Bool.not_inj_iff, Bool.not_not, Bool.eq_iff_iff]
          simp
          omega
        · rw [← Bool.not_inj_iff, Bool.not_not, Bool.eq_iff_iff]
          simp
          omega
      · exact ret rfl (no (by rw [split, z1]; rw [Bool.not_eq_true'] at hb; exact hb)) ((sall.trans s67).trans s8)
      have hcut : isCutD d = true := by rw [split, z1]; rw [Bool.not_eq_false'] at hb; exact hb
      have t8 := t7.mono s8
      have s68 := s67.trans s8
      rw [dueD, if_pos hcut, z0, z1] at p4
      -- where it stands
      refine q_if (b := decide (p ≤ far) || decide ((lenD d1 : Int) < p + m)) (gt_or (gt_cmpI t8 (g := fun i j => decide (i ≤ j)) (gp s68) (g_var (i := 2) (E5.same s68) rfl)) fun _ => gt_cmpI t8 (g := fun i j => decide (j < i)) (g_addI t8 (gp s68) (gm s68)) (g_len t8 (g_var (i := 0) (E5.same s68) rfl) (hasLen_seq ht))) (fun hb H9 s9 => ?_) fun hb H9 s9 => ?_
      · refine ret rfl ?_ ((sall.trans s68).trans s9)
        rw [p4, if_pos (by simpa using hb)]
      · have s69 := s68.trans s9
        refine (g_addI (t8.mono s9) (gp s69) (gm s69)) H9 (Same.refl _) _ fun w10 H10 s10 d10 => ?_
        refine ⟨(((p1.trans s5).trans s69).trans s10), (t8.mono s9).mono s10, p + m, envUn' (((E5.same s69).same s10).set (i := 2) d10) 3, ?_⟩
        rw [p4, if_neg (by simpa using hb)]
    · rintro Hb σ' H' sb ⟨p1, p2, far, E4, p4⟩
      rw [List.drop_length] at p4
      exact s_ret (σ := σ') (X := X) (D := { nx := fun _ H' => Q .non H', rt := Q }) g_bl fun w H3 s3 dw => kv true (by rw [p4]; rfl) w H3 (((s2.trans sb).trans p1).trans s3) dw
end K54

/-! What a difference makes, by the law. -/
namespace K54
open PySem PySem.Spec PyProof.Rows L2 KD
-- HINT _law_made it pi_seq
-- HINT _law_made tgt pg_any
variable {P : Program} {w : World} {K : PySem.W.Frag} {mg : Str → Option Value} {base : Heap}
def madePre (a b : PyData) : Prop := (∃ ds, a = .list ds ∧ ds.length ≤ 1000) ∧ isDiffD a b = true ∧ (itemsD b).length ≤ 100 ∧ ∀ z ∈ itemsD b, (itemsD (it z 2)).length ≤ 1000
abbrev s__law_made : Stmt := topS 33
abbrev n__law_made : List Str := ["_law_text", "_law_cuts", "_law_found", "_law_back", "_law_far", "_law_place", "_law_many", "_law_words_here"]
theorem sc__law_made : FnScope n__law_made ["_law_text", "_law_cuts"] (defScope s__law_made) := ⟨rfl, rfl, rfl, by decide +kernel, rfl, by decide +kernel, by decide +kernel⟩
theorem ok_made {f : Addr} {fd : FuncData} (F : Fun K "_law_made" "_law_made" s__law_made f fd) (T : Bl mg) : FnOk P w K mg base CX0 1 f fd ["_law_text", "_law_cuts"] (sp2 madePre fun a b => .tuple [.list (madeL (tsOf a) 0 (itemsD b)), .list (backL (tsOf a) 0 (itemsD b))]) := by
  refine ok2 F sc__law_made (by decide) fun cdv A outer s H E X d1 d2 Q hr t hp q => ⟨_, (pss_cons (ps_par3 (i := 2) (j := 3) (l := 4) (by rfl) sc__law_made.nd rfl rfl rfl (by decide) (by decide) (by decide) rfl rfl rfl (pa_cons (pe_lst pa_nil) (pa_cons (pe_lst pa_nil) (pa_cons pe_int pa_nil))) (by rfl))
    (pss_cons (ps_for PassesOwn.never rfl (pi_seq (pv 1)) (pg_any (n := 3) rfl (pgs_cons (pg_name (i := 5) sc__law_made.nd rfl (by first | exact Or.inl rfl | exact Or.inr rfl)) (pgs_cons (pg_name (i := 6) sc__law_made.nd rfl (by first | exact Or.inl rfl | exact Or.inr rfl)) (pgs_cons (pg_name (i := 7) sc__law_made.nd rfl (by first | exact Or.inl rfl | exact Or.inr rfl)) pgs_nil))))
    (pss_cons (ps_expr (pe_bm PySem.F.plainAttrs_list PySem.F.slot_list_extend PySem.F.type_list_extend mt_extend (pv 2) (pa_cons (pe_callTy call_list_of (by rfl) T.b_list boot_list (pa_cons (pe_slice sl_list (pv 0) (po_some (pv 4)) (po_some (pv 5))) pa_nil)) pa_nil)))
    (pss_cons (ps_expr (pe_bm PySem.F.plainAttrs_list PySem.F.slot_list_append PySem.F.type_list_append mt_append (pv 3) (pa_cons (pe_tup (pa_cons (pe_callB call_len (by rfl) T.b_len boot_len (pa_cons (pv 2) pa_nil)) (pa_cons (pe_callB call_len (by rfl) T.b_len boot_len (pa_cons (pv 7) pa_nil)) (pa_cons (pe_callTy call_list_of (by rfl) T.b_list boot_list (pa_cons (pe_slice sl_list (pv 0) (po_some (pv 5)) (po_some (pe_op op_addA (pv 5) (pv 6)))) pa_nil)) pa_nil)))) pa_nil)))
    (pss_cons (ps_expr (pe_bm PySem.F.plainAttrs_list PySem.F.slot_list_extend PySem.F.type_list_extend mt_extend (pv 2) (pa_cons (pe_callTy call_list_of (by rfl) T.b_list boot_list (pa_cons (pv 7) pa_nil)) pa_nil)))
    (pss_one (ps_set (i := 4) sc__law_made.nd rfl (by first | exact Or.inl rfl | exact Or.inr rfl) (pe_op op_addA (pv 5) (pv 6))))))))
    (pss_one (ps_ret (pe_tup (pa_cons (pe_op op_addA (pv 2) (pe_callTy call_list_of (by rfl) T.b_list boot_list (pa_cons (pe_slice sl_list (pv 0) (po_some (pv 4)) po_none) pa_nil))) (pa_cons (pv 3) pa_nil))))))), fun σ En => ?_⟩
  obtain ⟨⟨ts, rfl, lts⟩, hd, lit, lws⟩ := hp
  have hs : isSeq d2 = true := by
    cases h : isSeq d2 with
    | true => rfl
    | false => simp [isDiffD, h] at hd
  simp only [isDiffD, Bool.and_eq_true, List.all_eq_true] at hd
  obtain ⟨⟨_, hc⟩, hgo⟩ := hd
  have hgo : goD (-1) (itemsD d2) ts.length = true := hgo
  have q : ∀ w H', Same H H' → DX X H' w (.tuple [.list (madeL ts 0 (itemsD d2)), .list (backL ts 0 (itemsD d2))]) → Q w H' := q
  refine k_par3 ?_
  refine ⟨by show 0 ≤ sizeLine; omega, fun L hL => ⟨by show 0 ≤ sizeLine; omega, fun M hM => ⟨_, _, _, rfl, ?_⟩⟩⟩
  let H1 := upd H L (.lst [])
  let H2 := upd H1 M (.lst [])
  have s1 : Same H H1 := Same.upd hL
  have s2 : Same H1 H2 := Same.upd hM
  have hM0 : H M = none := s1.free hM
  have ne : L ≠ M := fun e => by
    have h1 : upd H L (.lst []) L = some (.lst []) := upd_same
    have h2 := (congrArg (upd H L (.lst [])) e).trans hM
    rw [h1] at h2
    cases h2
  let X' : Addr → Prop := fun b => X b ∨ b = L
  let X'' : Addr → Prop := fun b => X' b ∨ b = M
  have nX : ¬ X L := t.new hL
  have t1 : Trk X' H1 := t.one hL
  have nX' : ¬ X' M := t1.new hM
  have t2 : Trk X'' H2 := t1.one hM
  let Γ (far : Int) : List Sv := [.dat (.list ts), .dat d2, .val (.ref L), .val (.ref M), .dat (.int far), .un, .un, .un]
  have E2 : EnvOk X'' H2 _ (Γ 0) := ((((((En.more (More.one hL)).same s1).more (More.one hM)).same s2).setV (i := 2) (v := .ref L)).setV (i := 3) (v := .ref M)).set (i := 4) (v := .int 0) (d := .int 0) (.int _)
  have hL2 : H2 L = some (.lst []) := s2 _ _ upd_same
  refine s_forD (X := X'') (gi_seq (g_var (i := 1) (d := d2) E2 rfl) hs) (fun Hb i σ' H' => Kp X'' Hb H' ∧ Trk X'' H' ∧ Same H H' ∧ ∃ (acc bac : List PyData) (far more en : Int) (xs ys : List V), H' L = some (.lst xs) ∧ DXs X'' H' xs acc ∧ H' M = some (.lst ys) ∧ DXs X'' H' ys bac ∧ acc.length ≤ i * 2000 ∧ bac.length = i ∧ acc ++ madeL ts far ((itemsD d2).drop i) = madeL ts 0 (itemsD d2) ∧ bac ++ backL ts more ((itemsD d2).drop i) = backL ts 0 (itemsD d2) ∧ (acc.length : Int) = far + more ∧ goD en ((itemsD d2).drop i) ts.length = true ∧ 0 ≤ far ∧ (far = en ∨ (en = -1 ∧ far = 0)) ∧ EnvOk X'' H' σ' (Γ far)) ?_ ?_ ?_ ?_
  · intro Hb sb
    exact ⟨Kp.refl, t2.mono sb, (s1.trans s2).trans sb, [], [], 0, 0, -1, [], [], sb _ _ hL2, .nil, sb _ _ upd_same, .nil, by simp, rfl, rfl, rfl, rfl, hgo, by omega, .inr ⟨rfl, rfl⟩, E2.same sb⟩
  · rintro Hb i σ' H' ⟨p1, p2, _⟩
    exact ⟨p1, p2⟩
  · rintro Hb i x d σ' H' H'' sb hdi ⟨p1, p2, p3, acc, bac, far, more, en, xs, ys, p4, p5, p6, p7, p8, p9, p10, p11, p12, p13, p14, p15, E⟩ s5 dx
    have hm := List.mem_of_getElem? hdi
    obtain ⟨c1, p, m, dd, c2, p0, m0, c3, c4, c5, c6⟩ := cut_parts (hc d hm)
    have hi := (List.getElem?_eq_some_iff.mp hdi).1
    have edrop : (itemsD d2).drop i = d :: (itemsD d2).drop (i + 1) := by
      rw [List.drop_eq_getElem_cons hi, (List.getElem?_eq_some_iff.mp hdi).2]
    have lw := lws d hm
    rw [c6] at lw
    rw [edrop, goD, c4, c5] at p13
    have hpe : ¬ p ≤ en := fun z => by rw [if_pos z] at p13; cases p13
    rw [if_neg hpe] at p13
    have hle := goD_le (fun c hcm => hc c (List.mem_of_mem_drop hcm)) p13
    have hfp : far ≤ p := by omega
    refine g_any3 dx c1 c2 fun u v z q1 q2 q3 => ?_
    have E5 := (((E.same s5).set (i := 5) q1).set (i := 6) q2).set (i := 7) q3
    have t5 := p2.mono s5
    have lc := cutPD_len ts (some far) (some p)
    have lc2 : ((cutPD ts (some far) (some p)).length : Int) = p - far := by
      have := cutPD_mid (ds := ts) (a := far.toNat) (b := p.toNat) (by omega) (by omega)
      rw [show ((far.toNat : Nat) : Int) = far from by omega, show ((p.toNat : Nat) : Int) = p from by omega] at this
      omega
    refine q_extend (i := 2) (L := L) (es := cutPD ts (some far) (some p)) E5 rfl (.inl (.inr rfl)) t5 (s5 _ _ p4) (p5.mono (Kp.of s5)) (g_is (g_listOf t5 (g_sl t5 (g_var (i := 0) (d := .list ts) E5 rfl) (go_some (g_var (i := 4) E5 rfl)) (go_some (g_var (i := 5) E5 rfl))) rfl) rfl) (by omega) fun H6 xs6 h6 x6 E6 t6 k6 => ?_
    have kx6 : Kp X'' H'' H6 := fun a o n e => k6 a o (fun z => n (.inl (.inr z))) e
    have m6 : H6 M = some (.lst ys) := k6 _ _ (Ne.symm ne) (s5 _ _ p6)
    have lx6 : xs6.length = (acc ++ cutPD ts (some far) (some p)).length := x6.length
    have gl : ∀ {H1 : Hp} {σ : L2.St} {Γ' : List Sv}, EnvOk X'' H1 σ Γ' → Γ'[7]? = some (.dat dd) → Trk X'' H1 → G X'' (tCB (fun xs H Q => ∃ x n, xs = [x] ∧ LenV K x H n ∧ Q (V.int n) H) (tCons (tVar 7) tNil)) σ H1 (.int ((itemsD dd).length : Int)) := fun E e t => g_is (g_len t (g_var (i := 7) E e) (hasLen_seq c3)) (by rw [lenD_seq c3])
    refine q_append (i := 3) (L := M) (d := .tuple [.int (p + more), .int ((itemsD dd).length : Int), .list (cutPD ts (some p) (some (p + m)))]) E6 rfl (.inr rfl) t6 m6 ((p7.mono (Kp.of s5)).mono kx6) (g_tup t6 (ga_cons (g_is (g_lenOwn (i := 2) (K := K) E6 rfl h6) (by rw [lx6, List.length_append]; congr 1; push_cast; omega)) (ga_cons (gl E6 rfl t6) (ga_cons (g_is (g_listOf t6 (g_sl t6 (g_var (i := 0) (d := .list ts) E6 rfl) (go_some (g_var (i := 5) E6 rfl)) (go_some (g_addI t6 (g_var (i := 5) E6 rfl) (g_var (i := 6) E6 rfl)))) rfl) rfl) ga_nil))) (by simp)) (by omega) fun H7 ys7 h7 y7 E7 t7 k7 => ?_
    have kx7 : Kp X'' H6 H7 := fun a o n e => k7 a o (fun z => n (.inr z)) e
    have l7 : H7 L = some (.lst xs6) := k7 _ _ ne h6
    refine q_extend (i := 2) (L := L) (es := itemsD dd) E7 rfl (.inl (.inr rfl)) t7 l7 (x6.mono kx7) (g_listOf t7 (g_var (i := 7) E7 rfl) c3) (by rw [List.length_append]; omega) fun H8 xs8 h8 x8 E8 t8 k8 => ?_
    have kx8 : Kp X'' H7 H8 := fun a o n e => k8 a o (fun z => n (.inl (.inr z))) e
    have m8 : H8 M = some (.lst ys7) := k8 _ _ (Ne.symm ne) h7
    have same8 : Same H H8 := fun a o e => by
      have n1 : a ≠ L := fun z => by rw [z, hL] at e; cases e
      have n2 : a ≠ M := fun z => by rw [z, hM0] at e; cases e
      exact k8 a o n1 (k7 a o n2 (k6 a o n1 (s5 a o (p3 a o e))))
    refine (g_addI t8 (g_var (i := 5) E8 rfl) (g_var (i := 6) E8 rfl)) H8 (Same.refl _) _ fun w9 H9 s9 d9 => ?_
    refine ⟨(((p1.trans (Kp.of s5)).trans (kx6.trans (kx7.trans kx8)))).trans (Kp.of s9), t8.mono s9, same8.trans s9, (acc ++ cutPD ts (some far) (some p)) ++ itemsD dd, bac ++ [.tuple [.int (p + more), .int ((itemsD dd).length : Int), .list (cutPD ts (some p) (some (p + m)))]], p + m, more + ((itemsD dd).length : Int) - m, p + m, xs8, ys7, s9 _ _ h8, x8.mono (Kp.of s9), s9 _ _ m8, (y7.mono kx8).mono (Kp.of s9), by rw [List.length_append, List.length_append]; omega, by rw [List.length_append, p9]; rfl, ?_, ?_, ?_, p13, by omega, .inl rfl, envUn' (envUn' (envUn' ((E8.same s9).set (i := 4) d9) 5) 6) 7⟩
    · rw [← p10, edrop, madeL, c4, c5, c6, List.append_assoc, List.append_assoc, List.append_assoc]
    · rw [← p11, edrop, backL, c4, c5, c6, List.append_assoc]
      rfl
    · rw [List.length_append, List.length_append]
      push_cast
      omega
  · rintro Hb σ' H' sb ⟨p1, p2, p3, acc, bac, far, more, en, xs, ys, p4, p5, p6, p7, p8, p9, p10, p11, p12, p13, p14, p15, E⟩
    rw [List.drop_length] at p10 p11
    rw [madeL] at p10
    rw [backL, List.append_nil] at p11
    have E8 := E.give (i := 3) rfl nX' p6 p7
    have p5' := DXs.less (fun a => Or.inl) p5
    have E9 := EnvOk.give (i := 2) E8 rfl nX p4 p5'
    have t9 : Trk X H' := t.mono p3
    have lc := cutPD_len ts (some far) none
    refine s_ret (σ := σ') (X := X) (D := { nx := fun _ H' => Q .non H', rt := Q }) (g_tup t9 (ga_cons (g_cat t9 (g_var (i := 2) E9 rfl) (g_is (e := .list (cutPD ts (some far) none)) (g_listOf t9 (g_sl t9 (g_var (i := 0) (d := .list ts) E9 rfl) (go_some (g_var (i := 4) E9 rfl)) go_none) rfl) rfl) (by omega)) (ga_cons (g_var (i := 3) E9 rfl) ga_nil)) (by simp)) fun w H9 s9 dw => q w H9 (p3.trans s9) ?_
    rw [← p10, ← p11]
    exact dw
end K54

/-! What is drawn: texts, differences. -/
namespace K54
open PySem PySem.Spec PyProof.Rows L2 KD
variable {P : Program} {w : World} {K : PySem.W.Frag} {mg : Str → Option Value} {base : Heap}
theorem c_mixed {X : Addr → Prop} {st cl : Addr} {n : Nat} {H : Hp} {σ : L2.St} {ts tm : TE} {E : XK} {ds : List PyData} {Q : VK} (S : Sg X st cl n H) (hv : GV ts σ H (.ref st)) (hm : G X tm σ H (.list ds)) (hn : n + ds.length ≤ 1000000000) (h1 : ds.length < 1000000)
    (k : ∀ w es H', es.Perm ds → Sg X st cl (n + ds.length) H' → KpS st cl H H' → DX X H' w (.list es) → Q w H') : tCall spMixed [] E (tCons ts (tCons tm tNil)) σ H Q :=
  hv H (Same.refl H) _ (hm H (Same.refl H) _ fun v H1 s1 r => ⟨X, st, cl, n, v, ds, rfl, S.same s1, hn, r, h1, fun w es H' hp S2 kk dw _ => k w es H' hp S2 ((KpS.of s1).trans kk) dw⟩)
theorem k_sl {te : TE} {to th : TO} {rs : V → Option Int → Option Int → Hp → VK → Prop} {σ : L2.St} {H : Hp} {Q : VK} (h : te σ H fun x H1 => to σ H1 fun l H2 => th σ H2 fun u H3 => rs x l u H3 Q) : tSl rs te to th σ H Q := h
theorem cutP_to (ds : List PyData) {q : Int} (hq : 0 ≤ q) : cutPD ds none (some q) = ds.take q.toNat := by
  show (ds.drop (HT.sIx ds.length 0 none)).take (HT.sIx ds.length ds.length (some q) - HT.sIx ds.length 0 none) = _
  rw [sIx_nn hq]
  show (ds.drop 0).take (min q.toNat ds.length - 0) = _
  rw [List.drop_zero, Nat.sub_zero]
  by_cases h : q.toNat ≤ ds.length
  · rw [Nat.min_eq_left h]
  · rw [Nat.min_eq_right (by omega), List.take_length, List.take_of_length_le (by omega)]
def mW : List Str := ["x", "y", "z", "", "a b", "0"]
def dW : List Str := ["x", "y", "z", "", "a b", " ", "line a.0 x", "0", "x"]
abbrev s__law_m_text : Stmt := topS 20
abbrev n__law_m_text : List Str := ["_law_stream", "_law_most", "_law_some", "_law_k"]
theorem sc__law_m_text : FnScope n__law_m_text ["_law_stream", "_law_most"] (defScope s__law_m_text) := ⟨rfl, rfl, rfl, by decide +kernel, rfl, by decide +kernel, by decide +kernel⟩
def spMText : Sp := fun vs H Q _ => ∃ (X : Addr → Prop) (st cl : Addr) (n m : Nat), vs = [.ref st, .int (m : Int)] ∧ Sg X st cl n H ∧ n + 100 ≤ 1000000000 ∧ m ≤ 20 ∧ ∀ w ws H', ws.length ≤ m → (∀ z ∈ ws, z ∈ mW) → Sg X st cl (n + 40) H' → KpS st cl H H' → DX X H' w (wsD ws) → Q w H'
theorem ok_m_text {f : Addr} {fd : FuncData} (F : Fun K "_law_m_text" "_law_m_text" s__law_m_text f fd) (T : Bl mg) (O__law_draw : Own P w K mg base CX0 1 "_law_draw" ["_law_stream", "_law_many"] spDraw) (O__law_pick : Own P w K mg base CX0 2 "_law_pick" ["_law_stream", "_law_some"] spPick) (O__law_mixed : Own P w K mg base CX0 2 "_law_mixed" ["_law_stream", "_law_some"] spMixed) :
    FnOk P w K mg base CX0 3 f fd ["_law_stream", "_law_most"] spMText := by
  refine F.ok sc__law_m_text (fun vs H Q E h => ?_) (fun cdv A outer s H vs Q E hr h => ?_)
  · obtain ⟨X, st, cl, n, m, rfl, _⟩ := h
    rfl
  · obtain ⟨X, st, cl, n, m, rfl, S, hn, hm, k⟩ := h
    refine ⟨_, (pss_cons (ps_set (i := 2) sc__law_m_text.nd rfl (by first | exact Or.inl rfl | exact Or.inr rfl) (pe_slice sl_list (pe_own O__law_mixed hr (by decide) (by rfl) (pa_cons (pv 0) (pa_cons (pe_lst (pa_cons pe_str (pa_cons pe_str (pa_cons pe_str (pa_cons pe_str (pa_cons pe_str (pa_cons pe_str pa_nil))))))) pa_nil))) po_none (po_some (pe_op op_addA pe_int (pe_own O__law_draw hr (by decide) (by rfl) (pa_cons (pv 0) (pa_cons pe_int pa_nil)))))))
    (pss_one (ps_ret (pe_lc (own := [("_law_k", 3)]) (g := (gName 3)) (tt := tYes) rfl sc__law_m_text.nd (pi_range1 (by rfl) T.b_range (pa_cons (pe_own O__law_draw hr (by decide) (by rfl) (pa_cons (pv 0) (pa_cons (pe_op op_addA (pv 1) pe_int) pa_nil))) pa_nil)) (blkOk_by (N := n__law_m_text) (sc := defScope s__law_m_text) (by decide +kernel)) (fun _ _ _ _ _ => (pg_name (i := 3) sc__law_m_text.nd rfl (by first | exact Or.inl rfl | exact Or.inr rfl))) (fun _ _ _ _ _ => pts_nil) (fun _ _ _ _ _ => (pe_own O__law_pick hr (by decide) (by rfl) (pa_cons (pv 0) (pa_cons (pv 2) pa_nil)))))))), ?_⟩
    have En : EnvOk X H (L2.start n__law_m_text [.ref st, .int (m : Int)]) (pad n__law_m_text [.val (.ref st), .dat (.int (m : Int))]) := env_s1 ⟨_, rfl, .int _⟩ (by decide)
    refine k_set (k_sl (c_mixed (ds := mW.map PyData.str) S (gv_var (i := 0) En rfl) (g_lst S.t (ga_strs mW) (by decide)) (by show n + 6 ≤ _; omega) (by decide) fun w1 es H1 hp S1 k1 d1 => ?_))
    have E1 := En.kps S k1
    refine k_op (c_draw (m := 3) S1 (gv_var (i := 0) E1 rfl) g_int (by show n + 6 ≤ _; omega) (by decide) (by decide) fun j H2 j0 j1 S2 k2 => ?_)
    have E2 := E1.kps S1 k2
    refine .inl ⟨2, j, rfl, rfl, ?_⟩
    obtain ⟨a, us, rfl, na, ea, ra⟩ := (d1.mono (S1.kp k2)).lst_inv
    refine ⟨2 + j, rfl, a, us, rfl, SqL.of ea, fun p hp2 => ?_⟩
    have s3 : Same H2 (upd H2 p (.lst (cutV us none (some (2 + j))))) := Same.upd hp2
    have les : es.length = 6 := hp.length_eq
    have d3 : DX X (upd H2 p (.lst (cutV us none (some (2 + j))))) (.ref p) (.list (es.take (2 + j).toNat)) := by
      have := DX.newL S2.t (ra.cut none (some (2 + j))) hp2
      rw [cutP_to es (by omega)] at this
      exact this
    have S3 := S2.same s3
    have E3 := (E2.same s3).set (i := 2) d3
    refine k_ret ?_
    refine c_draw (m := (m : Int) + 1) S3 (gv_var (i := 0) E3 rfl) (g_addI S3.t (g_var (i := 1) E3 rfl) g_int) (by show n + 6 + 1 ≤ _; omega) (by omega) (by omega) fun i H4 i0 i1 S4 k4 => ?_
    have E4 := E3.kps S3 k4
    refine ⟨i, rfl, by omega, by omega, ?_⟩
    refine lc_draws (X := X) (cl := cl) (i := 3) (m := i.toNat) (fun d => d ∈ mW.map PyData.str) S4 E4 (by omega) (fun X' H5 σ2 jj Q1 hj E5 S5 q1 => ?_) fun w ds H6 hl hd S6 k6 dw nw => ?_
    · refine c_pick (ds := es.take (2 + j).toNat) S5 (gv_var (i := 0) E5 rfl) (g_var (i := 2) E5 rfl) (by show n + 6 + 1 + 1 + jj ≤ _; omega) (by rw [List.length_take]; omega) (by rw [List.length_take]; omega) fun w d H7 hd S7 k7 dw => q1 w d H7 (hp.mem_iff.mp (List.mem_of_mem_take hd)) S7 k7 dw
    · obtain ⟨ws, rfl, hw⟩ := strs_of hd
      rw [List.length_map] at hl
      exact k w ws H6 (by omega) hw (S6.le (by show n + 6 + 1 + 1 + i.toNat ≤ _; omega)) (((k1.trans k2).trans ((KpS.of s3).trans k4)).trans k6) dw
abbrev s__law_m_passed : Stmt := topS 21
abbrev n__law_m_passed : List Str := ["_law_stream", "_law_text"]
theorem sc__law_m_passed : FnScope n__law_m_passed ["_law_stream", "_law_text"] (defScope s__law_m_passed) := ⟨rfl, rfl, rfl, by decide +kernel, rfl, by decide +kernel, by decide +kernel⟩
theorem g_tupOf {X : Addr → Prop} {σ : L2.St} {H : Hp} {te : TE} {ds : List PyData} (t : Trk X H) (h : G X te σ H (.list ds)) : G X (tCB (fun xs H Q => ∃ p ys, xs = [V.ref p] ∧ ((SqL K H p ys ∧ ∀ l, H l = none → Q (.ref l) (upd H l (.tup ys))) ∨ (SqT K H p ys ∧ Q (.ref p) H))) (tCons te tNil)) σ H (.tuple ds) :=
  g_cb t (ga_cons h ga_nil) (rf_tuple (K := K) (d := .list ds) rfl)
def spMPassed : Sp := fun vs H Q _ => ∃ (X : Addr → Prop) (st cl : Addr) (n : Nat) (v1 : V) (ds : List PyData), vs = [.ref st, v1] ∧ Sg X st cl n H ∧ n ≤ 1000000000 ∧ DX X H v1 (.list ds) ∧ ds.length ≤ 1000 ∧ ∀ w d H', (d = .list ds ∨ d = .tuple ds) → Sg X st cl (n + 1) H' → KpS st cl H H' → DX X H' w d → Q w H'
theorem ok_m_passed {f : Addr} {fd : FuncData} (F : Fun K "_law_m_passed" "_law_m_passed" s__law_m_passed f fd) (T : Bl mg) (O__law_pick : Own P w K mg base CX0 2 "_law_pick" ["_law_stream", "_law_some"] spPick) : FnOk P w K mg base CX0 3 f fd ["_law_stream", "_law_text"] spMPassed := by
  refine F.ok sc__law_m_passed (fun vs H Q E h => ?_) (fun cdv A outer s H vs Q E hr h => ?_)
  · obtain ⟨X, st, cl, n, v1, ds, rfl, _⟩ := h
    rfl
  · obtain ⟨X, st, cl, n, v1, ds, rfl, S, hn, d1, hl, k⟩ := h
    refine ⟨_, (pss_one (ps_ret (pe_own O__law_pick hr (by decide) (by rfl) (pa_cons (pv 0) (pa_cons (pe_lst (pa_cons (pe_callTy call_list_of (by rfl) T.b_list boot_list (pa_cons (pv 1) pa_nil)) (pa_cons (pe_callTy call_tuple_of (by rfl) T.b_tuple boot_tuple (pa_cons (pv 1) pa_nil)) pa_nil))) pa_nil))))), ?_⟩
    have En : EnvOk X H (L2.start n__law_m_passed [.ref st, v1]) (pad n__law_m_passed [.val (.ref st), .dat (.list ds)]) := env_s1 ⟨_, rfl, d1⟩ (by decide)
    refine k_ret (c_pick (ds := [.list ds, .tuple ds]) S (gv_var (i := 0) En rfl) (g_lst S.t (ga_cons (g_is (g_listOf S.t (g_var (i := 1) (d := .list ds) En rfl) rfl) rfl) (ga_cons (g_tupOf S.t (g_var (i := 1) (d := .list ds) En rfl)) ga_nil)) (by simp)) hn (by simp) (by simp) fun w d H' hd S' k' dw => k w d H' (by simpa using hd) S' k' dw)
abbrev s__law_words : Stmt := topS 27
abbrev n__law_words : List Str := ["_law_stream"]
theorem sc__law_words : FnScope n__law_words ["_law_stream"] (defScope s__law_words) := ⟨rfl, rfl, rfl, by decide +kernel, rfl, by decide +kernel, by decide +kernel⟩
def spWords : Sp := fun vs H Q _ => ∃ (X : Addr → Prop) (st cl : Addr) (n : Nat), vs = [.ref st] ∧ Sg X st cl n H ∧ n ≤ 1000000000 ∧ ∀ w d H', d ∈ dW.map PyData.str → Sg X st cl (n + 1) H' → KpS st cl H H' → DX X H' w d → Q w H'
theorem ok_words {f : Addr} {fd : FuncData} (F : Fun K "_law_words" "_law_words" s__law_words f fd) (T : Bl mg) (O__law_pick : Own P w K mg base CX0 2 "_law_pick" ["_law_stream", "_law_some"] spPick) : FnOk P w K mg base CX0 3 f fd ["_law_stream"] spWords := by
  refine F.ok sc__law_words (fun vs H Q E h => ?_) (fun cdv A outer s H vs Q E hr h => ?_)
  · obtain ⟨X, st, cl, n, rfl, _⟩ := h
    rfl
  · obtain ⟨X, st, cl, n, rfl, S, hn, k⟩ := h
    refine ⟨_, (pss_one (ps_ret (pe_own O__law_pick hr (by decide) (by rfl) (pa_cons (pv 0) (pa_cons (pe_lst (pa_cons pe_str (pa_cons pe_str (pa_cons pe_str (pa_cons pe_str (pa_cons pe_str (pa_cons pe_str (pa_cons pe_str (pa_cons pe_str (pa_cons pe_str pa_nil)))))))))) pa_nil))))), ?_⟩
    have En : EnvOk X H (L2.start n__law_words [.ref st]) [.val (.ref st)] := ⟨rfl, fun i s e => by
      match i, e with
      | 0, e => cases e; rfl⟩
    refine k_ret (c_pick (ds := dW.map PyData.str) S (gv_var (i := 0) En rfl) (g_lst S.t (ga_strs dW) (by decide)) hn (by decide) (by decide) fun w d H' hd S' k' dw => k w d H' hd S' k' dw)
end K54

/-! Differences that are drawn. -/
namespace K54
open PySem PySem.Spec PyProof.Rows L2 KD
variable {P : Program} {w : World} {K : PySem.W.Frag} {mg : Str → Option Value} {base : Heap}
theorem k_set1 {te : TE} {i : Nat} {D : Ends} {σ : L2.St} {H : Hp} (h : te σ H fun v H1 => D.nx (σ.set i (some v)) H1) : tAsg te (gName i) D σ H := h
theorem g_intB {X : Addr → Prop} {te : TE} {σ : L2.St} {H : Hp} {b : Bool} (h : G X te σ H (.bool b)) : G X (tCB (fun xs H Q => (∃ i, xs = [V.int i] ∧ Q (.int i) H) ∨ ∃ k, xs = [V.bl k] ∧ Q (.int (if k then 1 else 0)) H) (tCons te tNil)) σ H (.int (if b then 1 else 0)) := fun H1 s Q q =>
  h H1 s _ fun v H2 s2 r => .inr ⟨b, by rw [r.bl_inv], q _ H2 s2 (.int _)⟩
theorem g_eqI {X : Addr → Prop} {ta tb : TE} {σ : L2.St} {H : Hp} {i j : Int} (t : Trk X H) (ha : G X ta σ H (.int i)) (hb : G X tb σ H (.int j)) : G X (tOp (rEqD K) ta tb) σ H (.bool (PyData.eqv (.int i) (.int j))) :=
  g_op t ha hb fun H u v t ru rv Q q => rb_eqD (K := K) rfl rfl (shaped_int _) (shaped_int _) H u v t ru rv _ (q _ H (Same.refl H) (.bl _))
theorem c_words {X : Addr → Prop} {st cl : Addr} {n : Nat} {H : Hp} {σ : L2.St} {ts : TE} {E : XK} {Q : VK} (S : Sg X st cl n H) (hv : GV ts σ H (.ref st)) (hn : n ≤ 1000000000)
    (k : ∀ w d H', d ∈ dW.map PyData.str → Sg X st cl (n + 1) H' → KpS st cl H H' → DX X H' w d → Q w H') : tCall spWords [] E (tCons ts tNil) σ H Q :=
  hv H (Same.refl H) _ ⟨X, st, cl, n, rfl, S, hn, k⟩
abbrev s__law_drawn : Stmt := topS 30
abbrev n__law_drawn : List Str := ["_law_stream", "_law_text", "_law_found", "_law_place", "_law_many", "_law_words_here", "_law_k"]
theorem sc__law_drawn : FnScope n__law_drawn ["_law_stream", "_law_text"] (defScope s__law_drawn) := ⟨rfl, rfl, rfl, by decide +kernel, rfl, by decide +kernel, by decide +kernel⟩
/-- a cut that is drawn -/
def CutOk (d : PyData) : Prop := ∃ (p m : Int) (ws : List Str), d = .tuple [.int p, .int m, wsD ws] ∧ 0 ≤ p ∧ p ≤ 20 ∧ 0 ≤ m ∧ m ≤ 20 ∧ ws.length ≤ 3 ∧ ∀ z ∈ ws, z ∈ dW
def spDrawn : Sp := fun vs H Q _ => ∃ (X : Addr → Prop) (st cl : Addr) (n : Nat) (v1 : V) (ts : List PyData), vs = [.ref st, v1] ∧ Sg X st cl n H ∧ n + 200 ≤ 1000000000 ∧ DX X H v1 (.list ts) ∧ ts.length ≤ 8 ∧ ∀ w cs H', cs.length ≤ 9 → (∀ c ∈ cs, CutOk c) → Sg X st cl (n + 100) H' → KpS st cl H H' → DX X H' w (.list cs) → Q w H'
theorem ok_drawn {f : Addr} {fd : FuncData} (F : Fun K "_law_drawn" "_law_drawn" s__law_drawn f fd) (T : Bl mg) (O__law_draw : Own P w K mg base CX0 1 "_law_draw" ["_law_stream", "_law_many"] spDraw) (O__law_words : Own P w K mg base CX0 3 "_law_words" ["_law_stream"] spWords) :
    FnOk P w K mg base CX0 4 f fd ["_law_stream", "_law_text"] spDrawn := by
  refine F.ok sc__law_drawn (fun vs H Q E h => ?_) (fun cdv A outer s H vs Q E hr h => ?_)
  · obtain ⟨X, st, cl, n, v1, ts, rfl, _⟩ := h
    rfl
  · obtain ⟨X, st, cl, n, v1, ts, rfl, S, hn, d1, hl, k⟩ := h
    refine ⟨_, (pss_cons (ps_par (i := 2) (j := 3) (by rfl) sc__law_drawn.nd rfl rfl (by decide) rfl rfl (pa_cons (pe_lst pa_nil) (pa_cons (pe_own O__law_draw hr (by decide) (by rfl) (pa_cons (pv 0) (pa_cons pe_int pa_nil))) pa_nil)) (by rfl))
    (Evl.pss_cut (ps_while PassesOwn.never (pt_cmpR op_le (pv 3) (pe_callB call_len (by rfl) T.b_len boot_len (pa_cons (pv 1) pa_nil)) (nomark _))
    (pss_cons (ps_set (i := 4) sc__law_drawn.nd rfl (by first | exact Or.inl rfl | exact Or.inr rfl) (pe_callB (call_min2 rfl) (by rfl) T.b_min boot_min (pa_cons (pe_own O__law_draw hr (by decide) (by rfl) (pa_cons (pv 0) (pa_cons pe_int pa_nil))) (pa_cons (pe_op op_sub (pe_callB call_len (by rfl) T.b_len boot_len (pa_cons (pv 1) pa_nil)) (pv 3)) pa_nil))))
    (pss_cons (ps_setLc (i := 5) (own := [("_law_k", 6)]) (g := (gName 6)) (tt := tYes) rfl sc__law_drawn.nd rfl rfl (sw_true rfl rfl rfl (by decide +kernel)) (pi_range1 (by rfl) T.b_range (pa_cons (pe_op op_addA (pe_own O__law_draw hr (by decide) (by rfl) (pa_cons (pv 0) (pa_cons pe_int pa_nil))) (pe_callTy call_int1 (by rfl) T.b_int boot_int (pa_cons (pe_cmpR (op_eqD hr.units) (pv 4) pe_int (nomark _)) pa_nil))) pa_nil)) (blkOk_by (N := n__law_drawn) (sc := defScope s__law_drawn) (by decide +kernel)) (fun _ _ _ _ _ => (pg_name (i := 6) sc__law_drawn.nd rfl (by first | exact Or.inl rfl | exact Or.inr rfl))) (fun _ _ _ _ _ => pts_nil) (fun _ _ _ _ _ => (pe_own O__law_words hr (by decide) (by rfl) (pa_cons (pv 0) pa_nil))))
    (pss_cons (ps_expr (pe_bm PySem.F.plainAttrs_list PySem.F.slot_list_append PySem.F.type_list_append mt_append (pv 2) (pa_cons (pe_tup (pa_cons (pv 3) (pa_cons (pv 4) (pa_cons (pv 5) pa_nil)))) pa_nil)))
    (pss_one (ps_set (i := 3) sc__law_drawn.nd rfl (by first | exact Or.inl rfl | exact Or.inr rfl) (pe_op op_addA (pe_op op_addA (pe_op op_addA (pv 3) (pv 4)) pe_int) (pe_own O__law_draw hr (by decide) (by rfl) (pa_cons (pv 0) (pa_cons pe_int pa_nil))))))))))
    (pss_one (ps_ret (pv 2))))), ?_⟩
    have En : EnvOk X H (L2.start n__law_drawn [.ref st, v1]) (pad n__law_drawn [.val (.ref st), .dat (.list ts)]) := env_s1 ⟨_, rfl, d1⟩ (by decide)
    refine k_par ?_
    refine ⟨by show 0 ≤ sizeLine; omega, fun L hL => ?_⟩
    have s1 : Same H (upd H L (.lst [])) := Same.upd hL
    have nX : ¬ X L := S.t.new hL
    have nL1 := S.ne1 hL
    have nL2 := S.ne2 hL
    have mX : More X (fun b => X b ∨ b = L) H := More.one hL
    have S1 : Sg (fun b => X b ∨ b = L) st cl n (upd H L (.lst [])) := ⟨S.ok.same s1, .inl S.x1, .inl S.x2, S.t.one hL⟩
    have E1 := (En.more mX).same s1
    refine c_draw (m := 3) S1 (gv_var (i := 0) E1 rfl) g_int (by omega) (by decide) (by decide) fun p0 H2 p00 p01 S2 k2 => ⟨_, _, rfl, ?_⟩
    have hL2 : H2 L = some (.lst []) := k2 _ _ nL1 nL2 upd_same
    let Γ (p : Int) : List Sv := [.val (.ref st), .dat (.list ts), .val (.ref L), .dat (.int p), .un, .un, .un]
    have E2 : EnvOk (fun b => X b ∨ b = L) H2 _ (Γ p0) := ((E1.kps S1 k2).setV (i := 2) (v := .ref L)).set (i := 3) (v := .int p0) (d := .int p0) (.int _)
    let J : Nat → L2.St → Hp → Prop := fun l σ H' => ∃ (p : Int) (xs : List V) (cs : List PyData), l = ((ts.length : Int) + 1 - p).toNat ∧ 0 ≤ p ∧ (cs.length : Int) ≤ p ∧ cs.length ≤ ts.length + 1 ∧ Sg (fun b => X b ∨ b = L) st cl (n + 1 + 8 * cs.length) H' ∧ KpS st cl H H' ∧ H' L = some (.lst xs) ∧ DXs (fun b => X b ∨ b = L) H' xs cs ∧ (∀ c ∈ cs, CutOk c) ∧ EnvOk (fun b => X b ∨ b = L) H' σ (Γ p)
    refine ⟨fun σ H' => ∃ l, J l σ H', ⟨J, ⟨_, p0, [], [], rfl, p00, by simpa using p00, by simp, S2, (KpS.of s1).trans k2, hL2, .nil, (fun c h => by cases h), E2⟩, ?_⟩, ?_⟩
    rotate_left
    · rintro σ H' ⟨l, p, xs, cs, _, _, _, q4, q5, q6, q7, q8, q9, E⟩
      have E9 := EnvOk.give (i := 2) E rfl nX q7 q8
      have S9 : Sg X st cl (n + 1 + 8 * cs.length) H' := ⟨q5.ok, S.x1, S.x2, fun a h => q5.t a (.inl h)⟩
      refine k_ret (g_var (i := 2) (d := .list cs) E9 rfl H' (Same.refl _) _ fun w H9 s9 dw => k w cs H9 (by omega) q9 ((S9.same s9).le (by omega)) (q6.trans (KpS.of s9)) dw)
    rintro l σ H1 ⟨p, xs, cs, rfl, q2, q3, q4, S3, q6, q7, q8, q9, E3⟩
    have t3 := S3.t
    refine gt_cmpI t3 (g := fun i j => decide (i ≤ j)) (g_var (i := 3) E3 rfl) (g_len t3 (g_var (i := 1) (d := .list ts) E3 rfl) rfl) H1 (Same.refl _) _ fun H4 s4 => ?_
    have S4 := S3.same s4
    have E4 := E3.same s4
    have z7 := s4 _ _ q7
    have z8 := q8.mono (Kp.of s4)
    have z6 := q6.trans (KpS.of s4)
    clear S3 E3 q7 q8 q6 t3 E2 S2 k2 hL2 E1 S1 s4
    show (if decide (p ≤ (ts.length : Int)) = true then _ else _)
    by_cases hp : p ≤ (ts.length : Int)
    · rw [decide_eq_true hp, if_pos rfl]
      refine ⟨fun σ H' => ∃ l', l' < ((ts.length : Int) + 1 - p).toNat ∧ J l' σ H', fun σ' H' h => h, ?_⟩
      -- many
      refine k_set (k_cb (k_cons (c_draw (m := 3) S4 (gv_var (i := 0) E4 rfl) g_int (by omega) (by decide) (by decide) fun j H5 j0 j1 S5 k5 => ?_)))
      have E5 := E4.kps S4 k5
      refine k_cons (g_op S5.t (g_len S5.t (g_var (i := 1) (d := .list ts) E5 rfl) rfl) (g_var (i := 3) E5 rfl) (rd_I0 (g := fun i j => i - j)) H5 (Same.refl _) _ fun v H6 s6 r6 => ?_)
      have r6' := r6.int_inv
      subst r6'
      refine ⟨j, _, rfl, ?_⟩
      have y7 := s6 _ _ (k5 _ _ nL1 nL2 z7)
      have S6 := S5.same s6
      have k6 := k5.trans (KpS.of s6)
      have y8 := z8.mono (S4.kp k6)
      have y6 := z6.trans k6
      generalize hm : (if ((((lenD (.list ts)) : Nat) : Int) - p) < j then ((((lenD (.list ts)) : Nat) : Int) - p) else j) = m
      have hm0 : 0 ≤ m ∧ m ≤ (ts.length : Int) - p ∧ m ≤ 2 := by
        have e : (((lenD (.list ts)) : Nat) : Int) = (ts.length : Int) := rfl
        rw [e] at hm
        split at hm <;> omega
      have E6 := (E5.same s6).set (i := 4) (v := .int m) (d := .int m) (.int _)
      clear S4 E4 k5 z7 z8 z6 S5 E5 s6 k6 r6 hm
      -- words
      refine k_set (k_lcR (k_cons (k_op (c_draw (m := 3) S6 (gv_var (i := 0) E6 rfl) g_int (by omega) (by decide) (by decide) fun i H7 i0 i1 S7 k7 => ?_))))
      have E7 := E6.kps S6 k7
      refine g_intB (g_eqI (K := K) S7.t (g_var (i := 4) E7 rfl) g_int) H7 (Same.refl _) _ fun v H8 s8 r8 => ?_
      have r8' := r8.int_inv
      subst r8'
      refine .inl ⟨i, _, rfl, rfl, ?_⟩
      generalize hz : (if PyData.eqv (.int m) (.int 0) = true then (1 : Int) else 0) = z
      have hz0 : 0 ≤ z ∧ z ≤ 1 := by split at hz <;> omega
      have S8 := S7.same s8
      have E8 := E7.same s8
      have k8 := k7.trans (KpS.of s8)
      have x7 := k8 _ _ nL1 nL2 y7
      have x8 := y8.mono (S6.kp k8)
      have x6 := y6.trans k8
      clear S6 E6 y6 y7 y8 k7 S7 E7 s8 r8 hz
      refine ⟨i + z, rfl, by omega, by omega, ?_⟩
      refine lc_draws (X := fun b => X b ∨ b = L) (cl := cl) (i := 6) (m := (i + z).toNat) (fun d => d ∈ dW.map PyData.str) S8 E8 (by omega) (fun X' Ha σ2 jj Q1 hj E S q1 => c_words S (gv_var (i := 0) E rfl) (by omega) q1) fun w ds H9 hl9 hd9 S9 k9 dw nw => ?_
      obtain ⟨ws, rfl, hw⟩ := strs_of hd9
      rw [List.length_map] at hl9
      have E9 := (E8.kps S8 k9).set (i := 5) dw
      have u7 := k9 _ _ nL1 nL2 x7
      have u8 := x8.mono (S8.kp k9)
      have u6 := x6.trans k9
      clear S8 E8 k8 x6 x7 x8 hd9 nw k9
      refine q_append (i := 2) (L := L) (d := .tuple [.int p, .int m, wsD ws]) E9 rfl (.inr rfl) S9.t u7 u8 (g_tup S9.t (ga_cons (g_var (i := 3) E9 rfl) (ga_cons (g_var (i := 4) E9 rfl) (ga_cons (g_var (i := 5) E9 rfl) ga_nil))) (by simp)) (by omega) fun H10 ys h10 y10 E10 t10 k10 => ?_
      have kk : KpS st cl H H10 := fun a o n1 n2 e => k10 a o (fun z => by rw [z, hL] at e; cases e) (u6 a o n1 n2 e)
      have S10 : Sg (fun b => X b ∨ b = L) st cl (n + 1 + 8 * cs.length + 1 + 1 + (i + z).toNat) H10 := by
        obtain ⟨ms, a, b, c, SS, hb⟩ := S9.ok
        exact ⟨⟨ms, a, b, c, ⟨k10 _ _ (Ne.symm nL1) SS.hs, k10 _ _ (Ne.symm nL2) SS.hc, SS.ne, SS.a0, SS.b0, SS.c0, SS.c1, SS.ml⟩, hb⟩, S9.x1, S9.x2, t10⟩
      clear S9 E9 u6 u7 u8 k10
      -- place
      refine k_set1 (k_op (g_addI S10.t (g_addI S10.t (g_var (i := 3) E10 rfl) (g_var (i := 4) E10 rfl)) g_int H10 (Same.refl _) _ fun v H11 s11 r11 => ?_))
      have r11' := r11.int_inv
      subst r11'
      have S11 := S10.same s11
      refine c_draw (m := 3) S11 (gv_var (i := 0) (E10.same s11) rfl) g_int (by omega) (by decide) (by decide) fun e H12 e0 e1 S12 k12 => ?_
      refine .inl ⟨_, _, rfl, rfl, ?_⟩
      have k13 := (KpS.of s11).trans k12
      refine ⟨_, ?_, p + m + 1 + e, ys, cs ++ [.tuple [.int p, .int m, wsD ws]], rfl, by omega, by rw [List.length_append]; show ((cs.length + 1 : Nat) : Int) ≤ _; omega, by rw [List.length_append]; show cs.length + 1 ≤ _; omega, S12.le (by rw [List.length_append]; show _ ≤ n + 1 + 8 * (cs.length + 1); omega), kk.trans k13, k13 _ _ nL1 nL2 h10, y10.mono (S10.kp k13), fun c hc => ?_, ?_⟩
      · omega
      · rcases List.mem_append.mp hc with h | h
        · exact q9 c h
        · rw [List.mem_singleton.mp h]
          exact ⟨p, m, ws, rfl, q2, by omega, by omega, by omega, by omega, hw⟩
      · exact envUn' (envUn' (envUn' ((E10.kps S10 k13).set (i := 3) (v := .int (p + m + 1 + e)) (d := .int (p + m + 1 + e)) (.int _)) 4) 5) 6
    · rw [decide_eq_false hp, if_neg (by simp)]
      exact ⟨_, p, xs, cs, rfl, q2, q3, q4, S4, z6, z7, z8, q9, E4⟩
theorem c_drawn {X : Addr → Prop} {st cl : Addr} {n : Nat} {H : Hp} {σ : L2.St} {ts tm : TE} {E : XK} {ds : List PyData} {Q : VK} (S : Sg X st cl n H) (hv : GV ts σ H (.ref st)) (hm : G X tm σ H (.list ds)) (hn : n + 200 ≤ 1000000000) (h1 : ds.length ≤ 8)
    (k : ∀ w cs H', cs.length ≤ 9 → (∀ c ∈ cs, CutOk c) → Sg X st cl (n + 100) H' → KpS st cl H H' → DX X H' w (.list cs) → Q w H') : tCall spDrawn [] E (tCons ts (tCons tm tNil)) σ H Q :=
  hv H (Same.refl H) _ (hm H (Same.refl H) _ fun v H1 s1 r => ⟨X, st, cl, n, v, ds, rfl, S.same s1, hn, r, h1, fun w cs H' h1 h2 S2 kk dw => k w cs H' h1 h2 S2 ((KpS.of s1).trans kk) dw⟩)
end K54

/-! The things that are looked at. -/
namespace K54
open PySem PySem.Spec PyProof.Rows L2 KD
-- HINT _law_bent mul op_repS
variable {P : Program} {w : World} {K : PySem.W.Frag} {mg : Str → Option Value} {base : Heap}
/-! ### small things -/
def oddS : List Str := ["x", "0", "ab", "a\nb"]
def allS : List Str := dW ++ mW ++ oddS ++ [timesS "x" 200, timesS "x" 201]
theorem allS_len : ∀ s ∈ allS, s.length ≤ 201 := by decide +kernel
theorem allS_rep : ∀ s ∈ allS, (reprText s).length ≤ 210 := by decide +kernel
theorem allS_ok : ∀ s ∈ allS, PyData.strOk s = true := by decide +kernel
theorem dW_all : ∀ s ∈ dW, s ∈ allS := by decide +kernel
theorem mW_all : ∀ s ∈ mW, s ∈ allS := by decide +kernel
def smallI (i : Int) : Prop := -1 ≤ i ∧ i ≤ 40
theorem small_rep' : ∀ n : Nat, n ≤ 41 → (((n : Int) - 1).natAbs.log2 < 1920 ∧ (Str.ofString (toString ((n : Int) - 1))).length ≤ 210) := by decide +kernel
theorem small_rep {i : Int} (h : smallI i) : i.natAbs.log2 < 1920 ∧ (Str.ofString (toString i)).length ≤ 210 := by
  obtain ⟨h1, h2⟩ := h
  have := small_rep' (i + 1).toNat (by omega)
  rw [show (((i + 1).toNat : Nat) : Int) - 1 = i from by omega] at this
  exact this
def okD : Nat → PyData → Prop
  | _, .none => True
  | _, .bool _ => True
  | _, .int i => smallI i
  | _, .str s => s ∈ allS
  | 0, _ => False
  | n + 1, .list ds => ds.length ≤ 10 ∧ ∀ z ∈ ds, okD n z
  | n + 1, .tuple ds => ds.length ≤ 10 ∧ ∀ z ∈ ds, okD n z
  | _, .dict ks => ks = []
def OkA (n : Nat) (ds : List PyData) : Prop := ∀ z ∈ ds, okD n z
theorem oN {n : Nat} : okD n .none := by cases n <;> trivial
theorem oB {n : Nat} {b : Bool} : okD n (.bool b) := by cases n <;> trivial
theorem oI {n : Nat} {i : Int} (h : smallI i) : okD n (.int i) := by cases n <;> exact h
theorem oS {n : Nat} {s : Str} (h : s ∈ allS) : okD n (.str s) := by cases n <;> exact h
theorem oL {n : Nat} {ds : List PyData} (h : OkA n ds) (hl : ds.length ≤ 10) : okD (n + 1) (.list ds) := ⟨hl, h⟩
theorem oT {n : Nat} {ds : List PyData} (h : OkA n ds) (hl : ds.length ≤ 10) : okD (n + 1) (.tuple ds) := ⟨hl, h⟩
theorem oD {n : Nat} : okD (n + 1) (.dict []) := rfl
theorem oa0 {n : Nat} : OkA n [] := fun z h => by cases h
theorem oa {n : Nat} {d : PyData} {ds : List PyData} (h : okD n d) (k : OkA n ds) : OkA n (d :: ds) := fun z hz => by
  rcases List.mem_cons.mp hz with rfl | hz
  · exact h
  · exact k z hz
theorem oaA {n : Nat} {ds es : List PyData} (h : OkA n ds) (k : OkA n es) : OkA n (ds ++ es) := fun z hz => (List.mem_append.mp hz).elim (h z) (k z)
theorem oaW {n : Nat} {ws : List Str} (h : ∀ z ∈ ws, z ∈ allS) : OkA n (ws.map PyData.str) := fun z hz => by
  obtain ⟨s, hs, rfl⟩ := List.mem_map.mp hz
  exact oS (h s hs)
theorem okD_up {n : Nat} : ∀ {d : PyData}, okD n d → okD (n + 1) d := by
  induction n with
  | zero => intro d h; cases d <;> first | exact h | exact (show False from h).elim
  | succ n ih =>
    intro d h
    cases d with
    | list ds => exact ⟨h.1, fun z hz => ih (h.2 z hz)⟩
    | tuple ds => exact ⟨h.1, fun z hz => ih (h.2 z hz)⟩
    | _ => exact h
/-! ### shown -/
def Sh (b n : Nat) (d : PyData) : Prop := shw d = true ∧ d.shown.length ≤ b ∧ d.depth ≤ n
theorem sh_all {b n : Nat} : ∀ {ds : List PyData}, (∀ z ∈ ds, Sh b n z) → shws ds = true ∧ ((PyData.shownAll ds).map (·.length)).sum ≤ ds.length * b ∧ (PyData.shownAll ds).length = ds.length ∧ PyData.depthAll ds ≤ n
  | [], _ => by simp [shws, PyData.shownAll, PyData.depthAll]
  | d :: ds, h => by
    obtain ⟨a1, a2, a3⟩ := h d List.mem_cons_self
    obtain ⟨b1, b2, b3, b4⟩ := sh_all fun z hz => h z (List.mem_cons_of_mem _ hz)
    refine ⟨by simp [shws, a1, b1], ?_, by simp only [PyData.shownAll, List.length_cons, b3], by simp only [PyData.depthAll]; omega⟩
    simp only [PyData.shownAll, List.map_cons, List.sum_cons, List.length_cons]
    rw [Nat.add_mul]
    omega
theorem sh_list {b n m : Nat} {ds : List PyData} (hl : ds.length ≤ m) (hm : m ≤ 10) (h : ∀ z ∈ ds, Sh b n z) : Sh (m * b + 30) (n + 1) (.list ds) := by
  obtain ⟨b1, b2, b3, b4⟩ := sh_all h
  refine ⟨by simp only [shw]; exact b1, ?_, by simp only [PyData.depth]; omega⟩
  have e : (PyData.list ds).shown = listText (PyData.shownAll ds) := by simp only [PyData.shown]
  rw [e]
  have q := listText_len_le (PyData.shownAll ds)
  have m := Nat.mul_le_mul_right b hl
  omega
theorem sh_tuple {b n m : Nat} {ds : List PyData} (hl : ds.length ≤ m) (hm : m ≤ 10) (h : ∀ z ∈ ds, Sh b n z) : Sh (m * b + 30) (n + 1) (.tuple ds) := by
  obtain ⟨b1, b2, b3, b4⟩ := sh_all h
  refine ⟨by simp only [shw]; exact b1, ?_, by simp only [PyData.depth]; omega⟩
  have e : (PyData.tuple ds).shown = tupleText (PyData.shownAll ds) := by simp only [PyData.shown]
  rw [e]
  have q := tupleText_len_le (PyData.shownAll ds)
  have m := Nat.mul_le_mul_right b hl
  omega
theorem Sh.le {b c n m : Nat} {d : PyData} (h : Sh b n d) (hb : b ≤ c) (hn : n ≤ m) : Sh c m d := ⟨h.1, Nat.le_trans h.2.1 hb, Nat.le_trans h.2.2 hn⟩
def lv : Nat → Nat
  | 0 => 210
  | n + 1 => 10 * lv n + 30
theorem lv_big : ∀ n, 210 ≤ lv n
  | 0 => Nat.le_refl _
  | n + 1 => by
    have := lv_big n
    show 210 ≤ 10 * lv n + 30
    omega
theorem sh_leaf (n : Nat) {d : PyData} (hs : shw d = true) (hl : d.shown.length ≤ 210) (hd : d.depth = 0) : Sh (lv n) n d := ⟨hs, Nat.le_trans hl (lv_big n), by omega⟩
theorem okD_sh : ∀ (n : Nat) {d : PyData}, okD n d → Sh (lv n) n d
  | n, .none, _ => sh_leaf n (by simp [shw]) (by simp only [PyData.shown]; decide +kernel) (by simp [PyData.depth])
  | n, .bool b, _ => sh_leaf n (by simp [shw]) (by cases b <;> simp only [PyData.shown] <;> decide +kernel) (by simp [PyData.depth])
  | n, .int i, h => by
    have h : smallI i := by cases n <;> exact h
    exact sh_leaf n (by simp only [shw]; exact decide_eq_true (small_rep h).1) (by simp only [PyData.shown]; exact (small_rep h).2) (by simp [PyData.depth])
  | n, .str s, h => by
    have h : s ∈ allS := by cases n <;> exact h
    exact sh_leaf n (by simp [shw]) (by simp only [PyData.shown]; exact allS_rep s h) (by simp [PyData.depth])
  | n + 1, .list ds, h => sh_list h.1 (Nat.le_refl _) fun z hz => okD_sh n (h.2 z hz)
  | n + 1, .tuple ds, h => sh_tuple h.1 (Nat.le_refl _) fun z hz => okD_sh n (h.2 z hz)
  | n + 1, .dict ks, h => by
    have h : ks = [] := h
    subst h
    refine ⟨by simp [shw], ?_, by simp [PyData.depth, PyData.depthKv]⟩
    refine Nat.le_trans ?_ (lv_big (n + 1))
    simp only [PyData.shown, PyData.shownKv]
    decide +kernel
  | 0, .list ds, h => h.elim
  | 0, .tuple ds, h => h.elim
  | 0, .dict ks, h => h.elim
/-! ### asked -/
theorem okD_words : ∀ {n : Nat} {d : PyData}, okD n d → wordsPre d
  | n, .str s, h => by
    have h : s ∈ allS := by cases n <;> exact h
    have := allS_len s h
    show s.length ≤ 1000000
    omega
  | _, .none, _ => trivial
  | _, .bool _, _ => trivial
  | _, .int _, _ => trivial
  | _, .list _, _ => trivial
  | _, .tuple _, _ => trivial
  | _, .dict _, _ => trivial
theorem okD_items {n : Nat} {d : PyData} (h : okD n d) : (itemsD d).length ≤ 10 ∧ ∃ m, ∀ z ∈ itemsD d, okD m z := by
  cases n with
  | zero => cases d <;> first | exact (show False from h).elim | exact ⟨by simp [itemsD], 0, fun z hz => by cases hz⟩
  | succ n =>
    cases d with
    | list ds => exact ⟨h.1, n, h.2⟩
    | tuple ds => exact ⟨h.1, n, h.2⟩
    | _ => exact ⟨by simp [itemsD], 0, fun z hz => by cases hz⟩
theorem okD_wordsAll {n : Nat} {d : PyData} (h : okD n d) : wordsAll d := fun hs => by
  obtain ⟨h1, m, h2⟩ := okD_items h
  exact ⟨by omega, fun z hz => okD_words (h2 z hz)⟩
theorem okD_chPre {n : Nat} {d : PyData} (h : okD n d) : chPre d := fun hs => by
  obtain ⟨h1, m, h2⟩ := okD_items h
  exact ⟨by omega, fun z hz => okD_wordsAll (h2 z hz)⟩
theorem okD_difPre {n : Nat} {d : PyData} (h : okD n d) : difPre d := fun hs => by
  obtain ⟨h1, m, h2⟩ := okD_items h
  exact ⟨by omega, fun z hz => okD_chPre (h2 z hz)⟩
theorem okD_it {n : Nat} {d : PyData} (h : okD n d) (i : Nat) : ∃ m, okD m (it d i) := by
  obtain ⟨h1, m, h2⟩ := okD_items h
  unfold it
  rw [List.getD_eq_getElem?_getD]
  by_cases hi : i < (itemsD d).length
  · rw [List.getElem?_eq_getElem hi]
    exact ⟨m, h2 _ (List.getElem_mem hi)⟩
  · rw [List.getElem?_eq_none (by omega)]
    exact ⟨0, trivial⟩
theorem okD_three {n : Nat} {d : PyData} (h : okD n d) : (itemsD d).length ≤ 100 ∧ ∀ z ∈ itemsD d, (itemsD (it z 2)).length ≤ 1000 := by
  obtain ⟨h1, m, h2⟩ := okD_items h
  refine ⟨by omega, fun z hz => ?_⟩
  obtain ⟨k, h3⟩ := okD_it (h2 z hz) 2
  have := (okD_items h3).1
  omega
theorem CutOk.ok {d : PyData} (h : CutOk d) (n : Nat) : okD (n + 2) d := by
  obtain ⟨p, m, ws, rfl, h0, h1, h2, h3, h4, h5⟩ := h
  exact oT (oa (oI ⟨by omega, by omega⟩) (oa (oI ⟨by omega, by omega⟩) (oa (oL (oaW fun z hz => dW_all z (h5 z hz)) (by rw [List.length_map]; omega)) oa0))) (by simp)
theorem nd_all : ∀ {ds : List PyData}, (∀ z ∈ ds, noDict z = true) → noDicts ds = true
  | [], _ => by simp [noDicts]
  | d :: ds, h => by simp [noDicts, h d List.mem_cons_self, nd_all fun z hz => h z (List.mem_cons_of_mem _ hz)]
theorem lay_all : ∀ {ds : List PyData}, (∀ z ∈ ds, z.canLay0 = true) → PyData.canLayAll0 ds = true
  | [], _ => by simp [PyData.canLayAll0]
  | d :: ds, h => by simp [PyData.canLayAll0, h d List.mem_cons_self, lay_all fun z hz => h z (List.mem_cons_of_mem _ hz)]
theorem dep_all {k : Nat} : ∀ {ds : List PyData}, (∀ z ∈ ds, z.depth ≤ k) → PyData.depthAll ds ≤ k
  | [], _ => by simp [PyData.depthAll]
  | d :: ds, h => by
    have a := h d List.mem_cons_self
    have b := dep_all fun z hz => h z (List.mem_cons_of_mem _ hz)
    simp only [PyData.depthAll]
    omega
theorem cuts_shaped {cs : List PyData} (h : ∀ c ∈ cs, CutOk c) : noDict (.list cs) = true ∧ SeqAt.shaped (.list cs) = true := by
  constructor
  · show noDicts cs = true
    refine nd_all fun z hz => ?_
    obtain ⟨p, m, ws, rfl, _⟩ := h z hz
    simp [noDict, noDicts, wsD, noDict_strs]
  · have d1 : PyData.depthAll cs ≤ 10 := dep_all fun z hz => by
      obtain ⟨p, m, ws, rfl, _⟩ := h z hz
      have : PyData.depthAll (ws.map PyData.str) ≤ 1 := dep_all fun z hz => by
        obtain ⟨s, _, rfl⟩ := List.mem_map.mp hz
        simp [PyData.depth]
      simp only [wsD, PyData.depth, PyData.depthAll]
      omega
    show (PyData.canLay0 _ && decide (PyData.depth _ ≤ 64)) = true
    rw [Bool.and_eq_true]
    refine ⟨?_, decide_eq_true (by simp only [PyData.depth]; omega)⟩
    simp only [PyData.canLay0]
    refine lay_all fun z hz => ?_
    obtain ⟨p, m, ws, rfl, h0, h1, h2, h3, h4, h5⟩ := h z hz
    have : PyData.canLayAll0 (ws.map PyData.str) = true := canLay_strs fun s hs => allS_ok s (dW_all s (h5 s hs))
    simp [wsD, PyData.canLay0, PyData.canLayAll0, this]
/-- a thing that is looked at -/
def ThOk (d : PyData) : Prop := okD 3 d
theorem cutPD_to' (ds : List PyData) {q : Int} (hq : 0 ≤ q) : cutPD ds none (some q) = ds.take q.toNat := cutP_to ds hq
theorem cutPD_from (ds : List PyData) {q : Int} (hq : 0 ≤ q) : cutPD ds (some q) none = ds.drop q.toNat := by
  show (ds.drop (HT.sIx ds.length 0 (some q))).take (HT.sIx ds.length ds.length none - HT.sIx ds.length 0 (some q)) = _
  rw [sIx_nn hq]
  show (ds.drop (min q.toNat ds.length)).take (ds.length - min q.toNat ds.length) = _
  by_cases h : q.toNat ≤ ds.length
  · rw [Nat.min_eq_left h, List.take_of_length_le (by rw [List.length_drop]; omega)]
  · rw [Nat.min_eq_right (by omega), List.drop_eq_nil_of_le (by omega), List.drop_eq_nil_of_le (by omega), List.take_nil]
/-! ### a difference with something otherwise -/
abbrev s__law_bent : Stmt := topS 31
abbrev n__law_bent : List Str := ["_law_stream", "_law_cuts", "_law_text", "_law_at", "_law_place", "_law_many", "_law_words_here", "_law_odds"]
theorem sc__law_bent : FnScope n__law_bent ["_law_stream", "_law_cuts", "_law_text"] (defScope s__law_bent) := ⟨rfl, rfl, rfl, by decide +kernel, rfl, by decide +kernel, by decide +kernel⟩
theorem k_tup {tl : TA} {σ : L2.St} {H : Hp} {Q : VK} (h : tl σ H fun vs H1 => vs.length ≤ sizeLine ∧ ∀ p, H1 p = none → Q (.ref p) (upd H1 p (.tup vs))) : tTup tl σ H Q := h
theorem k_lst {tl : TA} {σ : L2.St} {H : Hp} {Q : VK} (h : tl σ H fun vs H1 => vs.length ≤ sizeLine ∧ ∀ p, H1 p = none → Q (.ref p) (upd H1 p (.lst vs))) : tLst tl σ H Q := h
theorem rd_addL {X : Addr → Prop} {xs ys : List PyData} (h : xs.length + ys.length ≤ 1000000) : RD X rAddA (.list xs) (.list ys) (.list (xs ++ ys)) := RD.or2 (RD.or1 (rd_cat h))
theorem cutPD_sub {ds : List PyData} {lo hi : Option Int} {z : PyData} (h : z ∈ cutPD ds lo hi) : z ∈ ds := List.mem_of_mem_drop (List.mem_of_mem_take h)
def spBent : Sp := fun vs H Q _ => ∃ (X : Addr → Prop) (st cl : Addr) (n : Nat) (v1 v2 : V) (cs ts : List PyData), vs = [.ref st, v1, v2] ∧ Sg X st cl n H ∧ n + 10 ≤ 1000000000 ∧ DX X H v1 (.list cs) ∧ DX X H v2 (.list ts) ∧ cs.length ≤ 9 ∧ (∀ c ∈ cs, CutOk c) ∧ ts.length ≤ 8 ∧ ∀ w d H', ThOk d → Sg X st cl (n + 5) H' → KpS st cl H H' → DX X H' w d → Q w H'
theorem ok_bent {f : Addr} {fd : FuncData} (F : Fun K "_law_bent" "_law_bent" s__law_bent f fd) (T : Bl mg) (O__law_draw : Own P w K mg base CX0 1 "_law_draw" ["_law_stream", "_law_many"] spDraw) (O__law_pick : Own P w K mg base CX0 2 "_law_pick" ["_law_stream", "_law_some"] spPick) :
    FnOk P w K mg base CX0 3 f fd ["_law_stream", "_law_cuts", "_law_text"] spBent := by
  refine F.ok sc__law_bent (fun vs H Q E h => ?_) (fun cdv A outer s H vs Q E hr h => ?_)
  · obtain ⟨X, st, cl, n, v1, v2, cs, ts, rfl, _⟩ := h
    rfl
  · obtain ⟨X, st, cl, n, v1, v2, cs, ts, rfl, S, hn, d1, d2, hl, hc, ht, k⟩ := h
    refine ⟨_, (pss_cons (ps_if (pt_cmpR (op_eqD hr.units) (pv 1) (pe_lst pa_nil) (nomark _))
    (pss_one (ps_ret (pe_lst (pa_cons (pe_tup (pa_cons pe_int (pa_cons pe_int (pa_cons (pe_lst pa_nil) pa_nil)))) pa_nil)))) pss_nil)
    (pss_cons (ps_asg (pe_tup (pa_cons (pe_own O__law_draw hr (by decide) (by rfl) (pa_cons (pv 0) (pa_cons (pe_callB call_len (by rfl) T.b_len boot_len (pa_cons (pv 1) pa_nil)) pa_nil))) (pa_cons (pe_own O__law_pick hr (by decide) (by rfl) (pa_cons (pv 0) (pa_cons (pv 1) pa_nil))) pa_nil))) (pg_tup (n := 2) rfl (pgs_cons (pg_name (i := 3) sc__law_bent.nd rfl (by first | exact Or.inl rfl | exact Or.inr rfl)) (pgs_cons (pg_tup (n := 3) rfl (pgs_cons (pg_name (i := 4) sc__law_bent.nd rfl (by first | exact Or.inl rfl | exact Or.inr rfl)) (pgs_cons (pg_name (i := 5) sc__law_bent.nd rfl (by first | exact Or.inl rfl | exact Or.inr rfl)) (pgs_cons (pg_name (i := 6) sc__law_bent.nd rfl (by first | exact Or.inl rfl | exact Or.inr rfl)) pgs_nil)))) pgs_nil))))
    (pss_cons (ps_set (i := 7) sc__law_bent.nd rfl (by first | exact Or.inl rfl | exact Or.inr rfl) (pe_lst (pa_cons (pe_tup (pa_cons (pv 4) (pa_cons (pv 5) pa_nil))) (pa_cons (pe_tup (pa_cons (pv 4) (pa_cons (pv 5) (pa_cons (pv 6) (pa_cons pe_int pa_nil))))) (pa_cons pe_non (pa_cons pe_int (pa_cons (pe_tup (pa_cons (pv 4) (pa_cons (pv 5) (pa_cons pe_str pa_nil)))) (pa_cons (pe_tup (pa_cons (pv 4) (pa_cons (pv 5) (pa_cons (pe_lst (pa_cons pe_non pa_nil)) pa_nil)))) (pa_cons (pe_tup (pa_cons (pv 4) (pa_cons pe_int (pa_cons (pe_lst pa_nil) pa_nil)))) pa_nil)))))))))
    (pss_cons (ps_expr (pe_bm PySem.F.plainAttrs_list PySem.F.slot_list_extend PySem.F.type_list_extend mt_extend (pv 7) (pa_cons (pe_lst (pa_cons (pe_tup (pa_cons pe_bl (pa_cons (pv 5) (pa_cons (pv 6) pa_nil)))) (pa_cons (pe_tup (pa_cons (pv 4) (pa_cons pe_bl (pa_cons (pv 6) pa_nil)))) (pa_cons (pe_tup (pa_cons (pe_un un_neg pe_int) (pa_cons (pv 5) (pa_cons (pv 6) pa_nil)))) (pa_cons (pe_tup (pa_cons (pv 4) (pa_cons (pe_un un_neg pe_int) (pa_cons (pv 6) pa_nil)))) (pa_cons (pe_tup (pa_cons pe_str (pa_cons (pv 5) (pa_cons (pv 6) pa_nil)))) pa_nil)))))) pa_nil)))
    (pss_cons (ps_expr (pe_bm PySem.F.plainAttrs_list PySem.F.slot_list_extend PySem.F.type_list_extend mt_extend (pv 7) (pa_cons (pe_lst (pa_cons (pe_tup (pa_cons (pv 4) (pa_cons (pv 5) (pa_cons (pe_op op_addA (pv 6) (pe_lst (pa_cons pe_str pa_nil))) pa_nil)))) (pa_cons (pe_tup (pa_cons (pv 4) (pa_cons (pv 5) (pa_cons (pe_op op_addA (pv 6) (pe_lst (pa_cons (pe_op op_repS pe_str pe_int) pa_nil))) pa_nil)))) (pa_cons (pe_tup (pa_cons (pv 4) (pa_cons (pv 5) (pa_cons (pe_lst (pa_cons (pe_op op_repS pe_str pe_int) pa_nil)) pa_nil)))) pa_nil)))) pa_nil)))
    (pss_cons (ps_expr (pe_bm PySem.F.plainAttrs_list PySem.F.slot_list_extend PySem.F.type_list_extend mt_extend (pv 7) (pa_cons (pe_lst (pa_cons (pe_tup (pa_cons (pe_callB call_len (by rfl) T.b_len boot_len (pa_cons (pv 2) pa_nil)) (pa_cons pe_int (pa_cons (pe_lst (pa_cons pe_str pa_nil)) pa_nil)))) (pa_cons (pe_tup (pa_cons (pe_callB call_len (by rfl) T.b_len boot_len (pa_cons (pv 2) pa_nil)) (pa_cons pe_int (pa_cons (pe_lst pa_nil) pa_nil)))) (pa_cons (pe_tup (pa_cons (pe_op op_addA (pe_callB call_len (by rfl) T.b_len boot_len (pa_cons (pv 2) pa_nil)) pe_int) (pa_cons pe_int (pa_cons (pe_lst (pa_cons pe_str pa_nil)) pa_nil)))) (pa_cons (pe_tup (pa_cons (pe_op op_addA (pv 4) pe_int) (pa_cons (pv 5) (pa_cons (pv 6) pa_nil)))) pa_nil))))) pa_nil)))
    (pss_cons (ps_expr (pe_bm PySem.F.plainAttrs_list PySem.F.slot_list_extend PySem.F.type_list_extend mt_extend (pv 7) (pa_cons (pe_lst (pa_cons (pe_lst (pa_cons (pv 4) (pa_cons (pv 5) (pa_cons (pe_callTy call_tuple_of (by rfl) T.b_tuple boot_tuple (pa_cons (pv 6) pa_nil)) pa_nil)))) (pa_cons (pe_tup (pa_cons (pv 4) (pa_cons (pe_op op_addA (pv 5) pe_int) (pa_cons (pv 6) pa_nil)))) (pa_cons (pe_tup (pa_cons (pv 4) (pa_cons (pv 5) (pa_cons pe_dnewK pa_nil)))) pa_nil)))) pa_nil)))
    (pss_cons (ps_expr (pe_bm PySem.F.plainAttrs_list PySem.F.slot_list_append PySem.F.type_list_append mt_append (pv 7) (pa_cons (pe_tup (pa_cons (pv 4) (pa_cons (pv 5) (pa_cons (pe_op op_addA (pv 6) (pv 6)) pa_nil)))) pa_nil)))
    (pss_one (ps_ret (pe_op op_addA (pe_op op_addA (pe_slice sl_list (pv 1) po_none (po_some (pv 3))) (pe_lst (pa_cons (pe_own O__law_pick hr (by decide) (by rfl) (pa_cons (pv 0) (pa_cons (pv 7) pa_nil))) pa_nil))) (pe_slice sl_list (pv 1) (po_some (pe_op op_addA (pv 3) pe_int)) po_none)))))))))))), ?_⟩
    have En : EnvOk X H (L2.start n__law_bent [.ref st, v1, v2]) [.val (.ref st), .dat (.list cs), .dat (.list ts), .un, .un, .un, .un, .un] := ⟨rfl, fun i s e => by
      match i, e with
      | 0, e => cases e; rfl
      | 1, e => cases e; exact ⟨_, rfl, d1⟩
      | 2, e => cases e; exact ⟨_, rfl, d2⟩
      | 3, e => cases e; trivial
      | 4, e => cases e; trivial
      | 5, e => cases e; trivial
      | 6, e => cases e; trivial
      | 7, e => cases e; trivial
      | _ + 8, e => cases e⟩
    obtain ⟨nd, sh⟩ := cuts_shaped hc
    have z0 : smallI 0 := ⟨by omega, by omega⟩
    refine q_if (gt_eqD S.t (x := .list cs) (y := .list []) (g_var (i := 1) En rfl) (g_lst S.t ga_nil (by simp)) nd rfl sh rfl) (fun hb H1 s1 => ?_) fun hb H1 s1 => ?_
    · have S1 := S.same s1
      refine k_ret (g_lst S1.t (ga_cons (g_tup S1.t (ga_cons g_int (ga_cons g_int (ga_cons (g_lst S1.t ga_nil (by simp)) ga_nil))) (by simp)) ga_nil) (by simp) H1 (Same.refl _) _ fun w H2 s2 dw => k w _ H2 ?_ ((S1.same s2).le (by omega)) ((KpS.of s1).trans (KpS.of s2)) dw)
      exact oL (oa (oT (oa (oI z0) (oa (oI z0) (oa (oL oa0 (by simp)) oa0))) (by simp)) oa0) (by simp)
    have h0 : 0 < cs.length := by
      cases cs with
      | nil => simp [PyData.eqv, PyData.eqvAll] at hb
      | cons c cs => simp
    have S1 := S.same s1
    have E1 := En.same s1
    have k1 := KpS.of (st := st) (cl := cl) s1
    clear En S hb nd sh d1 d2
    -- at, the cut
    refine k_asg (k_tup (k_cons (c_draw (m := (cs.length : Int)) S1 (gv_var (i := 0) E1 rfl) (g_len S1.t (g_var (i := 1) (d := .list cs) E1 rfl) rfl) (by omega) (by omega) (by omega) fun at_ H2 a0 a1 S2 k2 => ?_)))
    have E2 := E1.kps S1 k2
    refine k_cons (c_pick (ds := cs) S2 (gv_var (i := 0) E2 rfl) (g_var (i := 1) E2 rfl) (by omega) h0 (by omega) fun w3 d3 H3 hd3 S3 k3 dw3 => ?_)
    have E3 := E2.kps S2 k3
    obtain ⟨p, m, ws, rfl, p0, p1, m0, m1, lw, hw⟩ := hc d3 hd3
    refine ⟨by show 2 ≤ sizeLine; decide, fun q hq => ?_⟩
    have sq : Same H3 (upd H3 q (.tup [.int at_, w3])) := Same.upd hq
    have S4 := S3.same sq
    have E4 := E3.same sq
    have dw4 := dw3.mono (Kp.of sq)
    have k4 := (k1.trans k2).trans (k3.trans (KpS.of sq))
    obtain ⟨b, ys, rfl, nb, eb, ry⟩ := dw4.tup_inv
    cases ry with
    | cons r1 ry =>
    cases ry with
    | cons r2 ry =>
    cases ry with
    | cons r3 ry =>
    cases ry
    refine ⟨q, _, rfl, SqT.of upd_same, rfl, _, _, rfl, ?_⟩
    refine ⟨_, _, rfl, b, _, rfl, SqT.of eb, rfl, _, _, rfl, _, _, rfl, _, _, rfl, rfl, rfl, ?_⟩
    have E5 := (((E4.set (i := 3) (v := .int at_) (d := .int at_) (.int _)).set (i := 4) r1).set (i := 5) r2).set (i := 6) r3
    generalize upd H3 q (.tup [.int at_, .ref b]) = H5 at *
    have t5 := S4.t
    clear E1 E2 E3 E4 S1 S2 S3 k1 k2 k3 sq dw3 dw4 r1 r2 r3 eb
    have wA : ∀ z ∈ ws, z ∈ allS := fun z hz => dW_all z (hw z hz)
    have oW : ∀ {n : Nat}, okD (n + 1) (wsD ws) := fun {n} => oL (oaW wA) (by rw [List.length_map]; omega)
    have oP : ∀ {n : Nat}, okD n (.int p) := oI ⟨by omega, by omega⟩
    have oM : ∀ {n : Nat}, okD n (.int m) := oI ⟨by omega, by omega⟩
    -- odds
    refine k_own (i := 7) E5 t5 (gn_lst (ds := [.tuple [.int p, .int m], .tuple [.int p, .int m, wsD ws, .int 0], .none, .int 5, .tuple [.int p, .int m, .str "x"], .tuple [.int p, .int m, .list [.none]], .tuple [.int p, .int 0, .list []]]) t5
      (ga_cons (g_tup t5 (ga_cons (g_var (i := 4) E5 rfl) (ga_cons (g_var (i := 5) E5 rfl) ga_nil)) (by simp)) (ga_cons (g_tup t5 (ga_cons (g_var (i := 4) E5 rfl) (ga_cons (g_var (i := 5) E5 rfl) (ga_cons (g_var (i := 6) E5 rfl) (ga_cons g_int ga_nil)))) (by simp)) (ga_cons g_non (ga_cons g_int (ga_cons (g_tup t5 (ga_cons (g_var (i := 4) E5 rfl) (ga_cons (g_var (i := 5) E5 rfl) (ga_cons g_str ga_nil))) (by simp)) (ga_cons (g_tup t5 (ga_cons (g_var (i := 4) E5 rfl) (ga_cons (g_var (i := 5) E5 rfl) (ga_cons (g_lst t5 (ga_cons g_non ga_nil) (by simp)) ga_nil))) (by simp))
        (ga_cons (g_tup t5 (ga_cons (g_var (i := 4) E5 rfl) (ga_cons g_int (ga_cons (g_lst t5 ga_nil (by simp)) ga_nil))) (by simp)) ga_nil))))))) (by simp)) fun L H6 xs6 hL s6 h6 x6 E6 t6 => ?_
    have o6 : OkA 2 [.tuple [.int p, .int m], .tuple [.int p, .int m, wsD ws, .int 0], .none, .int 5, .tuple [.int p, .int m, .str "x"], .tuple [.int p, .int m, .list [.none]], .tuple [.int p, .int 0, .list []]] :=
      oa (oT (oa oP (oa oM oa0)) (by simp)) (oa (oT (oa oP (oa oM (oa oW (oa (oI z0) oa0)))) (by simp)) (oa oN (oa (oI ⟨by omega, by omega⟩) (oa (oT (oa oP (oa oM (oa (oS (by decide +kernel)) oa0))) (by simp)) (oa (oT (oa oP (oa oM (oa (oL (oa oN oa0) (by simp)) oa0))) (by simp)) (oa (oT (oa oP (oa (oI z0) (oa (oL oa0 (by simp)) oa0))) (by simp)) oa0))))))
    have nX : ¬ X L := S4.t.new hL
    have nL1 := S4.ne1 hL
    have nL2 := S4.ne2 hL
    have l6 : [PyData.tuple [.int p, .int m], .tuple [.int p, .int m, wsD ws, .int 0], .none, .int 5, .tuple [.int p, .int m, .str "x"], .tuple [.int p, .int m, .list [.none]], .tuple [.int p, .int 0, .list []]].length = 7 := rfl
    generalize [PyData.tuple [.int p, .int m], .tuple [.int p, .int m, wsD ws, .int 0], .none, .int 5, .tuple [.int p, .int m, .str "x"], .tuple [.int p, .int m, .list [.none]], .tuple [.int p, .int 0, .list []]] = e6 at *
    have S6 : Sg (fun b => X b ∨ b = L) st cl (n + 1 + 1) H6 := ⟨S4.ok.same s6, .inl S4.x1, .inl S4.x2, t6⟩
    have k6 := k4.trans (KpS.of s6)
    have hL0 : H L = none := by
      cases e : H L with
      | none => rfl
      | some o =>
        have := k4 L o nL1 nL2 e
        rw [hL] at this
        cases this
    clear S4 k4 s6 E5 t5
    have step : ∀ {H1 H2 : Hp} {m : Nat}, KpL L H1 H2 → Trk (fun b => X b ∨ b = L) H2 → Sg (fun b => X b ∨ b = L) st cl m H1 → KpS st cl H H1 → Sg (fun b => X b ∨ b = L) st cl m H2 ∧ KpS st cl H H2 := fun {H1 H2 m} kp t S k => ⟨by
      obtain ⟨ms, a, b, c, SS, hb⟩ := S.ok
      exact ⟨⟨ms, a, b, c, ⟨kp _ _ (Ne.symm nL1) SS.hs, kp _ _ (Ne.symm nL2) SS.hc, SS.ne, SS.a0, SS.b0, SS.c0, SS.c1, SS.ml⟩, hb⟩, S.x1, S.x2, t⟩, fun a o n1 n2 e => kp a o (fun z => by rw [z, hL0] at e; cases e) (k a o n1 n2 e)⟩
    refine q_extend (i := 7) (L := L) (es := [.tuple [.bool true, .int m, wsD ws], .tuple [.int p, .bool true, wsD ws], .tuple [.int (-1), .int m, wsD ws], .tuple [.int p, .int (-1), wsD ws], .tuple [.str "0", .int m, wsD ws]]) E6 rfl (.inr rfl) t6 h6 x6
      (g_lst t6 (ga_cons (g_tup t6 (ga_cons g_bl (ga_cons (g_var (i := 5) E6 rfl) (ga_cons (g_var (i := 6) E6 rfl) ga_nil))) (by simp)) (ga_cons (g_tup t6 (ga_cons (g_var (i := 4) E6 rfl) (ga_cons g_bl (ga_cons (g_var (i := 6) E6 rfl) ga_nil))) (by simp)) (ga_cons (g_tup t6 (ga_cons go_neg1 (ga_cons (g_var (i := 5) E6 rfl) (ga_cons (g_var (i := 6) E6 rfl) ga_nil))) (by simp)) (ga_cons (g_tup t6 (ga_cons (g_var (i := 4) E6 rfl) (ga_cons go_neg1 (ga_cons (g_var (i := 6) E6 rfl) ga_nil))) (by simp)) (ga_cons (g_tup t6 (ga_cons g_str (ga_cons (g_var (i := 5) E6 rfl) (ga_cons (g_var (i := 6) E6 rfl) ga_nil))) (by simp)) ga_nil))))) (by simp)) (by rw [l6]; simp) fun H7 xs7 h7 x7 E7 t7 kp7 => ?_
    have o7 : OkA 2 (e6 ++ [.tuple [.bool true, .int m, wsD ws], .tuple [.int p, .bool true, wsD ws], .tuple [.int (-1), .int m, wsD ws], .tuple [.int p, .int (-1), wsD ws], .tuple [.str "0", .int m, wsD ws]]) :=
      oaA o6 (oa (oT (oa oB (oa oM (oa oW oa0))) (by simp)) (oa (oT (oa oP (oa oB (oa oW oa0))) (by simp)) (oa (oT (oa (oI ⟨by omega, by omega⟩) (oa oM (oa oW oa0))) (by simp)) (oa (oT (oa oP (oa (oI ⟨by omega, by omega⟩) (oa oW oa0))) (by simp)) (oa (oT (oa (oS (by decide +kernel)) (oa oM (oa oW oa0))) (by simp)) oa0)))))
    have l7 : (e6 ++ [PyData.tuple [.bool true, .int m, wsD ws], .tuple [.int p, .bool true, wsD ws], .tuple [.int (-1), .int m, wsD ws], .tuple [.int p, .int (-1), wsD ws], .tuple [.str "0", .int m, wsD ws]]).length = 12 := by rw [List.length_append, l6]; rfl
    generalize (e6 ++ [PyData.tuple [.bool true, .int m, wsD ws], .tuple [.int p, .bool true, wsD ws], .tuple [.int (-1), .int m, wsD ws], .tuple [.int p, .int (-1), wsD ws], .tuple [.str "0", .int m, wsD ws]]) = e7 at *
    obtain ⟨S7, k7⟩ := step kp7 t7 S6 k6
    clear S6 k6 E6 t6 x6 h6 o6 l6 kp7 e6
    refine q_extend (i := 7) (L := L) (es := [.tuple [.int p, .int m, .list (ws.map PyData.str ++ [.str "a\nb"])], .tuple [.int p, .int m, .list (ws.map PyData.str ++ [.str (timesS "x" 201)])], .tuple [.int p, .int m, .list [.str (timesS "x" 200)]]]) E7 rfl (.inr rfl) t7 h7 x7
      (g_lst t7 (ga_cons (g_tup t7 (ga_cons (g_var (i := 4) E7 rfl) (ga_cons (g_var (i := 5) E7 rfl) (ga_cons (g_cat t7 (g_var (i := 6) E7 rfl) (g_lst t7 (ga_cons g_str ga_nil) (by simp)) (by simp; omega)) ga_nil))) (by simp)) (ga_cons (g_tup t7 (ga_cons (g_var (i := 4) E7 rfl) (ga_cons (g_var (i := 5) E7 rfl) (ga_cons (g_cat t7 (g_var (i := 6) E7 rfl) (g_lst t7 (ga_cons (g_op t7 g_str g_int (rd_repS (.inr rfl))) ga_nil) (by simp)) (by simp; omega)) ga_nil))) (by simp)) (ga_cons (g_tup t7 (ga_cons (g_var (i := 4) E7 rfl) (ga_cons (g_var (i := 5) E7 rfl) (ga_cons (g_lst t7 (ga_cons (g_op t7 g_str g_int (rd_repS (.inl rfl))) ga_nil) (by simp)) ga_nil))) (by simp)) ga_nil))) (by simp)) (by rw [l7]; simp) fun H8 xs8 h8 x8 E8 t8 kp8 => ?_
    have o8 : OkA 2 (e7 ++ [.tuple [.int p, .int m, .list (ws.map PyData.str ++ [.str "a\nb"])], .tuple [.int p, .int m, .list (ws.map PyData.str ++ [.str (timesS "x" 201)])], .tuple [.int p, .int m, .list [.str (timesS "x" 200)]]]) :=
      oaA o7 (oa (oT (oa oP (oa oM (oa (oL (oaA (oaW wA) (oa (oS (by decide +kernel)) oa0)) (by simp; omega)) oa0))) (by simp)) (oa (oT (oa oP (oa oM (oa (oL (oaA (oaW wA) (oa (oS (by decide +kernel)) oa0)) (by simp; omega)) oa0))) (by simp)) (oa (oT (oa oP (oa oM (oa (oL (oa (oS (by decide +kernel)) oa0) (by simp)) oa0))) (by simp)) oa0)))
    have l8 : (e7 ++ [PyData.tuple [.int p, .int m, .list (ws.map PyData.str ++ [.str "a\nb"])], .tuple [.int p, .int m, .list (ws.map PyData.str ++ [.str (timesS "x" 201)])], .tuple [.int p, .int m, .list [.str (timesS "x" 200)]]]).length = 15 := by rw [List.length_append, l7]; rfl
    generalize (e7 ++ [PyData.tuple [.int p, .int m, .list (ws.map PyData.str ++ [.str "a\nb"])], .tuple [.int p, .int m, .list (ws.map PyData.str ++ [.str (timesS "x" 201)])], .tuple [.int p, .int m, .list [.str (timesS "x" 200)]]]) = e8 at *
    obtain ⟨S8, k8⟩ := step kp8 t8 S7 k7
    clear S7 k7 E7 t7 x7 h7 o7 l7 kp8 e7
    refine q_extend (i := 7) (L := L) (es := [.tuple [.int (ts.length : Int), .int 0, .list [.str "x"]], .tuple [.int (ts.length : Int), .int 1, .list []], .tuple [.int ((ts.length : Int) + 1), .int 0, .list [.str "x"]], .tuple [.int (p + 1), .int m, wsD ws]]) E8 rfl (.inr rfl) t8 h8 x8
      (g_lst t8 (ga_cons (g_tup t8 (ga_cons (g_len t8 (g_var (i := 2) (d := .list ts) E8 rfl) rfl) (ga_cons g_int (ga_cons (g_lst t8 (ga_cons g_str ga_nil) (by simp)) ga_nil))) (by simp)) (ga_cons (g_tup t8 (ga_cons (g_len t8 (g_var (i := 2) (d := .list ts) E8 rfl) rfl) (ga_cons g_int (ga_cons (g_lst t8 ga_nil (by simp)) ga_nil))) (by simp)) (ga_cons (g_tup t8 (ga_cons (g_addI t8 (g_len t8 (g_var (i := 2) (d := .list ts) E8 rfl) rfl) g_int) (ga_cons g_int (ga_cons (g_lst t8 (ga_cons g_str ga_nil) (by simp)) ga_nil))) (by simp)) (ga_cons (g_tup t8 (ga_cons (g_addI t8 (g_var (i := 4) E8 rfl) g_int) (ga_cons (g_var (i := 5) E8 rfl) (ga_cons (g_var (i := 6) E8 rfl) ga_nil))) (by simp)) ga_nil)))) (by simp)) (by rw [l8]; simp) fun H9 xs9 h9 x9 E9 t9 kp9 => ?_
    have o9 : OkA 2 (e8 ++ [.tuple [.int (ts.length : Int), .int 0, .list [.str "x"]], .tuple [.int (ts.length : Int), .int 1, .list []], .tuple [.int ((ts.length : Int) + 1), .int 0, .list [.str "x"]], .tuple [.int (p + 1), .int m, wsD ws]]) :=
      oaA o8 (oa (oT (oa (oI ⟨by omega, by omega⟩) (oa (oI z0) (oa (oL (oa (oS (by decide +kernel)) oa0) (by simp)) oa0))) (by simp)) (oa (oT (oa (oI ⟨by omega, by omega⟩) (oa (oI ⟨by omega, by omega⟩) (oa (oL oa0 (by simp)) oa0))) (by simp)) (oa (oT (oa (oI ⟨by omega, by omega⟩) (oa (oI z0) (oa (oL (oa (oS (by decide +kernel)) oa0) (by simp)) oa0))) (by simp)) (oa (oT (oa (oI ⟨by omega, by omega⟩) (oa oM (oa oW oa0))) (by simp)) oa0))))
    have l9 : (e8 ++ [PyData.tuple [.int (ts.length : Int), .int 0, .list [.str "x"]], .tuple [.int (ts.length : Int), .int 1, .list []], .tuple [.int ((ts.length : Int) + 1), .int 0, .list [.str "x"]], .tuple [.int (p + 1), .int m, wsD ws]]).length = 19 := by rw [List.length_append, l8]; rfl
    generalize (e8 ++ [PyData.tuple [.int (ts.length : Int), .int 0, .list [.str "x"]], .tuple [.int (ts.length : Int), .int 1, .list []], .tuple [.int ((ts.length : Int) + 1), .int 0, .list [.str "x"]], .tuple [.int (p + 1), .int m, wsD ws]]) = e9 at *
    obtain ⟨S9, k9⟩ := step kp9 t9 S8 k8
    clear S8 k8 E8 t8 x8 h8 o8 l8 kp9 e8
    refine q_extend (i := 7) (L := L) (es := [.list [.int p, .int m, .tuple (ws.map PyData.str)], .tuple [.int p, .int (m + 1), wsD ws], .tuple [.int p, .int m, .dict []]]) E9 rfl (.inr rfl) t9 h9 x9
      (g_lst t9 (ga_cons (g_lst t9 (ga_cons (g_var (i := 4) E9 rfl) (ga_cons (g_var (i := 5) E9 rfl) (ga_cons (g_tupOf (K := K) t9 (g_var (i := 6) E9 rfl)) ga_nil))) (by simp)) (ga_cons (g_tup t9 (ga_cons (g_var (i := 4) E9 rfl) (ga_cons (g_addI t9 (g_var (i := 5) E9 rfl) g_int) (ga_cons (g_var (i := 6) E9 rfl) ga_nil))) (by simp)) (ga_cons (g_tup t9 (ga_cons (g_var (i := 4) E9 rfl) (ga_cons (g_var (i := 5) E9 rfl) (ga_cons (g_dict t9) ga_nil))) (by simp)) ga_nil))) (by simp)) (by rw [l9]; simp) fun HA xsA hA xA EA tA kpA => ?_
    have oA : OkA 2 (e9 ++ [.list [.int p, .int m, .tuple (ws.map PyData.str)], .tuple [.int p, .int (m + 1), wsD ws], .tuple [.int p, .int m, .dict []]]) :=
      oaA o9 (oa (oL (oa oP (oa oM (oa (oT (oaW wA) (by rw [List.length_map]; omega)) oa0))) (by simp)) (oa (oT (oa oP (oa (oI ⟨by omega, by omega⟩) (oa oW oa0))) (by simp)) (oa (oT (oa oP (oa oM (oa oD oa0))) (by simp)) oa0)))
    have lA : (e9 ++ [PyData.list [.int p, .int m, .tuple (ws.map PyData.str)], .tuple [.int p, .int (m + 1), wsD ws], .tuple [.int p, .int m, .dict []]]).length = 22 := by rw [List.length_append, l9]; rfl
    generalize (e9 ++ [PyData.list [.int p, .int m, .tuple (ws.map PyData.str)], .tuple [.int p, .int (m + 1), wsD ws], .tuple [.int p, .int m, .dict []]]) = eA at *
    obtain ⟨SA, kA⟩ := step kpA tA S9 k9
    clear S9 k9 E9 t9 x9 h9 o9 l9 kpA e9
    refine q_append (i := 7) (L := L) (d := .tuple [.int p, .int m, .list (ws.map PyData.str ++ ws.map PyData.str)]) EA rfl (.inr rfl) tA hA xA (g_tup tA (ga_cons (g_var (i := 4) EA rfl) (ga_cons (g_var (i := 5) EA rfl) (ga_cons (g_cat tA (g_var (i := 6) EA rfl) (g_var (i := 6) EA rfl) (by simp; omega)) ga_nil))) (by simp)) (by rw [lA]; decide) fun HB xsB hB xB EB tB kpB => ?_
    have oB' : OkA 2 (eA ++ [.tuple [.int p, .int m, .list (ws.map PyData.str ++ ws.map PyData.str)]]) := oaA oA (oa (oT (oa oP (oa oM (oa (oL (oaA (oaW wA) (oaW wA)) (by simp; omega)) oa0))) (by simp)) oa0)
    have lB : (eA ++ [PyData.tuple [.int p, .int m, .list (ws.map PyData.str ++ ws.map PyData.str)]]).length = 23 := by rw [List.length_append, lA]; rfl
    generalize (eA ++ [PyData.tuple [.int p, .int m, .list (ws.map PyData.str ++ ws.map PyData.str)]]) = eB at *
    obtain ⟨SB, kB⟩ := step kpB tB SA kA
    clear SA kA EA tA xA hA oA lA kpB eA step
    -- what is told
    have EC := EnvOk.give (i := 7) EB rfl nX hB xB
    have SC : Sg X st cl (n + 1 + 1) HB := ⟨SB.ok, SB.x1.elim (fun h => h) fun e => (nL1 e.symm).elim, SB.x2.elim (fun h => h) fun e => (nL2 e.symm).elim, fun a h => SB.t a (.inl h)⟩
    refine k_ret (k_op (k_op (g_sl (K := K) SC.t (g_var (i := 1) (d := .list cs) EC rfl) go_none (go_some (g_var (i := 3) EC rfl)) HB (Same.refl _) _ fun v1 HC s1 r1 => k_lst (k_cons ?_))))
    have SD := SC.same s1
    have ED := EC.same s1
    refine c_pick (ds := eB) SD (gv_var (i := 0) ED rfl) (g_var (i := 7) ED rfl) (by omega) (by omega) (by omega) fun w d HD hd SE kE dw => ?_
    have EE := ED.kps SD kE
    refine ⟨by show 1 ≤ sizeLine; decide, fun q hq => ?_⟩
    have sq : Same HD (upd HD q (.lst [w])) := Same.upd hq
    have SF := SE.same sq
    have EF := EE.same sq
    have dq : DX X (upd HD q (.lst [w])) (.ref q) (.list [d]) := DX.newL SE.t (.cons dw .nil) hq
    have r1' := (r1.mono (SD.kp kE)).mono (Kp.of sq)
    have c1 := cutPD_len cs none (some at_)
    have c2 := cutPD_len cs (some (at_ + 1)) none
    refine rd_addL (xs := cutPD cs none (some at_)) (ys := [d]) (by simp; omega) _ _ _ SF.t r1' dq _ fun x HG s2 dx => ?_
    have SG := SF.same s2
    have EG := EF.same s2
    refine g_sl (K := K) SG.t (g_var (i := 1) (d := .list cs) EG rfl) (go_some (g_addI SG.t (g_var (i := 3) EG rfl) g_int)) go_none HG (Same.refl _) _ fun y HI s3 dy => ?_
    refine rd_addL (xs := cutPD cs none (some at_) ++ [d]) (ys := cutPD cs (some (at_ + 1)) none) (by simp; omega) _ _ _ (SG.t.mono s3) (dx.mono (Kp.of s3)) dy _ fun z HJ s4 dz => ?_
    have kz := kB.trans ((KpS.of s1).trans (kE.trans ((KpS.of sq).trans ((KpS.of s2).trans ((KpS.of s3).trans (KpS.of s4))))))
    refine k z _ HJ ?_ (((SG.same s3).same s4).le (by omega)) kz dz
    refine oL (oaA (oaA (fun z hz => (hc z (cutPD_sub hz)).ok 0) (oa (oB' d hd) oa0)) fun z hz => (hc z (cutPD_sub hz)).ok 0) ?_
    rw [List.length_append, List.length_append, cutPD_to' cs a0]
    simp only [List.length_take, List.length_cons, List.length_nil]
    have := cutPD_from cs (show (0 : Int) ≤ at_ + 1 by omega)
    rw [this, List.length_drop]
    omega
theorem c_bent {X : Addr → Prop} {st cl : Addr} {n : Nat} {H : Hp} {σ : L2.St} {ts tm tn : TE} {E : XK} {ds es : List PyData} {Q : VK} (S : Sg X st cl n H) (hv : GV ts σ H (.ref st)) (hm : G X tm σ H (.list ds)) (hm2 : G X tn σ H (.list es)) (hn : n + 10 ≤ 1000000000) (h1 : ds.length ≤ 9) (h2 : ∀ c ∈ ds, CutOk c) (h3 : es.length ≤ 8)
    (k : ∀ w d H', ThOk d → Sg X st cl (n + 5) H' → KpS st cl H H' → DX X H' w d → Q w H') : tCall spBent [] E (tCons ts (tCons tm (tCons tn tNil))) σ H Q :=
  hv H (Same.refl H) _ (hm H (Same.refl H) _ fun v H1 s1 r => hm2 H1 s1 _ fun v2 H2 s2 r2 => ⟨X, st, cl, n, v, v2, ds, es, rfl, (S.same s1).same s2, hn, r.mono (Kp.of s2), r2, h1, h2, h3, fun w d H' h1 S2 kk dw => k w d H' h1 S2 (((KpS.of s1).trans (KpS.of s2)).trans kk) dw⟩)
end K54

/-! What a law's frame keeps. -/
namespace K54
open PySem PySem.Spec PyProof.Rows L2 KD LamX
/-- all that is no table and not of X stays -/
def Kq (X : Addr → Prop) (H H' : Hp) : Prop := ∀ a o, ¬ X a → (∀ ps, o ≠ .tbl ps) → H a = some o → H' a = some o
section
variable {X X' : Addr → Prop} {H H' H1 H2 : Hp} {σ : L2.St} {Γ : List Sv} {T : List (Addr × Str)} {st cl L : Addr} {n m : Nat}
theorem Kq.of (h : Kp X H H') : Kq X H H' := fun a o n _ e => h a o n e
theorem Kq.same (h : Same H H') : Kq X H H' := fun a o _ _ e => h a o e
theorem Kq.refl : Kq X H H := fun _ _ _ _ e => e
theorem Kq.trans (h : Kq X H H1) (k : Kq X H1 H2) : Kq X H H2 := fun a o n t e => k a o n t (h a o n t e)
theorem Kq.ext (h : ExtN H H') : Kq X H H' := fun a o _ t e => h a o e t
mutual
theorem DX.kq (k : Kq X H H') : ∀ {v : V} {d : PyData}, DX X H v d → DX X H' v d
  | _, _, .non => .non
  | _, _, .bl b => .bl b
  | _, _, .int i => .int i
  | _, _, .str x => .str x
  | _, _, .lst n h r => .lst n (k _ _ n (fun _ e => by cases e) h) (DXs.kq k r)
  | _, _, .tup n h r => .tup n (k _ _ n (fun _ e => by cases e) h) (DXs.kq k r)
  | _, _, .dic n h r => .dic n (k _ _ n (fun _ e => by cases e) h) (DXk.kq k r)
theorem DXs.kq (k : Kq X H H') : ∀ {vs : List V} {ds : List PyData}, DXs X H vs ds → DXs X H' vs ds
  | _, _, .nil => .nil
  | _, _, .cons h r => .cons (DX.kq k h) (DXs.kq k r)
theorem DXk.kq (k : Kq X H H') : ∀ {vs : List (Key × V)} {ds : List (PyData × PyData)}, DXk X H vs ds → DXk X H' vs ds
  | _, _, .nil => .nil
  | _, _, .cons h r => .cons (DX.kq k h) (DXk.kq k r)
end
theorem _root_.KD.EnvOk.kq (k : Kq X H H') (E : EnvOk X H σ Γ) : EnvOk X H' σ Γ := ⟨E.len, fun i s e => by
  have h := E.get i s e
  cases s with
  | dat d =>
    obtain ⟨v, e1, r⟩ := h
    exact ⟨v, e1, DX.kq k r⟩
  | val v => exact h
  | un => trivial⟩
/-- less is known of the slots -/
theorem _root_.KD.EnvOk.weak {Δ : List Sv} (E : EnvOk X H σ Γ) (hl : Γ.length = Δ.length) (h : ∀ (i : Nat) (s : Sv), Δ[i]? = some s → s = .un ∨ Γ[i]? = some s) : EnvOk X H σ Δ := ⟨E.len.trans hl, fun i s e => by
  rcases h i s e with rfl | q
  · trivial
  · exact E.get i s q⟩
/-- the spring, the tables; X are lists -/
structure Zt (X : Addr → Prop) (st cl : Addr) (n : Nat) (T : List (Addr × Str)) (H : Hp) : Prop where
  sg : Sg X st cl n H
  tabs : Tabs T H
  lst : ∀ a, X a → ∃ xs, H a = some (.lst xs)
theorem tabs_lst (t : Tabs T H) (k : ∀ b o, H b = some o → (∀ xs, o ≠ .lst xs) → H' b = some o) : Tabs T H' := fun p hp => by
  obtain ⟨ps, h1, h2, h3⟩ := t p hp
  refine ⟨ps, k _ _ h1 (fun _ e => by cases e), h2, fun pos cv hc => ?_⟩
  obtain ⟨c, e1, e2⟩ := h3 pos cv hc
  exact ⟨c, e1, k _ _ e2 fun _ e => by unfold CodeO at e; cases e⟩
theorem Zt.same (Z : Zt X st cl n T H) (s : Same H H') : Zt X st cl n T H' := ⟨Z.sg.same s, Z.tabs.ext s, fun a x => let ⟨xs, e⟩ := Z.lst a x; ⟨xs, s _ _ e⟩⟩
theorem Zt.draw (Z : Zt X st cl n T H) (S : Sg X st cl m H') (k : KpS st cl H H') : Zt X st cl m T H' := by
  obtain ⟨xs1, e1⟩ := Z.lst st Z.sg.x1
  obtain ⟨xs2, e2⟩ := Z.lst cl Z.sg.x2
  refine ⟨S, tabs_lst Z.tabs fun b o e hn => k b o (fun q => ?_) (fun q => ?_) e, fun a x => ?_⟩
  · rw [q, e1] at e
    exact hn xs1 (Option.some.inj e).symm
  · rw [q, e2] at e
    exact hn xs2 (Option.some.inj e).symm
  · obtain ⟨ms, a', b, c, S', _⟩ := S.ok
    by_cases q1 : a = st
    · exact ⟨_, q1 ▸ S'.hs⟩
    · by_cases q2 : a = cl
      · exact ⟨_, q2 ▸ S'.hc⟩
      · obtain ⟨xs, e⟩ := Z.lst a x
        exact ⟨xs, k a _ q1 q2 e⟩
theorem Zt.lam (Z : Zt X st cl n T H) (e : ExtN H H') (t : Tabs T H') : Zt X st cl n T H' := by
  have keep : ∀ a, X a → ∃ xs, H a = some (.lst xs) ∧ H' a = some (.lst xs) := fun a x => by
    obtain ⟨xs, q⟩ := Z.lst a x
    exact ⟨xs, q, e a _ q fun _ z => by cases z⟩
  obtain ⟨ms, a, b, c, S, hb⟩ := Z.sg.ok
  exact ⟨⟨⟨ms, a, b, c, ⟨e _ _ S.hs (fun _ z => by cases z), e _ _ S.hc (fun _ z => by cases z), S.ne, S.a0, S.b0, S.c0, S.c1, S.ml⟩, hb⟩, Z.sg.x1, Z.sg.x2, fun a x => let ⟨xs, _, q⟩ := keep a x; ⟨_, q⟩⟩, t, fun a x => let ⟨xs, _, q⟩ := keep a x; ⟨xs, q⟩⟩
theorem Zt.le (Z : Zt X st cl n T H) (h : n ≤ m) : Zt X st cl m T H := ⟨Z.sg.le h, Z.tabs, Z.lst⟩
/-- one more list of one's own -/
theorem Zt.more {xs : List V} (Z : Zt X st cl n T H) (h : H L = some (.lst xs)) : Zt (fun b => X b ∨ b = L) st cl n T H :=
  ⟨⟨Z.sg.ok, .inl Z.sg.x1, .inl Z.sg.x2, fun a e => e.elim (Z.sg.t a) fun q => ⟨_, q ▸ h⟩⟩, Z.tabs, fun a e => e.elim (Z.lst a) fun q => ⟨_, q ▸ h⟩⟩
theorem Zt.less (m : ∀ a, X a → X' a) (x1 : X st) (x2 : X cl) (Z : Zt X' st cl n T H) : Zt X st cl n T H := ⟨⟨Z.sg.ok, x1, x2, fun a e => Z.sg.t a (m a e)⟩, Z.tabs, fun a e => Z.lst a (m a e)⟩
/-- a list of one's own is changed -/
theorem Zt.put {xs : List V} (Z : Zt X st cl n T H) (k : KpL L H H') (h : H' L = some (.lst xs)) (x : X L) (n1 : L ≠ st) (n2 : L ≠ cl) : Zt X st cl n T H' := by
  obtain ⟨ys, eL⟩ := Z.lst L x
  obtain ⟨ms, a, b, c, S, hb⟩ := Z.sg.ok
  refine ⟨⟨⟨ms, a, b, c, ⟨k _ _ (Ne.symm n1) S.hs, k _ _ (Ne.symm n2) S.hc, S.ne, S.a0, S.b0, S.c0, S.c1, S.ml⟩, hb⟩, Z.sg.x1, Z.sg.x2, fun a e => ?_⟩, tabs_lst Z.tabs fun b o e hn => k b o (fun q => ?_) e, fun a e => ?_⟩
  · by_cases q : a = L
    · exact ⟨_, q ▸ h⟩
    · obtain ⟨xs, z⟩ := Z.lst a e
      exact ⟨_, k a _ q z⟩
  · rw [q, eL] at e
    exact hn ys (Option.some.inj e).symm
  · by_cases q : a = L
    · exact ⟨_, q ▸ h⟩
    · obtain ⟨xs, z⟩ := Z.lst a e
      exact ⟨_, k a _ q z⟩
theorem Kq.put (k : KpL L H H') (x : X L) : Kq X H H' := fun a o n _ e => k a o (fun q => n (q ▸ x)) e
end
/-! ### calls -/
section
variable {X : Addr → Prop} {H : Hp} {σ : L2.St} {Γ : List Sv} {T : List (Addr × Str)} {st cl : Addr} {n : Nat} {ta tb : TE} {E : XK} {d d1 d2 r : PyData} {Q : VK} {C C1 C2 C3 : Addr} {f1 f2 f3 t1 t2 t3 fl tag : Str}
theorem g_same {m : Nat} (t : Trk X H) (h1 : G X ta σ H d) (h2 : G X tb σ H d) (hs : sm m d) : G X (tCall (spSame m) [] E (tCons ta (tCons tb tNil))) σ H (.bool true) := fun H1 s Q q =>
  h1 H1 s _ fun v H2 s2 r1 => h2 H2 (s.trans s2) _ fun v2 H3 s3 r2 => ⟨X, v, v2, d, rfl, ((t.mono s).mono s2).mono s3, r1.mono (Kp.of s3), r2, hs, fun H' s4 => q _ H' ((s2.trans s3).trans s4) (.bl true)⟩
theorem gt_neS {a b : Str} (h1 : G X ta σ H (.str a)) (h2 : G X tb σ H (.str b)) : GT (tTest (tOp rNe ta tb)) σ H (!decide (a = b)) := fun H1 s Q q =>
  h1 H1 s _ fun u H2 s2 r => h2 H2 (s.trans s2) _ fun v H3 s3 r2 => by
    rw [r.str_inv, r2.str_inv]
    refine ⟨rfl, _, rfl, ?_⟩
    have e : decide (V.str a = V.str b) = decide (a = b) := by
      by_cases z : a = b
      · rw [z]
        simp
      · rw [decide_eq_false z, decide_eq_false fun q => z (by cases q; rfl)]
    rw [e]
    exact q H3 (s2.trans s3)
end
section
variable {σ : L2.St} {H : Hp} {te ta tb : TE} {D : Ends} {r : R2} {Q : VK} {g : TG} {tz tu tw : TS} {tt tv : TT} {tl : TA} {K : PySem.W.Frag} {to th : TO} {Qb : Bool → Hp → Prop} {rs : V → Option Int → Option Int → Hp → VK → Prop}
theorem k_if (h : tt σ H fun b H1 => if b = true then tu { D with nx := tz D } σ H1 else tz D σ H1) : tSeq (tIfS tt tu tNext) tz D σ H := h
theorem k_nil {Qa : List V → Hp → Prop} (h : Qa [] H) : tNil σ H Qa := h
theorem k_test (h : te σ H fun v H1 => ∃ b, v = V.bl b ∧ Qb b H1) : tTest te σ H Qb := h
theorem k_or (h : GT tt σ H false) (k : ∀ H1, Same H H1 → tv σ H1 Qb) : tOr tt tv σ H Qb := h H (Same.refl H) _ fun H1 s => k H1 s
end
end K54

/-! How a call is refused: by a difference that is none, by a text that is none. -/
namespace K54
open PySem PySem.Spec PyProof.Rows L2 KD LamX
abbrev s__law_met : Stmt := topS 32
abbrev n__law_met : List Str := ["_law_ask", "e"]
theorem sc__law_met : FnScope n__law_met ["_law_ask"] (defScope s__law_met) := ⟨rfl, rfl, rfl, by decide +kernel, rfl, by decide +kernel, by decide +kernel⟩
structure Two (K : PySem.W.Frag) (C1 C2 : Addr) : Prop where
  e11 : PySem.W.exmOne K (.ref C1) (.ref C1) = some true
  e21 : PySem.W.exmOne K (.ref C2) (.ref C1) = some false
  e22 : PySem.W.exmOne K (.ref C2) (.ref C2) = some true
def Met2 (C1 C2 : Addr) (f1 f2 t1 t2 : Str) (Q : VK) : XK := fun cls d H => ∃ (dd : Addr) (fl tag : Str) (v : V), d = some dd ∧ H dd = some (.xd [(fl, v)]) ∧ ((cls = .ref C1 ∧ fl = f1 ∧ tag = t1) ∨ (cls = .ref C2 ∧ fl = f2 ∧ tag = t2)) ∧ ∀ p, H p = none → Q (.ref p) (upd H p (.tup [.str tag, v]))
def TMet (C1 C2 : Addr) (f1 f2 t1 t2 : Str) : (XK → Hp → VK → Prop) → Hp → VK → Prop := fun tl H Q =>
  tl (Met2 C1 C2 f1 f2 t1 t2 Q) H fun _ H' => 2 ≤ sizeLine ∧ ∀ p, H' p = none → Q (.ref p) (upd H' p (.tup [.str "told", .non]))
theorem takes_len {X : Cx} {W : WX} (tk : Takes X W) : Takes X fun cls d σ H => σ.length = X.N.length → W cls d σ H := fun e s' hx => by
  obtain ⟨a, B, sI, pins2, z1, Z1, cls, d, e1, J0, nb, up, sk, na, os, ag, wish⟩ := hx
  exact tk e s' ⟨a, B, sI, pins2, z1, Z1, cls, d, e1, J0, nb, up, sk, na, os, ag, wish J0.len⟩
theorem met_gives {X : Cx} {C1 C2 g : Addr} {cdg : Value} {q : Str} (E1 : Ec X.prog X.w X.K X.mg X.base "BadDifference" "thing" C1) (E2 : Ec X.prog X.w X.K X.mg X.base "NoText" "index" C2) (T2 : Two X.K C1 C2) :
    GivesTo X n__law_met "_law_met" (defScope s__law_met) g cdg (defBody s__law_met) "_law_ask" q (TMet C1 C2 "thing" "index" "cuts" "text") := by
  intro f c' s H Q tl act hc h
  let Y : Cx := (cxOf C8.CX0 X.prog X.w X.K X.mg X.base n__law_met "_law_met" (defScope s__law_met) g cdg X.A X.stack s H C8.E0).nox
  let cl1 : Cl := ⟨.ref C1, 1, fun a cls d => tRet (tTup (tCons (tC (.str "cuts")) (tCons (tXf a cls d C1 "thing" (tVar 1)) tNil)))⟩
  let cl2 : Cl := ⟨.ref C2, 1, fun a cls d => tRet (tTup (tCons (tC (.str "text")) (tCons (tXf a cls d C2 "index" (tVar 1)) tNil)))⟩
  refine ⟨_, pss_cons (ps_tryA (X := Y) (W0 := fun _ _ _ _ => False) (ll := [cl1, cl2]) (tb := fun W D σ H => ∃ Ech : XK, (∀ cls d σ' H', Ech cls d H' → σ'.length = 2 → W cls d σ' H') ∧ σ[0]? = some (some (.ref f)) ∧ H c' = some (CodeO c' q) ∧ tl Ech H fun _ H' => D.nx σ H')
    rfl rfl sc__law_met.nd LamX.takes0 (fun W pn xe tk _ => ?_) ?_) (pss_one (ps_ret (pe_tup (pa_cons pe_str (pa_cons pe_non pa_nil))))), ?_⟩
  · refine ⟨fun pins s' σ H' D I h' => ?_⟩
    obtain ⟨Ech, hW, h1, h2, h3⟩ := h'
    have hp := fun p1 p2 => act _ pn xe Ech p1 p2 (takes_len tk) (fun cls d σ' H'' he hl => hW cls d σ' H'' he hl)
    exact (pss_one (ps_expr (hp _ _))).run pins s' σ H' D I ⟨h1, h2, h3⟩
  · refine .cons (cl := cl1) ⟨rfl, by decide, .inl E1.gC⟩ rfl rfl (fun a ob k d pn hz hf => ?_) (.cons (cl := cl2) ⟨rfl, by decide, .inl E2.gC⟩ rfl rfl (fun a ob k d pn hz hf => ?_) .nil)
    · exact pss_one (ps_ret (pe_tup (pa_cons pe_str (pa_cons (pe_xf (X := Y) E1.xf E1.noF hz hf (pv 1)) pa_nil))))
    · exact pss_one (ps_ret (pe_tup (pa_cons pe_str (pa_cons (pe_xf (X := Y) E2.xf E2.noF hz hf (pv 1)) pa_nil))))
  · have rd : ∀ (a C : Addr) (fl tag : Str) (v : V) (dd : Addr) (z : L2.St) (Z : Hp) (D : Ends), z.length = 2 → Z dd = some (.xd [(fl, v)]) → (∀ p, Z p = none → D.rt (.ref p) (upd Z p (.tup [.str tag, v]))) →
        tRet (tTup (tCons (tC (.str tag)) (tCons (tXf a (.ref C) (some dd) C fl (tVar 1)) tNil))) D (z.set 1 (some (.ref a))) Z := fun a C fl tag v dd z Z D hl hd hq =>
      ⟨.ref a, by rw [List.getElem?_set_self (by omega)], rfl, rfl, dd, _, v, rfl, hd, by simp [List.lookup], (show 2 ≤ sizeLine by decide), hq⟩
    refine ⟨Met2 C1 C2 "thing" "index" "cuts" "text" Q, ?_, rfl, hc, ?_⟩
    · rintro cls d z Z ⟨dd, fl, tag, v, rfl, hd, hcase, hq⟩ hl
      rcases hcase with ⟨rfl, rfl, rfl⟩ | ⟨rfl, rfl, rfl⟩
      · exact ⟨true, T2.e11, fun _ a _ => rd a C1 _ _ v dd z Z _ hl hd hq, fun e => by cases e⟩
      · exact ⟨false, T2.e21, fun e => (by cases e), fun _ => ⟨true, T2.e22, fun _ a _ => rd a C2 _ _ v dd z Z _ hl hd hq, fun e => by cases e⟩⟩
    · exact h
end K54

/-! Words for the law. -/
namespace K54
open PySem PySem.Spec PyProof.Rows L2 KD LamX
/-- what a call of _law_met with a lambda leans on -/
structure TrB (X : Cx) (T : List (Addr × Str)) (TT : (XK → Hp → VK → Prop) → Hp → VK → Prop) : Prop where
  ex : ∃ (g c Pt : Addr) (dV kV doc pm cdv ct oc : Value) (an od : Option Addr) (osl : Array (Option Value)), X.mg "_law_met" = some (.ref g) ∧ PySem.W.keepIn X.K (.ref g) = true ∧
    X.K.lookup g = some ⟨oc, od, .func (PySem.W.fnOf "_law_met" "_law_met" (defArgs s__law_met) (defBody s__law_met) (defScope s__law_met) dV kV doc pm an cdv ct), osl⟩ ∧ PySem.W.codeIn X.K cdv "_law_met" = true ∧
    L2.Binds X.K (PySem.W.fnOf "_law_met" "_law_met" (defArgs s__law_met) (defBody s__law_met) (defScope s__law_met) dV kV doc pm an cdv ct) ["_law_ask"] [] ∧ GivesTo X n__law_met "_law_met" (defScope s__law_met) g cdv (defBody s__law_met) "_law_ask" (X.env.qual ++ "<lambda>") TT ∧
    TabB X.base X.mg c Pt ∧ X.env.code = .ref c ∧ (Pt, X.env.qual ++ "<lambda>") ∈ T ∧ ∀ p ∈ T, p.1 = Pt → p.2 = X.env.qual ++ "<lambda>"
  room : Room 8 X.A
theorem pe_met {X : Cx} {T : List (Addr × Str)} {TT : (XK → Hp → VK → Prop) → Hp → VK → Prop} {params : Arguments} {body : Expr} {scope : Scope} {t : XK → TE} {p lpos pos : Pos} (B : TrB X T TT) (L : LamS X.env.scope scope) (hdef : defaultsOf params X.env = ([], []))
    (hbind : ∀ (q : Str) (cl : List (Str × Addr)) (pm cv ctv : Value), bindArgs (PySem.W.kla_fn "<lambda>" q params body scope cl pm cv ctv) ⟨[], []⟩ = pure [])
    (hbody : ∀ (A : Around) (outer : List Env) (s : Shared) (H : Hp) (E : XK) (f c' : Addr), Room 6 (A.deeper (lamEnv X scope s.heap.objs.size f c')) → PE (lamCx X A outer s H E scope f c') body (t E)) (hg : Gl X "_law_met" := by rfl) :
    PE X (.Call (.Name "_law_met" p) [.Lambda params body scope lpos] [] pos) (tLam T TT t) := by
  obtain ⟨g, c, Pt, dV, kV, doc, pm, cdv, ct, oc, an, od, osl, h1, h2, h3, h4, h5, h6, h7, h8, h9, h10⟩ := B.ex
  exact pe_lamcall hg h1 h2 h3 h4 h5 sc__law_met rfl (.inl rfl) h6 h7 h8 h9 h10 B.room L hdef hbind hbody
section
variable {X : Addr → Prop} {H : Hp} {σ : L2.St} {Γ : List Sv} {T : List (Addr × Str)} {st cl F : Addr} {n : Nat} {ta tb tc te : TE} {E : XK} {d d1 d2 r : PyData} {Q : VK} {C C1 C2 : Addr} {K : PySem.W.Frag} {tz tu : TS} {D : Ends} {tt : TT} {fl tag : Str}
theorem c_met2 {pre : PyData → PyData → Prop} {f : PyData → PyData → Out} (Z : Zt X st cl n T H) (En : EnvOk X H σ Γ) (h1 : ∀ H1, Trk X H1 → EnvOk X H1 σ Γ → G X ta σ H1 d1) (h2 : ∀ H1, Trk X H1 → EnvOk X H1 σ Γ → G X tb σ H1 d2) (hp : pre d1 d2) (he : f d1 d2 = .err C fl r)
    (hc : (C = C1 ∧ fl = "thing" ∧ tag = "cuts") ∨ (C = C2 ∧ fl = "index" ∧ tag = "text"))
    (k : ∀ w H', Zt X st cl n T H' → ExtN H H' → DX X H' w (.tuple [.str tag, r]) → Q w H') :
    tLam T (TMet C1 C2 "thing" "index" "cuts" "text") (fun E => tCall (spX2 pre f) [] E (tCons ta (tCons tb tNil))) σ H Q := ⟨Z.tabs, fun H1 ex T1 => by
  have Z1 := Z.lam ex T1
  have E1 := En.kq (Kq.ext (X := X) ex)
  refine c_X2 Z1.sg.t (h1 H1 Z1.sg.t E1) (h2 H1 Z1.sg.t E1) hp ⟨fun r' e => (by rw [he] at e; cases e), fun C' fl' r' e a w H' s ea dw => ?_⟩
  rw [he] at e
  cases e
  refine ⟨a, fl, tag, w, rfl, ea, ?_, fun p hp => ?_⟩
  · rcases hc with ⟨rfl, rfl, rfl⟩ | ⟨rfl, rfl, rfl⟩
    · exact .inl ⟨rfl, rfl, rfl⟩
    · exact .inr ⟨rfl, rfl, rfl⟩
  have s2 : Same H1 (upd H' p (.tup [.str tag, w])) := s.trans (Same.upd hp)
  exact k _ _ (Z1.same s2) (ExtN.trans ex fun b o e _ => s2 b o e) (DX.newT (Z1.sg.t.mono s) (.cons (.str _) (.cons dw .nil)) hp)⟩
theorem q_met {pre : PyData → PyData → Prop} {f : PyData → PyData → Out} {i : Nat} {xs : List V} {ds : List PyData} (Z : Zt (fun b => X b ∨ b = F) st cl n T H) (En : EnvOk (fun b => X b ∨ b = F) H σ Γ) (hi : Γ[i]? = some (.val (.ref F))) (hF : H F = some (.lst xs)) (hx : DXs (fun b => X b ∨ b = F) H xs ds) (n1 : F ≠ st) (n2 : F ≠ cl) (hl : ds.length < 1000)
    (h1 : ∀ H1, Trk (fun b => X b ∨ b = F) H1 → EnvOk (fun b => X b ∨ b = F) H1 σ Γ → G (fun b => X b ∨ b = F) ta σ H1 d1) (h2 : ∀ H1, Trk (fun b => X b ∨ b = F) H1 → EnvOk (fun b => X b ∨ b = F) H1 σ Γ → G (fun b => X b ∨ b = F) tb σ H1 d2) (hp : pre d1 d2) (he : f d1 d2 = .err C fl r)
    (hc : (C = C1 ∧ fl = "thing" ∧ tag = "cuts") ∨ (C = C2 ∧ fl = "index" ∧ tag = "text"))
    (k : ∀ H2 ys, Zt (fun b => X b ∨ b = F) st cl n T H2 → EnvOk (fun b => X b ∨ b = F) H2 σ Γ → H2 F = some (.lst ys) → DXs (fun b => X b ∨ b = F) H2 ys (ds ++ [.tuple [.str tag, r]]) → Kq (fun b => X b ∨ b = F) H H2 → tz D σ H2) :
    tSeq (tDrop (tBM K "list" rAppend (tVar i) (tCons (tLam T (TMet C1 C2 "thing" "index" "cuts" "text") fun E => tCall (spX2 pre f) [] E (tCons ta (tCons tb tNil))) tNil))) tz D σ H := by
  refine ⟨.ref F, En.get i _ hi, .inl ⟨rfl, _, SqL.of hF⟩, ?_⟩
  refine k_cons (c_met2 Z En h1 h2 hp he hc fun w H' Z' x' d' => ?_)
  have hF' := x' F _ hF (fun _ e => by cases e)
  have l1 : xs.length = ds.length := hx.length
  refine ⟨F, xs, w, rfl, rfl, hF', by rw [sizeLine_eq]; omega, ?_⟩
  have kF : Kp (fun b => X b ∨ b = F) H' (upd H' F (.lst (xs ++ [w]))) := Kp.put (.inr rfl)
  exact k _ _ (Z'.put (L := F) KpL.put upd_same (.inr rfl) n1 n2) ((En.kq (Kq.ext x')).mono kF) upd_same ((DXs.kq (Kq.ext x') hx).mono kF |>.append (.cons (d'.mono kF) .nil)) ((Kq.ext x').trans (Kq.of kF))
theorem c_sameK {m : Nat} (h : ta σ H fun v1 H1 => tb σ H1 fun v2 H2 => spSame m [v1, v2] H2 Q E) : tCall (spSame m) [] E (tCons ta (tCons tb tNil)) σ H Q := h
theorem c_two {pre : PyData → PyData → Prop} {f : PyData → PyData → Out} (h : ta σ H fun v1 H1 => tb σ H1 fun v2 H2 => spX2 pre f [v1, v2] H2 Q E) : tCall (spX2 pre f) [] E (tCons ta (tCons tb tNil)) σ H Q := h
theorem c_passed {ds : List PyData} (S : Sg X st cl n H) (hv : GV ta σ H (.ref st)) (hm : G X tb σ H (.list ds)) (hn : n ≤ 1000000000) (h1 : ds.length ≤ 1000)
    (k : ∀ w d H', (d = .list ds ∨ d = .tuple ds) → Sg X st cl (n + 1) H' → KpS st cl H H' → DX X H' w d → Q w H') : tCall spMPassed [] E (tCons ta (tCons tb tNil)) σ H Q :=
  hv H (Same.refl H) _ (hm H (Same.refl H) _ fun v H1 s1 r => ⟨X, st, cl, n, v, ds, rfl, S.same s1, hn, r, h1, fun w d H' h1 S2 kk dw => k w d H' h1 S2 ((KpS.of s1).trans kk) dw⟩)
theorem q_ifJ {b : Bool} (h : GT tt σ H b) (J : L2.St → Hp → Prop) (hJ : ∀ σ H, J σ H → tz D σ H) (h1 : b = true → (∀ σ H, J σ H → tz D σ H) → ∀ H1, Same H H1 → tu { D with nx := tz D } σ H1) (h0 : b = false → ∀ H1, Same H H1 → J σ H1) : tSeq (tIfS tt tu tNext) tz D σ H :=
  q_if h (fun e H1 s => h1 e hJ H1 s) fun e H1 s => hJ σ H1 (h0 e H1 s)
/-- a for over a list that is new -/
def ForL (K : PySem.W.Frag) (g : TG) (tb : TS) (D : Ends) (σ : L2.St) (v : V) (H1 : Hp) : Prop := ∃ a, v = .ref a ∧ (∃ xs, SqL K H1 a xs) ∧ tFor (fun _ H R => R (Itl K a) H) g tb D σ H1
theorem k_forL {g : TG} {tu : TS} (h : te σ H fun v H1 => ForL K g tu D σ v H1) : tFor (iList K te) g tu D σ H := h
theorem k_forQ {g : TG} {tu : TS} (h : te σ H fun v H1 => ForL K g tu { D with nx := tz D } σ v H1) : tSeq (tFor (iList K te) g tu) tz D σ H := h
theorem forL_it {g : TG} {tu : TS} {a : Addr} {xs : List V} (Pv : Nat → L2.St → Hp → Prop) (hH : H a = some (.lst xs)) (h0 : Pv 0 σ H) (hG : ∀ i σ' H', Pv i σ' H' → H' a = some (.lst xs))
    (hs : ∀ i x σ' H', xs[i]? = some x → Pv i σ' H' → g x σ' H' fun σ2 H2 => tu { D with nx := Pv (i + 1), ct := Pv (i + 1), bk := D.nx } σ2 H2) (hd : ∀ σ' H', Pv xs.length σ' H' → D.nx σ' H') : ForL K g tu D σ (.ref a) H := by
  refine ⟨a, rfl, ⟨xs, SqL.of hH⟩, ?_⟩
  refine for_it walk_list Pv h0 (fun i σ' H' _ p => SqL.of (hG i σ' H' p)) (fun i x σ' H' H'' _ p y => ?_) hd
  obtain ⟨rfl, hx⟩ := y
  exact hs i x σ' _ hx p
theorem dxs_rev : ∀ {xs : List V} {ds : List PyData}, DXs X H xs ds → DXs X H xs.reverse ds.reverse
  | _, _, .nil => .nil
  | _, _, .cons h r => by
    rw [List.reverse_cons, List.reverse_cons]
    exact (dxs_rev r).append (.cons h .nil)
theorem g_rev {ds : List PyData} (t : Trk X H) (h : G X te σ H (.list ds)) : G X (tRevL K te) σ H (.list ds.reverse) := fun H1 s Q q =>
  h H1 s _ fun v H2 s2 r => by
    obtain ⟨a, xs, rfl, n, e, rx⟩ := r.lst_inv
    exact ⟨a, xs, rfl, SqL.of e, fun p hp => q _ _ (s2.trans (Same.upd hp)) (DX.newL ((t.mono s).mono s2) (dxs_rev rx) hp)⟩
/-- some things drawn by c draws each -/
theorem lc_drawsC {i m c : Nat} (pr : PyData → Prop) (S : Sg X st cl n H) (En : EnvOk X H σ Γ) (hm : m ≤ 100000)
    (he : ∀ X' H1 σ2 k Q1, k < m → EnvOk X' H1 σ2 ((Γ.set i .un).set i (.dat (.int (k : Nat)))) → Sg X' st cl (n + c * k) H1 → (∀ w d H', pr d → Sg X' st cl (n + c * k + c) H' → KpS st cl H1 H' → DX X' H' w d → Q1 w H') → te σ2 H1 Q1)
    (q : ∀ w ds H', ds.length = m → (∀ d ∈ ds, pr d) → Sg X st cl (n + c * m) H' → KpS st cl H H' → DX X H' w (.list ds) → Nw H w → Q w H') : tLc (fun σ H R => R (Itr 0 m) H) (gName i) tYes te [i] σ H Q := by
  intro D hD
  have m2 : More X (fun a => X a ∨ a = D) H := More.one hD
  have d1 := S.ne1 hD
  have d2 := S.ne2 hD
  obtain ⟨Gd, Y, w1, w2⟩ := walkD_range (X := X) (H := H) (lo := 0) (n := m)
  rw [rangeD_len] at w1
  have key : ∀ H3, Kp (fun a => X a ∨ a = D) H H3 ∧ Trk (fun a => X a ∨ a = D) H3 → Gd H3 := fun H3 p => (w2 _ m2.2 H3 p.1 p.2).1
  let I : Nat → Hp → Prop := fun k H3 => KpS st cl H H3 ∧ Sg (fun a => X a ∨ a = D) st cl (n + c * k) H3 ∧ ∃ acc ds, H3 D = some (.lst acc) ∧ DXs (fun a => X a ∨ a = D) H3 acc ds ∧ ds.length = k ∧ ∀ d ∈ ds, pr d
  have ik : ∀ {k H3}, I k H3 → Kp (fun a => X a ∨ a = D) H H3 ∧ Trk (fun a => X a ∨ a = D) H3 := fun {k H3} p => ⟨p.1.kp (.inl S.x1) (.inl S.x2), p.2.1.t⟩
  refine lc_it w1 I ?_ (fun i H3 _ p => key H3 (ik p)) ?_ ?_
  · exact ⟨KpS.of (Same.upd hD), ⟨(S.ok).same (Same.upd hD), .inl S.x1, .inl S.x2, S.t.one hD⟩, [], [], upd_same, .nil, rfl, fun d h => by cases h⟩
  · rintro k x H3 H4 hk p y
    obtain ⟨s4, d, hd, dx⟩ := (w2 _ m2.2 H3 (ik p).1 (ik p).2).2 k x H4 y
    obtain ⟨p1, p2, acc, ds, p3, p4, p5, p6⟩ := p
    rw [rangeD_get hk] at hd
    cases hd
    have S4 := p2.same s4
    have k4 : Kp (fun a => X a ∨ a = D) H H4 := (p1.kp (.inl S.x1) (.inl S.x2)).trans (Kp.of s4)
    refine tgt_name (X := X) (i := i) En _ H4 m2 k4 S4.t x dx _ fun σ2 E2 hw => ⟨hw, ?_⟩
    refine k_yes ?_
    rw [show (0 : Int) + (k : Int) = (k : Nat) from by omega] at E2
    refine he _ H4 σ2 k _ hk E2 S4 fun w d H5 hp S5 k5 dw => ?_
    refine ⟨acc, k5 D _ d1 d2 (s4 D _ p3), by rw [p4.length, p5, sizeLine_eq]; omega, ?_, ?_, acc ++ [w], ds ++ [d], upd_same, ?_, by rw [List.length_append, p5]; rfl, fun z hz => ?_⟩
    · exact fun a o n1 n2 e => by
        have := k5 a o n1 n2 (s4 a _ (p1 a o n1 n2 e))
        rw [upd_ne (ne_of_none e hD)]
        exact this
    · rw [Nat.mul_succ, ← Nat.add_assoc]
      exact S5.put d1 d2
    · exact (((p4.mono (Kp.of s4)).mono (S4.kp k5)).snoc dw).mono (Kp.put (.inr rfl))
    · rcases List.mem_append.mp hz with h | h
      · exact p6 z h
      · rw [List.mem_singleton.mp h]
        exact hp
  · rintro H3 ⟨p1, p2, acc, ds, p3, p4, p5, p6⟩
    have nXD : ¬ X D := S.t.new hD
    exact q (.ref D) ds H3 p5 p6 ⟨p2.ok, S.x1, S.x2, fun a h => p2.t a (.inl h)⟩ p1 (.lst nXD p3 (p4.less fun a => .inl)) (Nw.of hD)
end
/-! ### words and what is made -/
theorem ff_all : ∀ {ds : List PyData} {i : Nat}, (∀ z ∈ ds, isWordsD z = true) → ffD i (ds.map fun z => .bool (isWordsD z)) = .none
  | [], _, _ => by simp [ffD]
  | d :: ds, i, h => by
    rw [List.map_cons, h d List.mem_cons_self, ff_true]
    exact ff_all fun z hz => h z (List.mem_cons_of_mem _ hz)
theorem ff_first : ∀ {ds : List PyData} {i : Nat} {d : PyData} {es : List PyData}, (∀ z ∈ ds, isWordsD z = true) → isWordsD d = false → ffD i ((ds ++ d :: es).map fun z => .bool (isWordsD z)) = .int ((i + ds.length : Nat) : Int)
  | [], i, d, es, _, hd => by
    rw [List.nil_append, List.map_cons, hd]
    simp [ffD]
  | c :: ds, i, d, es, h, hd => by
    rw [List.cons_append, List.map_cons, h c List.mem_cons_self, ff_true, ff_first (fun z hz => h z (List.mem_cons_of_mem _ hz)) hd]
    congr 1
    rw [List.length_cons]
    omega
theorem mW_is : ∀ s ∈ mW, isWordsD (.str s) = true := by decide +kernel
theorem mws_is {ws : List Str} (h : ∀ z ∈ ws, z ∈ mW) : ∀ z ∈ ws.map PyData.str, isWordsD z = true := fun z hz => by
  obtain ⟨s, hs, rfl⟩ := List.mem_map.mp hz
  exact mW_is s (h s hs)
theorem wrong_l {ws : List Str} (h : ∀ z ∈ ws, z ∈ mW) : wrongD (.list (ws.map PyData.str)) = .none := ff_all (mws_is h)
theorem wrong_t {ws : List Str} (h : ∀ z ∈ ws, z ∈ mW) : wrongD (.tuple (ws.map PyData.str)) = .none := ff_all (mws_is h)
theorem words_leaf {n : Nat} {d : PyData} (o : okD n d) (h : isWordsD d = true) : leaf d = true := by
  cases d with
  | str s =>
    have hs : s ∈ allS := by cases n <;> exact o
    simp [leaf, allS_ok s hs]
  | _ => cases h
theorem leaf_sm {n : Nat} {d : PyData} (h : leaf d = true) : sm n d := by
  cases n with
  | zero => exact h
  | succ n => cases d <;> first | exact h | cases h
theorem cut_leaf {n : Nat} {c : PyData} (o : okD n c) (h : isCutD c = true) : ∀ z ∈ itemsD (it c 2), leaf z = true := fun z hz => by
  simp only [isCutD, Bool.and_eq_true] at h
  have hw := h.2.1
  have hs : isSeq (it c 2) = true := by
    cases e : it c 2 <;> first | rfl | (rw [e] at hz; cases hz)
  unfold wrongD at hw
  rw [hs, if_pos rfl] at hw
  obtain ⟨m, o2⟩ := okD_it o 2
  obtain ⟨_, k, o3⟩ := okD_items o2
  exact words_leaf (o3 z hz) (ffD_none hw z hz)
theorem made_leaf {ts : List PyData} (ht : ∀ z ∈ ts, leaf z = true) : ∀ (cs : List PyData) (far : Int), (∀ c ∈ cs, ∀ z ∈ itemsD (it c 2), leaf z = true) → ∀ z ∈ madeL ts far cs, leaf z = true
  | [], far, _, z, hz => by
    rw [madeL] at hz
    exact ht z (cutPD_sub hz)
  | c :: cs, far, h, z, hz => by
    rw [madeL] at hz
    simp only [List.mem_append] at hz
    rcases hz with hz | hz
    · first
        | exact ht z (cutPD_sub hz)
        | (rcases hz with hz | hz
           · exact ht z (cutPD_sub hz)
           · exact h c List.mem_cons_self z hz)
    · first
        | exact made_leaf ht cs _ (fun c hc => h c (List.mem_cons_of_mem _ hc)) z hz
        | (rcases hz with hz | hz
           · exact h c List.mem_cons_self z hz
           · exact made_leaf ht cs _ (fun c hc => h c (List.mem_cons_of_mem _ hc)) z hz)
theorem made_len {ts : List PyData} {k : Nat} : ∀ (cs : List PyData) (far : Int), (∀ c ∈ cs, (itemsD (it c 2)).length ≤ k) → (madeL ts far cs).length ≤ ts.length + cs.length * (ts.length + k)
  | [], far, _ => by
    rw [madeL]
    have := cutPD_len ts (some far) none
    omega
  | c :: cs, far, h => by
    rw [madeL]
    have := made_len cs (intOf (it c 0) + intOf (it c 1)) (fun c hc => h c (List.mem_cons_of_mem _ hc)) (ts := ts) (k := k)
    have l1 := cutPD_len ts (some far) (some (intOf (it c 0)))
    have l2 := h c List.mem_cons_self
    rw [List.length_cons, Nat.succ_mul]
    simp only [List.length_append]
    omega
theorem back_sm {ts : List PyData} (ht : ∀ z ∈ ts, leaf z = true) (hl : ts.length ≤ 1000) : ∀ (cs : List PyData) (more : Int), ∀ z ∈ backL ts more cs, sm 2 z
  | [], more, z, hz => by
    rw [backL] at hz
    cases hz
  | c :: cs, more, z, hz => by
    rw [backL] at hz
    rcases List.mem_cons.mp hz with rfl | hz
    · refine ⟨by simp, fun y hy => ?_⟩
      simp at hy
      rcases hy with rfl | rfl | rfl
      · exact leaf_sm rfl
      · exact leaf_sm rfl
      · exact ⟨by have := cutPD_len ts (some (intOf (it c 0))) (some (intOf (it c 0) + intOf (it c 1))); omega, fun x hx => leaf_sm (n := 0) (ht x (cutPD_sub hx))⟩
    · exact back_sm ht hl cs _ z hz
theorem back_len {ts : List PyData} : ∀ (cs : List PyData) (more : Int), (backL ts more cs).length = cs.length
  | [], more => by simp [backL]
  | c :: cs, more => by
    rw [backL]
    simp only [List.length_cons]
    rw [back_len cs]
theorem told_sm {ts cs : List PyData} {k : Nat} (ht : ∀ z ∈ ts, leaf z = true) (hl : ts.length ≤ 10) (hk : k ≤ 1000) (hc : ∀ c ∈ cs, ∀ z ∈ itemsD (it c 2), leaf z = true) (hw : ∀ c ∈ cs, (itemsD (it c 2)).length ≤ k) (hn : cs.length ≤ 50) : sm 4 (.tuple [.list (madeL ts 0 cs), .list (backL ts 0 cs)]) := by
  have h1 := made_len (ts := ts) cs 0 hw
  have h2 : cs.length * (ts.length + k) ≤ 50 * 1010 := Nat.mul_le_mul hn (by omega)
  refine ⟨by simp, fun z hz => ?_⟩
  simp at hz
  rcases hz with rfl | rfl
  · exact ⟨by omega, fun z hz => leaf_sm (made_leaf ht cs 0 hc z hz)⟩
  · exact ⟨by rw [back_len]; omega, back_sm ht (by omega) cs 0⟩
end K54

/-! The law. -/
namespace K54
open PySem PySem.Spec PyProof.Rows L2 KD LamX
-- RAISES is_difference check_texts check_difference cut_text turned_round
-- HINT law repr call_reprD
-- HINT law tuple (call_tupK (K := K) rfl)
abbrev rTupK (K : PySem.W.Frag) : List V → Hp → VK → Prop := fun xs H Q => ∃ p ys, xs = [V.ref p] ∧ ((SqL K H p ys ∧ ∀ l, H l = none → Q (.ref l) (upd H l (.tup ys))) ∨ (SqT K H p ys ∧ Q (.ref p) H))
theorem call_tupK {X : Cx} {K : PySem.W.Frag} (h : X.K = K) : CallR X (.type "tuple") (rTupK K) := by
  subst h
  exact call_tuple_of
section
variable {C1 C2 : Addr} {a b : PyData} {g : PyData → PyData → PyData}
theorem two_val (h1 : wrongD a = .none) (h2 : isDiffD a b = true) : twoOut C1 C2 g a b = .val (g a b) := by
  unfold twoOut
  rw [h1, h2]
  rfl
theorem two_no (h1 : wrongD a = .none) (h2 : isDiffD a b = false) : twoOut C1 C2 g a b = .err C2 "thing" b := by
  unfold twoOut
  rw [h1, h2]
  rfl
theorem two_no2 {i : Int} (h1 : wrongD a = .int i) : twoOut C1 C2 g a b = .err C1 "index" (.int i) := by
  unfold twoOut
  rw [h1]
  rfl
end
theorem wrong_bent {ws : List Str} (h : ∀ z ∈ ws, z ∈ mW) : wrongD (.list (ws.map PyData.str ++ [.none])) = .int (ws.length : Int) := by
  show ffD 0 ((ws.map PyData.str ++ PyData.none :: []).map fun z => .bool (isWordsD z)) = _
  rw [ff_first (mws_is h) rfl, List.length_map, Nat.zero_add]
theorem wrong_x : wrongD (.str "x") = .int 0 := rfl
theorem last_len (ds : List PyData) : (cutPD ds (some (-1)) none).length ≤ 1 := by
  show ((ds.drop (HT.sIx ds.length 0 (some (-1)))).take (HT.sIx ds.length ds.length none - HT.sIx ds.length 0 (some (-1)))).length ≤ 1
  rw [List.length_take, List.length_drop]
  have : ds.length - 1 ≤ HT.sIx ds.length 0 (some (-1)) := by
    unfold HT.sIx
    simp
    omega
  omega
theorem kq_less {X : Addr → Prop} {H0 HM H1 H2 : Hp} {F : Addr} (k : Kq X H0 HM) (hF : HM F = none) (s : Same HM H1) (k2 : Kq (fun b => X b ∨ b = F) H1 H2) : Kq X H0 H2 := fun a o n t e =>
  have h := k a o n t e
  k2 a o (fun q => q.elim n fun q => by rw [q, hF] at h; cases h) t (s a o h)
theorem tup2_shaped {s1 s2 : Str} {i j : Int} (h1 : PyData.strOk s1 = true) (h2 : PyData.strOk s2 = true) : noDict (.list [.tuple [.str s1, .int i], .tuple [.str s2, .int j]]) = true ∧ SeqAt.shaped (.list [.tuple [.str s1, .int i], .tuple [.str s2, .int j]]) = true := by
  constructor
  · simp [noDict, noDicts]
  · simp [SeqAt.shaped, PyData.canLay0, PyData.canLayAll0, PyData.depth, PyData.depthAll, h1, h2]
section
variable {P : Program} {w : World} {K : PySem.W.Frag} {mg : Str → Option Value} {base : Heap}
abbrev s_law : Stmt := topS 34
abbrev n_law : List Str := ["_law_script", "_law_stream", "_law_turn", "_law_text", "_law_cuts", "_law_some", "_law_thing", "_law_due", "_law_held", "_law_told", "_law_made_here", "_law_found", "_law_k"]
theorem sc_law : FnScope n_law ["_law_script"] (defScope s_law) := ⟨rfl, rfl, rfl, by decide +kernel, rfl, by decide +kernel, by decide +kernel⟩
/-- what the law's text leans on -/
structure Lib (P : Program) (w : World) (K : PySem.W.Frag) (mg : Str → Option Value) (base : Heap) (Cn Cd : Addr) : Prop where
  T : Bl mg
  start : Own P w K mg base CX0 1 "_law_start" ["_law_script"] (spStart K)
  text : Own P w K mg base CX0 3 "_law_m_text" ["_law_stream", "_law_most"] spMText
  passed : Own P w K mg base CX0 3 "_law_m_passed" ["_law_stream", "_law_text"] spMPassed
  drawn : Own P w K mg base CX0 4 "_law_drawn" ["_law_stream", "_law_text"] spDrawn
  bent : Own P w K mg base CX0 3 "_law_bent" ["_law_stream", "_law_cuts", "_law_text"] spBent
  due : Own P w K mg base CX0 2 "_law_is_due" ["_law_text", "_law_thing"] (sp2 duePre fun a b => .bool (isDueD a b))
  made : Own P w K mg base CX0 1 "_law_made" ["_law_text", "_law_cuts"] (sp2 madePre fun a b => .tuple [.list (madeL (tsOf a) 0 (itemsD b)), .list (backL (tsOf a) 0 (itemsD b))])
  same : Own P w K mg base CX0 6 "_law_same" ["_law_found", "_law_due"] (spSame 4)
  dif : Own P w K mg base (L2.CX P w) 4 "is_difference" ["text", "thing"] (spX2 difPre2 fun a b => if isNone (wrongD a) then .val (.bool (isDiffD a b)) else .err Cn "index" (wrongD a))
  ct : Own P w K mg base (L2.CX P w) 6 "cut_text" ["text", "cuts"] (spX2 cutPre2 (twoOut Cn Cd fun a b => .list (madeL (tsOf a) 0 (itemsD b))))
  tr : Own P w K mg base (L2.CX P w) 6 "turned_round" ["text", "cuts"] (spX2 cutPre2 (twoOut Cn Cd fun a b => .list (backL (tsOf a) 0 (itemsD b))))
def Gm0 (st : Addr) : List Sv := [.un, .val (.ref st), .un, .un, .un, .un, .un, .un, .un, .un, .un, .un, .un]
def Gm1 (st : Addr) (ws : List Str) (cs : List PyData) : List Sv := [.un, .val (.ref st), .un, .dat (wsD ws), .dat (.list cs), .un, .un, .un, .un, .un, .un, .un, .un]
def Gm2 (st : Addr) (ws : List Str) (cs : List PyData) (d : PyData) (b : Bool) : List Sv := [.un, .val (.ref st), .un, .dat (wsD ws), .dat (.list cs), .un, .dat d, .dat (.bool b), .dat (.str d.shown), .un, .un, .un, .un]
theorem law_reads {Cn Cd : Addr} {f a : Addr} {cdv : Value} {s : Shared} {H : Hp} {E : XK} {Tb : List (Addr × Str)} {ns : List Int} (L : Lib P w K mg base Cn Cd) (hr : Room 9 (callerA.deeper (envOfC "law" (defScope s_law) s.heap.objs.size f cdv)))
    (B : TrB (cxOf CX0 P w K mg base n_law "law" (defScope s_law) f cdv callerA [] s H E).nox Tb (TMet Cd Cn "thing" "index" "cuts" "text")) (hT : Tabs Tb H) (hS : SqL K H a (ns.map V.int)) (hl : ns.length ≤ 63) :
    ∃ t, PSs (cxOf CX0 P w K mg base n_law "law" (defScope s_law) f cdv callerA [] s H E).nox (defBody s_law) t ∧ t { nx := fun _ _ => V.non = V.bl true, rt := fun v _ => v = V.bl true } (L2.start n_law [.ref a]) H := by
  obtain ⟨T, O__law_start, O__law_m_text, O__law_m_passed, O__law_drawn, O__law_bent, O__law_is_due, O__law_made, O__law_same, O_is_difference, O_cut_text, O_turned_round⟩ := L
  refine ⟨_, (pss_cons (ps_set (i := 1) sc_law.nd rfl (by first | exact Or.inl rfl | exact Or.inr rfl) (pe_own O__law_start hr (by decide) (by rfl) (pa_cons (pv 0) pa_nil)))
    (pss_cons (ps_for PassesOwn.never rfl (pi_range1 (by rfl) T.b_range (pa_cons pe_int pa_nil)) (pg_name (i := 2) sc_law.nd rfl (by first | exact Or.inl rfl | exact Or.inr rfl))
    (pss_cons (ps_set (i := 3) sc_law.nd rfl (by first | exact Or.inl rfl | exact Or.inr rfl) (pe_own O__law_m_text hr (by decide) (by rfl) (pa_cons (pv 1) (pa_cons pe_int pa_nil))))
    (pss_cons (ps_set (i := 4) sc_law.nd rfl (by first | exact Or.inl rfl | exact Or.inr rfl) (pe_own O__law_drawn hr (by decide) (by rfl) (pa_cons (pv 1) (pa_cons (pv 3) pa_nil))))
    (pss_cons (ps_set (i := 5) sc_law.nd rfl (by first | exact Or.inl rfl | exact Or.inr rfl) (pe_lst (pa_cons (pv 4) (pa_cons (pe_callTy (call_tupK (K := K) rfl) (by rfl) T.b_tuple boot_tuple (pa_cons (pv 4) pa_nil)) (pa_cons (pe_revL (pv 4)) (pa_cons (pe_op op_addA (pv 4) (pe_slice sl_list (pv 4) (po_some (pe_un un_neg pe_int)) po_none)) (pa_cons pe_non (pa_cons pe_int (pa_cons pe_str (pa_cons pe_dnewK (pa_cons (pe_lst pa_nil) (pa_cons (pe_lst (pa_cons pe_non pa_nil)) (pa_cons pe_bl pa_nil)))))))))))))
    (pss_cons (ps_for PassesOwn.never rfl (pi_list (pe_op op_addA (pv 5) (pe_lc (own := [("_law_k", 12)]) (g := (gName 12)) (tt := tYes) rfl sc_law.nd (pi_range1 (by rfl) T.b_range (pa_cons pe_int pa_nil)) (blkOk_by (N := n_law) (sc := defScope s_law) (by decide +kernel)) (fun _ _ _ _ _ => (pg_name (i := 12) sc_law.nd rfl (by first | exact Or.inl rfl | exact Or.inr rfl))) (fun _ _ _ _ _ => pts_nil) (fun _ _ _ _ _ => (pe_own O__law_bent hr (by decide) (by rfl) (pa_cons (pv 1) (pa_cons (pv 4) (pa_cons (pv 3) pa_nil)))))))) (pg_name (i := 6) sc_law.nd rfl (by first | exact Or.inl rfl | exact Or.inr rfl))
    (pss_cons (ps_par (i := 7) (j := 8) (by rfl) sc_law.nd rfl rfl (by decide) rfl rfl (pa_cons (pe_own O__law_is_due hr (by decide) (by rfl) (pa_cons (pv 3) (pa_cons (pv 6) pa_nil))) (pa_cons (pe_callB (call_reprD rfl hr.units) (by rfl) T.b_repr boot_repr (pa_cons (pv 6) pa_nil)) pa_nil)) (by rfl))
    (pss_cons (ps_if (pt_not (pt_val (pe_own O__law_same hr (by decide) (by rfl) (pa_cons (pe_ownX O_is_difference hr (by decide) LamX.takes0 (by rfl) (pa_cons (pe_own O__law_m_passed hr (by decide) (by rfl) (pa_cons (pv 1) (pa_cons (pv 3) pa_nil))) (pa_cons (pv 6) pa_nil))) (pa_cons (pv 7) pa_nil)))))
    (pss_one (ps_ret pe_bl)) pss_nil)
    (pss_cons (ps_if (pt_val (pv 7))
    (pss_cons (ps_par (i := 9) (j := 10) (by rfl) sc_law.nd rfl rfl (by decide) rfl rfl (pa_cons (pe_tup (pa_cons (pe_ownX O_cut_text hr (by decide) LamX.takes0 (by rfl) (pa_cons (pv 3) (pa_cons (pv 6) pa_nil))) (pa_cons (pe_ownX O_turned_round hr (by decide) LamX.takes0 (by rfl) (pa_cons (pv 3) (pa_cons (pv 6) pa_nil))) pa_nil))) (pa_cons (pe_own O__law_made hr (by decide) (by rfl) (pa_cons (pv 3) (pa_cons (pv 6) pa_nil))) pa_nil)) (by rfl))
    (pss_one (ps_if (pt_not (pt_val (pe_own O__law_same hr (by decide) (by rfl) (pa_cons (pv 9) (pa_cons (pv 10) pa_nil)))))
    (pss_one (ps_ret pe_bl)) pss_nil))) pss_nil)
    (pss_cons (ps_if (pt_not (pt_val (pv 7)))
    (pss_cons (ps_set (i := 11) sc_law.nd rfl (by first | exact Or.inl rfl | exact Or.inr rfl) (pe_lst (pa_cons (pe_met B (lamS_by (sc := defScope s_law) (by decide +kernel)) rfl (fun _ _ _ _ _ => rfl) (fun _ _ _ _ _ _ _ hr => (pe_ownX O_cut_text hr (by decide) (takes_of rfl rfl rfl rfl) (by rfl) (pa_cons (pv 3) (pa_cons (pv 6) pa_nil))))) pa_nil)))
    (pss_cons (ps_expr (pe_bm PySem.F.plainAttrs_list PySem.F.slot_list_append PySem.F.type_list_append mt_append (pv 11) (pa_cons (pe_met B (lamS_by (sc := defScope s_law) (by decide +kernel)) rfl (fun _ _ _ _ _ => rfl) (fun _ _ _ _ _ _ _ hr => (pe_ownX O_turned_round hr (by decide) (takes_of rfl rfl rfl rfl) (by rfl) (pa_cons (pe_callTy (call_tupK (K := K) rfl) (by rfl) T.b_tuple boot_tuple (pa_cons (pv 3) pa_nil)) (pa_cons (pv 6) pa_nil))))) pa_nil)))
    (pss_one (ps_if (pt_cmpR op_ne (pe_callB (call_reprD rfl hr.units) (by rfl) T.b_repr boot_repr (pa_cons (pv 11) pa_nil)) (pe_callB (call_reprD rfl hr.units) (by rfl) T.b_repr boot_repr (pa_cons (pe_op op_mulA (pe_lst (pa_cons (pe_tup (pa_cons pe_str (pa_cons (pv 6) pa_nil))) pa_nil)) pe_int) pa_nil)) (nomark _))
    (pss_one (ps_ret pe_bl)) pss_nil)))) pss_nil)
    (pss_one (ps_if (pt_cmpR op_ne (pe_callB (call_reprD rfl hr.units) (by rfl) T.b_repr boot_repr (pa_cons (pv 6) pa_nil)) (pv 8) (nomark _))
    (pss_one (ps_ret pe_bl)) pss_nil)))))))
    (pss_cons (ps_set (i := 11) sc_law.nd rfl (by first | exact Or.inl rfl | exact Or.inr rfl) (pe_lst (pa_cons (pe_met B (lamS_by (sc := defScope s_law) (by decide +kernel)) rfl (fun _ _ _ _ _ => rfl) (fun _ _ _ _ _ _ _ hr => (pe_ownX O_cut_text hr (by decide) (takes_of rfl rfl rfl rfl) (by rfl) (pa_cons (pe_op op_addA (pv 3) (pe_lst (pa_cons pe_non pa_nil))) (pa_cons pe_non pa_nil))))) pa_nil)))
    (pss_cons (ps_expr (pe_bm PySem.F.plainAttrs_list PySem.F.slot_list_append PySem.F.type_list_append mt_append (pv 11) (pa_cons (pe_met B (lamS_by (sc := defScope s_law) (by decide +kernel)) rfl (fun _ _ _ _ _ => rfl) (fun _ _ _ _ _ _ _ hr => (pe_ownX O_turned_round hr (by decide) (takes_of rfl rfl rfl rfl) (by rfl) (pa_cons pe_str (pa_cons (pv 4) pa_nil))))) pa_nil)))
    (pss_one (ps_if (pt_cmpR (op_neD hr.units) (pv 11) (pe_lst (pa_cons (pe_tup (pa_cons pe_str (pa_cons (pe_callB call_len (by rfl) T.b_len boot_len (pa_cons (pv 3) pa_nil)) pa_nil))) (pa_cons (pe_tup (pa_cons pe_str (pa_cons pe_int pa_nil))) pa_nil))) (nomark _))
    (pss_one (ps_ret pe_bl)) pss_nil)))))))))
    (pss_one (ps_ret pe_bl)))), ?_⟩
  -- the spring
  refine k_set ?_
  refine ⟨.ref a, rfl, a, ns, rfl, hS, hl, fun st cl H1 s1 h1 h2 so => ?_⟩
  have hst : ∃ ms x y z, SpAt st cl ms x y z H1 := by
    obtain ⟨ms, x, y, z, S, _⟩ := so
    exact ⟨ms, x, y, z, S⟩
  let X : Addr → Prop := fun b => b = st ∨ b = cl
  have lst1 : ∀ b, X b → ∃ xs, H1 b = some (.lst xs) := fun b hb => by
    obtain ⟨ms, x, y, z, S⟩ := hst
    rcases hb with rfl | rfl
    · exact ⟨_, S.hs⟩
    · exact ⟨_, S.hc⟩
  have Z1 : Zt X st cl 0 Tb H1 := ⟨⟨so, .inl rfl, .inr rfl, fun b hb => let ⟨xs, e⟩ := lst1 b hb; ⟨_, e⟩⟩, hT.ext s1, lst1⟩
  have E1 : EnvOk X H1 ((L2.start n_law [.ref a]).set 1 (some (.ref st))) (Gm0 st) := ⟨rfl, fun i s e => by
    rcases i with _ | _ | _ | _ | _ | _ | _ | _ | _ | _ | _ | _ | _ | i
    all_goals first | (cases e; first | rfl | trivial) | cases e⟩
  clear hst so lst1 h1 h2
  refine ⟨5, rfl, by decide, by decide, ?_⟩
  refine for_it walk_range (fun i σ H' => Zt X st cl (i * 1000) Tb H' ∧ EnvOk X H' σ (Gm0 st)) ⟨Z1, E1⟩ (fun _ _ _ _ _ => trivial) (fun i x σ H2 H3 hi p y => ?_) (fun σ H2 p => rfl)
  obtain ⟨rfl, rfl⟩ := y
  obtain ⟨Z2, E2⟩ := p
  have hi5 : i < 5 := hi
  clear Z1 E1
  have E3 := E2.setV (i := 2) (v := .int (0 + (i : Int)))
  -- the text
  refine k_set ?_
  refine ⟨.ref st, E3.get 1 _ rfl, ?_⟩
  refine ⟨X, st, cl, i * 1000, 8, rfl, Z2.sg, by omega, by decide, fun w4 ws H4 lw hw S4 k4 d4 => ?_⟩
  have Z4 := Z2.draw S4 k4
  have E4 := (E3.kps Z2.sg k4).set (i := 3) d4
  have ht : ∀ z ∈ ws.map PyData.str, leaf z = true := fun z hz => by
    obtain ⟨s, hs, rfl⟩ := List.mem_map.mp hz
    simp [leaf, allS_ok s (mW_all s (hw s hs))]
  have oW : okD 1 (wsD ws) := oL (oaW fun z hz => mW_all z (hw z hz)) (by rw [List.length_map]; omega)
  have lW : (ws.map PyData.str).length ≤ 8 := by rw [List.length_map]; exact lw
  clear E2 E3 Z2 S4 k4 d4
  -- the cuts
  refine k_set (c_drawn (ds := ws.map PyData.str) Z4.sg (gv_var (i := 1) E4 rfl) (g_var (i := 3) E4 rfl) (by omega) lW fun w5 cs H5 lc hc S5 k5 d5 => ?_)
  have Z5 := Z4.draw S5 k5
  have E5 := (E4.kps Z4.sg k5).set (i := 4) d5
  have oC : okD 3 (.list cs) := oL (fun z hz => (hc z hz).ok 0) (by omega)
  clear E4 Z4 S5 k5 d5
  -- some things
  have t5 := Z5.sg.t
  refine q_set (i := 5) (d := .list [.list cs, .tuple cs, .list cs.reverse, .list (cs ++ cutPD cs (some (-1)) none), .none, .int 5, .str "ab", .dict [], .list [], .list [.none], .bool true]) E5
    (g_lst t5 (ga_cons (g_var (i := 4) E5 rfl) (ga_cons (g_tupOf (K := K) t5 (g_var (i := 4) (d := .list cs) E5 rfl)) (ga_cons (g_rev (K := K) t5 (g_var (i := 4) (d := .list cs) E5 rfl)) (ga_cons (g_cat t5 (g_var (i := 4) (d := .list cs) E5 rfl) (g_sl (K := K) t5 (g_var (i := 4) (d := .list cs) E5 rfl) (go_some (X := X) go_neg1) go_none) (by have := last_len cs; omega)) (ga_cons g_non (ga_cons g_int (ga_cons g_str (ga_cons (g_dict t5) (ga_cons (g_lst t5 ga_nil (by simp)) (ga_cons (g_lst t5 (ga_cons g_non ga_nil) (by simp)) (ga_cons g_bl ga_nil))))))))))) (by simp)) fun H6 v6 s6 E6 => ?_
  have Z6 := Z5.same s6
  have oS : OkA 3 [.list cs, .tuple cs, .list cs.reverse, .list (cs ++ cutPD cs (some (-1)) none), .none, .int 5, .str "ab", .dict [], .list [], .list [.none], .bool true] := by
    have oc : OkA 2 cs := fun z hz => (hc z hz).ok 0
    have := last_len cs
    exact oa oC (oa (oT oc (by omega)) (oa (oL (fun z hz => oc z (List.mem_reverse.mp hz)) (by rw [List.length_reverse]; omega)) (oa (oL (oaA oc fun z hz => oc z (cutPD_sub hz)) (by rw [List.length_append]; omega)) (oa oN (oa (oI ⟨by omega, by omega⟩) (oa (K54.oS (by decide +kernel)) (oa oD (oa (oL oa0 (by simp)) (oa (oL (oa oN oa0) (by simp)) (oa oB oa0))))))))))
  have lS : [PyData.list cs, .tuple cs, .list cs.reverse, .list (cs ++ cutPD cs (some (-1)) none), .none, .int 5, .str "ab", .dict [], .list [], .list [.none], .bool true].length = 11 := rfl
  generalize [PyData.list cs, .tuple cs, .list cs.reverse, .list (cs ++ cutPD cs (some (-1)) none), .none, .int 5, .str "ab", .dict [], .list [], .list [.none], .bool true] = so at *
  clear Z5 E5 t5 s6
  -- each thing
  refine k_forQ (k_op (g_var (i := 5) E6 rfl H6 (Same.refl _) _ fun v7 H7 s7 r7 => k_lcR ⟨8, rfl, by decide, by decide, ?_⟩))
  have Z7 := Z6.same s7
  have E7 := E6.same s7
  refine lc_drawsC (X := X) (cl := cl) (i := 12) (m := 8) (c := 5) ThOk Z7.sg E7 (by decide) (fun X' Ha σ2 kk Q1 hk E S q1 => c_bent (ds := cs) (es := ws.map PyData.str) S (gv_var (i := 1) E rfl) (g_var (i := 4) E rfl) (g_var (i := 3) E rfl) (by omega) lc hc lW q1) fun w8 ds H8 l8 o8 S8 k8 d8 nw8 => ?_
  have Z8 := (Z7.draw S8 k8).le (m := i * 1000 + 200) (by omega)
  have E8 := E7.kps Z7.sg k8
  refine rd_addL (xs := so) (ys := ds) (by rw [lS, l8]; decide) H8 v7 w8 Z8.sg.t (r7.mono (Z7.sg.kp k8)) d8 _ fun v9 H9 s9 d9 => ?_
  have Z9 := Z8.same s9
  have E9 : EnvOk X H9 _ (Gm1 st ws cs) := (E8.same s9).weak rfl (fun i s e => by
    rcases i with _ | _ | _ | _ | _ | _ | _ | _ | _ | _ | _ | _ | _ | i
    all_goals first | (cases e; first | exact .inl rfl | exact .inr rfl) | cases e)
  have oth : OkA 3 (so ++ ds) := oaA oS o8
  have lth : (so ++ ds).length = 19 := by rw [List.length_append, lS, l8]
  generalize so ++ ds = things at *
  obtain ⟨a9, xs9, rfl, n9, e9, x9⟩ := d9.lst_inv
  have lx : xs9.length = 19 := by rw [x9.length, lth]
  clear Z6 E6 oS lS r7 s7 Z7 E7 Z8 E8 S8 k8 nw8 o8 l8 d8 s9 d9
  refine forL_it (Pv := fun j σ' H' => Zt X st cl (i * 1000 + 200 + j) Tb H' ∧ EnvOk X H' σ' (Gm1 st ws cs) ∧ Kq X H9 H') e9 ⟨Z9, E9, Kq.refl⟩ (fun j σ' H' p => p.2.2 _ _ n9 (fun _ e => by cases e) e9) (fun j x σ' HA hx p => ?_) (fun σ' HA p => ?_)
  · -- one thing
    obtain ⟨ZA, EA0, KA⟩ := p
    obtain ⟨d, hd, xd⟩ := x9.getV hx
    have od : okD 3 d := oth d (List.mem_of_getElem? hd)
    have sh := okD_sh 3 od
    have hj : j < 19 := by
      have := (List.getElem?_eq_some_iff.mp hx).1
      omega
    refine k_name ?_
    have EA := EA0.set (i := 6) (DX.kq KA xd)
    have shl : d.shown.length ≤ sizeLine := Nat.le_trans sh.2.1 (by decide)
    have shd : d.depth ≤ 40 := Nat.le_trans sh.2.2 (by decide)
    clear EA0 hd hx xd
    -- due, held
    refine k_par (g_call2 ZA.sg.t (g_var (i := 3) (d := wsD ws) EA rfl) (g_var (i := 6) EA rfl) (by exact ⟨rfl, okD_difPre od⟩) HA (Same.refl _) _ fun v1 HB s1 r1 => g_reprD (g_var (i := 6) (EA.same s1) rfl) sh.1 shd shl HB (Same.refl _) _ fun v2 HC s2 r2 => ⟨_, _, rfl, ?_⟩)
    rw [due_is] at r1
    obtain ⟨b, hb⟩ : ∃ b, isDiffD (wsD ws) d = b := ⟨_, rfl⟩
    rw [hb] at r1
    have EC := ((EA.same (s1.trans s2)).set (i := 7) (r1.mono (Kp.of s2))).set (i := 8) r2
    have ZC := (ZA.same s1).same s2
    have KC := KA.trans (Kq.same (s1.trans s2))
    clear EA ZA KA r1 r2 s1 s2
    -- is it one
    refine k_if (k_nB (c_sameK (c_two (c_passed (ds := ws.map PyData.str) ZC.sg (gv_var (i := 1) EC rfl) (g_var (i := 3) EC rfl) (by omega) (by omega) fun w dp HD hdp SD kD dD => ?_))))
    have ZD := ZC.draw SD kD
    have ED := EC.kps ZC.sg kD
    have KD' := KC.trans (Kq.of (ZC.sg.kp kD))
    have out : wrongD dp = .none ∧ isDiffD dp d = b ∧ wordsAll dp := by
      rcases hdp with rfl | rfl
      · exact ⟨wrong_l hw, hb, okD_wordsAll oW⟩
      · exact ⟨wrong_t hw, hb, okD_wordsAll (n := 1) (oT (oaW fun z hz => mW_all z (hw z hz)) (by omega))⟩
    obtain ⟨o1, o2, o3⟩ := out
    clear EC ZC KC SD kD hdp
    refine g_var (i := 6) ED rfl HD (Same.refl _) _ fun v6 HE s6 r6 => ?_
    have tE := ZD.sg.t.mono s6
    refine ⟨X, w, v6, dp, d, rfl, tE, dD.mono (Kp.of s6), r6, ⟨o3, okD_difPre od⟩, ⟨fun r e w10 HF sF dF _ => ?_, fun C fl r e => by
      dsimp only at e
      rw [o1] at e
      cases e⟩⟩
    dsimp only at e
    rw [o1, o2] at e
    cases e
    have sF' := s6.trans sF
    refine g_var (i := 7) (ED.same sF') rfl HF (Same.refl _) _ fun v7 HG sG r7 => ?_
    refine ⟨X, w10, v7, .bool b, rfl, (tE.mono sF).mono sG, dF.mono (Kp.of sG), r7, leaf_sm rfl, fun HI sI => ⟨true, rfl, ?_⟩⟩
    have sI' := (sF'.trans sG).trans sI
    have ZI := (ZD.same sI').le (m := i * 1000 + 200 + (j + 1)) (by omega)
    have KI := KD'.trans (Kq.same sI')
    have EI : EnvOk X HI _ (Gm2 st ws cs d b) := (ED.same sI').weak rfl (fun i s e => by
      rcases i with _ | _ | _ | _ | _ | _ | _ | _ | _ | _ | _ | _ | _ | i
      all_goals first | (cases e; first | exact .inl rfl | exact .inr rfl) | cases e)
    clear ED ZD KD' dD dF r6 r7 tE s6 sF sG sI sF' sI' o1 o2 o3
    show (if (false : Bool) = true then _ else _)
    rw [if_neg (by simp)]
    have wl := wrong_l hw
    have pre : cutPre2 (wsD ws) d := ⟨⟨okD_wordsAll oW, okD_difPre od⟩, fun _ _ => ⟨⟨_, rfl, by omega⟩, okD_three od⟩⟩
    have preT : cutPre2 (.tuple (ws.map PyData.str)) d → True := fun _ => trivial
    -- what it makes
    refine q_ifJ (b := b) (gt_B (g_var (i := 7) EI rfl)) (fun σ H' => Zt X st cl (i * 1000 + 200 + (j + 1)) Tb H' ∧ EnvOk X H' σ (Gm2 st ws cs d b) ∧ Kq X H9 H') (fun σ HJ pJ => ?_) (fun h1 hJ HJ sJ => ?_) fun h0 HJ sJ => ⟨ZI.same sJ, EI.same sJ, KI.trans (Kq.same sJ)⟩
    rotate_left
    · subst h1
      have ZJ := ZI.same sJ
      have EJ := EI.same sJ
      have KJ := KI.trans (Kq.same sJ)
      have hdiff := hb
      have cuts : ∀ c ∈ itemsD d, isCutD c = true := by
        have h := hb
        simp only [isDiffD, Bool.and_eq_true, List.all_eq_true] at h
        exact h.1.2
      obtain ⟨lit, m3, okit⟩ := okD_items od
      have smT : sm 4 (.tuple [.list (madeL (ws.map PyData.str) 0 (itemsD d)), .list (backL (ws.map PyData.str) 0 (itemsD d))]) := told_sm (k := 1000) ht (by omega) (by omega) (fun c hc => cut_leaf (okit c hc) (cuts c hc)) (okD_three od).2 (by omega)
      refine k_par (g_tup ZJ.sg.t (ga_cons (g_X2 ZJ.sg.t (g_var (i := 3) (d := wsD ws) EJ rfl) (g_var (i := 6) EJ rfl) pre (two_val wl hb)) (ga_cons (g_X2 ZJ.sg.t (g_var (i := 3) (d := wsD ws) EJ rfl) (g_var (i := 6) EJ rfl) pre (two_val wl hb)) ga_nil)) (by simp) HJ (Same.refl _) _ fun v1 HK s1 r1 => g_call2 (ZJ.sg.t.mono s1) (g_var (i := 3) (d := wsD ws) (EJ.same s1) rfl) (g_var (i := 6) (EJ.same s1) rfl) (by exact ⟨⟨_, rfl, by omega⟩, hb, okD_three od⟩) HK (Same.refl _) _ fun v2 HM s2 r2 => ⟨_, _, rfl, ?_⟩)
      have ZM := (ZJ.same s1).same s2
      have EM := ((EJ.same (s1.trans s2)).set (i := 9) (r1.mono (Kp.of s2))).set (i := 10) r2
      have KM := KJ.trans (Kq.same (s1.trans s2))
      refine s_if (b := false) (gt_is (gt_not (gt_B (g_same (m := 4) ZM.sg.t (g_var (i := 9) EM rfl) (g_var (i := 10) EM rfl) smT))) rfl) (fun h => by cases h) fun _ HN sN => hJ _ _ ⟨ZM.same sN, (EM.same sN).weak rfl (fun i s e => by
        rcases i with _ | _ | _ | _ | _ | _ | _ | _ | _ | _ | _ | _ | _ | i
        all_goals first | (cases e; first | exact .inl rfl | exact .inr rfl) | cases e), KM.trans (Kq.same sN)⟩
    clear ZI EI KI
    obtain ⟨ZJ, EJ, KJ⟩ := pJ
    -- how it is refused
    refine q_ifJ (b := !b) (gt_not (gt_B (g_var (i := 7) EJ rfl))) (fun σ H' => Zt X st cl (i * 1000 + 200 + (j + 1)) Tb H' ∧ EnvOk X H' σ (Gm2 st ws cs d b) ∧ Kq X H9 H') (fun σ HK pK => ?_) (fun h1 hJ HK sK => ?_) fun h0 HK sK => ⟨ZJ.same sK, EJ.same sK, KJ.trans (Kq.same sK)⟩
    rotate_left
    · have hb0 : isDiffD (wsD ws) d = false := by
        rw [hb]
        cases b <;> first | rfl | cases h1
      have hbt : isDiffD (.tuple (ws.map PyData.str)) d = false := hb0
      have ZK := ZJ.same sK
      have EK := EJ.same sK
      have KK := KJ.trans (Kq.same sK)
      have pr2 : cutPre2 (.tuple (ws.map PyData.str)) d := ⟨⟨okD_wordsAll (n := 1) (oT (oaW fun z hz => mW_all z (hw z hz)) (by omega)), okD_difPre od⟩, fun _ h => by
        rw [hbt] at h
        cases h⟩
      clear EJ ZJ KJ sK
      refine k_set (k_lst (k_cons (c_met2 ZK EK (fun H1 t E => g_var (i := 3) E rfl) (fun H1 t E => g_var (i := 6) E rfl) pre (two_no wl hb0) (.inl ⟨rfl, rfl, rfl⟩) fun wM HM ZM xM dM => ?_)))
      refine ⟨by show 1 ≤ sizeLine; decide, fun F hF => ?_⟩
      have sF : Same HM (upd HM F (.lst [wM])) := Same.upd hF
      have KM := KK.trans (Kq.ext xM)
      have EN := ((((EK.kq (Kq.ext xM)).more (More.one hF)).same sF)).setV (i := 11) (v := .ref F)
      have nF : ¬ X F := ZM.sg.t.new hF
      have nF1 := ZM.sg.ne1 hF
      have nF2 := ZM.sg.ne2 hF
      have ZN : Zt (fun b => X b ∨ b = F) st cl (i * 1000 + 200 + (j + 1)) Tb (upd HM F (.lst [wM])) := (ZM.same sF).more upd_same
      have dN := (dM.more (More.one hF)).mono (Kp.of sF)
      refine q_met ZN EN rfl upd_same (.cons dN .nil) nF1 nF2 (by simp) (fun H1 t E => g_tupOf (K := K) t (g_var (i := 3) (d := wsD ws) E rfl)) (fun H1 t E => g_var (i := 6) E rfl) pr2 (two_no (wrong_t hw) hbt) (.inl ⟨rfl, rfl, rfl⟩) fun HO yO ZO EO fO hO KO => ?_
      have fO' : DXs (fun b => X b ∨ b = F) HO yO [.tuple [.str "cuts", d], .tuple [.str "cuts", d]] := hO
      have EQ := EO.give (i := 11) rfl nF fO fO'
      have ZQ : Zt X st cl (i * 1000 + 200 + (j + 1)) Tb HO := ZO.less (fun _ => .inl) (.inl rfl) (.inr rfl)
      have KQ := kq_less KM hF sF KO
      have tQ := ZQ.sg.t
      have shF : Sh (2 * (2 * lv 3 + 30) + 30) 5 (.list [.tuple [.str "cuts", d], .tuple [.str "cuts", d]]) := by
        have h1 : Sh (2 * lv 3 + 30) 4 (.tuple [.str "cuts", d]) := sh_tuple (m := 2) (by simp) (by decide) fun z hz => by
          simp at hz
          rcases hz with rfl | rfl
          · exact ⟨by simp [shw], by simp only [PyData.shown]; decide +kernel, by simp [PyData.depth]⟩
          · exact sh
        exact sh_list (m := 2) (by simp) (by decide) fun z hz => by
          simp at hz
          subst hz
          exact h1
      have shFl := Nat.le_trans shF.2.1 (show 2 * (2 * lv 3 + 30) + 30 ≤ sizeLine by decide)
      have shFd := Nat.le_trans shF.2.2 (show 5 ≤ 40 by decide)
      refine s_if (b := false) (gt_is (gt_neS (g_reprD (g_var (i := 11) EQ rfl) shF.1 shFd shFl) (g_reprD (g_is (g_op tQ (g_lst tQ (ga_cons (g_tup tQ (ga_cons g_str (ga_cons (g_var (i := 6) EQ rfl) ga_nil)) (by simp)) ga_nil) (by simp)) g_int (RD.or2 (rd_rep (by decide) (by decide) (by simp)))) rfl) shF.1 shFd shFl)) (by simp)) (fun h => by cases h) fun _ HL sL => hJ _ _ ⟨ZQ.same sL, (EQ.same sL).weak rfl (fun i s e => by
        rcases i with _ | _ | _ | _ | _ | _ | _ | _ | _ | _ | _ | _ | _ | i
        all_goals first | (cases e; first | exact .inl rfl | exact .inr rfl) | cases e), KQ.trans (Kq.same sL)⟩
    clear EJ ZJ KJ
    obtain ⟨ZK, EK, KK⟩ := pK
    -- as it was
    refine s_if (b := false) (gt_is (gt_neS (g_reprD (g_var (i := 6) EK rfl) sh.1 shd shl) (g_var (i := 8) EK rfl)) (by simp)) (fun h => by cases h) fun _ HL sL => ?_
    exact ⟨ZK.same sL, (EK.same sL).weak rfl (fun i s e => by
      rcases i with _ | _ | _ | _ | _ | _ | _ | _ | _ | _ | _ | _ | _ | i
      all_goals first | (cases e; first | exact .inl rfl | exact .inr rfl) | cases e), KK.trans (Kq.same sL)⟩
  · -- behind the things
    obtain ⟨ZA, EA, KA⟩ := p
    rw [lx] at ZA
    have pr3 : cutPre2 (.list (ws.map PyData.str ++ [.none])) .none := ⟨⟨okD_wordsAll (n := 1) (oL (oaA (oaW fun z hz => mW_all z (hw z hz)) (oa oN oa0)) (by rw [List.length_append]; simp; omega)), fun hs => by cases hs⟩, fun _ h => by cases h⟩
    have pr4 : cutPre2 (.str "x") (.list cs) := ⟨⟨fun hs => (by cases hs), okD_difPre oC⟩, fun h => by
      rw [wrong_x] at h
      cases h⟩
    refine k_set (k_lst (k_cons (c_met2 ZA EA (fun H1 t E => g_cat t (g_var (i := 3) (d := wsD ws) E rfl) (g_lst t (ga_cons g_non ga_nil) (by simp)) (by simp; omega)) (fun H1 t E => g_non) pr3 (two_no2 (wrong_bent hw)) (.inr ⟨rfl, rfl, rfl⟩) fun wM HM ZM xM dM => ?_)))
    refine ⟨by show 1 ≤ sizeLine; decide, fun F hF => ?_⟩
    have sF : Same HM (upd HM F (.lst [wM])) := Same.upd hF
    have EN := ((((EA.kq (Kq.ext xM)).more (More.one hF)).same sF)).setV (i := 11) (v := .ref F)
    have nF : ¬ X F := ZM.sg.t.new hF
    have nF1 := ZM.sg.ne1 hF
    have nF2 := ZM.sg.ne2 hF
    have ZN : Zt (fun b => X b ∨ b = F) st cl (i * 1000 + 200 + 19) Tb (upd HM F (.lst [wM])) := (ZM.same sF).more upd_same
    have dN := (dM.more (More.one hF)).mono (Kp.of sF)
    refine q_met ZN EN rfl upd_same (.cons dN .nil) nF1 nF2 (by simp) (fun H1 t E => g_str) (fun H1 t E => g_var (i := 4) E rfl) pr4 (two_no2 wrong_x) (.inr ⟨rfl, rfl, rfl⟩) fun HO yO ZO EO fO hO KO => ?_
    have fO' : DXs (fun b => X b ∨ b = F) HO yO [.tuple [.str "text", .int (ws.length : Int)], .tuple [.str "text", .int 0]] := hO
    have EQ := EO.give (i := 11) rfl nF fO fO'
    have ZQ : Zt X st cl (i * 1000 + 200 + 19) Tb HO := ZO.less (fun _ => .inl) (.inl rfl) (.inr rfl)
    have tQ := ZQ.sg.t
    obtain ⟨q1, q2⟩ := tup2_shaped (s1 := "text") (s2 := "text") (i := (ws.length : Int)) (j := 0) (by decide +kernel) (by decide +kernel)
    refine s_if (b := false) (gt_is (gt_neD tQ (y := .list [.tuple [.str "text", .int (ws.length : Int)], .tuple [.str "text", .int 0]]) (g_var (i := 11) EQ rfl) (g_lst tQ (ga_cons (g_tup tQ (ga_cons g_str (ga_cons (g_is (g_len tQ (g_var (i := 3) (d := wsD ws) EQ rfl) rfl) (by show PyData.int (((ws.map PyData.str).length : Nat) : Int) = _; rw [List.length_map])) ga_nil)) (by simp)) (ga_cons (g_tup tQ (ga_cons g_str (ga_cons g_int ga_nil)) (by simp)) ga_nil)) (by simp)) q1 q1 q2 q2) (by simp [PyData.eqv, PyData.eqvAll])) (fun h => by cases h) fun _ HL sL => ?_
    exact ⟨(ZQ.same sL).le (by omega), (EQ.same sL).weak rfl (fun i s e => by
      rcases i with _ | _ | _ | _ | _ | _ | _ | _ | _ | _ | _ | _ | _ | i
      all_goals first | (cases e; first | exact .inl rfl | exact .inr rfl) | cases e)⟩
end
end K54

/-! What the top has written; the law's own head. -/
namespace K54
open PySem PySem.Spec PyProof.Rows L2 KD LamX
def inC : Stmt → Stmt
  | .ClassDef _ _ _ b _ _ _ _ _ _ _ => b.getD 0 (.Pass ⟨0, 0, 0, 0⟩)
  | s => s
/-- a def of the text -/
def DefA (K : PySem.W.Frag) (x : Str) (st : Stmt) : Prop := ∃ (f : Addr) (fd : FuncData), PySem.W.nsIn K mainGlobals x = some (some (.ref f)) ∧ PySem.W.keepIn K (.ref f) = true ∧ Fun K x x st f fd
theorem da {K : PySem.W.Frag} {x : Str} {st : Stmt} {f : Addr} {oc kV dc pm cd ct : Value} {od an : Option Addr} {sl : Array (Option Value)} (a : PySem.W.nsIn K mainGlobals x = some (some (.ref f)))
    (l : K.lookup f = some ⟨oc, od, .func (PySem.W.fnOf x x (defArgs st) (defBody st) (defScope st) .none kV dc pm an cd ct), sl⟩) (c : PySem.W.codeIn K cd x = true) (k : PySem.W.keepIn K (.ref f) = true) : DefA K x st := ⟨f, _, a, k, fun_mk l c k⟩
/-- a class of errors of the text -/
structure ClsA (K : PySem.W.Frag) (x qual f : Str) (st : Stmt) (C : Addr) : Prop where
  a : PySem.W.nsIn K mainGlobals x = some (some (.ref C))
  T : OexC K C
  xf : XfC K C
  no : PySem.W.findIn K (.ref C) f = some none
  ini : ∃ (fI : Addr) (fd : FuncData), PySem.W.findIn K (.ref C) "__init__" = some (some (.ref fI)) ∧ PySem.W.typeIn K (.ref fI) = some (.type "function") ∧ Fun K "__init__" qual (inC st) fI fd
theorem ca {K : PySem.W.Frag} {x qual f : Str} {st : Stmt} {C f1 N : Addr} {nm q : Str} {bs bm : List Value} {sn : List Str} {sub : List Value} {ab : Bool} {col : Option Bool} {dd : Option Addr} {m0 m1 m2 m3 m5 : Option Value} {oc kV dc pm cd ct : Value} {od an : Option Addr} {sl : Array (Option Value)}
    (a : PySem.W.nsIn K mainGlobals x = some (some (.ref C))) (xL : K.lookup C = some (excClassObj nm q C N bs bm true sn sub ab col dd m0 m1 m2 m3 m5 "ValueError.__new__")) (rv : PySem.HandSPX.refsVE bm = true)
    (sa : PySem.W.findIn K (.ref C) "__setattr__" = some (some (.builtin "object.__setattr__"))) (ga : PySem.W.findIn K (.ref C) "__getattribute__" = some (some (.builtin "BaseException.__getattribute__"))) (gg : PySem.W.findIn K (.ref C) "__getattr__" = some none)
    (no : PySem.W.findIn K (.ref C) f = some none) (a1 : PySem.W.findIn K (.ref C) "__init__" = some (some (.ref f1))) (t1 : PySem.W.typeIn K (.ref f1) = some (.type "function"))
    (l1 : K.lookup f1 = some ⟨oc, od, .func (PySem.W.fnOf "__init__" qual (defArgs (inC st)) (defBody (inC st)) (defScope (inC st)) .none kV dc pm an cd ct), sl⟩) (c1 : PySem.W.codeIn K cd qual = true) (k1 : PySem.W.keepIn K (.ref f1) = true)
    (kC : PySem.W.keepIn K (.ref C) = true) (eC : PySem.W.subIn K (.ref C) (.type "BaseException") = some true) (tC : PySem.W.typeIn K (.ref C) = some (.type "type")) (hC : PySem.W.hasDictIn K C = true) : ClsA K x qual f st C :=
  ⟨a, ⟨⟨nm, q, N, bs, bm, sn, sub, ab, col, dd, m0, m1, m2, m3, m5, xL, rv⟩, sa, eC, tC, kC⟩, ⟨ga, gg, eC, hC⟩, no, ⟨f1, _, a1, t1, fun_mk l1 c1 k1⟩⟩
theorem exm_of {K : PySem.W.Frag} {A B : Addr} {b : Bool} (h1 : PySem.W.subIn K (.ref B) (.type "BaseException") = some true) (h2 : PySem.W.isClsIn K B = true) (h3 : PySem.W.typeIn K (.ref B) = some (.type "type")) (h4 : PySem.W.subIn K (.ref A) (.ref B) = some b) : PySem.W.exmOne K (.ref A) (.ref B) = some b := by
  have i : (PySem.W.clsIn K B).isSome = true := h2
  show (if (PySem.W.subIn K (.ref B) (.type "BaseException") == some true) = true then (if ((PySem.W.clsIn K B).isSome && PySem.W.typeIn K (.ref B) == some (.type "type")) = true then PySem.W.subIn K (.ref A) (.ref B) else none) else none) = some b
  rw [h1, i, h3, if_pos (by rfl), if_pos (by rfl), h4]
/-- the law's own def -/
def LawA (K : PySem.W.Frag) (c : Addr) : Prop := ∃ (f : Addr) (oc kV dc pm ct : Value) (od an : Option Addr) (sl : Array (Option Value)), PySem.W.nsIn K mainGlobals "law" = some (some (.ref f)) ∧
  K.lookup f = some ⟨oc, od, .func (PySem.W.fnOf "law" "law" (defArgs s_law) (defBody s_law) (defScope s_law) .none kV dc pm an (.ref c) ct), sl⟩ ∧ PySem.W.codeIn K (.ref c) "law" = true
theorem la {K : PySem.W.Frag} {f c : Addr} {oc kV dc pm ct : Value} {od an : Option Addr} {sl : Array (Option Value)} (a : PySem.W.nsIn K mainGlobals "law" = some (some (.ref f)))
    (l : K.lookup f = some ⟨oc, od, .func (PySem.W.fnOf "law" "law" (defArgs s_law) (defBody s_law) (defScope s_law) .none kV dc pm an (.ref c) ct), sl⟩) (cc : PySem.W.codeIn K (.ref c) "law" = true) : LawA K c := ⟨f, oc, kV, dc, pm, ct, od, an, sl, a, l, cc⟩
def spLaw (K : PySem.W.Frag) (Pt : Addr) : Sp := fun vs H Q _ => ∃ (a : Addr) (ns : List Int), vs = [.ref a] ∧ SqL K H a (ns.map V.int) ∧ ns.length ≤ 63 ∧ H Pt = some (.tbl #[]) ∧ Q = fun v _ => v = V.bl true
section
variable {P : Program} {w : World} {K : PySem.W.Frag} {mg : Str → Option Value} {base h : Heap}
abbrev s_BadDifference : Stmt := topS 2
theorem ec_BadDifference {C : Addr} (X : K.In h) (G : h.Ns mainGlobals mg) (A : ClsA K "BadDifference" "BadDifference.__init__" "thing" s_BadDifference C) : Ec P w K mg base "BadDifference" "thing" C := by
  obtain ⟨fI, fd, h1, h2, F⟩ := A.ini
  have S : FnScope ["self", "thing"] ["self", "thing"] (defScope (inC s_BadDifference)) := ⟨rfl, rfl, rfl, by decide +kernel, rfl, by decide +kernel, by decide +kernel⟩
  exact ⟨PySem.W.mg_of X G A.a, A.T, A.xf, A.no, fI, fd, h1, h2, ok_initF F S A.T A.no rfl rfl rfl (by decide) (by decide) (fun _ => rfl), F.binds (ps := ["self", "thing"]) fun _ _ _ _ _ _ us hl => match us, hl with | [_, _], _ => rfl⟩
abbrev s_NoText : Stmt := topS 3
theorem ec_NoText {C : Addr} (X : K.In h) (G : h.Ns mainGlobals mg) (A : ClsA K "NoText" "NoText.__init__" "index" s_NoText C) : Ec P w K mg base "NoText" "index" C := by
  obtain ⟨fI, fd, h1, h2, F⟩ := A.ini
  have S : FnScope ["self", "index"] ["self", "index"] (defScope (inC s_NoText)) := ⟨rfl, rfl, rfl, by decide +kernel, rfl, by decide +kernel, by decide +kernel⟩
  exact ⟨PySem.W.mg_of X G A.a, A.T, A.xf, A.no, fI, fd, h1, h2, ok_initF F S A.T A.no rfl rfl rfl (by decide) (by decide) (fun _ => rfl), F.binds (ps := ["self", "index"]) fun _ _ _ _ _ _ us hl => match us, hl with | [_, _], _ => rfl⟩
theorem own_of {CX : CXT} {k : Nat} {x : Str} {st : Stmt} {ps : List Str} {sp : Sp} (X : K.In h) (G : h.Ns mainGlobals mg) (D : DefA K x st) (b : ∀ (kV doc pm : Value) (an : Option Addr) (cdv ct : Value) (us : List Value), us.length = ps.length → bindArgs (PySem.W.fnOf x x (defArgs st) (defBody st) (defScope st) .none kV doc pm an cdv ct) ⟨us, []⟩ = pure (ps.zip us))
    (F : ∀ f fd, mg x = some (.ref f) → PySem.W.keepIn K (.ref f) = true → Binds K fd ps [] → Fun K x x st f fd → FnOk P w K mg base CX k f fd ps sp) : Own P w K mg base CX k x ps sp := by
  obtain ⟨f, fd, a, kp, Fn⟩ := D
  exact ⟨f, fd, PySem.W.mg_of X G a, kp, Fn.binds b, F f fd (PySem.W.mg_of X G a) kp (Fn.binds b) Fn⟩
end
theorem all_mk {l : PySem.W.OpenLaw} {w : World} {K : PySem.W.Frag} {h : Heap} {mg : Str → Option Value} {fa C1 C2 c Pt : Addr} (X : K.In h) (G : h.Ns mainGlobals mg) (hfa : mg "law" = some (.ref fa))
    (tab : h.get? Pt = some { cls := .none, data := .fields #[] }) (tabK : K.lookup Pt = none) (hd : PySem.W.codeHdIn K c Pt = true) (lw : LawA K c)
    (c1 : ClsA K "BadDifference" "BadDifference.__init__" "thing" s_BadDifference C1) (c2 : ClsA K "NoText" "NoText.__init__" "index" s_NoText C2)
    (i1 : PySem.W.isClsIn K C1 = true) (i2 : PySem.W.isClsIn K C2 = true) (e11 : PySem.W.subIn K (.ref C1) (.ref C1) = some true) (e21 : PySem.W.subIn K (.ref C2) (.ref C1) = some false) (e22 : PySem.W.subIn K (.ref C2) (.ref C2) = some true)
    (d_is_list : DefA K "is_list" s_is_list)
    (d_is_integer : DefA K "is_integer" s_is_integer)
    (d_is_number : DefA K "is_number" s_is_number)
    (d_is_words : DefA K "is_words" s_is_words)
    (d_first_false : DefA K "first_false" s_first_false)
    (d_wrong_words : DefA K "wrong_words" s_wrong_words)
    (d_check_texts : DefA K "check_texts" s_check_texts)
    (d_is_cut : DefA K "is_cut" s_is_cut)
    (d_is_difference : DefA K "is_difference" s_is_difference)
    (d_check_difference : DefA K "check_difference" s_check_difference)
    (d_cut_text : DefA K "cut_text" s_cut_text)
    (d_turned_round : DefA K "turned_round" s_turned_round)
    (d__law_m_text : DefA K "_law_m_text" s__law_m_text)
    (d__law_m_passed : DefA K "_law_m_passed" s__law_m_passed)
    (d__law_start : DefA K "_law_start" s__law_start)
    (d__law_draw : DefA K "_law_draw" s__law_draw)
    (d__law_pick : DefA K "_law_pick" s__law_pick)
    (d__law_mixed : DefA K "_law_mixed" s__law_mixed)
    (d__law_same : DefA K "_law_same" s__law_same)
    (d__law_words : DefA K "_law_words" s__law_words)
    (d__law_is_words : DefA K "_law_is_words" s__law_is_words)
    (d__law_is_due : DefA K "_law_is_due" s__law_is_due)
    (d__law_drawn : DefA K "_law_drawn" s__law_drawn)
    (d__law_bent : DefA K "_law_bent" s__law_bent)
    (d__law_met : DefA K "_law_met" s__law_met)
    (d__law_made : DefA K "_law_made" s__law_made)
    (z_isinstance : PySem.W.nsIn K mainGlobals "isinstance" = some none)
    (z_len : PySem.W.nsIn K mainGlobals "len" = some none)
    (z_list : PySem.W.nsIn K mainGlobals "list" = some none)
    (z_tuple : PySem.W.nsIn K mainGlobals "tuple" = some none)
    (z_dict : PySem.W.nsIn K mainGlobals "dict" = some none)
    (z_int : PySem.W.nsIn K mainGlobals "int" = some none)
    (z_bool : PySem.W.nsIn K mainGlobals "bool" = some none)
    (z_str : PySem.W.nsIn K mainGlobals "str" = some none)
    (z_min : PySem.W.nsIn K mainGlobals "min" = some none)
    (z_all : PySem.W.nsIn K mainGlobals "all" = some none)
    (z_range : PySem.W.nsIn K mainGlobals "range" = some none)
    (z_enumerate : PySem.W.nsIn K mainGlobals "enumerate" = some none)
    (z_zip : PySem.W.nsIn K mainGlobals "zip" = some none)
    (z_repr : PySem.W.nsIn K mainGlobals "repr" = some none) :
    LawG l w K CX0 63 "_law_script" mg fa h := by
  obtain ⟨f, oc, kV, dc, pm, ct, od, an, sl, la, ll, lc⟩ := lw
  have e := hfa.symm.trans (PySem.W.mg_of X G la)
  cases e
  have T : Bl mg := ⟨PySem.W.mg_none_of X G z_isinstance, PySem.W.mg_none_of X G z_len, PySem.W.mg_none_of X G z_list, PySem.W.mg_none_of X G z_tuple, PySem.W.mg_none_of X G z_dict, PySem.W.mg_none_of X G z_int, PySem.W.mg_none_of X G z_bool, PySem.W.mg_none_of X G z_str, PySem.W.mg_none_of X G z_min, PySem.W.mg_none_of X G z_all, PySem.W.mg_none_of X G z_range, PySem.W.mg_none_of X G z_enumerate, PySem.W.mg_none_of X G z_zip, PySem.W.mg_none_of X G z_repr⟩
  have T2 : Two K C1 C2 := ⟨exm_of c1.T.exC i1 c1.T.tyC e11, exm_of c1.T.exC i1 c1.T.tyC e21, exm_of c2.T.exC i2 c2.T.tyC e22⟩
  refine ⟨PySem.W.fnOf "law" "law" (defArgs s_law) (defBody s_law) (defScope s_law) .none kV dc pm an (.ref c) ct, [(c, Pt)], spLaw K Pt, fun p hp => ?_, fun p hp => ?_, fun p hp => ?_, fun s u => .of_eq rfl, fun H a ns hn _ hT hS => ⟨a, ns, rfl, hS, hn, hT _ List.mem_cons_self, rfl⟩, fun base kin glob tb => ?_⟩
  · rw [List.mem_singleton.mp hp]; exact tab
  · rw [List.mem_singleton.mp hp]; exact tabK
  · rw [List.mem_singleton.mp hp]; exact PySem.W.codeHd_of_K X hd
  have tb1 := tb (c, Pt) List.mem_cons_self
  have E1 : Ec l.prog w K mg base "BadDifference" "thing" C1 := ec_BadDifference X G c1
  have E2 : Ec l.prog w K mg base "NoText" "index" C2 := ec_NoText X G c2
  have O_is_list : Own l.prog w K mg base CX0 1 "is_list" ["thing"] (sp1 (fun _ => True) fun d => .bool (isSeq d)) := own_of X G d_is_list (fun _ _ _ _ _ _ us hl => match us, hl with | [_], _ => rfl) fun f fd m k b F => ok_is_list F T
  have O_is_integer : Own l.prog w K mg base CX0 1 "is_integer" ["thing"] (sp1 (fun _ => True) fun d => .bool (isIntD d)) := own_of X G d_is_integer (fun _ _ _ _ _ _ us hl => match us, hl with | [_], _ => rfl) fun f fd m k b F => ok_is_integer F T
  have O_is_number : Own l.prog w K mg base CX0 2 "is_number" ["thing"] (sp1 (fun _ => True) fun d => .bool (isNumD d)) := own_of X G d_is_number (fun _ _ _ _ _ _ us hl => match us, hl with | [_], _ => rfl) fun f fd m k b F => ok_is_number F T O_is_integer
  have O_is_words : Own l.prog w K mg base CX0 1 "is_words" ["thing"] (sp1 wordsPre fun d => .bool (isWordsD d)) := own_of X G d_is_words (fun _ _ _ _ _ _ us hl => match us, hl with | [_], _ => rfl) fun f fd m k b F => ok_is_words F T
  have O_first_false : Own l.prog w K mg base CX0 1 "first_false" ["tests"] (sp1 Bools fun d => ffD 0 (itemsD d)) := own_of X G d_first_false (fun _ _ _ _ _ _ us hl => match us, hl with | [_], _ => rfl) fun f fd m k b F => ok_first_false F T
  have O_wrong_words : Own l.prog w K mg base CX0 2 "wrong_words" ["things"] (sp1 wordsAll wrongD) := own_of X G d_wrong_words (fun _ _ _ _ _ _ us hl => match us, hl with | [_], _ => rfl) fun f fd m k b F => ok_wrong_words F T O_is_list O_is_words O_first_false
  have O_check_texts : Own l.prog w K mg base (L2.CX l.prog w) 3 "check_texts" ["texts"] (spX1 (fun D => ∃ d, D = .list [d] ∧ wordsAll d) (textsOut C2)) := own_of X G d_check_texts (fun _ _ _ _ _ _ us hl => match us, hl with | [_], _ => rfl) fun f fd m k b F => ok_check_texts F T O_wrong_words E2
  have O_is_cut : Own l.prog w K mg base CX0 3 "is_cut" ["thing"] (sp1 chPre fun d => .bool (isCutD d)) := own_of X G d_is_cut (fun _ _ _ _ _ _ us hl => match us, hl with | [_], _ => rfl) fun f fd m k b F => ok_is_cut F T O_is_list O_is_number O_wrong_words
  have O_is_difference : Own l.prog w K mg base (L2.CX l.prog w) 4 "is_difference" ["text", "thing"] (spX2 difPre2 fun a b => if isNone (wrongD a) then .val (.bool (isDiffD a b)) else .err C2 "index" (wrongD a)) := own_of X G d_is_difference (fun _ _ _ _ _ _ us hl => match us, hl with | [_, _], _ => rfl) fun f fd m k b F => ok_is_difference F T O_is_list O_is_cut O_check_texts
  have O_check_difference : Own l.prog w K mg base (L2.CX l.prog w) 5 "check_difference" ["text", "cuts"] (spX2 difPre2 (chkOut C2 C1 .none)) := own_of X G d_check_difference (fun _ _ _ _ _ _ us hl => match us, hl with | [_, _], _ => rfl) fun f fd m k b F => ok_check_difference F T O_is_difference E1
  have O_cut_text : Own l.prog w K mg base (L2.CX l.prog w) 6 "cut_text" ["text", "cuts"] (spX2 cutPre2 (twoOut C2 C1 fun a b => .list (madeL (tsOf a) 0 (itemsD b)))) := own_of X G d_cut_text (fun _ _ _ _ _ _ us hl => match us, hl with | [_, _], _ => rfl) fun f fd m k b F => ok_cut_text F T O_check_difference
  have O_turned_round : Own l.prog w K mg base (L2.CX l.prog w) 6 "turned_round" ["text", "cuts"] (spX2 cutPre2 (twoOut C2 C1 fun a b => .list (backL (tsOf a) 0 (itemsD b)))) := own_of X G d_turned_round (fun _ _ _ _ _ _ us hl => match us, hl with | [_, _], _ => rfl) fun f fd m k b F => ok_turned_round F T O_check_difference
  have O__law_start : Own l.prog w K mg base CX0 1 "_law_start" ["_law_script"] (spStart K) := own_of X G d__law_start (fun _ _ _ _ _ _ us hl => match us, hl with | [_], _ => rfl) fun f fd m k b F => ok_start F T
  have O__law_draw : Own l.prog w K mg base CX0 1 "_law_draw" ["_law_stream", "_law_many"] spDraw := own_of X G d__law_draw (fun _ _ _ _ _ _ us hl => match us, hl with | [_, _], _ => rfl) fun f fd m k b F => ok_draw F T
  have O__law_pick : Own l.prog w K mg base CX0 2 "_law_pick" ["_law_stream", "_law_some"] spPick := own_of X G d__law_pick (fun _ _ _ _ _ _ us hl => match us, hl with | [_, _], _ => rfl) fun f fd m k b F => ok_pick F T O__law_draw
  have O__law_mixed : Own l.prog w K mg base CX0 2 "_law_mixed" ["_law_stream", "_law_some"] spMixed := own_of X G d__law_mixed (fun _ _ _ _ _ _ us hl => match us, hl with | [_, _], _ => rfl) fun f fd m k b F => ok_mixed F T O__law_draw
  have O__law_m_text : Own l.prog w K mg base CX0 3 "_law_m_text" ["_law_stream", "_law_most"] spMText := own_of X G d__law_m_text (fun _ _ _ _ _ _ us hl => match us, hl with | [_, _], _ => rfl) fun f fd m k b F => ok_m_text F T O__law_draw O__law_pick O__law_mixed
  have O__law_m_passed : Own l.prog w K mg base CX0 3 "_law_m_passed" ["_law_stream", "_law_text"] spMPassed := own_of X G d__law_m_passed (fun _ _ _ _ _ _ us hl => match us, hl with | [_, _], _ => rfl) fun f fd m k b F => ok_m_passed F T O__law_pick
  have O__law_words : Own l.prog w K mg base CX0 3 "_law_words" ["_law_stream"] spWords := own_of X G d__law_words (fun _ _ _ _ _ _ us hl => match us, hl with | [_], _ => rfl) fun f fd m k b F => ok_words F T O__law_pick
  have O__law_drawn : Own l.prog w K mg base CX0 4 "_law_drawn" ["_law_stream", "_law_text"] spDrawn := own_of X G d__law_drawn (fun _ _ _ _ _ _ us hl => match us, hl with | [_, _], _ => rfl) fun f fd m k b F => ok_drawn F T O__law_draw O__law_words
  have O__law_bent : Own l.prog w K mg base CX0 3 "_law_bent" ["_law_stream", "_law_cuts", "_law_text"] spBent := own_of X G d__law_bent (fun _ _ _ _ _ _ us hl => match us, hl with | [_, _, _], _ => rfl) fun f fd m k b F => ok_bent F T O__law_draw O__law_pick
  have O__law_is_words : Own l.prog w K mg base CX0 1 "_law_is_words" ["_law_thing"] (sp1 wordsPre fun d => .bool (isWordsD d)) := own_of X G d__law_is_words (fun _ _ _ _ _ _ us hl => match us, hl with | [_], _ => rfl) fun f fd m k b F => ok_lis_words F T
  have O__law_is_due : Own l.prog w K mg base CX0 2 "_law_is_due" ["_law_text", "_law_thing"] (sp2 duePre fun a b => .bool (isDueD a b)) := own_of X G d__law_is_due (fun _ _ _ _ _ _ us hl => match us, hl with | [_, _], _ => rfl) fun f fd m k b F => ok_is_due F T O__law_is_words
  have O__law_made : Own l.prog w K mg base CX0 1 "_law_made" ["_law_text", "_law_cuts"] (sp2 madePre fun a b => .tuple [.list (madeL (tsOf a) 0 (itemsD b)), .list (backL (tsOf a) 0 (itemsD b))]) := own_of X G d__law_made (fun _ _ _ _ _ _ us hl => match us, hl with | [_, _], _ => rfl) fun f fd m k b F => ok_made F T
  have O__law_same : Own l.prog w K mg base CX0 6 "_law_same" ["_law_found", "_law_due"] (spSame 4) := own_of X G d__law_same (fun _ _ _ _ _ _ us hl => match us, hl with | [_, _], _ => rfl) fun f fd m k b F => ok_same F T m k b 4
  have Lb : Lib l.prog w K mg base C2 C1 := ⟨T, O__law_start, O__law_m_text, O__law_m_passed, O__law_drawn, O__law_bent, O__law_is_due, O__law_made, O__law_same, O_is_difference, O_cut_text, O_turned_round⟩
  obtain ⟨ft, fdt, at1, kt, Ft⟩ := d__law_met
  obtain ⟨oct, odt, kVt, dct, pmt, ant, cdt, ctt, slt, rfl, lt, cdIn⟩ := Ft.ex
  have bt := Ft.binds (ps := ["_law_ask"]) fun _ _ _ _ _ _ us hl => match us, hl with | [_], _ => rfl
  intro s H u v Q E env bind rel sp
  obtain ⟨a, ns, hv, hS, hn, hP, rfl⟩ := sp
  refine run_ofS (k := 9) (N := n_law) (ps := ["_law_script"]) (us := [u]) (vs := [v]) ll lc sc_law ⟨rfl, by decide, by decide⟩ env bind (.cons rel .nil) rfl fun hr => ?_
  have B : TrB (cxOf CX0 l.prog w K mg base n_law "law" (defScope s_law) fa (.ref c) callerA [] s H E).nox [(Pt, (cxOf CX0 l.prog w K mg base n_law "law" (defScope s_law) fa (.ref c) callerA [] s H E).nox.env.qual ++ "<lambda>")] (TMet C1 C2 "thing" "index" "cuts" "text") :=
    ⟨⟨ft, c, Pt, _, kVt, dct, pmt, cdt, ctt, oct, ant, odt, slt, PySem.W.mg_of X G at1, kt, lt, cdIn, bt, met_gives E1 E2 T2, tb1, rfl, List.mem_cons_self, fun p hp _ => by rw [List.mem_singleton.mp hp]⟩, hr.mono (by decide)⟩
  have hT : Tabs [(Pt, (cxOf CX0 l.prog w K mg base n_law "law" (defScope s_law) fa (.ref c) callerA [] s H E).nox.env.qual ++ "<lambda>")] H := fun p hp => by
    rw [List.mem_singleton.mp hp]
    exact TabS.nil hP
  obtain ⟨t, h1, h2⟩ := law_reads Lb hr B hT hS hn
  cases hv
  exact ⟨t, h1.nox, h2⟩
end K54
open PySem PySem.W PyProof.Rows
set_option maxRecDepth 100000 in
set_option maxHeartbeats 0 in
theorem PySem.Challenge.cw_patchlots_k54_differences_looked_at_holds : PySem.Challenge.rw_patchlots_k54_differences_looked_at.Holds := by
  w_on; o_law; k_head; (case hw => w_witness2)
  k_fill
  refine KD.walk_ofG (l := PySem.Challenge.rw_patchlots_k54_differences_looked_at) (n := 63) (x := "_law_script") (CX := fun _ => L2.CX0) rfl (by decide) rfl (fun w h Y => PySem.W.km_in_of Y) ?F (fun _ _ _ _ _ z => z)
  case F =>
    intro w mg fa h Y KX G hmg
    refine' K54.all_mk (Pt := 242) KX G hmg ?tab ?tabK ?hd ?lw ?c1 ?c2 ?i1 ?i2 ?e11 ?e21 ?e22 ?d_is_list ?d_is_integer ?d_is_number ?d_is_words ?d_first_false ?d_wrong_words ?d_check_texts ?d_is_cut ?d_is_difference ?d_check_difference ?d_cut_text ?d_turned_round ?d__law_m_text ?d__law_m_passed ?d__law_start ?d__law_draw ?d__law_pick ?d__law_mixed ?d__law_same ?d__law_words ?d__law_is_words ?d__law_is_due ?d__law_drawn ?d__law_bent ?d__law_met ?d__law_made ?z_isinstance ?z_len ?z_list ?z_tuple ?z_dict ?z_int ?z_bool ?z_str ?z_min ?z_all ?z_range ?z_enumerate ?z_zip ?z_repr
    (case d_is_list => (refine' K54.da ?a ?l ?c ?k; (case a => k_is); (case l => k_is); (case c => k_is); (case k => k_is)))
    (case d_is_integer => (refine' K54.da ?a ?l ?c ?k; (case a => k_is); (case l => k_is); (case c => k_is); (case k => k_is)))
    (case d_is_number => (refine' K54.da ?a ?l ?c ?k; (case a => k_is); (case l => k_is); (case c => k_is); (case k => k_is)))
    (case d_is_words => (refine' K54.da ?a ?l ?c ?k; (case a => k_is); (case l => k_is); (case c => k_is); (case k => k_is)))
    (case d_first_false => (refine' K54.da ?a ?l ?c ?k; (case a => k_is); (case l => k_is); (case c => k_is); (case k => k_is)))
    (case d_wrong_words => (refine' K54.da ?a ?l ?c ?k; (case a => k_is); (case l => k_is); (case c => k_is); (case k => k_is)))
    (case d_check_texts => (refine' K54.da ?a ?l ?c ?k; (case a => k_is); (case l => k_is); (case c => k_is); (case k => k_is)))
    (case d_is_cut => (refine' K54.da ?a ?l ?c ?k; (case a => k_is); (case l => k_is); (case c => k_is); (case k => k_is)))
    (case d_is_difference => (refine' K54.da ?a ?l ?c ?k; (case a => k_is); (case l => k_is); (case c => k_is); (case k => k_is)))
    (case d_check_difference => (refine' K54.da ?a ?l ?c ?k; (case a => k_is); (case l => k_is); (case c => k_is); (case k => k_is)))
    (case d_cut_text => (refine' K54.da ?a ?l ?c ?k; (case a => k_is); (case l => k_is); (case c => k_is); (case k => k_is)))
    (case d_turned_round => (refine' K54.da ?a ?l ?c ?k; (case a => k_is); (case l => k_is); (case c => k_is); (case k => k_is)))
    (case d__law_m_text => (refine' K54.da ?a ?l ?c ?k; (case a => k_is); (case l => k_is); (case c => k_is); (case k => k_is)))
    (case d__law_m_passed => (refine' K54.da ?a ?l ?c ?k; (case a => k_is); (case l => k_is); (case c => k_is); (case k => k_is)))
    (case d__law_start => (refine' K54.da ?a ?l ?c ?k; (case a => k_is); (case l => k_is); (case c => k_is); (case k => k_is)))
    (case d__law_draw => (refine' K54.da ?a ?l ?c ?k; (case a => k_is); (case l => k_is); (case c => k_is); (case k => k_is)))
    (case d__law_pick => (refine' K54.da ?a ?l ?c ?k; (case a => k_is); (case l => k_is); (case c => k_is); (case k => k_is)))
    (case d__law_mixed => (refine' K54.da ?a ?l ?c ?k; (case a => k_is); (case l => k_is); (case c => k_is); (case k => k_is)))
    (case d__law_same => (refine' K54.da ?a ?l ?c ?k; (case a => k_is); (case l => k_is); (case c => k_is); (case k => k_is)))
    (case d__law_words => (refine' K54.da ?a ?l ?c ?k; (case a => k_is); (case l => k_is); (case c => k_is); (case k => k_is)))
    (case d__law_is_words => (refine' K54.da ?a ?l ?c ?k; (case a => k_is); (case l => k_is); (case c => k_is); (case k => k_is)))
    (case d__law_is_due => (refine' K54.da ?a ?l ?c ?k; (case a => k_is); (case l => k_is); (case c => k_is); (case k => k_is)))
    (case d__law_drawn => (refine' K54.da ?a ?l ?c ?k; (case a => k_is); (case l => k_is); (case c => k_is); (case k => k_is)))
    (case d__law_bent => (refine' K54.da ?a ?l ?c ?k; (case a => k_is); (case l => k_is); (case c => k_is); (case k => k_is)))
    (case d__law_met => (refine' K54.da ?a ?l ?c ?k; (case a => k_is); (case l => k_is); (case c => k_is); (case k => k_is)))
    (case d__law_made => (refine' K54.da ?a ?l ?c ?k; (case a => k_is); (case l => k_is); (case c => k_is); (case k => k_is)))
    (case lw => (refine' K54.la ?a ?l ?c; (case a => k_is); (case l => k_is); (case c => k_is)))
    (case c1 => (refine' K54.ca ?a ?xL ?rv ?sa ?ga ?gg ?no ?a1 ?t1 ?l1 ?c1 ?k1 ?kC ?eC ?tC ?hC; (case a => k_is); (case xL => k_is); (case rv => decide +kernel); (case sa => k_is); (case ga => k_is); (case gg => k_is); (case no => k_is); (case a1 => k_is); (case t1 => k_is); (case l1 => k_is); (case c1 => k_is); (case k1 => k_is); (case kC => k_is); (case eC => k_is); (case tC => k_is); (case hC => k_is)))
    (case c2 => (refine' K54.ca ?a ?xL ?rv ?sa ?ga ?gg ?no ?a1 ?t1 ?l1 ?c1 ?k1 ?kC ?eC ?tC ?hC; (case a => k_is); (case xL => k_is); (case rv => decide +kernel); (case sa => k_is); (case ga => k_is); (case gg => k_is); (case no => k_is); (case a1 => k_is); (case t1 => k_is); (case l1 => k_is); (case c1 => k_is); (case k1 => k_is); (case kC => k_is); (case eC => k_is); (case tC => k_is); (case hC => k_is)))
    (case i1 => first | k_is | rfl)
    (case i2 => first | k_is | rfl)
    (case e11 => first | k_is | rfl)
    (case e21 => first | k_is | rfl)
    (case e22 => first | k_is | rfl)
    (case z_isinstance => k_is)
    (case z_len => k_is)
    (case z_list => k_is)
    (case z_tuple => k_is)
    (case z_dict => k_is)
    (case z_int => k_is)
    (case z_bool => k_is)
    (case z_str => k_is)
    (case z_min => k_is)
    (case z_all => k_is)
    (case z_range => k_is)
    (case z_enumerate => k_is)
    (case z_zip => k_is)
    (case z_repr => k_is)
    (case tab => exact PySem.W.km_tabs_of Y _ (by decide))
    (case tabK => first | rfl | decide +kernel)
    (case hd => first | rfl | decide +kernel | (simp only [PySem.W.codeHdIn]; rfl))

