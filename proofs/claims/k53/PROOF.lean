import PyProof.Rows.All
import Wide.All
import OpenK.AllK
import Wide.FinOn
import HandS.ForMost
import HandS.IsInst
import HandS.Style
import HandS.TupAny
import HandS.Deep
import KE.SortData
import HandS.Walk
import PySem.Challenge.RW_patchlots_k53_whole_differences
import HandS.ForExc
import HandS.ExcInit
import HandS.ExcField
import HandS.Evl
import HandS.Zip
import HandS.NoneIn
import KE.DataMinMax
import HandS.SortKw
import HandS.RevRange
import HandS.Dict
import HandS.Lambda
import HandS.EndTab
set_option Elab.async false
set_option linter.all false
set_option maxRecDepth 100000
set_option maxHeartbeats 4000000
/-! Data as a whole over the hand layer: DX, what evaluates to what, a def's promise over data. -/
namespace KD
open PySem L2

/-! ### data that stands apart from some addresses -/
def kd : Key → PyData
  | .inl i => .int i
  | .inr x => .str x
mutual
inductive DX (X : Addr → Prop) (H : Hp) : V → PyData → Prop
  | non : DX X H .non .none
  | bl (b : Bool) : DX X H (.bl b) (.bool b)
  | int (i : Int) : DX X H (.int i) (.int i)
  | str (x : Str) : DX X H (.str x) (.str x)
  | lst {a : Addr} {xs : List V} {ds : List PyData} : ¬ X a → H a = some (.lst xs) → DXs X H xs ds → DX X H (.ref a) (.list ds)
  | tup {a : Addr} {xs : List V} {ds : List PyData} : ¬ X a → H a = some (.tup xs) → DXs X H xs ds → DX X H (.ref a) (.tuple ds)
  | dic {a : Addr} {kvs : List (Key × V)} {ks : List (PyData × PyData)} : ¬ X a → H a = some (.dK kvs) → DXk X H kvs ks → DX X H (.ref a) (.dict ks)
inductive DXs (X : Addr → Prop) (H : Hp) : List V → List PyData → Prop
  | nil : DXs X H [] []
  | cons {v : V} {vs : List V} {d : PyData} {ds : List PyData} : DX X H v d → DXs X H vs ds → DXs X H (v :: vs) (d :: ds)
inductive DXk (X : Addr → Prop) (H : Hp) : List (Key × V) → List (PyData × PyData) → Prop
  | nil : DXk X H [] []
  | cons {k : Key} {v : V} {vs : List (Key × V)} {d : PyData} {ds : List (PyData × PyData)} : DX X H v d → DXk X H vs ds → DXk X H ((k, v) :: vs) ((kd k, d) :: ds)
end
/-- what is not of X is kept -/
def Kp (X : Addr → Prop) (H H' : Hp) : Prop := ∀ a o, ¬ X a → H a = some o → H' a = some o
theorem Kp.of {X : Addr → Prop} {H H' : Hp} (h : Same H H') : Kp X H H' := fun a o _ e => h a o e
theorem Kp.refl {X : Addr → Prop} {H : Hp} : Kp X H H := fun _ _ _ e => e
theorem Kp.trans {X : Addr → Prop} {H H1 H2 : Hp} (h : Kp X H H1) (k : Kp X H1 H2) : Kp X H H2 := fun a o n e => k a o n (h a o n e)
section
variable {X : Addr → Prop} {H H' : Hp}
mutual
theorem DX.mono (k : Kp X H H') : ∀ {v : V} {d : PyData}, DX X H v d → DX X H' v d
  | _, _, .non => .non
  | _, _, .bl b => .bl b
  | _, _, .int i => .int i
  | _, _, .str x => .str x
  | _, _, .lst n h r => .lst n (k _ _ n h) (DXs.mono k r)
  | _, _, .tup n h r => .tup n (k _ _ n h) (DXs.mono k r)
  | _, _, .dic n h r => .dic n (k _ _ n h) (DXk.mono k r)
theorem DXs.mono (k : Kp X H H') : ∀ {vs : List V} {ds : List PyData}, DXs X H vs ds → DXs X H' vs ds
  | _, _, .nil => .nil
  | _, _, .cons h r => .cons (DX.mono k h) (DXs.mono k r)
theorem DXk.mono (k : Kp X H H') : ∀ {vs : List (Key × V)} {ds : List (PyData × PyData)}, DXk X H vs ds → DXk X H' vs ds
  | _, _, .nil => .nil
  | _, _, .cons h r => .cons (DX.mono k h) (DXk.mono k r)
end
theorem DXs.length : ∀ {vs : List V} {ds : List PyData}, DXs X H vs ds → vs.length = ds.length
  | _, _, .nil => rfl
  | _, _, .cons _ r => congrArg (· + 1) (DXs.length r)
theorem DXs.get : ∀ {vs : List V} {ds : List PyData} {i : Nat} {d : PyData}, DXs X H vs ds → ds[i]? = some d → ∃ v, vs[i]? = some v ∧ DX X H v d
  | _, _, _, _, .nil, e => by simp at e
  | _, _, 0, _, .cons h _, e => by simp at e; subst e; exact ⟨_, rfl, h⟩
  | _, _, i + 1, d, .cons _ r, e => by
    obtain ⟨v, h1, h2⟩ := DXs.get (i := i) (d := d) r (by simpa using e)
    exact ⟨v, by simpa using h1, h2⟩
theorem DXs.getV : ∀ {vs : List V} {ds : List PyData} {i : Nat} {v : V}, DXs X H vs ds → vs[i]? = some v → ∃ d, ds[i]? = some d ∧ DX X H v d
  | _, _, _, _, .nil, e => by simp at e
  | _, _, 0, _, .cons h _, e => by simp at e; subst e; exact ⟨_, rfl, h⟩
  | _, _, i + 1, d, .cons _ r, e => by
    obtain ⟨v, h1, h2⟩ := DXs.getV (i := i) (v := d) r (by simpa using e)
    exact ⟨v, by simpa using h1, h2⟩
theorem DXs.append : ∀ {vs ws : List V} {ds es : List PyData}, DXs X H vs ds → DXs X H ws es → DXs X H (vs ++ ws) (ds ++ es)
  | _, _, _, _, .nil, s => s
  | _, _, _, _, .cons h r, s => .cons h (DXs.append r s)
theorem DXs.take : ∀ {vs : List V} {ds : List PyData} (n : Nat), DXs X H vs ds → DXs X H (vs.take n) (ds.take n)
  | _, _, 0, _ => .nil
  | _, _, _ + 1, .nil => .nil
  | _, _, n + 1, .cons h r => .cons h (DXs.take n r)
theorem DXs.drop : ∀ {vs : List V} {ds : List PyData} (n : Nat), DXs X H vs ds → DXs X H (vs.drop n) (ds.drop n)
  | _, _, 0, r => r
  | _, _, _ + 1, .nil => .nil
  | _, _, n + 1, .cons _ r => DXs.drop n r
theorem DXs.erase : ∀ {vs : List V} {ds : List PyData} (n : Nat), DXs X H vs ds → DXs X H (vs.eraseIdx n) (ds.eraseIdx n)
  | _, _, _, .nil => .nil
  | _, _, 0, .cons _ r => r
  | _, _, n + 1, .cons h r => .cons h (DXs.erase n r)
theorem DXs.rep {vs : List V} {ds : List PyData} (h : DXs X H vs ds) : ∀ n : Nat, DXs X H (List.replicate n vs).flatten (List.replicate n ds).flatten
  | 0 => .nil
  | n + 1 => by
    rw [List.replicate_succ, List.replicate_succ, List.flatten_cons, List.flatten_cons]
    exact DXs.append h (DXs.rep h n)
theorem DXs.snoc {vs : List V} {ds : List PyData} {v : V} {d : PyData} (h : DXs X H vs ds) (k : DX X H v d) : DXs X H (vs ++ [v]) (ds ++ [d]) := DXs.append h (.cons k .nil)

/-! ### data without dicts is the layer's data -/
mutual
def noDict : PyData → Bool
  | .none => true
  | .bool _ => true
  | .int _ => true
  | .str _ => true
  | .list ds => noDicts ds
  | .tuple ds => noDicts ds
  | .dict _ => false
def noDicts : List PyData → Bool
  | [] => true
  | d :: ds => noDict d && noDicts ds
end
mutual
theorem DX.dp {K : PySem.W.Frag} : ∀ {v : V} {d : PyData}, DX X H v d → noDict d = true → Dp K H v d
  | _, _, .non, _ => .non
  | _, _, .bl b, _ => .bl b
  | _, _, .int i, _ => .int i
  | _, _, .str x, _ => .str x
  | _, _, .lst _ h r, n => .lst (SqL.of h) (DXs.dp r (by simpa [noDict] using n))
  | _, _, .tup _ h r, n => .tup (SqT.of h) (DXs.dp r (by simpa [noDict] using n))
  | _, _, .dic _ _ _, n => by simp [noDict] at n
theorem DXs.dp {K : PySem.W.Frag} : ∀ {vs : List V} {ds : List PyData}, DXs X H vs ds → noDicts ds = true → DpAll K H vs ds
  | _, _, .nil, _ => .nil
  | _, _, .cons (d := d) (ds := ds) h r, n => by
    have n' : noDict d = true ∧ noDicts ds = true := by simpa [noDicts] using n
    exact .cons (DX.dp h n'.1) (DXs.dp r n'.2)
end
end
/-- the addresses of X stand in the heap -/
def Trk (X : Addr → Prop) (H : Hp) : Prop := ∀ a, X a → ∃ o, H a = some o
theorem Trk.mono {X : Addr → Prop} {H H' : Hp} (t : Trk X H) (s : Same H H') : Trk X H' := fun a h => let ⟨o, e⟩ := t a h; ⟨o, s a o e⟩
theorem Trk.new {X : Addr → Prop} {H : Hp} {p : Addr} (t : Trk X H) (h : H p = none) : ¬ X p := fun x => by
  obtain ⟨o, e⟩ := t p x
  rw [h] at e
  cases e
theorem Same.upd {H : Hp} {p : Addr} {o : HO} (h : H p = none) : Same H (upd H p o) := fun b u e => by
  rw [upd_ne (ne_of_none e h)]
  exact e

/-! ### the frame's values as data -/
inductive Sv where
  | dat (d : PyData) | val (v : V) | un
def SvOk (X : Addr → Prop) (H : Hp) : Sv → Option (Option V) → Prop
  | .dat d, o => ∃ v, o = some (some v) ∧ DX X H v d
  | .val v, o => o = some (some v)
  | .un, _ => True
structure EnvOk (X : Addr → Prop) (H : Hp) (σ : St) (Γ : List Sv) : Prop where
  len : σ.length = Γ.length
  get : ∀ (i : Nat) (s : Sv), Γ[i]? = some s → SvOk X H s σ[i]?
section
variable {X : Addr → Prop} {H H' : Hp} {σ : St} {Γ : List Sv}
theorem SvOk.mono (k : Kp X H H') {s : Sv} {o : Option (Option V)} (h : SvOk X H s o) : SvOk X H' s o := by
  cases s with
  | dat d =>
    obtain ⟨v, e, r⟩ := h
    exact ⟨v, e, r.mono k⟩
  | val v => exact h
  | un => trivial
theorem EnvOk.mono (k : Kp X H H') (h : EnvOk X H σ Γ) : EnvOk X H' σ Γ := ⟨h.len, fun i s e => (h.get i s e).mono k⟩
theorem EnvOk.same (k : Same H H') (h : EnvOk X H σ Γ) : EnvOk X H' σ Γ := h.mono (Kp.of k)
theorem EnvOk.put {i : Nat} {v : V} {s : Sv} (h : EnvOk X H σ Γ) (hs : SvOk X H s (some (some v))) : EnvOk X H (σ.set i (some v)) (Γ.set i s) := by
  refine ⟨by rw [List.length_set, List.length_set]; exact h.len, fun j t e => ?_⟩
  by_cases hj : i = j
  · subst hj
    by_cases hl : i < Γ.length
    · rw [List.getElem?_set_self hl] at e
      cases e
      rw [List.getElem?_set_self (by rw [h.len]; exact hl)]
      exact hs
    · rw [List.getElem?_eq_none (by rw [List.length_set]; omega)] at e
      cases e
  · rw [List.getElem?_set_ne hj] at e
    rw [List.getElem?_set_ne hj]
    exact h.get j t e
theorem EnvOk.set {i : Nat} {v : V} {d : PyData} (h : EnvOk X H σ Γ) (hd : DX X H v d) : EnvOk X H (σ.set i (some v)) (Γ.set i (.dat d)) := h.put ⟨v, rfl, hd⟩
theorem EnvOk.setV {i : Nat} {v : V} (h : EnvOk X H σ Γ) : EnvOk X H (σ.set i (some v)) (Γ.set i (.val v)) := h.put rfl
/-- what is not asked any more -/
theorem EnvOk.wipe (h : EnvOk X H σ Γ) : ∀ vs : List Nat, EnvOk X H (wipe σ vs) (vs.foldr (fun v g => g.set v .un) Γ)
  | [] => h
  | v :: vs => by
    have ih := EnvOk.wipe h vs
    show EnvOk X H ((L2.wipe σ vs).set v none) ((vs.foldr (fun v g => g.set v .un) Γ).set v .un)
    refine ⟨by rw [List.length_set, List.length_set]; exact ih.len, fun j t e => ?_⟩
    by_cases hj : v = j
    · subst hj
      by_cases hl : v < (vs.foldr (fun v g => g.set v Sv.un) Γ).length
      · rw [List.getElem?_set_self hl] at e
        cases e
        trivial
      · rw [List.getElem?_eq_none (by rw [List.length_set]; omega)] at e
        cases e
    · rw [List.getElem?_set_ne hj] at e
      rw [List.getElem?_set_ne hj]
      exact ih.get j t e
theorem envOk_start {N : List Str} {vs : List V} {ss : List Sv} (hl : vs.length = ss.length) (hs : ∀ (i : Nat) (s : Sv), ss[i]? = some s → ∀ v, vs[i]? = some v → SvOk X H s (some (some v))) (hN : vs.length ≤ N.length) : EnvOk X H (L2.start N vs) (ss ++ List.replicate (N.length - vs.length) .un) := by
  unfold L2.start
  refine ⟨by simp [hl], fun i s e => ?_⟩
  by_cases hi : i < vs.length
  · rw [List.getElem?_append_left (by omega)] at e
    rw [List.getElem?_append_left (by simpa using hi)]
    rw [List.getElem?_map, List.getElem?_eq_getElem hi]
    exact hs i s e _ (List.getElem?_eq_getElem hi)
  · rw [List.getElem?_append_right (by omega)] at e
    have hu : s = .un := by
      have := List.mem_of_getElem? e
      exact List.eq_of_mem_replicate this
    subst hu
    trivial
end

/-! ### what evaluates to what datum, leaving all as it is -/
def G (X : Addr → Prop) (te : TE) (σ : St) (H : Hp) (d : PyData) : Prop := ∀ H1, Same H H1 → ∀ Q : VK, (∀ v H2, Same H1 H2 → DX X H2 v d → Q v H2) → te σ H1 Q
def GV (te : TE) (σ : St) (H : Hp) (v : V) : Prop := ∀ H1, Same H H1 → ∀ Q : VK, Q v H1 → te σ H1 Q
def GT (tt : TT) (σ : St) (H : Hp) (b : Bool) : Prop := ∀ H1, Same H H1 → ∀ Q : Bool → Hp → Prop, (∀ H2, Same H1 H2 → Q b H2) → tt σ H1 Q
def GA (X : Addr → Prop) (ta : TA) (σ : St) (H : Hp) (ds : List PyData) : Prop := ∀ H1, Same H H1 → ∀ Q : List V → Hp → Prop, (∀ vs H2, Same H1 H2 → DXs X H2 vs ds → Q vs H2) → ta σ H1 Q
def GO (to : TO) (σ : St) (H : Hp) (o : Option Int) : Prop := ∀ H1, Same H H1 → ∀ Q : Option Int → Hp → Prop, (∀ H2, Same H1 H2 → Q o H2) → to σ H1 Q
/-- operations on data -/
def RD (X : Addr → Prop) (r : R2) (x y z : PyData) : Prop := ∀ H u v, Trk X H → DX X H u x → DX X H v y → ∀ Q : VK, (∀ w H2, Same H H2 → DX X H2 w z → Q w H2) → r u v H Q
def RB (X : Addr → Prop) (r : R2) (x y : PyData) (b : Bool) : Prop := ∀ H u v, Trk X H → DX X H u x → DX X H v y → ∀ Q : VK, Q (.bl b) H → r u v H Q
def RF (X : Addr → Prop) (r : List V → Hp → VK → Prop) (xs : List PyData) (z : PyData) : Prop := ∀ H us, Trk X H → DXs X H us xs → ∀ Q : VK, (∀ w H2, Same H H2 → DX X H2 w z → Q w H2) → r us H Q
section
variable {X : Addr → Prop} {σ : St} {H H' : Hp} {te ta tb tc : TE} {tt tu : TT} {x y z d e : PyData} {Γ : List Sv} {K : PySem.W.Frag} {r : R2}
theorem DX.int_inv {v : V} {i : Int} (h : DX X H v (.int i)) : v = .int i := by cases h; rfl
theorem DX.bl_inv {v : V} {b : Bool} (h : DX X H v (.bool b)) : v = .bl b := by cases h; rfl
theorem DX.str_inv {v : V} {s : Str} (h : DX X H v (.str s)) : v = .str s := by cases h; rfl
theorem DX.non_inv {v : V} (h : DX X H v .none) : v = .non := by cases h; rfl
theorem DX.lst_inv {v : V} {ds : List PyData} (h : DX X H v (.list ds)) : ∃ a xs, v = .ref a ∧ ¬ X a ∧ H a = some (.lst xs) ∧ DXs X H xs ds := by
  cases h with | lst n e r => exact ⟨_, _, rfl, n, e, r⟩
theorem DX.tup_inv {v : V} {ds : List PyData} (h : DX X H v (.tuple ds)) : ∃ a xs, v = .ref a ∧ ¬ X a ∧ H a = some (.tup xs) ∧ DXs X H xs ds := by
  cases h with | tup n e r => exact ⟨_, _, rfl, n, e, r⟩
theorem DX.newL {xs : List V} {ds : List PyData} (t : Trk X H) (h : DXs X H xs ds) {p : Addr} (hp : H p = none) : DX X (upd H p (.lst xs)) (.ref p) (.list ds) := .lst (t.new hp) upd_same (h.mono (Kp.of (Same.upd hp)))
theorem DX.newT {xs : List V} {ds : List PyData} (t : Trk X H) (h : DXs X H xs ds) {p : Addr} (hp : H p = none) : DX X (upd H p (.tup xs)) (.ref p) (.tuple ds) := .tup (t.new hp) upd_same (h.mono (Kp.of (Same.upd hp)))
theorem DX.isa_bool {v : V} {b : Bool} (h : DX X H v d) (e : v = .bl b) : d = .bool b := by subst e; cases h; rfl

theorem G.mono (s : Same H H') (h : G X te σ H d) : G X te σ H' d := fun H1 k Q q => h H1 (s.trans k) Q q
theorem GT.mono {b : Bool} (s : Same H H') (h : GT tt σ H b) : GT tt σ H' b := fun H1 k Q q => h H1 (s.trans k) Q q
theorem g_var {i : Nat} (E : EnvOk X H σ Γ) (h : Γ[i]? = some (.dat d)) : G X (tVar i) σ H d := fun H1 s Q q => by
  obtain ⟨v, e, r⟩ := E.get i _ h
  exact ⟨v, e, q v H1 (Same.refl H1) (r.mono (Kp.of s))⟩
theorem gv_var {i : Nat} {v : V} (E : EnvOk X H σ Γ) (h : Γ[i]? = some (.val v)) : GV (tVar i) σ H v := fun H1 s Q q => ⟨v, E.get i _ h, q⟩
theorem g_int {i : Int} : G X (tC (.int i)) σ H (.int i) := fun H1 _ Q q => q _ H1 (Same.refl H1) (.int i)
theorem g_bl {b : Bool} : G X (tC (.bl b)) σ H (.bool b) := fun H1 _ Q q => q _ H1 (Same.refl H1) (.bl b)
theorem g_str {s : Str} : G X (tC (.str s)) σ H (.str s) := fun H1 _ Q q => q _ H1 (Same.refl H1) (.str s)
theorem g_non : G X (tC .non) σ H .none := fun H1 _ Q q => q _ H1 (Same.refl H1) .non
theorem ga_nil : GA X tNil σ H [] := fun H1 _ Q q => q [] H1 (Same.refl H1) .nil
theorem ga_cons {ta : TE} {tr : TA} {ds : List PyData} (h : G X ta σ H d) (k : GA X tr σ H ds) : GA X (tCons ta tr) σ H (d :: ds) := fun H1 s Q q =>
  h H1 s _ fun v H2 s2 r => k H2 (s.trans s2) _ fun vs H3 s3 rs => q _ H3 (s2.trans s3) (.cons (r.mono (Kp.of s3)) rs)
theorem g_lst {ta : TA} {ds : List PyData} (t : Trk X H) (h : GA X ta σ H ds) (hl : ds.length ≤ 1000000) : G X (tLst ta) σ H (.list ds) := fun H1 s Q q =>
  h H1 s _ fun vs H2 s2 rs => ⟨by rw [rs.length, sizeLine_eq]; omega, fun p hp => q _ _ (s2.trans (Same.upd hp)) (DX.newL ((t.mono s).mono s2) rs hp)⟩
theorem g_tup {ta : TA} {ds : List PyData} (t : Trk X H) (h : GA X ta σ H ds) (hl : ds.length ≤ 1000000) : G X (tTup ta) σ H (.tuple ds) := fun H1 s Q q =>
  h H1 s _ fun vs H2 s2 rs => ⟨by rw [rs.length, sizeLine_eq]; omega, fun p hp => q _ _ (s2.trans (Same.upd hp)) (DX.newT ((t.mono s).mono s2) rs hp)⟩
theorem g_op (t : Trk X H) (ha : G X ta σ H x) (hb : G X tb σ H y) (hr : RD X r x y z) : G X (tOp r ta tb) σ H z := fun H1 s Q q =>
  ha H1 s _ fun u H2 s2 ru => hb H2 (s.trans s2) _ fun v H3 s3 rv => hr H3 u v (((t.mono s).mono s2).mono s3) (ru.mono (Kp.of s3)) rv Q fun w H4 s4 rw_ => q w H4 ((s2.trans s3).trans s4) rw_
theorem gt_op {b : Bool} (t : Trk X H) (ha : G X ta σ H x) (hb : G X tb σ H y) (hr : RB X r x y b) : GT (tTest (tOp r ta tb)) σ H b := fun H1 s Q q =>
  ha H1 s _ fun u H2 s2 ru => hb H2 (s.trans s2) _ fun v H3 s3 rv => hr H3 u v (((t.mono s).mono s2).mono s3) (ru.mono (Kp.of s3)) rv _ ⟨b, rfl, q H3 (s2.trans s3)⟩
theorem RB.rd {b : Bool} (h : RB X r x y b) : RD X r x y (.bool b) := fun H u v t ru rv Q q => h H u v t ru rv Q (q _ H (Same.refl H) (.bl b))
theorem RD.or1 {r r' : R2} (h : RD X r x y z) : RD X (fun x y H Q => r x y H Q ∨ r' x y H Q) x y z := fun H u v t ru rv Q q => .inl (h H u v t ru rv Q q)
theorem RD.or2 {r r' : R2} (h : RD X r' x y z) : RD X (fun x y H Q => r x y H Q ∨ r' x y H Q) x y z := fun H u v t ru rv Q q => .inr (h H u v t ru rv Q q)
/-- a test that is a bool's -/
theorem gt_B {b : Bool} (h : G X te σ H (.bool b)) : GT (tB te) σ H b := fun H1 s Q q => h H1 s _ fun v H2 s2 r => ⟨b, r.bl_inv, q H2 s2⟩
theorem gt_test {b : Bool} (h : G X te σ H (.bool b)) : GT (tTest te) σ H b := fun H1 s Q q => h H1 s _ fun v H2 s2 r => ⟨b, r.bl_inv, q H2 s2⟩
theorem gt_not {b : Bool} (h : GT tt σ H b) : GT (tNot tt) σ H (!b) := fun H1 s Q q => h H1 s _ fun H2 s2 => q H2 s2
theorem gt_and {a b : Bool} (h : GT tt σ H a) (k : a = true → GT tu σ H b) : GT (tAnd tt tu) σ H (a && b) := fun H1 s Q q => h H1 s _ fun H2 s2 => by
  cases a with
  | true =>
    show tu σ H2 Q
    exact k rfl H2 (s.trans s2) Q fun H3 s3 => q H3 (s2.trans s3)
  | false =>
    show Q false H2
    exact q H2 s2
theorem gt_or {a b : Bool} (h : GT tt σ H a) (k : a = false → GT tu σ H b) : GT (tOr tt tu) σ H (a || b) := fun H1 s Q q => h H1 s _ fun H2 s2 => by
  cases a with
  | true =>
    show Q true H2
    exact q H2 s2
  | false =>
    show tu σ H2 Q
    exact k rfl H2 (s.trans s2) Q fun H3 s3 => q H3 (s2.trans s3)
theorem gt_is {a b : Bool} (h : GT tt σ H a) (e : a = b) : GT tt σ H b := e ▸ h
theorem g_is (h : G X te σ H d) (e' : d = e) : G X te σ H e := e' ▸ h
theorem g_and {a b : Bool} (h : G X ta σ H (.bool a)) (k : a = true → G X tb σ H (.bool b)) : G X (tAndV ta tb) σ H (.bool (a && b)) := fun H1 s Q q => h H1 s _ fun v H2 s2 r => ⟨a, r.bl_inv, by
  cases a with
  | true =>
    show tb σ H2 Q
    exact k rfl H2 (s.trans s2) Q fun v H3 s3 r3 => q v H3 (s2.trans s3) r3
  | false =>
    show Q (.bl false) H2
    exact q _ H2 s2 (.bl false)⟩
theorem g_or {a b : Bool} (h : G X ta σ H (.bool a)) (k : a = false → G X tb σ H (.bool b)) : G X (tOrV ta tb) σ H (.bool (a || b)) := fun H1 s Q q => h H1 s _ fun v H2 s2 r => ⟨a, r.bl_inv, by
  cases a with
  | true =>
    show Q (.bl true) H2
    exact q _ H2 s2 (.bl true)
  | false =>
    show tb σ H2 Q
    exact k rfl H2 (s.trans s2) Q fun v H3 s3 r3 => q v H3 (s2.trans s3) r3⟩
theorem g_not {a : Bool} (h : G X ta σ H (.bool a)) : G X (tNotV ta) σ H (.bool (!a)) := fun H1 s Q q => h H1 s _ fun v H2 s2 r => ⟨a, r.bl_inv, q _ H2 s2 (.bl _)⟩
theorem g_if {b : Bool} (h : GT tt σ H b) (h1 : b = true → G X ta σ H d) (h2 : b = false → G X tb σ H d) : G X (tIf tt ta tb) σ H d := fun H1 s Q q => h H1 s _ fun H2 s2 => by
  cases b with
  | true =>
    show ta σ H2 Q
    exact h1 rfl H2 (s.trans s2) Q fun v H3 s3 r3 => q v H3 (s2.trans s3) r3
  | false =>
    show tb σ H2 Q
    exact h2 rfl H2 (s.trans s2) Q fun v H3 s3 r3 => q v H3 (s2.trans s3) r3
theorem g_call {sp : Sp} {E : XK} {ta : TA} {ds : List PyData} (h : GA X ta σ H ds) (k : ∀ vs H1, Same H H1 → DXs X H1 vs ds → ∀ Q : VK, (∀ v H2, Same H1 H2 → DX X H2 v d → Q v H2) → sp vs H1 Q E) : G X (tCall sp [] E ta) σ H d := fun H1 s Q q =>
  h H1 s _ fun vs H2 s2 rs => by
    rw [List.append_nil]
    exact k vs H2 (s.trans s2) rs Q fun v H3 s3 r3 => q v H3 (s2.trans s3) r3
theorem g_cb {rr : List V → Hp → VK → Prop} {ta : TA} {ds : List PyData} (t : Trk X H) (h : GA X ta σ H ds) (k : RF X rr ds d) : G X (tCB rr ta) σ H d := fun H1 s Q q =>
  h H1 s _ fun vs H2 s2 rs => k H2 vs ((t.mono s).mono s2) rs Q fun w H3 s3 r3 => q w H3 (s2.trans s3) r3
theorem go_none : GO tNoPart σ H none := fun H1 _ Q q => q H1 (Same.refl H1)
theorem go_some {i : Int} (h : G X te σ H (.int i)) : GO (tPart te) σ H (some i) := fun H1 s Q q => h H1 s _ fun v H2 s2 r => ⟨i, r.int_inv, q H2 s2⟩

/-! ### the operations -/
theorem rd_I0 {g : Int → Int → Int} {i j : Int} : RD X (rI0 fun i j => .int (g i j)) (.int i) (.int j) (.int (g i j)) := fun H u v _ ru rv Q q => ⟨i, j, ru.int_inv, rv.int_inv, q _ H (Same.refl H) (.int _)⟩
theorem rd_I {C : Int → Int → Prop} {g : Int → Int → Int} {i j : Int} (c : C i j) : RD X (rI C fun i j => .int (g i j)) (.int i) (.int j) (.int (g i j)) := fun H u v _ ru rv Q q => ⟨i, j, ru.int_inv, rv.int_inv, c, q _ H (Same.refl H) (.int _)⟩
theorem rb_I0 {g : Int → Int → Bool} {i j : Int} : RB X (rI0 fun i j => .bl (g i j)) (.int i) (.int j) (g i j) := fun H u v _ ru rv Q q => ⟨i, j, ru.int_inv, rv.int_inv, q⟩
theorem rd_cat {xs ys : List PyData} (hl : xs.length + ys.length ≤ 1000000) : RD X rCat (.list xs) (.list ys) (.list (xs ++ ys)) := fun H u v t ru rv Q q => by
  obtain ⟨a, us, rfl, _, ha, rs⟩ := ru.lst_inv
  obtain ⟨b, ws, rfl, _, hb, rt⟩ := rv.lst_inv
  exact ⟨a, b, us, ws, rfl, rfl, ha, hb, by rw [rs.length, rt.length, sizeLine_eq]; omega, fun p hp => q _ _ (Same.upd hp) (DX.newL t (rs.append rt) hp)⟩
theorem rd_rep {xs : List PyData} {k : Int} (h1 : -(2 ^ 63) ≤ k) (h2 : k < 2 ^ 63) (hl : xs.length * k.toNat ≤ 1000000) : RD X rRep (.list xs) (.int k) (.list (List.replicate k.toNat xs).flatten) := fun H u v t ru rv Q q => by
  obtain ⟨a, us, rfl, _, ha, rs⟩ := ru.lst_inv
  exact ⟨a, k, us, rfl, rv.int_inv, ha, h1, h2, by rw [rs.length, sizeLine_eq]; omega, fun p hp => q _ _ (Same.upd hp) (DX.newL t (rs.rep k.toNat) hp)⟩
theorem rd_addS {a b : Str} (hl : a.length + b.length ≤ 1000000) : RD X (fun x y H Q => ∃ i j, x = V.str i ∧ y = V.str j ∧ i.length + j.length ≤ sizeLine ∧ Q (V.str (i ++ j)) H) (.str a) (.str b) (.str (a ++ b)) := fun H u v _ ru rv Q q => ⟨a, b, ru.str_inv, rv.str_inv, by rw [sizeLine_eq]; omega, q _ H (Same.refl H) (.str _)⟩
theorem rb_eqD (hd : noDict x = true) (he : noDict y = true) (hs : SeqAt.shaped x = true) (ht : SeqAt.shaped y = true) : RB X (rEqD K) x y (PyData.eqv x y) := fun H u v _ ru rv Q q => ⟨x, y, ru.dp hd, rv.dp he, hs, ht, q⟩
theorem rb_neD (hd : noDict x = true) (he : noDict y = true) (hs : SeqAt.shaped x = true) (ht : SeqAt.shaped y = true) : RB X (rNeD K) x y (!PyData.eqv x y) := fun H u v _ ru rv Q q => ⟨x, y, ru.dp hd, rv.dp he, hs, ht, q⟩
def isNone : PyData → Bool
  | .none => true
  | _ => false
theorem dx_none {v : V} (h : DX X H v d) : decide (v = .non) = isNone d := by cases h <;> simp [isNone]
theorem rb_isN : RB X (fun x y H Q => y = .non ∧ Q (.bl (decide (x = .non))) H) x .none (isNone x) := fun H u v _ ru rv Q q => ⟨rv.non_inv, by rw [dx_none ru]; exact q⟩
theorem rb_notN : RB X (fun x y H Q => y = .non ∧ Q (.bl (!decide (x = .non))) H) x .none (!isNone x) := fun H u v _ ru rv Q q => ⟨rv.non_inv, by rw [dx_none ru]; exact q⟩
theorem rb_isB {a b : Bool} : RB X rIsB (.bool a) (.bool b) (decide (a = b)) := fun H u v _ ru rv Q q => ⟨a, b, ru.bl_inv, rv.bl_inv, q⟩
theorem rb_notB {a b : Bool} : RB X rNotB (.bool a) (.bool b) (!decide (a = b)) := fun H u v _ ru rv Q q => ⟨a, b, ru.bl_inv, rv.bl_inv, q⟩
/-- an item -/
theorem rd_ixL {ds : List PyData} {i : Int} (h : atI ds i = some z) : RD X (rIx K) (.list ds) (.int i) z := fun H u v _ ru rv Q q => by
  obtain ⟨a, us, rfl, _, ha, rs⟩ := ru.lst_inv
  unfold atI at h
  cases hx : ixN ds.length i with
  | none => rw [hx] at h; cases h
  | some j =>
    rw [hx] at h
    obtain ⟨w, hw, rz⟩ := rs.get (i := j) (show ds[j]? = some z from h)
    exact .inl ⟨a, us, i, w, rfl, rv.int_inv, SqL.of ha, by unfold atI; rw [rs.length, hx]; exact hw, q w H (Same.refl H) rz⟩
theorem rd_ixT {ds : List PyData} {i : Int} (h : atI ds i = some z) : RD X (rIx K) (.tuple ds) (.int i) z := fun H u v _ ru rv Q q => by
  obtain ⟨a, us, rfl, _, ha, rs⟩ := ru.tup_inv
  unfold atI at h
  cases hx : ixN ds.length i with
  | none => rw [hx] at h; cases h
  | some j =>
    rw [hx] at h
    obtain ⟨w, hw, rz⟩ := rs.get (i := j) (show ds[j]? = some z from h)
    exact .inr (.inl ⟨a, us, i, w, rfl, rv.int_inv, SqT.of ha, by unfold atI; rw [rs.length, hx]; exact hw, q w H (Same.refl H) rz⟩)
/-- a slice of a list -/
def cutPD (xs : List PyData) (lo hi : Option Int) : List PyData := (xs.drop (HT.sIx xs.length 0 lo)).take (HT.sIx xs.length xs.length hi - HT.sIx xs.length 0 lo)
theorem DXs.cut {vs : List V} {ds : List PyData} (h : DXs X H vs ds) (lo hi : Option Int) : DXs X H (cutV vs lo hi) (cutPD ds lo hi) := by
  unfold cutV cutPD
  rw [h.length]
  exact (h.drop _).take _
theorem g_sl {tl th : TO} {ds : List PyData} {lo hi : Option Int} (t : Trk X H) (h : G X te σ H (.list ds)) (hl : GO tl σ H lo) (hh : GO th σ H hi) : G X (tSl (rSlL K) te tl th) σ H (.list (cutPD ds lo hi)) := fun H1 s Q q =>
  h H1 s _ fun v H2 s2 r2 => hl H2 (s.trans s2) _ fun H3 s3 => hh H3 ((s.trans s2).trans s3) _ fun H4 s4 => by
    obtain ⟨a, us, rfl, _, ha, rs⟩ := (r2.mono (Kp.of (s3.trans s4))).lst_inv
    exact ⟨a, us, rfl, SqL.of ha, fun p hp => q _ _ (((s2.trans s3).trans s4).trans (Same.upd hp)) (DX.newL (((t.mono s).mono s2).mono (s3.trans s4)) (rs.cut lo hi) hp)⟩

/-! ### functions of the language -/
def lenD : PyData → Nat
  | .str s => s.length
  | .list ds => ds.length
  | .tuple ds => ds.length
  | _ => 0
def hasLen : PyData → Bool
  | .str s => decide (s.length ≤ 1000000)
  | .list _ => true
  | .tuple _ => true
  | _ => false
theorem rf_len (h : hasLen d = true) : RF X (fun xs H Q => ∃ x n, xs = [x] ∧ LenV K x H n ∧ Q (.int n) H) [d] (.int (lenD d : Int)) := fun H us _ rs Q q => by
  cases rs with
  | cons r r2 =>
    cases r2
    cases r with
    | str s => exact ⟨_, s.length, rfl, ⟨by have := of_decide_eq_true (show decide (s.length ≤ 1000000) = true from h); rw [sizeLine_eq]; omega, rfl⟩, q _ H (Same.refl H) (.int _)⟩
    | lst n e r => exact ⟨_, _, rfl, .inl ⟨_, SqL.of e, rfl⟩, q _ H (Same.refl H) (by rw [r.length]; exact .int _)⟩
    | tup n e r => exact ⟨_, _, rfl, .inr ⟨_, SqT.of e, rfl⟩, q _ H (Same.refl H) (by rw [r.length]; exact .int _)⟩
    | _ => exact absurd h (by simp [hasLen])
/-- the items of a list or tuple -/
def itemsD : PyData → List PyData
  | .list ds => ds
  | .tuple ds => ds
  | _ => []
def isSeq : PyData → Bool
  | .list _ => true
  | .tuple _ => true
  | _ => false
theorem rf_list (h : isSeq d = true) : RF X (fun xs H Q => ∃ p ys, xs = [V.ref p] ∧ (SqL K H p ys ∨ SqT K H p ys) ∧ ∀ l, H l = none → Q (.ref l) (upd H l (.lst ys))) [d] (.list (itemsD d)) := fun H us t rs Q q => by
  cases rs with
  | cons r r2 =>
    cases r2
    cases r with
    | lst n e r => exact ⟨_, _, rfl, .inl (SqL.of e), fun l hl => q _ _ (Same.upd hl) (DX.newL t r hl)⟩
    | tup n e r => exact ⟨_, _, rfl, .inr (SqT.of e), fun l hl => q _ _ (Same.upd hl) (DX.newL t r hl)⟩
    | _ => exact absurd h (by simp [isSeq])
theorem rf_tuple (h : isSeq d = true) : RF X (fun xs H Q => ∃ p ys, xs = [V.ref p] ∧ ((SqL K H p ys ∧ ∀ l, H l = none → Q (.ref l) (upd H l (.tup ys))) ∨ (SqT K H p ys ∧ Q (.ref p) H))) [d] (.tuple (itemsD d)) := fun H us t rs Q q => by
  cases rs with
  | cons r r2 =>
    cases r2
    cases r with
    | lst n e r => exact ⟨_, _, rfl, .inl ⟨SqL.of e, fun l hl => q _ _ (Same.upd hl) (DX.newT t r hl)⟩⟩
    | tup n e r => exact ⟨_, _, rfl, .inr ⟨SqT.of e, q _ H (Same.refl H) (.tup n e r)⟩⟩
    | _ => exact absurd h (by simp [isSeq])
theorem DXs.ints : ∀ {vs : List V} {ns : List Int}, DXs X H vs (ns.map PyData.int) → vs = ns.map V.int
  | _, [], .nil => rfl
  | _, n :: ns, .cons h r => by rw [h.int_inv, DXs.ints r]; rfl
theorem DXs.bls : ∀ {vs : List V} {ns : List Bool}, DXs X H vs (ns.map PyData.bool) → vs = ns.map V.bl
  | _, [], .nil => rfl
  | _, n :: ns, .cons h r => by rw [h.bl_inv, DXs.bls r]; rfl
theorem DXs.strs : ∀ {vs : List V} {ns : List Str}, DXs X H vs (ns.map PyData.str) → vs = ns.map V.str
  | _, [], .nil => rfl
  | _, n :: ns, .cons h r => by rw [h.str_inv, DXs.strs r]; rfl
theorem DX.ofInts {p : Addr} {ns : List Int} (n : ¬ X p) (h : H p = some (.lst (ns.map V.int))) : DX X H (.ref p) (.list (ns.map PyData.int)) := by
  refine .lst n h ?_
  clear h
  induction ns with
  | nil => exact .nil
  | cons a r ih => exact .cons (.int a) ih
theorem rf_min {ns : List Int} {m : Int} (h0 : 0 < ns.length) (hm : m ∈ ns) (hl : ∀ y ∈ ns, m ≤ y) : RF X (rMin K) [.list (ns.map PyData.int)] (.int m) := fun H us _ rs Q q => by
  cases rs with
  | cons r r2 =>
    cases r2
    obtain ⟨a, vs, rfl, _, ha, rv⟩ := r.lst_inv
    refine ⟨a, ns, rfl, SqL.of (by rw [← rv.ints]; exact ha), h0, fun m' h1 h2 => ?_⟩
    have e : m' = m := Int.le_antisymm (h2 m hm) (hl m' h1)
    subst e
    exact q _ H (Same.refl H) (.int _)
theorem rf_all {bs : List Bool} : RF X (rAll K) [.list (bs.map PyData.bool)] (.bool (bs.all id)) := fun H us _ rs Q q => by
  cases rs with
  | cons r r2 =>
    cases r2
    obtain ⟨a, vs, rfl, _, ha, rv⟩ := r.lst_inv
    exact ⟨a, bs, rfl, SqL.of (by rw [← rv.bls]; exact ha), q _ H (Same.refl H) (.bl _)⟩
theorem rf_any {bs : List Bool} : RF X (rAny K) [.list (bs.map PyData.bool)] (.bool (bs.any id)) := fun H us _ rs Q q => by
  cases rs with
  | cons r r2 =>
    cases r2
    obtain ⟨a, vs, rfl, _, ha, rv⟩ := r.lst_inv
    exact ⟨a, bs, rfl, SqL.of (by rw [← rv.bls]; exact ha), q _ H (Same.refl H) (.bl _)⟩
theorem rf_int {i : Int} : RF X (fun xs H Q => (∃ i, xs = [V.int i] ∧ Q (.int i) H) ∨ ∃ k, xs = [V.bl k] ∧ Q (.int (if k = true then 1 else 0)) H) [.int i] (.int i) := fun H us _ rs Q q => by
  cases rs with
  | cons r r2 =>
    cases r2
    rw [r.int_inv]
    exact .inl ⟨i, rfl, q _ H (Same.refl H) (.int _)⟩
/-- isinstance -/
def tyD : PyData → String
  | .none => "NoneType"
  | .bool _ => "bool"
  | .int _ => "int"
  | .str _ => "str"
  | .list _ => "list"
  | .tuple _ => "tuple"
  | .dict _ => "dict"
theorem DX.ty {v : V} (h : DX X H v d) : TyX K H v (.type (tyD d)) := by
  cases h with
  | non => exact .base .non
  | bl b => exact .base (.bl b)
  | int i => exact .base (.int i)
  | str s => exact .base (.str s)
  | lst n e r => exact .base (.lst e)
  | tup n e r => exact .base (.tup e)
  | dic n e r => exact .base (.dK e)
def isD (n : String) (d : PyData) : Bool := (kitB (tyD d) n).getD false
theorem kit_d {n : String} (h : (kitB (tyD d) n).isSome = true) : PySem.W.kitOne K (.type (tyD d)) (.type n) = some (isD n d) := by
  unfold isD
  cases e : kitB (tyD d) n with
  | none => rw [e] at h; cases h
  | some b => exact kit_ty e
theorem g_isi {n : String} (h : G X te σ H d) (hk : (kitB (tyD d) n).isSome = true) : G X (tCB (rIsi K) (tCons te (tCons (tC (.ty n)) tNil))) σ H (.bool (isD n d)) := fun H1 s Q q =>
  h H1 s _ fun v H2 s2 r => ⟨v, .ty n, _, _, _, rfl, .ty n, r.ty, kit_d hk, q _ H2 s2 (.bl _)⟩
def isDs (ns : List String) (d : PyData) : Bool := ns.any fun n => isD n d
theorem kit_ds : ∀ {ns : List String}, (∀ n ∈ ns, (kitB (tyD d) n).isSome = true) → PySem.W.kitAny K (.type (tyD d)) (ns.map Value.type) = some (isDs ns d)
  | [], _ => by unfold PySem.W.kitAny; rfl
  | n :: ns, h => by
    have h1 := kit_d (K := K) (h n List.mem_cons_self)
    have h2 := kit_ds (ns := ns) fun m hm => h m (List.mem_cons_of_mem _ hm)
    refine kitAny_cons h1 (fun e => ?_) (fun e => ?_)
    · rw [h2]
      unfold isDs
      rw [List.any_cons, e, Bool.false_or]
    · unfold isDs
      rw [List.any_cons, e, Bool.true_or]
def tyArgs : List String → TA
  | [] => tNil
  | n :: ns => tCons (tC (.ty n)) (tyArgs ns)
theorem tyArgs_run : ∀ (ns : List String) (σ : St) (H : Hp) (Q : List V → Hp → Prop), Q (ns.map V.ty) H → tyArgs ns σ H Q
  | [], _, _, _, q => q
  | n :: ns, σ, H, Q, q => tyArgs_run ns σ H _ q
theorem clsV_all : ∀ ns : List String, Paired ClsV (ns.map V.ty) (ns.map Value.type)
  | [] => .nil
  | n :: ns => .cons (.ty n) (clsV_all ns)
theorem g_isiT {ns : List String} {t2 : TA} (h : G X te σ H d) (e2 : t2 = tyArgs ns) (hl : ns.length ≤ 1000) (hk : ∀ n ∈ ns, (kitB (tyD d) n).isSome = true) : G X (tCB (rIsiT K) (tCons te (tCons (tTup t2) tNil))) σ H (.bool (isDs ns d)) := fun H1 s Q q =>
  h H1 s _ fun v H2 s2 r => by
    subst e2
    refine tyArgs_run ns σ H2 _ ⟨by rw [List.length_map, sizeLine_eq]; omega, fun p hp => ?_⟩
    exact ⟨v, p, ns.map V.ty, _, ns.map Value.type, _, rfl, upd_same, clsV_all ns, (r.mono (Kp.of (Same.upd hp))).ty, kit_ds hk, q _ _ (s2.trans (Same.upd hp)) (.bl _)⟩
end
theorem kb_NoneType_int : kitB "NoneType" "int" = some false := by decide +kernel
theorem kb_bool_int : kitB "bool" "int" = some true := by decide +kernel
theorem kb_int_int : kitB "int" "int" = some true := by decide +kernel
theorem kb_str_int : kitB "str" "int" = some false := by decide +kernel
theorem kb_list_int : kitB "list" "int" = some false := by decide +kernel
theorem kb_tuple_int : kitB "tuple" "int" = some false := by decide +kernel
theorem kb_dict_int : kitB "dict" "int" = some false := by decide +kernel
theorem kb_NoneType_bool : kitB "NoneType" "bool" = some false := by decide +kernel
theorem kb_bool_bool : kitB "bool" "bool" = some true := by decide +kernel
theorem kb_int_bool : kitB "int" "bool" = some false := by decide +kernel
theorem kb_str_bool : kitB "str" "bool" = some false := by decide +kernel
theorem kb_list_bool : kitB "list" "bool" = some false := by decide +kernel
theorem kb_tuple_bool : kitB "tuple" "bool" = some false := by decide +kernel
theorem kb_dict_bool : kitB "dict" "bool" = some false := by decide +kernel
theorem kb_NoneType_str : kitB "NoneType" "str" = some false := by decide +kernel
theorem kb_bool_str : kitB "bool" "str" = some false := by decide +kernel
theorem kb_int_str : kitB "int" "str" = some false := by decide +kernel
theorem kb_str_str : kitB "str" "str" = some true := by decide +kernel
theorem kb_list_str : kitB "list" "str" = some false := by decide +kernel
theorem kb_tuple_str : kitB "tuple" "str" = some false := by decide +kernel
theorem kb_dict_str : kitB "dict" "str" = some false := by decide +kernel
theorem kb_NoneType_list : kitB "NoneType" "list" = some false := by decide +kernel
theorem kb_bool_list : kitB "bool" "list" = some false := by decide +kernel
theorem kb_int_list : kitB "int" "list" = some false := by decide +kernel
theorem kb_str_list : kitB "str" "list" = some false := by decide +kernel
theorem kb_list_list : kitB "list" "list" = some true := by decide +kernel
theorem kb_tuple_list : kitB "tuple" "list" = some false := by decide +kernel
theorem kb_dict_list : kitB "dict" "list" = some false := by decide +kernel
theorem kb_NoneType_tuple : kitB "NoneType" "tuple" = some false := by decide +kernel
theorem kb_bool_tuple : kitB "bool" "tuple" = some false := by decide +kernel
theorem kb_int_tuple : kitB "int" "tuple" = some false := by decide +kernel
theorem kb_str_tuple : kitB "str" "tuple" = some false := by decide +kernel
theorem kb_list_tuple : kitB "list" "tuple" = some false := by decide +kernel
theorem kb_tuple_tuple : kitB "tuple" "tuple" = some true := by decide +kernel
theorem kb_dict_tuple : kitB "dict" "tuple" = some false := by decide +kernel
theorem kb_NoneType_dict : kitB "NoneType" "dict" = some false := by decide +kernel
theorem kb_bool_dict : kitB "bool" "dict" = some false := by decide +kernel
theorem kb_int_dict : kitB "int" "dict" = some false := by decide +kernel
theorem kb_str_dict : kitB "str" "dict" = some false := by decide +kernel
theorem kb_list_dict : kitB "list" "dict" = some false := by decide +kernel
theorem kb_tuple_dict : kitB "tuple" "dict" = some false := by decide +kernel
theorem kb_dict_dict : kitB "dict" "dict" = some true := by decide +kernel
def isa_int : PyData → Bool
  | .bool _ => true
  | .int _ => true
  | _ => false
theorem kis_int (d : PyData) : kitB (tyD d) "int" = some (isa_int d) := by
  cases d
  · exact kb_NoneType_int
  · exact kb_bool_int
  · exact kb_int_int
  · exact kb_str_int
  · exact kb_list_int
  · exact kb_tuple_int
  · exact kb_dict_int
theorem isD_int (d : PyData) : isD "int" d = isa_int d := by unfold isD; rw [kis_int]; rfl
theorem ksm_int (d : PyData) : (kitB (tyD d) "int").isSome = true := by rw [kis_int]; rfl
def isa_bool : PyData → Bool
  | .bool _ => true
  | _ => false
theorem kis_bool (d : PyData) : kitB (tyD d) "bool" = some (isa_bool d) := by
  cases d
  · exact kb_NoneType_bool
  · exact kb_bool_bool
  · exact kb_int_bool
  · exact kb_str_bool
  · exact kb_list_bool
  · exact kb_tuple_bool
  · exact kb_dict_bool
theorem isD_bool (d : PyData) : isD "bool" d = isa_bool d := by unfold isD; rw [kis_bool]; rfl
theorem ksm_bool (d : PyData) : (kitB (tyD d) "bool").isSome = true := by rw [kis_bool]; rfl
def isa_str : PyData → Bool
  | .str _ => true
  | _ => false
theorem kis_str (d : PyData) : kitB (tyD d) "str" = some (isa_str d) := by
  cases d
  · exact kb_NoneType_str
  · exact kb_bool_str
  · exact kb_int_str
  · exact kb_str_str
  · exact kb_list_str
  · exact kb_tuple_str
  · exact kb_dict_str
theorem isD_str (d : PyData) : isD "str" d = isa_str d := by unfold isD; rw [kis_str]; rfl
theorem ksm_str (d : PyData) : (kitB (tyD d) "str").isSome = true := by rw [kis_str]; rfl
def isa_list : PyData → Bool
  | .list _ => true
  | _ => false
theorem kis_list (d : PyData) : kitB (tyD d) "list" = some (isa_list d) := by
  cases d
  · exact kb_NoneType_list
  · exact kb_bool_list
  · exact kb_int_list
  · exact kb_str_list
  · exact kb_list_list
  · exact kb_tuple_list
  · exact kb_dict_list
theorem isD_list (d : PyData) : isD "list" d = isa_list d := by unfold isD; rw [kis_list]; rfl
theorem ksm_list (d : PyData) : (kitB (tyD d) "list").isSome = true := by rw [kis_list]; rfl
def isa_tuple : PyData → Bool
  | .tuple _ => true
  | _ => false
theorem kis_tuple (d : PyData) : kitB (tyD d) "tuple" = some (isa_tuple d) := by
  cases d
  · exact kb_NoneType_tuple
  · exact kb_bool_tuple
  · exact kb_int_tuple
  · exact kb_str_tuple
  · exact kb_list_tuple
  · exact kb_tuple_tuple
  · exact kb_dict_tuple
theorem isD_tuple (d : PyData) : isD "tuple" d = isa_tuple d := by unfold isD; rw [kis_tuple]; rfl
theorem ksm_tuple (d : PyData) : (kitB (tyD d) "tuple").isSome = true := by rw [kis_tuple]; rfl
def isa_dict : PyData → Bool
  | .dict _ => true
  | _ => false
theorem kis_dict (d : PyData) : kitB (tyD d) "dict" = some (isa_dict d) := by
  cases d
  · exact kb_NoneType_dict
  · exact kb_bool_dict
  · exact kb_int_dict
  · exact kb_str_dict
  · exact kb_list_dict
  · exact kb_tuple_dict
  · exact kb_dict_dict
theorem isD_dict (d : PyData) : isD "dict" d = isa_dict d := by unfold isD; rw [kis_dict]; rfl
theorem ksm_dict (d : PyData) : (kitB (tyD d) "dict").isSome = true := by rw [kis_dict]; rfl
end KD

namespace KD
open PySem L2
/-! ### more addresses that stand apart -/
def More (X X' : Addr → Prop) (H : Hp) : Prop := (∀ a, X a → X' a) ∧ ∀ a, X' a → X a ∨ H a = none
section
variable {X X' : Addr → Prop} {H H' : Hp} {σ : St} {Γ : List Sv}
theorem More.refl : More X X H := ⟨fun _ h => h, fun _ h => .inl h⟩
theorem More.one {p : Addr} (h : H p = none) : More X (fun a => X a ∨ a = p) H := ⟨fun _ h => .inl h, fun a k => k.elim .inl fun e => .inr (by rw [e]; exact h)⟩
theorem More.back (s : Same H H') (m : More X X' H') : More X X' H := ⟨m.1, fun a h => (m.2 a h).elim .inl fun e => .inr (s.free e)⟩
mutual
theorem DX.more (m : More X X' H) : ∀ {v : V} {d : PyData}, DX X H v d → DX X' H v d
  | _, _, .non => .non
  | _, _, .bl b => .bl b
  | _, _, .int i => .int i
  | _, _, .str x => .str x
  | _, _, .lst n h r => .lst (fun k => (m.2 _ k).elim n fun e => by rw [h] at e; cases e) h (DXs.more m r)
  | _, _, .tup n h r => .tup (fun k => (m.2 _ k).elim n fun e => by rw [h] at e; cases e) h (DXs.more m r)
  | _, _, .dic n h r => .dic (fun k => (m.2 _ k).elim n fun e => by rw [h] at e; cases e) h (DXk.more m r)
theorem DXs.more (m : More X X' H) : ∀ {vs : List V} {ds : List PyData}, DXs X H vs ds → DXs X' H vs ds
  | _, _, .nil => .nil
  | _, _, .cons h r => .cons (DX.more m h) (DXs.more m r)
theorem DXk.more (m : More X X' H) : ∀ {vs : List (Key × V)} {ds : List (PyData × PyData)}, DXk X H vs ds → DXk X' H vs ds
  | _, _, .nil => .nil
  | _, _, .cons h r => .cons (DX.more m h) (DXk.more m r)
end
mutual
theorem DX.less (m : ∀ a, X a → X' a) : ∀ {v : V} {d : PyData}, DX X' H v d → DX X H v d
  | _, _, .non => .non
  | _, _, .bl b => .bl b
  | _, _, .int i => .int i
  | _, _, .str x => .str x
  | _, _, .lst n h r => .lst (fun k => n (m _ k)) h (DXs.less m r)
  | _, _, .tup n h r => .tup (fun k => n (m _ k)) h (DXs.less m r)
  | _, _, .dic n h r => .dic (fun k => n (m _ k)) h (DXk.less m r)
theorem DXs.less (m : ∀ a, X a → X' a) : ∀ {vs : List V} {ds : List PyData}, DXs X' H vs ds → DXs X H vs ds
  | _, _, .nil => .nil
  | _, _, .cons h r => .cons (DX.less m h) (DXs.less m r)
theorem DXk.less (m : ∀ a, X a → X' a) : ∀ {vs : List (Key × V)} {ds : List (PyData × PyData)}, DXk X' H vs ds → DXk X H vs ds
  | _, _, .nil => .nil
  | _, _, .cons h r => .cons (DX.less m h) (DXk.less m r)
end
theorem EnvOk.more (m : More X X' H) (E : EnvOk X H σ Γ) : EnvOk X' H σ Γ := ⟨E.len, fun i s e => by
  have h := E.get i s e
  cases s with
  | dat d =>
    obtain ⟨v, e1, r⟩ := h
    exact ⟨v, e1, r.more m⟩
  | val v => exact h
  | un => trivial⟩
theorem Trk.one {p : Addr} {o : HO} (t : Trk X H) (h : H p = none) : Trk (fun a => X a ∨ a = p) (upd H p o) := fun a k => k.elim (fun x => (t.mono (Same.upd h)) a x) fun e => by
  subst e
  exact ⟨o, upd_same⟩
theorem Trk.put {p : Addr} {o : HO} (t : Trk X H) : Trk X (upd H p o) := fun a x => by
  by_cases e : a = p
  · subst e
    exact ⟨o, upd_same⟩
  · obtain ⟨u, k⟩ := t a x
    exact ⟨u, by rw [upd_ne e]; exact k⟩
theorem Kp.put {p : Addr} {o : HO} (h : X p) : Kp X H (upd H p o) := fun a u n e => by
  rw [upd_ne (fun z => n (by rw [z]; exact h))]
  exact e
/-- a new object that was changed behind -/
theorem Same.mut {p : Addr} {o : HO} (s : Same H H') (h : H p = none) : Same H (L2.upd H' p o) := fun a u e => by
  rw [upd_ne (ne_of_none e h)]
  exact s a u e
end

/-! ### what is walked, as data -/
def WalkD (X : Addr → Prop) (J : It) (H : Hp) (ds : List PyData) : Prop := ∃ (Gd : Hp → Prop) (Y : Nat → Hp → V → Hp → Prop), Walk J ds.length Gd Y ∧
  ∀ X', (∀ a, X' a → X a ∨ H a = none) → ∀ H3, Kp X' H H3 → Trk X' H3 → Gd H3 ∧ ∀ i x H4, Y i H3 x H4 → Same H3 H4 ∧ ∃ d, ds[i]? = some d ∧ DX X' H4 x d
def GI (X : Addr → Prop) (wi : TI) (σ : St) (H : Hp) (ds : List PyData) : Prop := ∀ H1, Same H H1 → ∀ R : It → Hp → Prop, (∀ J H2, Same H1 H2 → WalkD X J H2 ds → R J H2) → wi σ H1 R
section
variable {X : Addr → Prop} {H H' : Hp} {σ : St} {Γ : List Sv} {te : TE} {K : PySem.W.Frag} {ds es : List PyData}
theorem DX.grow {X' : Addr → Prop} (m : ∀ a, X' a → X a ∨ H a = none) {v : V} {d : PyData} (h : DX X H v d) : DX X' H v d :=
  (h.more (X' := fun a => X a ∨ X' a) ⟨fun _ => .inl, fun a k => k.elim .inl (m a)⟩).less fun _ => .inr
theorem DXs.grow {X' : Addr → Prop} (m : ∀ a, X' a → X a ∨ H a = none) {vs : List V} {ds : List PyData} (h : DXs X H vs ds) : DXs X' H vs ds :=
  (h.more (X' := fun a => X a ∨ X' a) ⟨fun _ => .inl, fun a k => k.elim .inl (m a)⟩).less fun _ => .inr
theorem gi_list (h : G X te σ H (.list ds)) : GI X (iList K te) σ H ds := fun H1 s R r => h H1 s _ fun v H2 s2 rv => by
  obtain ⟨a, xs, rfl, n, e, rx⟩ := rv.lst_inv
  refine ⟨a, rfl, ⟨xs, SqL.of e⟩, r _ H2 s2 ⟨_, _, by rw [← rx.length]; exact walk_list, fun X' m H3 k t => ?_⟩⟩
  have n' : ¬ X' a := fun z => (m a z).elim n fun q => by rw [e] at q; cases q
  refine ⟨SqL.of (k a _ n' e), fun i x H4 y => ?_⟩
  obtain ⟨rfl, hx⟩ := y
  obtain ⟨d, h1, h2⟩ := rx.getV hx
  exact ⟨Same.refl _, d, h1, (h2.grow m).mono k⟩
theorem gi_tup (h : G X te σ H (.tuple ds)) : GI X (iTup K te) σ H ds := fun H1 s R r => h H1 s _ fun v H2 s2 rv => by
  obtain ⟨a, xs, rfl, n, e, rx⟩ := rv.tup_inv
  refine ⟨a, rfl, ⟨xs, SqT.of e⟩, r _ H2 s2 ⟨_, _, by rw [← rx.length]; exact walk_tup, fun X' m H3 k t => ?_⟩⟩
  have n' : ¬ X' a := fun z => (m a z).elim n fun q => by rw [e] at q; cases q
  refine ⟨SqT.of (k a _ n' e), fun i x H4 y => ?_⟩
  obtain ⟨rfl, hx⟩ := y
  obtain ⟨d, h1, h2⟩ := rx.getV hx
  exact ⟨Same.refl _, d, h1, (h2.grow m).mono k⟩
def rangeD (lo : Int) (n : Nat) : List PyData := (List.range n).map fun (i : Nat) => PyData.int (lo + (i : Int))
theorem rangeD_len {lo : Int} {n : Nat} : (rangeD lo n).length = n := by simp [rangeD]
theorem rangeD_get {lo : Int} {n i : Nat} (h : i < n) : (rangeD lo n)[i]? = some (.int (lo + (i : Int))) := by
  unfold rangeD
  rw [List.getElem?_map, List.getElem?_range h]
  rfl
theorem walkD_range {lo : Int} {n : Nat} : WalkD X (Itr lo n) H (rangeD lo n) := by
  refine ⟨fun _ => True, fun i H x H' => (YFn fun i => V.int (lo + i)) i H x H' ∧ i < n, ?_, fun X' m H3 k t => ⟨trivial, fun i x H4 y => ?_⟩⟩
  · rw [rangeD_len]
    exact ⟨fun _ _ hi _ => hi, fun _ _ => Nat.le_refl _, fun _ _ _ _ hi _ y => ⟨y, hi⟩⟩
  · obtain ⟨⟨rfl, rfl⟩, hi⟩ := y
    exact ⟨Same.refl _, _, rangeD_get hi, .int _⟩
theorem gi_range1 {n : Int} (h : G X te σ H (.int n)) (hn : n ≤ 1000000) (hm : -1000000 ≤ n) : GI X (iRng1 (tCons te tNil)) σ H (rangeD 0 n.toNat) := fun H1 s R r => h H1 s _ fun v H2 s2 rv =>
  ⟨n, by rw [rv.int_inv], by omega, by omega, r _ H2 s2 walkD_range⟩
theorem gi_range2 {tb : TE} {a n : Int} (ha : G X te σ H (.int a)) (h : G X tb σ H (.int n)) (hb : -1000000 ≤ a ∧ a ≤ 1000000 ∧ -1000000 ≤ n ∧ n ≤ 1000000) : GI X (iRng2 (tCons te (tCons tb tNil))) σ H (rangeD a (n - a).toNat) := fun H1 s R r =>
  ha H1 s _ fun v H2 s2 rv => h H2 (s.trans s2) _ fun w H3 s3 rw_ => ⟨a, n, by rw [rv.int_inv, rw_.int_inv], by omega, r _ H3 (s2.trans s3) walkD_range⟩
def enumD (ds : List PyData) : List PyData := ds.zipIdx.map fun p => .tuple [.int (p.2 : Nat), p.1]
theorem enumD_len : (enumD ds).length = ds.length := by simp [enumD]
theorem enumD_get {i : Nat} {d : PyData} (h : ds[i]? = some d) : (enumD ds)[i]? = some (.tuple [.int (i : Nat), d]) := by
  unfold enumD
  rw [List.getElem?_map, List.getElem?_zipIdx, h]
  simp
theorem gi_enum (h : G X te σ H (.list ds)) : GI X (iEnum K (tCons te tNil)) σ H (enumD ds) := fun H1 s R r => h H1 s _ fun v H2 s2 rv => by
  obtain ⟨a, xs, rfl, n, e, rx⟩ := rv.lst_inv
  refine ⟨a, xs, rfl, SqL.of e, r _ H2 s2 ⟨_, _, by rw [enumD_len, ← rx.length]; exact walk_enum, fun X' m H3 k t => ?_⟩⟩
  have n' : ¬ X' a := fun z => (m a z).elim n fun q => by rw [e] at q; cases q
  refine ⟨SqL.of (k a _ n' e), fun i x H4 y => ?_⟩
  obtain ⟨T, u, w, rfl, hT, rfl, hu, hw⟩ := y
  cases hu
  obtain ⟨d, h1, h2⟩ := rx.getV hw
  exact ⟨Same.upd hT, _, enumD_get h1, DX.newT t (.cons (.int _) (.cons ((h2.grow m).mono k) .nil)) hT⟩
def zipD (ds es : List PyData) : List PyData := List.zipWith (fun d e => .tuple [d, e]) ds es
theorem gi_zip {tb : TE} (h : G X te σ H (.list ds)) (h' : G X tb σ H (.list es)) : GI X (iZip K (tCons te (tCons tb tNil))) σ H (zipD ds es) := fun H1 s R r => h H1 s _ fun v H2 s2 rv => h' H2 (s.trans s2) _ fun w H3 s3 rw_ => by
  obtain ⟨a, xs, rfl, n, e, rx⟩ := (rv.mono (Kp.of s3)).lst_inv
  obtain ⟨b, ys, rfl, n2, e2, ry⟩ := rw_.lst_inv
  refine ⟨a, b, xs, ys, rfl, SqL.of e, SqL.of e2, r _ H3 (s2.trans s3) ⟨_, _, walk_zip (xs := xs) (ys := ys) (by simp [zipD, rx.length, ry.length]), fun X' m H4 k t => ?_⟩⟩
  have n' : ¬ X' a := fun z => (m a z).elim n fun q => by rw [e] at q; cases q
  have n2' : ¬ X' b := fun z => (m b z).elim n2 fun q => by rw [e2] at q; cases q
  refine ⟨⟨SqL.of (k a _ n' e), SqL.of (k b _ n2' e2)⟩, fun i x H5 y => ?_⟩
  obtain ⟨T, u, w, rfl, hT, rfl, hu, hw⟩ := y
  obtain ⟨d, h1, h2⟩ := rx.getV hu
  obtain ⟨d', h3, h4⟩ := ry.getV hw
  refine ⟨Same.upd hT, .tuple [d, d'], ?_, DX.newT t (.cons ((h2.grow m).mono k) (.cons ((h4.grow m).mono k) .nil)) hT⟩
  unfold zipD
  rw [List.getElem?_zipWith, h1, h3]

/-! ### comprehensions -/
/-- a target takes a datum: what the frame knows behind it -/
def Tgt (X : Addr → Prop) (g : TG) (σ : St) (Γ2 : List Sv) (vs : List Nat) (d : PyData) (H : Hp) : Prop :=
  ∀ X' H3, More X X' H → Kp X' H H3 → Trk X' H3 → ∀ v, DX X' H3 v d → ∀ Ψ : St → Hp → Prop, (∀ σ2, EnvOk X' H3 σ2 Γ2 → wipe σ2 vs = wipe σ vs → Ψ σ2 H3) → g v (wipe σ vs) H3 Ψ
theorem wipe_one {i : Nat} {x : Option V} : wipe ((wipe σ [i]).set i x) [i] = wipe σ [i] := by
  show ((σ.set i none).set i x).set i none = σ.set i none
  rw [List.set_set, List.set_set]
theorem tgt_name {i : Nat} {d : PyData} (E : EnvOk X H σ Γ) : Tgt X (gName i) σ ((Γ.set i .un).set i (.dat d)) [i] d H := fun X' H3 m k t v hd Ψ q =>
  q _ (((E.more m).mono k).wipe [i] |>.set hd) wipe_one
theorem wipe_two {i j : Nat} {x y : Option V} (h : i ≠ j) : wipe (((wipe σ [i, j]).set i x).set j y) [i, j] = wipe σ [i, j] := by
  show ((((((σ.set j none).set i none).set i x).set j y).set j none).set i none) = (σ.set j none).set i none
  apply List.ext_getElem?
  intro n
  simp only [List.getElem?_set, List.length_set]
  split <;> split <;> simp_all
theorem g_pair {i j : Nat} {K : PySem.W.Frag} {v : V} {d e : PyData} (hd : DX X H v (.tuple [d, e])) {Ψ : St → Hp → Prop} (q : ∀ u w, DX X H u d → DX X H w e → Ψ ((σ.set i (some u)).set j (some w)) H) : gTup K 2 (gCons (gName i) (gCons (gName j) gNil)) v σ H Ψ := by
  obtain ⟨a, xs, rfl, n, ea, rx⟩ := hd.tup_inv
  cases rx with
  | cons h1 r1 =>
    cases r1 with
    | cons h2 r2 =>
      cases r2
      exact ⟨a, _, rfl, SqT.of ea, rfl, _, _, rfl, _, _, rfl, rfl, q _ _ h1 h2⟩
theorem g_triple {i j l : Nat} {K : PySem.W.Frag} {v : V} {d e f : PyData} (hd : DX X H v (.tuple [d, e, f])) {Ψ : St → Hp → Prop} (q : ∀ u w z, DX X H u d → DX X H w e → DX X H z f → Ψ (((σ.set i (some u)).set j (some w)).set l (some z)) H) :
    gTup K 3 (gCons (gName i) (gCons (gName j) (gCons (gName l) gNil))) v σ H Ψ := by
  obtain ⟨a, xs, rfl, n, ea, rx⟩ := hd.tup_inv
  cases rx with
  | cons h1 r1 =>
    cases r1 with
    | cons h2 r2 =>
      cases r2 with
      | cons h3 r3 =>
        cases r3
        exact ⟨a, _, rfl, SqT.of ea, rfl, _, _, rfl, _, _, rfl, _, _, rfl, rfl, q _ _ _ h1 h2 h3⟩
theorem tgt_pair {i j : Nat} {d e : PyData} (E : EnvOk X H σ Γ) (hij : i ≠ j) : Tgt X (gTup K 2 (gCons (gName i) (gCons (gName j) gNil))) σ ((((Γ.set j .un).set i .un).set i (.dat d)).set j (.dat e)) [i, j] (.tuple [d, e]) H := fun X' H3 m k t v hd Ψ q =>
  g_pair hd fun u w h1 h2 => q _ ((((E.more m).mono k).wipe [i, j] |>.set h1).set h2) (wipe_two hij)
theorem g_lc {wi : TI} {g : TG} {tt : TT} {te : TE} {vs : List Nat} {Γ2 : PyData → List Sv} (f : PyData → Bool) (h : PyData → PyData) (t : Trk X H) (hi : GI X wi σ H ds) (hl : ds.length ≤ 1000000)
    (hg : ∀ H1, Same H H1 → ∀ d ∈ ds, Tgt X g σ (Γ2 d) vs d H1)
    (ht : ∀ X' H1 σ2 d, d ∈ ds → Trk X' H1 → EnvOk X' H1 σ2 (Γ2 d) → GT tt σ2 H1 (f d))
    (he : ∀ X' H1 σ2 d, d ∈ ds → f d = true → Trk X' H1 → EnvOk X' H1 σ2 (Γ2 d) → G X' te σ2 H1 (h d)) : G X (tLc wi g tt te vs) σ H (.list ((ds.filter f).map h)) := fun H1 s Q q =>
  hi H1 s _ fun J H2 s2 w => by
    intro D hD
    obtain ⟨Gd, Y, w1, w2⟩ := w
    have s02 : Same H H2 := s.trans s2
    have t2 : Trk X H2 := t.mono s02
    let X' : Addr → Prop := fun a => X a ∨ a = D
    have m2 : More X X' H2 := More.one hD
    have key : ∀ H3, Same H2 H3 ∧ Trk X' H3 → Gd H3 := fun H3 p => (w2 X' m2.2 H3 (Kp.of p.1) p.2).1
    refine lc_it w1 (fun i H3 => Same H2 H3 ∧ Trk X' H3 ∧ ∃ acc, H3 D = some (.lst acc) ∧ DXs X' H3 acc (((ds.take i).filter f).map h)) ?_ ?_ ?_ ?_
    · exact ⟨Same.upd hD, t2.one hD, [], upd_same, .nil⟩
    · rintro i H3 _ ⟨p1, p2, _⟩
      exact key H3 ⟨p1, p2⟩
    · rintro i x H3 H4 hi' ⟨p1, p2, acc, p3, p4⟩ y
      obtain ⟨s4, d, hd, dx⟩ := (w2 X' m2.2 H3 (Kp.of p1) p2).2 i x H4 y
      have hmem : d ∈ ds := List.mem_of_getElem? hd
      have k4 : Kp X' H2 H4 := Kp.of (p1.trans s4)
      have t4 : Trk X' H4 := p2.mono s4
      refine hg H2 s02 d hmem X' H4 m2 k4 t4 x dx _ fun σ2 E2 hw => ⟨hw, ?_⟩
      have etake : ds.take (i + 1) = ds.take i ++ [d] := by rw [List.take_succ, hd]; rfl
      refine ht X' H4 σ2 d hmem t4 E2 H4 (Same.refl _) _ fun H5 s5 => ?_
      have lacc : acc.length ≤ 1000000 := by
        rw [p4.length, List.length_map]
        exact Nat.le_trans (List.length_filter_le _ _) (Nat.le_trans (List.length_take_le _ _) (by omega))
      cases hf : f d with
      | true =>
        refine iteT ?_
        refine he X' H4 σ2 d hmem hf t4 E2 H5 s5 _ fun y H6 s6 ry => ?_
        have s36 : Same H3 H6 := (s4.trans s5).trans s6
        refine ⟨acc, s36 D _ p3, by rw [sizeLine_eq]; omega, ?_, ?_, acc ++ [y], upd_same, ?_⟩
        · exact Same.mut (p1.trans s36) hD
        · exact (p2.mono s36).put
        · rw [etake, List.filter_append, List.map_append]
          have ef : List.filter f [d] = [d] := by simp [hf]
          rw [ef]
          exact ((p4.mono (Kp.of s36)).snoc ry).mono (Kp.put (.inr rfl))
      | false =>
        refine iteF ?_
        have s35 : Same H3 H5 := s4.trans s5
        refine ⟨p1.trans s35, p2.mono s35, acc, s35 D _ p3, ?_⟩
        rw [etake, List.filter_append, List.map_append]
        have ef : List.filter f [d] = [] := by simp [hf]
        rw [ef, List.map_nil, List.append_nil]
        exact p4.mono (Kp.of s35)
    · rintro H3 ⟨p1, p2, acc, p3, p4⟩
      rw [List.take_length] at p4
      have nXD : ¬ X D := t2.new hD
      -- D itself is a datum again
      exact q (.ref D) H3 (s2.trans p1) (.lst nXD p3 (p4.less fun a => .inl))
/-- without a test -/
theorem g_lc1 {wi : TI} {g : TG} {te : TE} {vs : List Nat} {Γ2 : PyData → List Sv} (h : PyData → PyData) (t : Trk X H) (hi : GI X wi σ H ds) (hl : ds.length ≤ 1000000)
    (hg : ∀ H1, Same H H1 → ∀ d ∈ ds, Tgt X g σ (Γ2 d) vs d H1)
    (he : ∀ X' H1 σ2 d, d ∈ ds → Trk X' H1 → EnvOk X' H1 σ2 (Γ2 d) → G X' te σ2 H1 (h d)) : G X (tLc wi g tYes te vs) σ H (.list (ds.map h)) := by
  have e : ds.map h = (ds.filter fun _ => true).map h := by rw [List.filter_eq_self.mpr (fun _ _ => rfl)]
  rw [e]
  exact g_lc (fun _ => true) h t hi hl hg (fun X' H2 σ2 z _ _ _ H3 s3 Q3 q3 => q3 H3 (Same.refl _)) fun X' H1 σ2 d m _ t2 E2 => he X' H1 σ2 d m t2 E2
end
end KD

namespace KD
open PySem PySem.Spec PyProof.Rows L2
/-! ### defs of the text that are called by their names -/
structure Own (P : Program) (w : World) (K : PySem.W.Frag) (mg : Str → Option Value) (base : Heap) (CX : CXT) (k : Nat) (x : Str) (ps : List Str) (sp : Sp) : Prop where
  ex : ∃ (f : Addr) (fd : FuncData), mg x = some (.ref f) ∧ PySem.W.keepIn K (.ref f) = true ∧ Binds K fd ps [] ∧ FnOk P w K mg base CX k f fd ps sp
section
variable {X : Cx} {k j : Nat} {x : Str} {ps : List Str} {sp : Sp} {e : Expr} {es : List Expr} {p pos : Pos} {ta : TA}
theorem pe_own (O : Own X.prog X.w X.K X.mg X.base CX0 k x ps sp) (hr : Room j X.A) (hk : k ≤ j) (hg : Gl X x) (ha : PA X (e :: es) ta) (hdb : (x == ("__debug__" : Str)) = false := by decide)
    (he : starEach (e :: es) X.env = (false, eval e X.env) :: starEach es X.env := by rfl) (hpl : (backTo pos (starEach es X.env)).any (·.1) = false := by rfl) : PE X (.Call (.Name x p) (e :: es) [] pos) (tCall sp [] E0 ta) := by
  obtain ⟨f, fd, h1, h2, h3, h4⟩ := O.ex
  exact pe_call h4 (hr.mono hk) hg h1 h2 h3 .nil pass0 ha hdb he hpl
end
/-! ### promises over data -/
def sp1 (pre : PyData → Prop) (f : PyData → PyData) : Sp := fun vs H Q _ => ∃ (X : Addr → Prop) (v : V) (d : PyData), vs = [v] ∧ Trk X H ∧ DX X H v d ∧ pre d ∧ ∀ w H', Same H H' → DX X H' w (f d) → Q w H'
def sp2 (pre : PyData → PyData → Prop) (f : PyData → PyData → PyData) : Sp := fun vs H Q _ => ∃ (X : Addr → Prop) (v1 v2 : V) (d1 d2 : PyData), vs = [v1, v2] ∧ Trk X H ∧ DX X H v1 d1 ∧ DX X H v2 d2 ∧ pre d1 d2 ∧ ∀ w H', Same H H' → DX X H' w (f d1 d2) → Q w H'
def sp3 (pre : PyData → PyData → PyData → Prop) (f : PyData → PyData → PyData → PyData) : Sp := fun vs H Q _ => ∃ (X : Addr → Prop) (v1 v2 v3 : V) (d1 d2 d3 : PyData), vs = [v1, v2, v3] ∧ Trk X H ∧ DX X H v1 d1 ∧ DX X H v2 d2 ∧ DX X H v3 d3 ∧ pre d1 d2 d3 ∧ ∀ w H', Same H H' → DX X H' w (f d1 d2 d3) → Q w H'
section
variable {X : Addr → Prop} {σ : L2.St} {H : Hp} {ta tb tc : TE} {d d1 d2 d3 : PyData} {E : XK}
theorem g_call1 {pre : PyData → Prop} {f : PyData → PyData} (t : Trk X H) (h : G X ta σ H d) (hp : pre d) : G X (tCall (sp1 pre f) [] E (tCons ta tNil)) σ H (f d) :=
  g_call (ga_cons h ga_nil) fun vs H1 s rs Q q => by
    cases rs with
    | cons r1 r2 =>
      cases r2
      exact ⟨X, _, d, rfl, t.mono s, r1, hp, q⟩
theorem g_call2 {pre : PyData → PyData → Prop} {f : PyData → PyData → PyData} (t : Trk X H) (h1 : G X ta σ H d1) (h2 : G X tb σ H d2) (hp : pre d1 d2) : G X (tCall (sp2 pre f) [] E (tCons ta (tCons tb tNil))) σ H (f d1 d2) :=
  g_call (ga_cons h1 (ga_cons h2 ga_nil)) fun vs H1 s rs Q q => by
    cases rs with
    | cons r1 r2 =>
      cases r2 with
      | cons r2 r3 =>
        cases r3
        exact ⟨X, _, _, d1, d2, rfl, t.mono s, r1, r2, hp, q⟩
theorem g_call3 {pre : PyData → PyData → PyData → Prop} {f : PyData → PyData → PyData → PyData} (t : Trk X H) (h1 : G X ta σ H d1) (h2 : G X tb σ H d2) (h3 : G X tc σ H d3) (hp : pre d1 d2 d3) : G X (tCall (sp3 pre f) [] E (tCons ta (tCons tb (tCons tc tNil)))) σ H (f d1 d2 d3) :=
  g_call (ga_cons h1 (ga_cons h2 (ga_cons h3 ga_nil))) fun vs H1 s rs Q q => by
    cases rs with
    | cons r1 r2 =>
      cases r2 with
      | cons r2 r3 =>
        cases r3 with
        | cons r3 r4 =>
          cases r4
          exact ⟨X, _, _, _, d1, d2, d3, rfl, t.mono s, r1, r2, r3, hp, q⟩
end
/-! ### a def's body -/
section
variable {P : Program} {w : World} {K : PySem.W.Frag} {mg : Str → Option Value} {base : Heap} {x qual : Str} {st : Stmt} {f : Addr} {fd : FuncData} {N : List Str} {k : Nat} {a b c : Str}
def pad (N : List Str) (ss : List Sv) : List Sv := ss ++ List.replicate (N.length - ss.length) .un
theorem env1 {X : Addr → Prop} {H : Hp} {v : V} {d : PyData} (h : DX X H v d) (hN : 1 ≤ N.length) : EnvOk X H (L2.start N [v]) (pad N [.dat d]) :=
  envOk_start rfl (fun i s e u e2 => by
    match i, e, e2 with
    | 0, e, e2 => cases e; cases e2; exact ⟨_, rfl, h⟩) hN
theorem env2 {X : Addr → Prop} {H : Hp} {v1 v2 : V} {d1 d2 : PyData} (h1 : DX X H v1 d1) (h2 : DX X H v2 d2) (hN : 2 ≤ N.length) : EnvOk X H (L2.start N [v1, v2]) (pad N [.dat d1, .dat d2]) :=
  envOk_start rfl (fun i s e u e2 => by
    match i, e, e2 with
    | 0, e, e2 => cases e; cases e2; exact ⟨_, rfl, h1⟩
    | 1, e, e2 => cases e; cases e2; exact ⟨_, rfl, h2⟩) hN
theorem env3 {X : Addr → Prop} {H : Hp} {v1 v2 v3 : V} {d1 d2 d3 : PyData} (h1 : DX X H v1 d1) (h2 : DX X H v2 d2) (h3 : DX X H v3 d3) (hN : 3 ≤ N.length) : EnvOk X H (L2.start N [v1, v2, v3]) (pad N [.dat d1, .dat d2, .dat d3]) :=
  envOk_start rfl (fun i s e u e2 => by
    match i, e, e2 with
    | 0, e, e2 => cases e; cases e2; exact ⟨_, rfl, h1⟩
    | 1, e, e2 => cases e; cases e2; exact ⟨_, rfl, h2⟩
    | 2, e, e2 => cases e; cases e2; exact ⟨_, rfl, h3⟩) hN
theorem ok1 {pre : PyData → Prop} {g : PyData → PyData} (F : Fun K x qual st f fd) (S : FnScope N [a] (defScope st)) (hN : 1 ≤ N.length)
    (hbody : ∀ (cdv : Value) (A : Around) (outer : List Env) (s : Shared) (H : Hp) (E : XK) (X : Addr → Prop) (d : PyData) (Q : VK), Room k (A.deeper (envOfC qual (defScope st) s.heap.objs.size f cdv)) → Trk X H → pre d → (∀ w H', Same H H' → DX X H' w (g d) → Q w H') →
      ∃ t, PSs (cxOf CX0 P w K mg base N qual (defScope st) f cdv A outer s H E).nox (defBody st) t ∧ ∀ σ, EnvOk X H σ (pad N [.dat d]) → t { nx := fun _ H' => Q .non H', rt := Q } σ H) : FnOk P w K mg base CX0 (k + 1) f fd [a] (sp1 pre g) := by
  refine F.ok S (fun vs H Q E h => ?_) (fun cdv A outer s H vs Q E hr h => ?_)
  · obtain ⟨X, v, d, rfl, _⟩ := h
    rfl
  · obtain ⟨X, v, d, rfl, t, hd, hp, q⟩ := h
    obtain ⟨tt, h1, h2⟩ := hbody cdv A outer s H E X d Q hr t hp q
    exact ⟨tt, h1, h2 _ (env1 hd hN)⟩
theorem ok2 {pre : PyData → PyData → Prop} {g : PyData → PyData → PyData} (F : Fun K x qual st f fd) (S : FnScope N [a, b] (defScope st)) (hN : 2 ≤ N.length)
    (hbody : ∀ (cdv : Value) (A : Around) (outer : List Env) (s : Shared) (H : Hp) (E : XK) (X : Addr → Prop) (d1 d2 : PyData) (Q : VK), Room k (A.deeper (envOfC qual (defScope st) s.heap.objs.size f cdv)) → Trk X H → pre d1 d2 → (∀ w H', Same H H' → DX X H' w (g d1 d2) → Q w H') →
      ∃ t, PSs (cxOf CX0 P w K mg base N qual (defScope st) f cdv A outer s H E).nox (defBody st) t ∧ ∀ σ, EnvOk X H σ (pad N [.dat d1, .dat d2]) → t { nx := fun _ H' => Q .non H', rt := Q } σ H) : FnOk P w K mg base CX0 (k + 1) f fd [a, b] (sp2 pre g) := by
  refine F.ok S (fun vs H Q E h => ?_) (fun cdv A outer s H vs Q E hr h => ?_)
  · obtain ⟨X, v1, v2, d1, d2, rfl, _⟩ := h
    rfl
  · obtain ⟨X, v1, v2, d1, d2, rfl, t, r1, r2, hp, q⟩ := h
    obtain ⟨tt, h1, h2⟩ := hbody cdv A outer s H E X d1 d2 Q hr t hp q
    exact ⟨tt, h1, h2 _ (env2 r1 r2 hN)⟩
end
/-! ### statements -/
section
variable {X : Addr → Prop} {σ : L2.St} {H : Hp} {te : TE} {tt : TT} {tu tw tz : TS} {d : PyData} {D : Ends} {Γ : List Sv} {Q : VK}
theorem s_ret (h : G X te σ H d) (q : ∀ w H', Same H H' → DX X H' w d → D.rt w H') : tRet te D σ H := h H (Same.refl H) _ q
theorem s_if {b : Bool} (h : GT tt σ H b) (h1 : b = true → ∀ H1, Same H H1 → tu D σ H1) (h2 : b = false → ∀ H1, Same H H1 → tw D σ H1) : tIfS tt tu tw D σ H := h H (Same.refl H) _ fun H1 s => by
  cases b with
  | true => exact iteT (h1 rfl H1 s)
  | false => exact iteF (h2 rfl H1 s)
theorem q_if {b : Bool} (h : GT tt σ H b) (h1 : b = true → ∀ H1, Same H H1 → tu { D with nx := tz D } σ H1) (h2 : b = false → ∀ H1, Same H H1 → tz D σ H1) : tSeq (tIfS tt tu tNext) tz D σ H := s_if (D := { D with nx := tz D }) h h1 h2
theorem q_asg {g : TG} (h : G X te σ H d) (k : ∀ H1 v, Same H H1 → DX X H1 v d → g v σ H1 (fun σ2 H2 => tz D σ2 H2)) : tSeq (tAsg te g) tz D σ H := h H (Same.refl H) _ fun v H1 s r => k H1 v s r
theorem q_set {i : Nat} (En : EnvOk X H σ Γ) (h : G X te σ H d) (k : ∀ H1 v, Same H H1 → EnvOk X H1 (σ.set i (some v)) (Γ.set i (.dat d)) → tz D (σ.set i (some v)) H1) : tSeq (tAsg te (gName i)) tz D σ H := h H (Same.refl H) _ fun v H1 s r => k H1 v s ((En.same s).set r)
end
/-- a for over data: I by the base heap, the turn, the slots, the heap -/
theorem s_forD {X : Addr → Prop} {σ : L2.St} {H : Hp} {wi : TI} {g : TG} {tb : TS} {D : Ends} {ds : List PyData} (hi : GI X wi σ H ds) (I : Hp → Nat → L2.St → Hp → Prop) (h0 : ∀ Hb, Same H Hb → I Hb 0 σ Hb)
    (hk : ∀ Hb i σ' H', I Hb i σ' H' → Kp X Hb H' ∧ Trk X H')
    (hs : ∀ Hb i x d σ' H' H'', Same H Hb → ds[i]? = some d → I Hb i σ' H' → Same H' H'' → DX X H'' x d → g x σ' H'' fun σ2 H2 => tb { D with nx := I Hb (i + 1), ct := I Hb (i + 1), bk := D.nx } σ2 H2)
    (hd : ∀ Hb σ' H', Same H Hb → I Hb ds.length σ' H' → D.nx σ' H') : tFor wi g tb D σ H := hi H (Same.refl H) _ fun J H2 s w => by
  obtain ⟨Gd, Y, w1, w2⟩ := w
  have key : ∀ i σ' H', I H2 i σ' H' → _ := fun i σ' H' p => w2 X (fun _ => .inl) H' (hk H2 i σ' H' p).1 (hk H2 i σ' H' p).2
  refine for_it w1 (I H2) (h0 H2 s) (fun i σ' H' _ p => (key i σ' H' p).1) (fun i x σ' H' H'' _ p y => ?_) (fun σ' H' p => hd H2 σ' H' s p)
  obtain ⟨s4, d, hd1, dx⟩ := (key i σ' H' p).2 i x H'' y
  exact hs H2 i x d σ' H' H'' s hd1 p s4 dx
/-! ### the language's own names; tests of kinds -/
structure Bl (mg : Str → Option Value) : Prop where
  b_isinstance : mg "isinstance" = none
  b_len : mg "len" = none
  b_list : mg "list" = none
  b_tuple : mg "tuple" = none
  b_dict : mg "dict" = none
  b_int : mg "int" = none
  b_bool : mg "bool" = none
  b_str : mg "str" = none
  b_min : mg "min" = none
  b_all : mg "all" = none
  b_range : mg "range" = none
  b_enumerate : mg "enumerate" = none
  b_zip : mg "zip" = none
  b_repr : mg "repr" = none
section
variable {X : Cx}
abbrev rAddA : R2 := fun x y H Q => (rI0 fun i j => V.int (i + j)) x y H Q ∨ (fun x y H Q => rCat x y H Q ∨ (fun x y H Q => ∃ i j, x = V.str i ∧ y = V.str j ∧ i.length + j.length ≤ sizeLine ∧ Q (V.str (i ++ j)) H) x y H Q) x y H Q
abbrev rMulA : R2 := fun x y H Q => (rI CMul fun i j => V.int (i * j)) x y H Q ∨ rRep x y H Q
theorem op_addA : OpR X (binaryOp .Add) rAddA := op_add.or (op_cat.or op_add_str)
theorem op_mulA : OpR X (binaryOp .Mult) rMulA := op_mul.or op_rep
end
section
variable {X : Addr → Prop} {te ta tb : TE} {σ : L2.St} {H : Hp} {d : PyData} {K : PySem.W.Frag}
theorem isDs_seq (d : PyData) : isDs ["list", "tuple"] d = isSeq d := by
  unfold isDs
  rw [List.any_cons, List.any_cons, List.any_nil, isD_list, isD_tuple]
  cases d <;> rfl
theorem g_isSeq (h : G X te σ H d) : G X (tCB (rIsiT K) (tCons te (tCons (tTup (tCons (tC (.ty "list")) (tCons (tC (.ty "tuple")) tNil))) tNil))) σ H (.bool (isSeq d)) := by
  rw [← isDs_seq]
  exact g_isiT (ns := ["list", "tuple"]) h rfl (by decide) fun n hn => by
    simp at hn
    rcases hn with rfl | rfl
    · exact ksm_list d
    · exact ksm_tuple d
theorem g_isInt (h : G X te σ H d) : G X (tCB (rIsi K) (tCons te (tCons (tC (.ty "int")) tNil))) σ H (.bool (isa_int d)) := by
  rw [← isD_int]; exact g_isi h (ksm_int d)
theorem g_isBool (h : G X te σ H d) : G X (tCB (rIsi K) (tCons te (tCons (tC (.ty "bool")) tNil))) σ H (.bool (isa_bool d)) := by
  rw [← isD_bool]; exact g_isi h (ksm_bool d)
theorem g_isStr (h : G X te σ H d) : G X (tCB (rIsi K) (tCons te (tCons (tC (.ty "str")) tNil))) σ H (.bool (isa_str d)) := by
  rw [← isD_str]; exact g_isi h (ksm_str d)
theorem g_isList (h : G X te σ H d) : G X (tCB (rIsi K) (tCons te (tCons (tC (.ty "list")) tNil))) σ H (.bool (isa_list d)) := by
  rw [← isD_list]; exact g_isi h (ksm_list d)
theorem g_isTuple (h : G X te σ H d) : G X (tCB (rIsi K) (tCons te (tCons (tC (.ty "tuple")) tNil))) σ H (.bool (isa_tuple d)) := by
  rw [← isD_tuple]; exact g_isi h (ksm_tuple d)
theorem g_isDict (h : G X te σ H d) : G X (tCB (rIsi K) (tCons te (tCons (tC (.ty "dict")) tNil))) σ H (.bool (isa_dict d)) := by
  rw [← isD_dict]; exact g_isi h (ksm_dict d)
theorem g_len (t : Trk X H) (h : G X te σ H d) (hl : hasLen d = true) : G X (tCB (fun xs H Q => ∃ x n, xs = [x] ∧ LenV K x H n ∧ Q (V.int n) H) (tCons te tNil)) σ H (.int (lenD d : Int)) := g_cb t (ga_cons h ga_nil) (rf_len hl)
theorem g_listOf (t : Trk X H) (h : G X te σ H d) (hl : isSeq d = true) : G X (tCB (fun xs H Q => ∃ p ys, xs = [V.ref p] ∧ (SqL K H p ys ∨ SqT K H p ys) ∧ ∀ l, H l = none → Q (V.ref l) (upd H l (.lst ys))) (tCons te tNil)) σ H (.list (itemsD d)) := g_cb t (ga_cons h ga_nil) (rf_list hl)
theorem g_addI (t : Trk X H) {i j : Int} (ha : G X ta σ H (.int i)) (hb : G X tb σ H (.int j)) : G X (tOp rAddA ta tb) σ H (.int (i + j)) := g_op t ha hb (RD.or1 (rd_I0 (g := fun i j => i + j)))
theorem g_cat (t : Trk X H) {xs ys : List PyData} (ha : G X ta σ H (.list xs)) (hb : G X tb σ H (.list ys)) (hl : xs.length + ys.length ≤ 1000000) : G X (tOp rAddA ta tb) σ H (.list (xs ++ ys)) := g_op t ha hb (RD.or2 (RD.or1 (rd_cat hl)))
theorem g_sub (t : Trk X H) {i j : Int} (ha : G X ta σ H (.int i)) (hb : G X tb σ H (.int j)) : G X (tOp (rI0 fun i j => V.int (i - j)) ta tb) σ H (.int (i - j)) := g_op t ha hb (rd_I0 (g := fun i j => i - j))
theorem g_cmpI (t : Trk X H) {g : Int → Int → Bool} {i j : Int} (ha : G X ta σ H (.int i)) (hb : G X tb σ H (.int j)) : G X (tOp (rI0 fun i j => V.bl (g i j)) ta tb) σ H (.bool (g i j)) := g_op t ha hb rb_I0.rd
theorem gt_cmpI (t : Trk X H) {g : Int → Int → Bool} {i j : Int} (ha : G X ta σ H (.int i)) (hb : G X tb σ H (.int j)) : GT (tTest (tOp (rI0 fun i j => V.bl (g i j)) ta tb)) σ H (g i j) := gt_op t ha hb rb_I0
theorem g_ixL (t : Trk X H) {ds : List PyData} {i : Int} {z : PyData} (ha : G X ta σ H (.list ds)) (hb : G X tb σ H (.int i)) (h : atI ds i = some z) : G X (tOp (rIx K) ta tb) σ H z := g_op t ha hb (rd_ixL h)
theorem g_ixT (t : Trk X H) {ds : List PyData} {i : Int} {z : PyData} (ha : G X ta σ H (.tuple ds)) (hb : G X tb σ H (.int i)) (h : atI ds i = some z) : G X (tOp (rIx K) ta tb) σ H z := g_op t ha hb (rd_ixT h)
/-- an item of a list or tuple -/
theorem g_ix (t : Trk X H) {i : Int} {z : PyData} (ha : G X ta σ H d) (hs : isSeq d = true) (hb : G X tb σ H (.int i)) (h : atI (itemsD d) i = some z) : G X (tOp (rIx K) ta tb) σ H z := by
  cases d with
  | list ds => exact g_ixL t ha hb h
  | tuple ds => exact g_ixT t ha hb h
  | _ => cases hs
theorem g_eqD (t : Trk X H) {x y : PyData} (ha : G X ta σ H x) (hb : G X tb σ H y) (hd : noDict x = true) (he : noDict y = true) (hs : SeqAt.shaped x = true) (ht : SeqAt.shaped y = true) : G X (tOp (rEqD K) ta tb) σ H (.bool (PyData.eqv x y)) := g_op t ha hb (rb_eqD hd he hs ht).rd
theorem gt_eqD (t : Trk X H) {x y : PyData} (ha : G X ta σ H x) (hb : G X tb σ H y) (hd : noDict x = true) (he : noDict y = true) (hs : SeqAt.shaped x = true) (ht : SeqAt.shaped y = true) : GT (tTest (tOp (rEqD K) ta tb)) σ H (PyData.eqv x y) := gt_op t ha hb (rb_eqD hd he hs ht)
theorem gt_neD (t : Trk X H) {x y : PyData} (ha : G X ta σ H x) (hb : G X tb σ H y) (hd : noDict x = true) (he : noDict y = true) (hs : SeqAt.shaped x = true) (ht : SeqAt.shaped y = true) : GT (tTest (tOp (rNeD K) ta tb)) σ H (!PyData.eqv x y) := gt_op t ha hb (rb_neD hd he hs ht)
end
/-! ### a list or a tuple walked -/
def iSeq (K : PySem.W.Frag) (tl : TE) : TI := fun σ H R => tl σ H fun x H1 => ∃ c, x = V.ref c ∧ (((∃ zs, SqL K H1 c zs) ∧ R (Itl K c) H1) ∨ ((∃ zs, SqT K H1 c zs) ∧ R (Itt K c) H1))
theorem pi_seq {Y : Cx} {tg l : Expr} {tl : TE} (hl : PE Y l tl) : PI Y tg l (iSeq Y.K tl) := by
  constructor
  intro pn st sl hh RR inv rd
  refine thn (hl.run pn st sl hh _ inv rd) ?_
  rintro val st1 ⟨x, hh1, inv1, rel, c, rfl, alt⟩
  cases rel
  have fresh := inv1.hok.fresh (Nat.le_refl st1.heap.objs.size)
  have fpk : ∀ b ∈ [st1.heap.objs.size], _ := fun b hb => by
    have eb := List.mem_singleton.mp hb
    exact eb ▸ inv1.fpOk (Nat.le_refl _) fresh
  rcases alt with ⟨⟨zs, sq⟩, rest⟩ | ⟨⟨zs, sq⟩, rest⟩
  · obtain ⟨us, _, pl, _⟩ := inv1.list sq
    exact wpAny_pyIter_list pl.isList
      ⟨_, _, _, _, _, rfl, inv1.kept (t' := st1.toks) (fun _ _ z => Heap.get?_push_of_some _ z), turn_list c _,
        ⟨_, Heap.get?_push_size _ rfl, rfl, rfl⟩, fpk, rest⟩
  · obtain ⟨us, _, pl, _⟩ := inv1.tuple sq
    exact wpAny_pyIter_tuple (items := us.toArray) pl
      ⟨_, _, _, _, _, rfl, inv1.kept (t' := st1.toks) (fun _ _ z => Heap.get?_push_of_some _ z), turn_tuple c _,
        ⟨_, Heap.get?_push_size _ rfl, rfl, rfl⟩, fpk, rest⟩
theorem gi_seq {X : Addr → Prop} {σ : L2.St} {H : Hp} {te : TE} {K : PySem.W.Frag} {d : PyData} (h : G X te σ H d) (hs : isSeq d = true) : GI X (iSeq K te) σ H (itemsD d) := by
  cases d with
  | list ds =>
      intro H1 s R r
      refine h H1 s _ fun v H2 s2 rv => ?_
      obtain ⟨a, xs, rfl, n, e, rx⟩ := rv.lst_inv
      obtain ⟨a', e', _, rr⟩ := gi_list (K := K) (te := fun _ H Q => Q (.ref a) H) (σ := σ) (H := H2) (X := X) (ds := ds) (fun H5 s5 Q5 q5 => q5 _ H5 (Same.refl _) (rv.mono (Kp.of s5))) H2 (Same.refl _) R (fun J H3 s3 => r J H3 (s2.trans s3))
      cases e'
      exact ⟨a, rfl, .inl ⟨⟨xs, SqL.of e⟩, rr⟩⟩
  | tuple ds =>
      intro H1 s R r
      refine h H1 s _ fun v H2 s2 rv => ?_
      obtain ⟨a, xs, rfl, n, e, rx⟩ := rv.tup_inv
      obtain ⟨a', e', _, rr⟩ := gi_tup (K := K) (te := fun _ H Q => Q (.ref a) H) (σ := σ) (H := H2) (X := X) (ds := ds) (fun H5 s5 Q5 q5 => q5 _ H5 (Same.refl _) (rv.mono (Kp.of s5))) H2 (Same.refl _) R (fun J H3 s3 => r J H3 (s2.trans s3))
      cases e'
      exact ⟨a, rfl, .inr ⟨⟨xs, SqT.of e⟩, rr⟩⟩
  | _ => cases hs
/-! ### data that may be compared: words, ints, lists of words -/
theorem shaped_int (i : Int) : SeqAt.shaped (.int i) = true := by simp [SeqAt.shaped, PyData.canLay0, PyData.depth]
theorem shaped_str {s : Str} (h : PyData.strOk s = true) : SeqAt.shaped (.str s) = true := by simp [SeqAt.shaped, PyData.canLay0, PyData.depth, h]
theorem canLay_strs : ∀ {ws : List Str}, (∀ w ∈ ws, PyData.strOk w = true) → PyData.canLayAll0 (ws.map PyData.str) = true
  | [], _ => by simp [PyData.canLayAll0]
  | w :: ws, h => by
    have h1 := h w List.mem_cons_self
    have h2 := canLay_strs (ws := ws) fun v hv => h v (List.mem_cons_of_mem _ hv)
    simp [PyData.canLayAll0, PyData.canLay0, h1, h2]
theorem depth_strs : ∀ ws : List Str, PyData.depthAll (ws.map PyData.str) ≤ 1
  | [] => by simp [PyData.depthAll]
  | w :: ws => by
    have := depth_strs ws
    simp only [List.map_cons, PyData.depthAll, PyData.depth]
    omega
theorem shaped_strs {ws : List Str} (h : ∀ w ∈ ws, PyData.strOk w = true) : SeqAt.shaped (.list (ws.map PyData.str)) = true := by
  have := depth_strs ws
  have h2 : PyData.depth (.list (ws.map PyData.str)) ≤ 64 := by
    simp only [PyData.depth]
    omega
  show ((PyData.list (ws.map PyData.str)).canLay0 && decide ((PyData.list (ws.map PyData.str)).depth ≤ 64)) = true
  rw [Bool.and_eq_true]
  exact ⟨by simp only [PyData.canLay0]; exact canLay_strs h, decide_eq_true h2⟩
theorem noDict_strs : ∀ ws : List Str, noDicts (ws.map PyData.str) = true
  | [] => by simp [noDicts]
  | w :: ws => by simp [noDicts, noDict, noDict_strs ws]
theorem eqv_strs : ∀ ws zs : List Str, PyData.eqvAll (ws.map PyData.str) (zs.map PyData.str) = decide (ws = zs)
  | [], [] => by simp [PyData.eqvAll]
  | [], z :: zs => by simp [PyData.eqvAll]
  | w :: ws, [] => by simp [PyData.eqvAll]
  | w :: ws, z :: zs => by
    simp only [List.map_cons, PyData.eqvAll, PyData.eqv, eqv_strs ws zs]
    by_cases h : w = z
    · subst h
      simp
    · have : (w == z) = false := by simpa using h
      rw [this]
      simp [h]
/-! ### what is new -/
def Nw (H : Hp) (v : V) : Prop := ∀ a, v = .ref a → H a = none
theorem Nw.back {H H1 : Hp} {v : V} (s : Same H H1) (n : Nw H1 v) : Nw H v := fun a e => s.free (n a e)
theorem Nw.of {H : Hp} {p : Addr} (h : H p = none) : Nw H (.ref p) := fun a e => by cases e; exact h
def GN (X : Addr → Prop) (te : TE) (σ : L2.St) (H : Hp) (d : PyData) : Prop := ∀ H1, Same H H1 → ∀ Q : VK, (∀ v H2, Same H1 H2 → DX X H2 v d → Nw H1 v → Q v H2) → te σ H1 Q
def sp2N (pre : PyData → PyData → Prop) (f : PyData → PyData → PyData) : Sp := fun vs H Q _ => ∃ (X : Addr → Prop) (v1 v2 : V) (d1 d2 : PyData), vs = [v1, v2] ∧ Trk X H ∧ DX X H v1 d1 ∧ DX X H v2 d2 ∧ pre d1 d2 ∧ ∀ w H', Same H H' → DX X H' w (f d1 d2) → Nw H w → Q w H'
section
variable {X : Addr → Prop} {σ : L2.St} {H : Hp} {te ta tb tc : TE} {d d1 d2 d3 : PyData} {E : XK} {K : PySem.W.Frag} {D : Ends}
theorem GN.g (h : GN X te σ H d) : G X te σ H d := fun H1 s Q q => h H1 s Q fun v H2 s2 dv _ => q v H2 s2 dv
theorem GN.is {e : PyData} (h : GN X te σ H d) (e' : d = e) : GN X te σ H e := e' ▸ h
theorem gn_lst {ta : TA} {ds : List PyData} (t : Trk X H) (h : GA X ta σ H ds) (hl : ds.length ≤ 1000000) : GN X (tLst ta) σ H (.list ds) := fun H1 s Q q =>
  h H1 s _ fun vs H2 s2 rs => ⟨by rw [rs.length, sizeLine_eq]; omega, fun p hp => q _ _ (s2.trans (Same.upd hp)) (DX.newL ((t.mono s).mono s2) rs hp) (Nw.back s2 (Nw.of hp))⟩
theorem gn_tup {ta : TA} {ds : List PyData} (t : Trk X H) (h : GA X ta σ H ds) (hl : ds.length ≤ 1000000) : GN X (tTup ta) σ H (.tuple ds) := fun H1 s Q q =>
  h H1 s _ fun vs H2 s2 rs => ⟨by rw [rs.length, sizeLine_eq]; omega, fun p hp => q _ _ (s2.trans (Same.upd hp)) (DX.newT ((t.mono s).mono s2) rs hp) (Nw.back s2 (Nw.of hp))⟩
theorem gn_listOf (t : Trk X H) (h : G X te σ H d) (hl : isSeq d = true) : GN X (tCB (fun xs H Q => ∃ p ys, xs = [V.ref p] ∧ (SqL K H p ys ∨ SqT K H p ys) ∧ ∀ l, H l = none → Q (V.ref l) (upd H l (.lst ys))) (tCons te tNil)) σ H (.list (itemsD d)) := fun H1 s Q q =>
  h H1 s _ fun v H2 s2 r => by
    cases r with
    | lst n e r => exact ⟨_, _, rfl, .inl (SqL.of e), fun l hl => q _ _ (s2.trans (Same.upd hl)) (DX.newL ((t.mono s).mono s2) r hl) (Nw.back s2 (Nw.of hl))⟩
    | tup n e r => exact ⟨_, _, rfl, .inr (SqT.of e), fun l hl => q _ _ (s2.trans (Same.upd hl)) (DX.newL ((t.mono s).mono s2) r hl) (Nw.back s2 (Nw.of hl))⟩
    | _ => exact absurd hl (by simp [isSeq])
theorem gn_cat (t : Trk X H) {xs ys : List PyData} (ha : G X ta σ H (.list xs)) (hb : G X tb σ H (.list ys)) (hl : xs.length + ys.length ≤ 1000000) : GN X (tOp rAddA ta tb) σ H (.list (xs ++ ys)) := fun H1 s Q q =>
  ha H1 s _ fun u H2 s2 ru => hb H2 (s.trans s2) _ fun v H3 s3 rv => by
    obtain ⟨a, us, rfl, _, ea, rs⟩ := (ru.mono (Kp.of s3)).lst_inv
    obtain ⟨b, ws, rfl, _, eb, rt⟩ := rv.lst_inv
    exact .inr (.inl ⟨a, b, us, ws, rfl, rfl, ea, eb, by rw [rs.length, rt.length, sizeLine_eq]; omega, fun p hp => q _ _ ((s2.trans s3).trans (Same.upd hp)) (DX.newL (((t.mono s).mono s2).mono s3) (rs.append rt) hp) (Nw.back (s2.trans s3) (Nw.of hp))⟩)
theorem gn_call2 {pre : PyData → PyData → Prop} {f : PyData → PyData → PyData} (t : Trk X H) (h1 : G X ta σ H d1) (h2 : G X tb σ H d2) (hp : pre d1 d2) : GN X (tCall (sp2N pre f) [] E (tCons ta (tCons tb tNil))) σ H (f d1 d2) := fun H1 s Q q =>
  h1 H1 s _ fun v H2 s2 r => h2 H2 (s.trans s2) _ fun v2 H3 s3 r2 => ⟨X, v, v2, d1, d2, rfl, ((t.mono s).mono s2).mono s3, r.mono (Kp.of s3), r2, hp, fun w H' s4 dw nw => q w H' ((s2.trans s3).trans s4) dw (Nw.back (s2.trans s3) nw)⟩
theorem s_retN (h : GN X te σ H d) (q : ∀ w H', Same H H' → DX X H' w d → Nw H w → D.rt w H') : tRet te D σ H := h H (Same.refl H) _ q
end
section
variable {P : Program} {w : World} {K : PySem.W.Frag} {mg : Str → Option Value} {base : Heap} {x qual : Str} {st : Stmt} {f : Addr} {fd : FuncData} {N : List Str} {k : Nat} {a b c : Str}
theorem ok2N {pre : PyData → PyData → Prop} {g : PyData → PyData → PyData} (F : Fun K x qual st f fd) (S : FnScope N [a, b] (defScope st)) (hN : 2 ≤ N.length)
    (hbody : ∀ (cdv : Value) (A : Around) (outer : List Env) (s : Shared) (H : Hp) (E : XK) (X : Addr → Prop) (d1 d2 : PyData) (Q : VK), Room k (A.deeper (envOfC qual (defScope st) s.heap.objs.size f cdv)) → Trk X H → pre d1 d2 → (∀ w H', Same H H' → DX X H' w (g d1 d2) → Nw H w → Q w H') →
      ∃ t, PSs (cxOf CX0 P w K mg base N qual (defScope st) f cdv A outer s H E).nox (defBody st) t ∧ ∀ σ, EnvOk X H σ (pad N [.dat d1, .dat d2]) → t { nx := fun _ H' => Q .non H', rt := Q } σ H) : FnOk P w K mg base CX0 (k + 1) f fd [a, b] (sp2N pre g) := by
  refine F.ok S (fun vs H Q E h => ?_) (fun cdv A outer s H vs Q E hr h => ?_)
  · obtain ⟨X, v1, v2, d1, d2, rfl, _⟩ := h
    rfl
  · obtain ⟨X, v1, v2, d1, d2, rfl, t, r1, r2, hp, q⟩ := h
    obtain ⟨tt, h1, h2⟩ := hbody cdv A outer s H E X d1 d2 Q hr t hp q
    exact ⟨tt, h1, h2 _ (env2 r1 r2 hN)⟩
end
/-! ### a new list is no part of itself -/
mutual
theorem DX.fn {X X' : Addr → Prop} {H : Hp} : ∀ {v : V} {d d' : PyData}, DX X H v d → DX X' H v d' → d = d'
  | _, _, _, .non, k => by cases k; rfl
  | _, _, _, .bl b, k => by cases k; rfl
  | _, _, _, .int i, k => by cases k; rfl
  | _, _, _, .str x, k => by cases k; rfl
  | _, _, _, .lst n e r, k => by
    cases k with
    | lst n2 e2 r2 =>
      rw [e] at e2
      cases e2
      rw [DXs.fn r r2]
    | tup n2 e2 r2 => rw [e] at e2; cases e2
    | dic n2 e2 r2 => rw [e] at e2; cases e2
  | _, _, _, .tup n e r, k => by
    cases k with
    | tup n2 e2 r2 =>
      rw [e] at e2
      cases e2
      rw [DXs.fn r r2]
    | lst n2 e2 r2 => rw [e] at e2; cases e2
    | dic n2 e2 r2 => rw [e] at e2; cases e2
  | _, _, _, .dic n e r, k => by
    cases k with
    | dic n2 e2 r2 =>
      rw [e] at e2
      cases e2
      rw [DXk.fn r r2]
    | lst n2 e2 r2 => rw [e] at e2; cases e2
    | tup n2 e2 r2 => rw [e] at e2; cases e2
theorem DXs.fn {X X' : Addr → Prop} {H : Hp} : ∀ {v : List V} {d d' : List PyData}, DXs X H v d → DXs X' H v d' → d = d'
  | _, _, _, .nil, k => by cases k; rfl
  | _, _, _, .cons h r, k => by
    cases k with
    | cons h2 r2 => rw [DX.fn h h2, DXs.fn r r2]
theorem DXk.fn {X X' : Addr → Prop} {H : Hp} : ∀ {v : List (Key × V)} {d d' : List (PyData × PyData)}, DXk X H v d → DXk X' H v d' → d = d'
  | _, _, _, .nil, k => by cases k; rfl
  | _, _, _, .cons h r, k => by
    cases k with
    | cons h2 r2 => rw [DX.fn h h2, DXk.fn r r2]
end
mutual
theorem DX.apart {X : Addr → Prop} {H : Hp} {a : Addr} {D : PyData} (hD : DX X H (.ref a) D) : ∀ {v : V} {d : PyData}, DX X H v d → sizeOf d < sizeOf D → DX (fun b => X b ∨ b = a) H v d
  | _, _, .non, _ => .non
  | _, _, .bl b, _ => .bl b
  | _, _, .int i, _ => .int i
  | _, _, .str x, _ => .str x
  | .ref b, .list ds, .lst n e r, hs => by
    refine .lst (fun x => x.elim n fun q => ?_) e (DXs.apart hD r (by simp at hs; omega))
    subst q
    have e2 := hD.fn (X' := X) (DX.lst n e r)
    rw [e2] at hs
    omega
  | .ref b, .tuple ds, .tup n e r, hs => by
    refine .tup (fun x => x.elim n fun q => ?_) e (DXs.apart hD r (by simp at hs; omega))
    subst q
    have e2 := hD.fn (X' := X) (DX.tup n e r)
    rw [e2] at hs
    omega
  | .ref b, .dict ds, .dic n e r, hs => by
    refine .dic (fun x => x.elim n fun q => ?_) e (DXk.apart hD r (by simp at hs; omega))
    subst q
    have e2 := hD.fn (X' := X) (DX.dic n e r)
    rw [e2] at hs
    omega
theorem DXs.apart {X : Addr → Prop} {H : Hp} {a : Addr} {D : PyData} (hD : DX X H (.ref a) D) : ∀ {v : List V} {d : List PyData}, DXs X H v d → sizeOf d < sizeOf D → DXs (fun b => X b ∨ b = a) H v d
  | _, _, .nil, _ => .nil
  | _, _, .cons h r, hs => .cons (DX.apart hD h (by simp at hs; omega)) (DXs.apart hD r (by simp at hs; omega))
theorem DXk.apart {X : Addr → Prop} {H : Hp} {a : Addr} {D : PyData} (hD : DX X H (.ref a) D) : ∀ {v : List (Key × V)} {d : List (PyData × PyData)}, DXk X H v d → sizeOf d < sizeOf D → DXk (fun b => X b ∨ b = a) H v d
  | _, _, .nil, _ => .nil
  | _, _, .cons h r, hs => .cons (DX.apart hD h (by simp at hs; omega)) (DXk.apart hD r (by simp at hs; omega))
end
/-- the items of a list, apart from the list itself -/
theorem DX.inner {X : Addr → Prop} {H : Hp} {v : V} {ds : List PyData} (h : DX X H v (.list ds)) : ∃ a xs, v = .ref a ∧ ¬ X a ∧ H a = some (.lst xs) ∧ DXs (fun b => X b ∨ b = a) H xs ds := by
  cases h with
  | lst n e r => exact ⟨_, _, rfl, n, e, DXs.apart (DX.lst n e r) r (by simp)⟩
end KD

namespace K53
open PySem PySem.Spec PyProof.Rows L2 KD
def topS (i : Nat) : Stmt := PySem.Challenge.pw_patchlots_k53_whole_differences.main.body.getD i (.Pass ⟨0, 0, 0, 0⟩)
variable {P : Program} {w : World} {K : PySem.W.Frag} {mg : Str → Option Value} {base : Heap}

abbrev s_is_list : Stmt := topS 5
abbrev n_is_list : List Str := ["thing"]
theorem sc_is_list : FnScope n_is_list ["thing"] (defScope s_is_list) := ⟨rfl, rfl, rfl, by decide +kernel, rfl, by decide +kernel, by decide +kernel⟩
theorem ok_is_list {f : Addr} {fd : FuncData} (F : Fun K "is_list" "is_list" s_is_list f fd) (T : Bl mg) : FnOk P w K mg base CX0 1 f fd ["thing"] (sp1 (fun _ => True) fun d => .bool (isSeq d)) := by
  refine ok1 F sc_is_list (by decide) fun cdv A outer s H E X d Q hr t _ q => ⟨_, (pss_one (ps_ret (pe_callB call_isiT (by rfl) T.b_isinstance boot_isinstance (pa_cons (pv 0) (pa_cons (pe_tup (pa_cons (pe_bltn (v := .ty "list") (by rfl) T.b_list boot_list rfl) (pa_cons (pe_bltn (v := .ty "tuple") (by rfl) T.b_tuple boot_tuple rfl) pa_nil))) pa_nil))))), fun σ En => ?_⟩
  exact s_ret (g_isSeq (g_var En rfl)) q

abbrev s_is_integer : Stmt := topS 6
abbrev n_is_integer : List Str := ["thing"]
theorem sc_is_integer : FnScope n_is_integer ["thing"] (defScope s_is_integer) := ⟨rfl, rfl, rfl, by decide +kernel, rfl, by decide +kernel, by decide +kernel⟩
def isIntD (d : PyData) : Bool := isa_int d && !isa_bool d
theorem ok_is_integer {f : Addr} {fd : FuncData} (F : Fun K "is_integer" "is_integer" s_is_integer f fd) (T : Bl mg) : FnOk P w K mg base CX0 1 f fd ["thing"] (sp1 (fun _ => True) fun d => .bool (isIntD d)) := by
  refine ok1 F sc_is_integer (by decide) fun cdv A outer s H E X d Q hr t _ q => ⟨_, (pss_one (ps_ret (pe_and (pe_callB call_isi (by rfl) T.b_isinstance boot_isinstance (pa_cons (pv 0) (pa_cons (pe_bltn (v := .ty "int") (by rfl) T.b_int boot_int rfl) pa_nil))) (pe_one (pe_not (pe_callB call_isi (by rfl) T.b_isinstance boot_isinstance (pa_cons (pv 0) (pa_cons (pe_bltn (v := .ty "bool") (by rfl) T.b_bool boot_bool rfl) pa_nil)))))))), fun σ En => ?_⟩
  exact s_ret (g_and (g_isInt (g_var En rfl)) fun _ => g_not (g_isBool (g_var En rfl))) q

abbrev s_is_number : Stmt := topS 7
abbrev n_is_number : List Str := ["thing"]
theorem sc_is_number : FnScope n_is_number ["thing"] (defScope s_is_number) := ⟨rfl, rfl, rfl, by decide +kernel, rfl, by decide +kernel, by decide +kernel⟩
def isNumD : PyData → Bool
  | .int i => decide (0 ≤ i)
  | _ => false
theorem isIntD_int {d : PyData} (h : isIntD d = true) : ∃ i, d = .int i := by
  cases d <;> simp [isIntD, isa_int, isa_bool] at h ⊢
theorem isNumD_eq (d : PyData) : (∃ i, d = .int i ∧ isIntD d = true ∧ isNumD d = decide (0 ≤ i)) ∨ (isIntD d = false ∧ isNumD d = false) := by
  cases d <;> simp [isIntD, isa_int, isa_bool, isNumD]
theorem ok_is_number {f : Addr} {fd : FuncData} (F : Fun K "is_number" "is_number" s_is_number f fd) (T : Bl mg) (O_is_integer : Own P w K mg base CX0 1 "is_integer" ["thing"] (sp1 (fun _ => True) fun d => .bool (isIntD d))) : FnOk P w K mg base CX0 2 f fd ["thing"] (sp1 (fun _ => True) fun d => .bool (isNumD d)) := by
  refine ok1 F sc_is_number (by decide) fun cdv A outer s H E X d Q hr t _ q => ⟨_, (pss_one (ps_ret (pe_and (pe_own O_is_integer hr (by decide) (by rfl) (pa_cons (pv 0) pa_nil)) (pe_one (pe_cmpR op_ge (pv 0) pe_int (nomark _)))))), fun σ En => ?_⟩
  refine s_ret ?_ q
  rcases isNumD_eq d with ⟨i, rfl, h1, h2⟩ | ⟨h1, h2⟩
  · rw [h2]
    refine g_is (g_and (a := true) (b := decide (0 ≤ i)) (g_is (g_call1 t (g_var En rfl) trivial) (by rw [h1])) fun _ => ?_) rfl
    exact g_op t (g_var En rfl) g_int rb_I0.rd
  · rw [h2]
    exact g_and (a := false) (b := false) (g_is (g_call1 t (g_var En rfl) trivial) (by rw [h1])) fun z => absurd z (by decide)

-- HINT is_words in op_notIn_sign
def hasFeed (s : Str) : Bool := decide (10 ∈ s.cps.toList)
def isWordsD : PyData → Bool
  | .str s => decide (s.length ≤ 200) && !hasFeed s
  | _ => false
theorem rb_notInSign {X : Addr → Prop} {c : Nat} {s : Str} : RB X (fun x y H Q => ∃ (c : Nat) (z : Str), x = V.str ⟨#[c]⟩ ∧ y = V.str z ∧ Q (V.bl (!decide (c ∈ z.cps.toList))) H) (.str ⟨#[c]⟩) (.str s) (!decide (c ∈ s.cps.toList)) := fun H u v _ ru rv Q q => ⟨c, s, ru.str_inv, rv.str_inv, q⟩
def wordsPre : PyData → Prop
  | .str s => s.length ≤ 1000000
  | _ => True
abbrev s_is_words : Stmt := topS 8
abbrev n_is_words : List Str := ["thing"]
theorem sc_is_words : FnScope n_is_words ["thing"] (defScope s_is_words) := ⟨rfl, rfl, rfl, by decide +kernel, rfl, by decide +kernel, by decide +kernel⟩
theorem ok_is_words {f : Addr} {fd : FuncData} (F : Fun K "is_words" "is_words" s_is_words f fd) (T : Bl mg) : FnOk P w K mg base CX0 1 f fd ["thing"] (sp1 wordsPre fun d => .bool (isWordsD d)) := by
  refine ok1 F sc_is_words (by decide) fun cdv A outer s H E X d Q hr t hp q => ⟨_, (pss_one (ps_ret (pe_and (pe_callB call_isi (by rfl) T.b_isinstance boot_isinstance (pa_cons (pv 0) (pa_cons (pe_bltn (v := .ty "str") (by rfl) T.b_str boot_str rfl) pa_nil))) (pe_and (pe_cmpR op_le (pe_callB call_len (by rfl) T.b_len boot_len (pa_cons (pv 0) pa_nil)) pe_int (nomark _)) (pe_one (pe_cmpR op_notIn_sign pe_str (pv 0) (by rfl))))))), fun σ En => ?_⟩
  refine s_ret ?_ q
  by_cases h : ∃ z, d = .str z
  · obtain ⟨z, rfl⟩ := h
    refine g_is (g_and (a := true) (b := decide (z.length ≤ 200) && !hasFeed z) (g_is (g_isStr (g_var En rfl)) rfl) fun _ => ?_) (by simp [isWordsD])
    refine g_and (a := decide (z.length ≤ 200)) ?_ fun _ => ?_
    · refine g_is (g_cmpI t (g := fun i j => decide (i ≤ j)) (g_len t (g_var En rfl) (by simpa [hasLen, wordsPre] using hp)) g_int) ?_
      show PyData.bool (decide ((z.length : Int) ≤ 200)) = _
      congr 1
      exact decide_eq_decide.mpr (by omega)
    · exact g_op t g_str (g_var En rfl) rb_notInSign.rd
  · have e1 : isa_str d = false := by cases d <;> first | rfl | exact absurd ⟨_, rfl⟩ h
    have e2 : isWordsD d = false := by cases d <;> first | rfl | exact absurd ⟨_, rfl⟩ h
    rw [e2]
    exact g_is (g_and (a := false) (b := false) (g_is (g_isStr (g_var En rfl)) (by rw [e1])) fun z => absurd z (by decide)) rfl
abbrev s_first_false : Stmt := topS 9
abbrev n_first_false : List Str := ["tests", "index", "test"]
theorem sc_first_false : FnScope n_first_false ["tests"] (defScope s_first_false) := ⟨rfl, rfl, rfl, by decide +kernel, rfl, by decide +kernel, by decide +kernel⟩
def ffD : Nat → List PyData → PyData
  | _, [] => .none
  | i, .bool false :: _ => .int (i : Nat)
  | i, _ :: r => ffD (i + 1) r
def Bools (d : PyData) : Prop := ∃ bs : List Bool, d = .list (bs.map .bool) ∧ bs.length ≤ 100000
theorem ff_true (i : Nat) (r : List PyData) : ffD i (.bool true :: r) = ffD (i + 1) r := by simp [ffD]
theorem ok_first_false {f : Addr} {fd : FuncData} (F : Fun K "first_false" "first_false" s_first_false f fd) (T : Bl mg) : FnOk P w K mg base CX0 1 f fd ["tests"] (sp1 Bools fun d => ffD 0 (itemsD d)) := by
  refine ok1 F sc_first_false (by decide) fun cdv A outer s H E X d Q hr t hp q => ⟨_, (pss_cons (ps_for PassesOwn.never rfl (pi_enum (by rfl) T.b_enumerate (pa_cons (pv 0) pa_nil)) (pg_tup (n := 2) rfl (pgs_cons (pg_name (i := 1) sc_first_false.nd rfl (by first | exact Or.inl rfl | exact Or.inr rfl)) (pgs_cons (pg_name (i := 2) sc_first_false.nd rfl (by first | exact Or.inl rfl | exact Or.inr rfl)) pgs_nil)))
    (pss_one (ps_if (pt_not (pt_val (pv 2)))
    (pss_one (ps_ret (pv 1))) pss_nil)))
    (pss_one (ps_ret pe_non))), fun σ En => ?_⟩
  obtain ⟨bs, rfl, hl⟩ := hp
  have q : ∀ w H', Same H H' → DX X H' w (ffD 0 (bs.map PyData.bool)) → Q w H' := q
  refine s_forD (gi_enum (g_var En rfl)) (fun Hb i σ' H' => Same Hb H' ∧ Trk X H' ∧ EnvOk X H' σ' [.dat (.list (bs.map .bool)), .un, .un] ∧ ffD 0 (bs.map PyData.bool) = ffD i ((bs.drop i).map PyData.bool)) (fun Hb s => ⟨Same.refl _, t.mono s, En.same s, rfl⟩) (fun Hb i σ' H' p => ⟨Kp.of p.1, p.2.1⟩) ?_ ?_
  · rintro Hb i x d σ' H' H'' sb hd ⟨p1, p2, p3, p4⟩ s2 dx
    have hi : i < bs.length := by
      have := (List.getElem?_eq_some_iff.mp hd).1
      rw [enumD_len, List.length_map] at this
      exact this
    have hb : (bs.map PyData.bool)[i]? = some (.bool bs[i]) := by rw [List.getElem?_map, List.getElem?_eq_getElem hi]; rfl
    rw [enumD_get hb] at hd
    cases hd
    have edrop : bs.drop i = bs[i] :: bs.drop (i + 1) := List.drop_eq_getElem_cons hi
    refine g_pair dx fun u w h1 h2 => ?_
    have E2 := ((p3.same s2).set (i := 1) h1).set (i := 2) h2
    refine s_if (gt_not (gt_B (g_var E2 rfl))) (fun hb H1 s3 => ?_) (fun hb H1 s3 => ?_)
    · have e : bs[i] = false := by simpa using hb
      refine s_ret (g_var (E2.same s3) rfl) fun w H2 s4 dw => q w H2 ((((sb.trans p1).trans s2).trans s3).trans s4) ?_
      rw [p4, edrop, e]
      exact dw
    · have e : bs[i] = true := by simpa using hb
      refine ⟨(p1.trans s2).trans s3, (p2.mono s2).mono s3, ?_, ?_⟩
      · have E3 := (E2.same s3)
        exact ⟨E3.len, fun j sv e => by
          match j, e with
          | 0, e => exact E3.get 0 _ e
          | 1, e => cases e; trivial
          | 2, e => cases e; trivial⟩
      · rw [p4, edrop, e]
        exact ff_true i _
  · rintro Hb σ' H' sb ⟨p1, p2, p3, p4⟩
    rw [enumD_len, List.length_map, List.drop_length] at p4
    refine s_ret (σ := σ') (X := X) (D := { nx := fun _ H' => Q .non H', rt := Q }) g_non fun w H2 s4 dw => q w H2 ((sb.trans p1).trans s4) ?_
    rw [p4]
    exact dw

def wordsAll (d : PyData) : Prop := isSeq d = true → (itemsD d).length ≤ 100000 ∧ ∀ z ∈ itemsD d, wordsPre z
def wrongD (d : PyData) : PyData := if isSeq d then ffD 0 ((itemsD d).map fun z => .bool (isWordsD z)) else .int 0
-- HINT wrong_words it pi_seq
abbrev s_wrong_words : Stmt := topS 10
abbrev n_wrong_words : List Str := ["things", "thing"]
theorem sc_wrong_words : FnScope n_wrong_words ["things"] (defScope s_wrong_words) := ⟨rfl, rfl, rfl, by decide +kernel, rfl, by decide +kernel, by decide +kernel⟩
theorem ok_wrong_words {f : Addr} {fd : FuncData} (F : Fun K "wrong_words" "wrong_words" s_wrong_words f fd) (T : Bl mg) (O_is_list : Own P w K mg base CX0 1 "is_list" ["thing"] (sp1 (fun _ => True) fun d => .bool (isSeq d)))
    (O_is_words : Own P w K mg base CX0 1 "is_words" ["thing"] (sp1 wordsPre fun d => .bool (isWordsD d))) (O_first_false : Own P w K mg base CX0 1 "first_false" ["tests"] (sp1 Bools fun d => ffD 0 (itemsD d))) :
    FnOk P w K mg base CX0 2 f fd ["things"] (sp1 wordsAll wrongD) := by
  refine ok1 F sc_wrong_words (by decide) fun cdv A outer s H E X d Q hr t hp q => ⟨_, (pss_cons (ps_if (pt_not (pt_val (pe_own O_is_list hr (by decide) (by rfl) (pa_cons (pv 0) pa_nil))))
    (pss_one (ps_ret pe_int)) pss_nil)
    (pss_one (ps_ret (pe_own O_first_false hr (by decide) (by rfl) (pa_cons (pe_lc (own := [("thing", 1)]) (g := (gName 1)) (tt := tYes) rfl sc_wrong_words.nd (pi_seq (pv 0)) (blkOk_by (N := n_wrong_words) (sc := defScope s_wrong_words) (by decide +kernel)) (fun _ _ _ _ _ => (pg_name (i := 1) sc_wrong_words.nd rfl (by first | exact Or.inl rfl | exact Or.inr rfl))) (fun _ _ _ _ _ => pts_nil) (fun _ _ _ _ _ => (pe_own O_is_words hr (by decide) (by rfl) (pa_cons (pv 1) pa_nil)))) pa_nil))))), fun σ En => ?_⟩
  refine q_if (gt_not (gt_B (g_call1 t (g_var En rfl) trivial))) (fun hb H1 s1 => ?_) (fun hb H1 s1 => ?_)
  · have e : isSeq d = false := by simpa using hb
    refine s_ret (X := X) g_int fun w H2 s2 dw => q w H2 (s1.trans s2) ?_
    unfold wrongD
    rw [e]
    exact dw
  · have e : isSeq d = true := by simpa using hb
    obtain ⟨hl, hw⟩ := hp e
    have t1 := t.mono s1
    have q' : ∀ w H', Same H1 H' → DX X H' w (ffD 0 ((itemsD d).map fun z => .bool (isWordsD z))) → Q w H' := fun w H2 s2 dw => q w H2 (s1.trans s2) (by unfold wrongD; rw [e]; exact dw)
    refine s_ret (X := X) (g_is (g_call1 t1 (d := .list ((itemsD d).map fun z => .bool (isWordsD z))) (g_lc1 (Γ2 := fun z => [.dat d, .dat z]) (fun z => .bool (isWordsD z)) t1 (gi_seq (g_var (En.same s1) rfl) e) (by omega) (fun H2 s2 z _ => tgt_name ((En.same s1).same s2)) (fun X' H2 σ2 z hz t2 E2 => g_call1 t2 (g_var E2 rfl) (hw z hz))) ⟨(itemsD d).map isWordsD, by simp [List.map_map], by simpa using hl⟩) rfl) q'

def it (d : PyData) (i : Nat) : PyData := (itemsD d).getD i .none
def ch3 (d : PyData) : Bool := isSeq d && (decide ((itemsD d).length = 3) && isNumD (it d 0))
def isChangeD (d : PyData) : Bool := ch3 d && (isNone (wrongD (it d 1)) && isNone (wrongD (it d 2))) && decide (0 < lenD (it d 1) + lenD (it d 2))
def chPre (d : PyData) : Prop := isSeq d = true → (itemsD d).length ≤ 100000 ∧ ∀ z ∈ itemsD d, wordsAll z
theorem lenD_seq {d : PyData} (h : isSeq d = true) : lenD d = (itemsD d).length := by cases d <;> first | rfl | cases h
theorem hasLen_seq {d : PyData} (h : isSeq d = true) : hasLen d = true := by cases d <;> first | rfl | cases h
theorem wrong_seq {d : PyData} (h : isNone (wrongD d) = true) : isSeq d = true := by
  cases e : isSeq d with
  | true => rfl
  | false =>
    unfold wrongD at h
    rw [e] at h
    simp [isNone] at h
theorem it_at {d : PyData} {i : Nat} {k : Int} (hk : k = (i : Int)) (h : i < (itemsD d).length) : atI (itemsD d) k = some (it d i) := by
  subst hk
  refine atI_nat ?_
  unfold it
  rw [List.getElem?_eq_getElem h, List.getD_eq_getElem?_getD, List.getElem?_eq_getElem h]
  rfl
theorem it_mem {d : PyData} {i : Nat} (h : i < (itemsD d).length) : it d i ∈ itemsD d := by
  unfold it
  rw [List.getD_eq_getElem?_getD, List.getElem?_eq_getElem h]
  exact List.getElem_mem h
theorem eqv_int (i j : Int) : PyData.eqv (.int i) (.int j) = decide (i = j) := by
  simp only [PyData.eqv]
  by_cases h : i = j
  · subst h; simp
  · rw [decide_eq_false h]; simpa using h
theorem gt_neI {X : Addr → Prop} {ta tb : TE} {σ : L2.St} {H : Hp} {K : PySem.W.Frag} {i j : Int} (t : Trk X H) (ha : G X ta σ H (.int i)) (hb : G X tb σ H (.int j)) : GT (tTest (tOp (rNeD K) ta tb)) σ H (!decide (i = j)) := by
  rw [← eqv_int]
  exact gt_neD t ha hb rfl rfl (shaped_int i) (shaped_int j)
theorem gt_eqI {X : Addr → Prop} {ta tb : TE} {σ : L2.St} {H : Hp} {K : PySem.W.Frag} {i j : Int} (t : Trk X H) (ha : G X ta σ H (.int i)) (hb : G X tb σ H (.int j)) : GT (tTest (tOp (rEqD K) ta tb)) σ H (decide (i = j)) := by
  rw [← eqv_int]
  exact gt_eqD t ha hb rfl rfl (shaped_int i) (shaped_int j)
def wsD (ws : List Str) : PyData := .list (ws.map .str)
def chD (p : Int) (os ns : List Str) : PyData := .tuple [.int p, wsD os, wsD ns]
def WsOk (ws : List Str) : Prop := ws.length ≤ 1000 ∧ ∀ z ∈ ws, PyData.strOk z = true
theorem sIx_nn {n d : Nat} {p : Int} (h : 0 ≤ p) : HT.sIx n d (some p) = min p.toNat n := by
  show (if p < 0 then (p + (n : Int)).toNat else min p.toNat n) = min p.toNat n
  rw [if_neg (by omega)]
theorem cutD_map (ws : List Str) (lo hi : Option Int) : cutPD (ws.map PyData.str) lo hi = ((ws.drop (HT.sIx ws.length 0 lo)).take (HT.sIx ws.length ws.length hi - HT.sIx ws.length 0 lo)).map PyData.str := by
  unfold cutPD
  rw [List.length_map, List.map_take, List.map_drop]
theorem cut_lo (ws : List Str) {p q : Int} (hp : 0 ≤ p) (hq : p ≤ q) : cutPD (ws.map PyData.str) (some p) (some q) = ((ws.drop p.toNat).take (q.toNat - p.toNat)).map PyData.str := by
  rw [cutD_map, sIx_nn hp, sIx_nn (by omega)]
  congr 1
  by_cases h : p.toNat ≤ ws.length
  · rw [Nat.min_eq_left h]
    apply List.ext_getElem?
    intro n
    simp only [List.getElem?_take, List.getElem?_drop]
    by_cases hn : n < q.toNat - p.toNat
    · rw [if_pos hn]
      split
      · rfl
      · exact (List.getElem?_eq_none (by omega)).symm
    · rw [if_neg hn, if_neg (by omega)]
  · rw [List.drop_eq_nil_of_le (by omega), List.drop_eq_nil_of_le (by omega), List.take_nil, List.take_nil]
theorem cut_hi (ws : List Str) {q : Int} (hq : 0 ≤ q) : cutPD (ws.map PyData.str) none (some q) = (ws.take q.toNat).map PyData.str := by
  rw [cutD_map, sIx_nn hq, HT.sIx_none, List.drop_zero, Nat.sub_zero]
  congr 1
  by_cases h : q.toNat ≤ ws.length
  · rw [Nat.min_eq_left h]
  · rw [Nat.min_eq_right (by omega), List.take_of_length_le (Nat.le_refl _), List.take_of_length_le (by omega)]
theorem cut_from (ws : List Str) {p : Int} (hp : 0 ≤ p) : cutPD (ws.map PyData.str) (some p) none = (ws.drop p.toNat).map PyData.str := by
  rw [cutD_map, sIx_nn hp, HT.sIx_none]
  congr 1
  by_cases h : p.toNat ≤ ws.length
  · rw [Nat.min_eq_left h, List.take_of_length_le (by rw [List.length_drop]; omega)]
  · rw [Nat.min_eq_right (by omega), List.drop_eq_nil_of_le (Nat.le_refl _), List.drop_eq_nil_of_le (by omega), List.take_nil]
theorem sl_from {X : Addr → Prop} {te ta : TE} {σ : L2.St} {H : Hp} {ws : List Str} {p : Int} (t : Trk X H) (h : G X te σ H (wsD ws)) (ha : G X ta σ H (.int p)) (hp : 0 ≤ p) : G X (tSl (rSlL K) te (tPart ta) tNoPart) σ H (wsD (ws.drop p.toNat)) := by
  refine g_is (g_sl t h (go_some ha) go_none) ?_
  rw [cut_from _ hp]
  rfl
theorem sl_to {X : Addr → Prop} {te ta : TE} {σ : L2.St} {H : Hp} {ws : List Str} {p : Int} (t : Trk X H) (h : G X te σ H (wsD ws)) (ha : G X ta σ H (.int p)) (hp : 0 ≤ p) : G X (tSl (rSlL K) te tNoPart (tPart ta)) σ H (wsD (ws.take p.toNat)) := by
  refine g_is (g_sl t h go_none (go_some ha)) ?_
  rw [cut_hi _ hp]
  rfl
theorem sl_mid {X : Addr → Prop} {te ta tb : TE} {σ : L2.St} {H : Hp} {ws : List Str} {p q : Int} (t : Trk X H) (h : G X te σ H (wsD ws)) (ha : G X ta σ H (.int p)) (hb : G X tb σ H (.int q)) (hp : 0 ≤ p) (hq : p ≤ q) : G X (tSl (rSlL K) te (tPart ta) (tPart tb)) σ H (wsD ((ws.drop p.toNat).take (q.toNat - p.toNat))) := by
  refine g_is (g_sl t h (go_some ha) (go_some hb)) ?_
  rw [cut_lo _ hp hq]
  rfl
theorem len_ws {X : Addr → Prop} {te : TE} {σ : L2.St} {H : Hp} {ws : List Str} (t : Trk X H) (h : G X te σ H (wsD ws)) : G X (tCB (fun xs H Q => ∃ x n, xs = [x] ∧ LenV K x H n ∧ Q (V.int n) H) (tCons te tNil)) σ H (.int (ws.length : Int)) := by
  refine g_is (g_len t h rfl) ?_
  show PyData.int (((ws.map PyData.str).length : Nat) : Int) = _
  rw [List.length_map]
theorem cat_ws {X : Addr → Prop} {ta tb : TE} {σ : L2.St} {H : Hp} {ws zs : List Str} (t : Trk X H) (ha : G X ta σ H (wsD ws)) (hb : G X tb σ H (wsD zs)) (hl : ws.length + zs.length ≤ 1000000) : G X (tOp rAddA ta tb) σ H (wsD (ws ++ zs)) := by
  refine g_is (g_cat t ha hb (by rw [List.length_map, List.length_map]; exact hl)) ?_
  rw [← List.map_append]
  rfl
theorem catn_ws {X : Addr → Prop} {ta tb : TE} {σ : L2.St} {H : Hp} {ws zs : List Str} (t : Trk X H) (ha : G X ta σ H (wsD ws)) (hb : G X tb σ H (wsD zs)) (hl : ws.length + zs.length ≤ 1000000) : GN X (tOp rAddA ta tb) σ H (wsD (ws ++ zs)) := by
  refine GN.is (gn_cat t ha hb (by rw [List.length_map, List.length_map]; exact hl)) ?_
  rw [← List.map_append]
  rfl
theorem WsOk.take {ws : List Str} (h : WsOk ws) (n : Nat) : WsOk (ws.take n) := ⟨by rw [List.length_take]; have := h.1; omega, fun z hz => h.2 z (List.mem_of_mem_take hz)⟩
theorem WsOk.drop {ws : List Str} (h : WsOk ws) (n : Nat) : WsOk (ws.drop n) := ⟨by rw [List.length_drop]; have := h.1; omega, fun z hz => h.2 z (List.mem_of_mem_drop hz)⟩

def fitsB (ws : List Str) (p : Int) (os : List Str) : Bool := decide (p ≤ ws.length) && decide ((ws.drop p.toNat).take os.length = os)
/-- a text and a told change -/
def TC (a b : PyData) : Prop := ∃ ws p os ns, a = wsD ws ∧ b = chD p os ns ∧ WsOk ws ∧ WsOk os ∧ WsOk ns ∧ 0 ≤ p
def wsOf (d : PyData) : List Str := (itemsD d).map fun z => match z with | .str s => s | _ => default
theorem wsOf_wsD (ws : List Str) : wsOf (wsD ws) = ws := by
  show (ws.map PyData.str).map _ = ws
  rw [List.map_map]
  exact (List.map_congr_left fun _ _ => rfl).trans (List.map_id ws)
def intOf : PyData → Int
  | .int i => i
  | _ => 0
end K53

namespace KD
open PySem PySem.Spec PyProof.Rows L2
/-! ### own errors with one field -/
def spInit (C : Addr) (f : Str) : Sp := fun vs H Q _ => ∃ (a : Addr) (y : V), vs = [.ref a, y] ∧ H a = some (exo a C none) ∧ ∀ d, H d = none → d ≠ a → Q .non (upd (upd H d (exd d [(f, y)])) a (exo a C (some d)))
structure Ec (P : Program) (w : World) (K : PySem.W.Frag) (mg : Str → Option Value) (base : Heap) (x f : Str) (C : Addr) : Prop where
  gC : mg x = some (.ref C)
  T : OexC K C
  xf : XfC K C
  noF : PySem.W.findIn K (.ref C) f = some none
  ini : ∃ (fI : Addr) (fd : FuncData), PySem.W.findIn K (.ref C) "__init__" = some (some (.ref fI)) ∧ PySem.W.typeIn K (.ref fI) = some (.type "function") ∧ FnOk P w K mg base CX0 1 fI fd ["self", f] (spInit C f) ∧ Binds K fd ["self", f] []
section
variable {P : Program} {w : World} {K : PySem.W.Frag} {mg : Str → Option Value} {base : Heap} {C : Addr} {x f qual : Str} {st : Stmt} {fI : Addr} {fd : FuncData}
theorem ok_initF (F : Fun K "__init__" qual st fI fd) (S : FnScope [("self" : Str), f] [("self" : Str), f] (defScope st)) (T : OexC K C) (hno : PySem.W.findIn K (.ref C) f = some none) {p1 p2 p3 p4 : Pos}
    (hb : defBody st = [.Assign [.Attribute (.Name ("self" : Str) p1) f p2] (.Name f p3) p4]) (v0 : (defScope st).names.lookup ("self" : Str) = some .local) (v1 : (defScope st).names.lookup f = some .local) (hd : (f == ("__debug__" : Str)) = false) (hcd : (f == ("__classdict__" : Str)) = false)
    (hs : ∀ env : Env, swapsWith (.Name f p3) (some (.Attribute (.Name ("self" : Str) p1) f p2)) p4.line env = pure false) : FnOk P w K mg base CX0 1 fI fd ["self", f] (spInit C f) := by
  refine F.ok S (fun vs H Q E h => ?_) (fun cdv A outer s H vs Q E hr h => ?_)
  · obtain ⟨a, y, rfl, _⟩ := h
    rfl
  · obtain ⟨a, y, rfl, ha, k⟩ := h
    refine ⟨_, by
      rw [hb]
      exact pss_one (ps_ost (pe_var (i := 0) rfl (.inl v0) (by decide) (by decide)) (pe_var (i := 1) rfl (.inl v1) hd hcd) (hs _)), ?_⟩
    exact ⟨y, rfl, .ref a, rfl, a, C, rfl, T, hno, .inl ⟨ha, fun d hd hne => k d hd hne⟩⟩
end
inductive Out where
  | val (d : PyData) | err (C : Addr) (f : Str) (d : PyData)
def EndQ (X : Addr → Prop) (H : Hp) (o : Out) (Q : VK) (E : XK) : Prop := (∀ r, o = .val r → ∀ w H', Same H H' → DX X H' w r → Nw H w → Q w H') ∧ (∀ C fl r, o = .err C fl r → ∀ a w H', Same H H' → H' a = some (.xd [(fl, w)]) → DX X H' w r → E (.ref C) (some a) H')
theorem EndQ.mono {X : Addr → Prop} {H H1 : Hp} {o : Out} {Q : VK} {E : XK} (s : Same H H1) (h : EndQ X H o Q E) : EndQ X H1 o Q E := ⟨fun r e w H' k dw nw => h.1 r e w H' (s.trans k) dw (Nw.back s nw), fun C fl r e a w H' k => h.2 C fl r e a w H' (s.trans k)⟩
def spX1 (pre : PyData → Prop) (f : PyData → Out) : Sp := fun vs H Q E => ∃ (X : Addr → Prop) (v : V) (d : PyData), vs = [v] ∧ Trk X H ∧ DX X H v d ∧ pre d ∧ EndQ X H (f d) Q E
def spX2 (pre : PyData → PyData → Prop) (f : PyData → PyData → Out) : Sp := fun vs H Q E => ∃ (X : Addr → Prop) (v1 v2 : V) (d1 d2 : PyData), vs = [v1, v2] ∧ Trk X H ∧ DX X H v1 d1 ∧ DX X H v2 d2 ∧ pre d1 d2 ∧ EndQ X H (f d1 d2) Q E
section
variable {X : Addr → Prop} {σ : L2.St} {H : Hp} {ta tb : TE} {d d1 d2 : PyData} {E : XK} {Γ : List Sv} {D : Ends} {tz : TS}
/-- the reading of «raise C(e)» -/
theorem mk_err {C : Addr} {f : Str} (h : G X ta σ H d) (q : ∀ a w H', Same H H' → H' a = some (.xd [(f, w)]) → DX X H' w d → E (.ref C) (some a) H') : tMkO C (spInit C f) [] (tCons ta tNil) σ H E :=
  h H (Same.refl H) _ fun v H1 s r => ⟨by show 1 ≤ 1000; decide, fun a ha => ⟨a, v, rfl, upd_same, fun dd hd hne => by
    have hd1 : H1 dd = none := by rw [upd_ne hne] at hd; exact hd
    refine ⟨rfl, dd, _, upd_same, by rw [upd_ne hne, upd_same], hd1, q dd v _ (fun b o e => ?_) upd_same (r.mono (Kp.of ?_))⟩
    · have e1 := s b o e
      have hb : b ≠ a := ne_of_none e1 ha
      rw [upd_ne (ne_of_none e1 hd1)]
      show (if b = a then none else _) = some o
      rw [if_neg hb, upd_ne hb, upd_ne (ne_of_none e1 hd1), upd_ne hb]
      exact e1
    · intro b o e1
      have hb : b ≠ a := ne_of_none e1 ha
      rw [upd_ne (ne_of_none e1 hd1)]
      show (if b = a then none else _) = some o
      rw [if_neg hb, upd_ne hb, upd_ne (ne_of_none e1 hd1), upd_ne hb]
      exact e1⟩⟩
/-- a call that may raise -/
theorem c_X1 {pre : PyData → Prop} {f : PyData → Out} {Q : VK} (t : Trk X H) (h : G X ta σ H d) (hp : pre d) (q : EndQ X H (f d) Q E) : tCall (spX1 pre f) [] E (tCons ta tNil) σ H Q :=
  h H (Same.refl H) _ fun v H1 s r => ⟨X, v, d, rfl, t.mono s, r, hp, q.mono s⟩
theorem c_X2 {pre : PyData → PyData → Prop} {f : PyData → PyData → Out} {Q : VK} (t : Trk X H) (h1 : G X ta σ H d1) (h2 : G X tb σ H d2) (hp : pre d1 d2) (q : EndQ X H (f d1 d2) Q E) : tCall (spX2 pre f) [] E (tCons ta (tCons tb tNil)) σ H Q :=
  h1 H (Same.refl H) _ fun v H1 s r => h2 H1 s _ fun v2 H2 s2 r2 => ⟨X, v, v2, d1, d2, rfl, (t.mono s).mono s2, r.mono (Kp.of s2), r2, hp, q.mono (s.trans s2)⟩
theorem q_setX1 {i : Nat} {pre : PyData → Prop} {f : PyData → Out} (En : EnvOk X H σ Γ) (t : Trk X H) (h : G X ta σ H d) (hp : pre d) (k : ∀ r, f d = .val r → ∀ H1 v, Same H H1 → EnvOk X H1 (σ.set i (some v)) (Γ.set i (.dat r)) → tz D (σ.set i (some v)) H1)
    (ke : ∀ C fl r, f d = .err C fl r → ∀ a w H', Same H H' → H' a = some (.xd [(fl, w)]) → DX X H' w r → E (.ref C) (some a) H') : tSeq (tAsg (tCall (spX1 pre f) [] E (tCons ta tNil)) (gName i)) tz D σ H :=
  c_X1 t h hp ⟨fun r e v H1 s dv _ => k r e H1 v s ((En.same s).set dv), ke⟩
theorem gn_X1 {pre : PyData → Prop} {f : PyData → Out} {r : PyData} (t : Trk X H) (h : G X ta σ H d) (hp : pre d) (e : f d = .val r) : GN X (tCall (spX1 pre f) [] E (tCons ta tNil)) σ H r := fun H1 s Q q =>
  c_X1 (t.mono s) (h.mono s) hp ⟨fun r' e' w H' k dw nw => by rw [e] at e'; cases e'; exact q w H' k dw nw, fun C fl r' e' => by rw [e] at e'; cases e'⟩
theorem gn_X2 {pre : PyData → PyData → Prop} {f : PyData → PyData → Out} {r : PyData} (t : Trk X H) (h1 : G X ta σ H d1) (h2 : G X tb σ H d2) (hp : pre d1 d2) (e : f d1 d2 = .val r) : GN X (tCall (spX2 pre f) [] E (tCons ta (tCons tb tNil))) σ H r := fun H1 s Q q =>
  c_X2 (t.mono s) (h1.mono s) (h2.mono s) hp ⟨fun r' e' w H' k dw nw => by rw [e] at e'; cases e'; exact q w H' k dw nw, fun C fl r' e' => by rw [e] at e'; cases e'⟩
/-- .. of which it is known that it doesn't -/
theorem g_X1 {pre : PyData → Prop} {f : PyData → Out} {r : PyData} (t : Trk X H) (h : G X ta σ H d) (hp : pre d) (e : f d = .val r) : G X (tCall (spX1 pre f) [] E (tCons ta tNil)) σ H r := fun H1 s Q q =>
  c_X1 (t.mono s) (h.mono s) hp ⟨fun r' e' w H' k dw _ => by rw [e] at e'; cases e'; exact q w H' k dw, fun C fl r' e' => by rw [e] at e'; cases e'⟩
theorem g_X2 {pre : PyData → PyData → Prop} {f : PyData → PyData → Out} {r : PyData} (t : Trk X H) (h1 : G X ta σ H d1) (h2 : G X tb σ H d2) (hp : pre d1 d2) (e : f d1 d2 = .val r) : G X (tCall (spX2 pre f) [] E (tCons ta (tCons tb tNil))) σ H r := fun H1 s Q q =>
  c_X2 (t.mono s) (h1.mono s) (h2.mono s) hp ⟨fun r' e' w H' k dw _ => by rw [e] at e'; cases e'; exact q w H' k dw, fun C fl r' e' => by rw [e] at e'; cases e'⟩
end
section
variable {P : Program} {w : World} {K : PySem.W.Frag} {mg : Str → Option Value} {base : Heap} {x qual : Str} {st : Stmt} {f : Addr} {fd : FuncData} {N : List Str} {k : Nat} {a b c : Str}
theorem okX1 {pre : PyData → Prop} {g : PyData → Out} (F : Fun K x qual st f fd) (S : FnScope N [a] (defScope st)) (hN : 1 ≤ N.length)
    (hbody : ∀ (cdv : Value) (A : Around) (outer : List Env) (s : Shared) (H : Hp) (E : XK) (X : Addr → Prop) (d : PyData) (Q : VK), Room k (A.deeper (envOfC qual (defScope st) s.heap.objs.size f cdv)) → Trk X H → pre d → EndQ X H (g d) Q E →
      ∃ t, PSs (cxOf (L2.CX P w) P w K mg base N qual (defScope st) f cdv A outer s H E) (defBody st) t ∧ ∀ σ, EnvOk X H σ (pad N [.dat d]) → t { nx := fun _ H' => Q .non H', rt := Q } σ H) : FnOk P w K mg base (L2.CX P w) (k + 1) f fd [a] (spX1 pre g) := by
  refine F.okX S (fun vs H Q E h => ?_) (fun cdv A outer s H vs Q E hr h => ?_)
  · obtain ⟨X, v, d, rfl, _⟩ := h
    rfl
  · obtain ⟨X, v, d, rfl, t, hd, hp, q⟩ := h
    obtain ⟨tt, h1, h2⟩ := hbody cdv A outer s H E X d Q hr t hp q
    exact ⟨tt, h1, h2 _ (env1 hd hN)⟩
theorem okX2 {pre : PyData → PyData → Prop} {g : PyData → PyData → Out} (F : Fun K x qual st f fd) (S : FnScope N [a, b] (defScope st)) (hN : 2 ≤ N.length)
    (hbody : ∀ (cdv : Value) (A : Around) (outer : List Env) (s : Shared) (H : Hp) (E : XK) (X : Addr → Prop) (d1 d2 : PyData) (Q : VK), Room k (A.deeper (envOfC qual (defScope st) s.heap.objs.size f cdv)) → Trk X H → pre d1 d2 → EndQ X H (g d1 d2) Q E →
      ∃ t, PSs (cxOf (L2.CX P w) P w K mg base N qual (defScope st) f cdv A outer s H E) (defBody st) t ∧ ∀ σ, EnvOk X H σ (pad N [.dat d1, .dat d2]) → t { nx := fun _ H' => Q .non H', rt := Q } σ H) : FnOk P w K mg base (L2.CX P w) (k + 1) f fd [a, b] (spX2 pre g) := by
  refine F.okX S (fun vs H Q E h => ?_) (fun cdv A outer s H vs Q E hr h => ?_)
  · obtain ⟨X, v1, v2, d1, d2, rfl, _⟩ := h
    rfl
  · obtain ⟨X, v1, v2, d1, d2, rfl, t, r1, r2, hp, q⟩ := h
    obtain ⟨tt, h1, h2⟩ := hbody cdv A outer s H E X d1 d2 Q hr t hp q
    exact ⟨tt, h1, h2 _ (env2 r1 r2 hN)⟩
end
section
variable {X : Cx} {k j : Nat} {x f : Str} {ps : List Str} {sp : Sp} {e : Expr} {es : List Expr} {p pos pos2 : Pos} {ta : TA} {E : XK} {C : Addr}
/-- a def that may raise, called within one that lets it out -/
theorem pe_ownX (O : Own X.prog X.w X.K X.mg X.base (L2.CX X.prog X.w) k x ps sp) (hr : Room j X.A) (hk : k ≤ j) (tk : Takes X (fun cls d _ H => E cls d H)) (hg : Gl X x) (ha : PA X (e :: es) ta) (hdb : (x == ("__debug__" : Str)) = false := by decide)
    (he : starEach (e :: es) X.env = (false, eval e X.env) :: starEach es X.env := by rfl) (hpl : (backTo pos (starEach es X.env)).any (·.1) = false := by rfl) : PE X (.Call (.Name x p) (e :: es) [] pos) (tCall sp [] E ta) := by
  obtain ⟨g, fd, h1, h2, h3, h4⟩ := O.ex
  exact pe_call h4 (hr.mono hk) hg h1 h2 h3 .nil (passes_call tk fun _ _ _ _ h => h) ha hdb he hpl
/-- raise C(e) -/
theorem ps_err {W : WX} (hc : X.calm = true) (T : Ec X.prog X.w X.K X.mg X.base x f C) (hr : Room j X.A) (hk : 2 ≤ j) (tk : Takes X W) (hg : Gl X x) {ta : TE} (ha : PA X [e] (tCons ta tNil)) (hdb : (x == ("__debug__" : Str)) = false := by decide)
    (he : starEach (e :: []) X.env = (false, eval e X.env) :: starEach [] X.env := by rfl) (hpl : (backTo pos (starEach [] X.env)).any (·.1) = false := by rfl) :
    PS X (.Raise (some (.Call (.Name x p) [e] [] pos)) none pos2) (fun _ σ H => tMkO C (spInit C f) [] (tCons ta tNil) σ H fun cls d H' => W cls d σ H') := by
  obtain ⟨fI, fd, h1, h2, h3, h4⟩ := T.ini
  exact ps_raise hc tk (pmk_oex T.T h1 h2 h3 (hr.mono hk) h4 .nil (pass0) hg T.gC ha hdb he hpl)
end
end KD

namespace K53
open PySem PySem.Spec PyProof.Rows L2 KD
-- RAISES change_of checked_text made_by turned_back
variable {P : Program} {w : World} {K : PySem.W.Frag} {mg : Str → Option Value} {base : Heap}
theorem ffD_none : ∀ {ds : List PyData} {i : Nat}, isNone (ffD i (ds.map fun z => .bool (isWordsD z))) = true → ∀ z ∈ ds, isWordsD z = true
  | [], _, _, z, hz => by cases hz
  | d :: ds, i, h, z, hz => by
    cases e : isWordsD d with
    | false =>
      rw [List.map_cons, e] at h
      simp [ffD, isNone] at h
    | true =>
      rw [List.map_cons, e, ff_true] at h
      rcases List.mem_cons.mp hz with rfl | hm
      · exact e
      · exact ffD_none h z hm
theorem words_str {d : PyData} (h : isWordsD d = true) : ∃ s, d = .str s := by
  cases d <;> first | exact ⟨_, rfl⟩ | cases h
theorem ws_map : ∀ {ds : List PyData}, (∀ z ∈ ds, isWordsD z = true) → ds = (ds.map fun z => match z with | .str s => s | _ => default).map PyData.str
  | [], _ => rfl
  | d :: ds, h => by
    obtain ⟨s, rfl⟩ := words_str (h d List.mem_cons_self)
    rw [List.map_cons, List.map_cons, ← ws_map fun z hz => h z (List.mem_cons_of_mem _ hz)]
theorem ws_of {d : PyData} (h : isNone (wrongD d) = true) : PyData.list (itemsD d) = wsD (wsOf d) := by
  have hs := wrong_seq h
  unfold wrongD at h
  rw [hs] at h
  show PyData.list (itemsD d) = PyData.list ((wsOf d).map PyData.str)
  congr 1
  exact ws_map (ffD_none h)

end K53

/-! The spring of draws. -/
namespace K53
open PySem PySem.Spec PyProof.Rows L2 KD
variable {P : Program} {w : World} {K : PySem.W.Frag} {mg : Str → Option Value} {base : Heap}
/-- the spring at st, its cells at cl: b draws done -/
structure SpAt (st cl : Addr) (ms : List Int) (a b c : Int) (H : Hp) : Prop where
  hs : H st = some (.lst [.ref cl, .int a, .int b, .int c])
  hc : H cl = some (.lst (ms.map V.int))
  ne : st ≠ cl
  a0 : 0 ≤ a
  b0 : 0 ≤ b
  c0 : 0 ≤ c
  c1 : c < 2147483647
  ml : ms.length ≤ 100000
def SpOk (st cl : Addr) (n : Nat) (H : Hp) : Prop := ∃ ms a b c, SpAt st cl ms a b c H ∧ b ≤ (n : Int)
/-- all but the spring stays -/
def KpS (st cl : Addr) (H H' : Hp) : Prop := ∀ a o, a ≠ st → a ≠ cl → H a = some o → H' a = some o
theorem KpS.refl {st cl : Addr} {H : Hp} : KpS st cl H H := fun _ _ _ _ e => e
theorem KpS.trans {st cl : Addr} {H H1 H2 : Hp} (h : KpS st cl H H1) (k : KpS st cl H1 H2) : KpS st cl H H2 := fun a o n m e => k a o n m (h a o n m e)
theorem KpS.of {st cl : Addr} {H H' : Hp} (h : Same H H') : KpS st cl H H' := fun a o _ _ e => h a o e
theorem KpS.kp {X : Addr → Prop} {st cl : Addr} {H H' : Hp} (h : KpS st cl H H') (x1 : X st) (x2 : X cl) : Kp X H H' := fun a o n e => h a o (fun z => n (z ▸ x1)) (fun z => n (z ▸ x2)) e
theorem SpOk.trk {X : Addr → Prop} {st cl : Addr} {n : Nat} {H H' : Hp} (h : SpOk st cl n H') (k : KpS st cl H H') (t : Trk X H) : Trk X H' := fun a x => by
  obtain ⟨ms, a', b, c, S, _⟩ := h
  by_cases h1 : a = st
  · subst h1
    exact ⟨_, S.hs⟩
  · by_cases h2 : a = cl
    · subst h2
      exact ⟨_, S.hc⟩
    · obtain ⟨o, e⟩ := t a x
      exact ⟨o, k a o h1 h2 e⟩
theorem SpAt.same {st cl : Addr} {ms : List Int} {a b c : Int} {H H' : Hp} (S : SpAt st cl ms a b c H) (s : Same H H') : SpAt st cl ms a b c H' := ⟨s _ _ S.hs, s _ _ S.hc, S.ne, S.a0, S.b0, S.c0, S.c1, S.ml⟩
theorem SpOk.same {st cl : Addr} {n : Nat} {H H' : Hp} (h : SpOk st cl n H) (s : Same H H') : SpOk st cl n H' := by
  obtain ⟨ms, a, b, c, S, hb⟩ := h
  exact ⟨ms, a, b, c, S.same s, hb⟩
theorem SpOk.le {st cl : Addr} {n m : Nat} {H : Hp} (h : SpOk st cl n H) (hm : n ≤ m) : SpOk st cl m H := by
  obtain ⟨ms, a, b, c, S, hb⟩ := h
  exact ⟨ms, a, b, c, S, by omega⟩
theorem KpS.put {st cl p : Addr} {H : Hp} {o : HO} (h : p = st ∨ p = cl) : KpS st cl H (upd H p o) := fun a u n m e => by
  rw [upd_ne (fun z => by rcases h with h | h; exact n (z.trans h); exact m (z.trans h))]
  exact e
section
variable {σ : L2.St} {H : Hp} {i : Nat} {p st cl : Addr} {xs : List V} {v : V} {k : Int} {Q : VK} {ms : List Int} {a b c : Int}
theorem ix_at (hv : σ[i]? = some (some (.ref p))) (hp : H p = some (.lst xs)) (hx : atI xs k = some v) (q : Q v H) : tOp (rIx K) (tVar i) (tC (.int k)) σ H Q := ⟨_, hv, .inl ⟨p, xs, k, v, rfl, rfl, SqL.of hp, hx, q⟩⟩
theorem set_at {R : L2.St → Hp → Prop} {j : Nat} (hv : σ[i]? = some (some (.ref p))) (hp : H p = some (.lst xs)) (hx : ixN xs.length k = some j) (q : R σ (upd H p (.lst (xs.set j v)))) : gSub (tVar i) (tC (.int k)) rSetL v σ H R := ⟨_, hv, p, xs, k, j, rfl, rfl, hp, hx, q⟩
theorem op2 {r : R2} {ta tb : TE} (h : ta σ H fun x H1 => tb σ H1 fun y H2 => r x y H2 Q) : tOp r ta tb σ H Q := h
theorem SpAt.put1 (S : SpAt st cl ms a b c H) {z : Int} (h : 0 ≤ z) : SpAt st cl ms z b c (upd H st (.lst [.ref cl, .int z, .int b, .int c])) := ⟨upd_same, by rw [upd_ne (Ne.symm S.ne)]; exact S.hc, S.ne, h, S.b0, S.c0, S.c1, S.ml⟩
theorem SpAt.put2 (S : SpAt st cl ms a b c H) {z : Int} (h : 0 ≤ z) : SpAt st cl ms a z c (upd H st (.lst [.ref cl, .int a, .int z, .int c])) := ⟨upd_same, by rw [upd_ne (Ne.symm S.ne)]; exact S.hc, S.ne, S.a0, h, S.c0, S.c1, S.ml⟩
theorem SpAt.put3 (S : SpAt st cl ms a b c H) {z : Int} (h : 0 ≤ z) (h2 : z < 2147483647) : SpAt st cl ms a b z (upd H st (.lst [.ref cl, .int a, .int b, .int z])) := ⟨upd_same, by rw [upd_ne (Ne.symm S.ne)]; exact S.hc, S.ne, S.a0, S.b0, h, h2, S.ml⟩
theorem SpAt.pop (S : SpAt st cl ms a b c H) {m : Int} {r : List Int} (e : ms = m :: r) : SpAt st cl r a b c (upd H cl (.lst (r.map V.int))) := ⟨by rw [upd_ne S.ne]; exact S.hs, upd_same, S.ne, S.a0, S.b0, S.c0, S.c1, by have := S.ml; rw [e, List.length_cons] at this; omega⟩
end
theorem dp_ints {H : Hp} : ∀ ms : List Int, DpAll K H (ms.map V.int) (ms.map PyData.int)
  | [] => .nil
  | m :: r => .cons (.int m) (dp_ints r)
theorem canLay_ints : ∀ ms : List Int, PyData.canLayAll0 (ms.map PyData.int) = true
  | [] => by simp [PyData.canLayAll0]
  | m :: r => by simp [PyData.canLayAll0, PyData.canLay0, canLay_ints r]
theorem depth_ints : ∀ ms : List Int, PyData.depthAll (ms.map PyData.int) ≤ 1
  | [] => by simp [PyData.depthAll]
  | m :: r => by
    have := depth_ints r
    simp only [List.map_cons, PyData.depthAll, PyData.depth]
    omega
theorem shaped_ints (ms : List Int) : SeqAt.shaped (.list (ms.map PyData.int)) = true := by
  have := depth_ints ms
  have h2 : PyData.depth (.list (ms.map PyData.int)) ≤ 64 := by
    simp only [PyData.depth]
    omega
  show ((PyData.list (ms.map PyData.int)).canLay0 && decide ((PyData.list (ms.map PyData.int)).depth ≤ 64)) = true
  rw [Bool.and_eq_true]
  exact ⟨by simp only [PyData.canLay0]; exact canLay_ints ms, decide_eq_true h2⟩

abbrev s__law_start : Stmt := topS 30
abbrev n__law_start : List Str := ["_law_script"]
theorem sc__law_start : FnScope n__law_start ["_law_script"] (defScope s__law_start) := ⟨rfl, rfl, rfl, by decide +kernel, rfl, by decide +kernel, by decide +kernel⟩
def spStart (K : PySem.W.Frag) : Sp := fun vs H Q _ => ∃ (a : Addr) (ns : List Int), vs = [.ref a] ∧ SqL K H a (ns.map V.int) ∧ ns.length ≤ 63 ∧ ∀ st cl H', Same H H' → H st = none → H cl = none → SpOk st cl 0 H' → Q (.ref st) H'
theorem ok_start {f : Addr} {fd : FuncData} (F : Fun K "_law_start" "_law_start" s__law_start f fd) (T : Bl mg) : FnOk P w K mg base CX0 1 f fd ["_law_script"] (spStart K) := by
  refine F.ok sc__law_start (fun vs H Q E h => ?_) (fun cdv A outer s H vs Q E hr h => ?_)
  · obtain ⟨a, ns, rfl, _⟩ := h
    rfl
  · obtain ⟨a, ns, rfl, hS, hl, k⟩ := h
    refine ⟨_, (pss_one (ps_ret (pe_lst (pa_cons (pe_callTy call_list_of (by rfl) T.b_list boot_list (pa_cons (pv 0) pa_nil)) (pa_cons pe_int (pa_cons pe_int (pa_cons pe_int pa_nil))))))), ?_⟩
    refine ⟨_, rfl, a, _, rfl, .inl hS, fun cl hcl => ⟨by show 4 ≤ sizeLine; decide, fun st hst => ?_⟩⟩
    have hst0 : H st = none := (Same.upd hcl).free hst
    have ne : st ≠ cl := fun e => by
      rw [e, upd_same] at hst
      cases hst
    refine k st cl _ ((Same.upd hcl).trans (Same.upd hst)) hst0 hcl ⟨ns, 0, 0, 11, ⟨upd_same, by rw [upd_ne (Ne.symm ne)]; exact upd_same, ne, by omega, by omega, by omega, by omega, by omega⟩, by omega⟩

abbrev s__law_draw : Stmt := topS 31
abbrev n__law_draw : List Str := ["_law_stream", "_law_many", "_law_cell", "_law_digit", "_law_mixed_here"]
theorem sc__law_draw : FnScope n__law_draw ["_law_stream", "_law_many"] (defScope s__law_draw) := ⟨rfl, rfl, rfl, by decide +kernel, rfl, by decide +kernel, by decide +kernel⟩
def spDraw : Sp := fun vs H Q _ => ∃ (st cl : Addr) (n : Nat) (m : Int), vs = [.ref st, .int m] ∧ SpOk st cl n H ∧ n ≤ 1000000000 ∧ 0 < m ∧ m < 1000000 ∧ ∀ i H', 0 ≤ i → i < m → KpS st cl H H' → SpOk st cl (n + 1) H' → Q (.int i) H'
def lenAt (cl : Addr) (H : Hp) : Nat := match H cl with
  | some (.lst xs) => xs.length
  | _ => 0
theorem ok_draw {f : Addr} {fd : FuncData} (F : Fun K "_law_draw" "_law_draw" s__law_draw f fd) (T : Bl mg) : FnOk P w K mg base CX0 1 f fd ["_law_stream", "_law_many"] spDraw := by
  refine F.ok sc__law_draw (fun vs H Q E h => ?_) (fun cdv A outer s H vs Q E hr h => ?_)
  · obtain ⟨st, cl, n, m, rfl, _⟩ := h
    rfl
  · obtain ⟨st, cl, n, m, rfl, ⟨ms, a, b, c, S, hbn⟩, hn, hm, hm2, k⟩ := h
    refine ⟨_, (pss_cons (ps_asg (pe_op op_addA (pe_ix ix_seq (pv 0) pe_int (fun _ _ => rfl)) pe_int) (pg_sub (pv 0) pe_int set_list))
    (Evl.pss_cut (ps_while PassesOwn.never (PW.pt (pw_and (pt_cmpR (op_eqD hr.units) (pe_ix ix_seq (pv 0) pe_int (fun _ _ => rfl)) pe_int (nomark _)) (pw_and1 (pt_cmpR (op_neD hr.units) (pe_ix ix_seq (pv 0) pe_int (fun _ _ => rfl)) (pe_lst pa_nil) (nomark _)))))
    (pss_cons (ps_set (i := 2) sc__law_draw.nd rfl (by first | exact Or.inl rfl | exact Or.inr rfl) (pe_bm PySem.F.plainAttrs_list PySem.F.slot_list_pop PySem.F.type_list_pop mt_popAt (pe_ix ix_seq (pv 0) pe_int (fun _ _ => rfl)) (pa_cons pe_int pa_nil)))
    (pss_cons (ps_asg (pe_op op_mod (pe_callTy call_int1 (by rfl) T.b_int boot_int (pa_cons (pe_op op_addA (pe_op op_addA (pe_op op_mulA (pe_ix ix_seq (pv 0) pe_int (fun _ _ => rfl)) pe_int) (pv 2)) pe_int) pa_nil)) pe_int) (pg_sub (pv 0) pe_int set_list))
    (pss_one (ps_asg (pe_ifExp (pt_cmpR op_ge (pv 2) (pe_op op_pow pe_int pe_int) (nomark _)) (pv 2) pe_int) (pg_sub (pv 0) pe_int set_list))))))
    (pss_cons (ps_if (pt_cmpR op_gt (pe_ix ix_seq (pv 0) pe_int (fun _ _ => rfl)) pe_int (nomark _))
    (pss_cons (ps_set (i := 3) sc__law_draw.nd rfl (by first | exact Or.inl rfl | exact Or.inr rfl) (pe_op op_mod (pe_callTy call_int1 (by rfl) T.b_int boot_int (pa_cons (pe_ix ix_seq (pv 0) pe_int (fun _ _ => rfl)) pa_nil)) (pv 1)))
    (pss_cons (ps_asg (pe_op op_fdiv (pe_ix ix_seq (pv 0) pe_int (fun _ _ => rfl)) (pv 1)) (pg_sub (pv 0) pe_int set_list))
    (pss_one (ps_ret (pv 3))))) pss_nil)
    (pss_cons (ps_set (i := 4) sc__law_draw.nd rfl (by first | exact Or.inl rfl | exact Or.inr rfl) (pe_op op_mod (pe_callTy call_int1 (by rfl) T.b_int boot_int (pa_cons (pe_op op_pow (pe_op op_addA (pe_op op_addA (pe_ix ix_seq (pv 0) pe_int (fun _ _ => rfl)) (pe_op op_mulA pe_int (pe_ix ix_seq (pv 0) pe_int (fun _ _ => rfl)))) pe_int) pe_int) pa_nil)) pe_int))
    (pss_one (ps_ret (pe_op op_mod (pe_op op_mod (pe_callTy call_int1 (by rfl) T.b_int boot_int (pa_cons (pe_op op_pow (pe_op op_addA (pe_op op_addA (pe_op op_mulA (pv 4) pe_int) (pe_op op_mulA pe_int (pe_ix ix_seq (pv 0) pe_int (fun _ _ => rfl)))) pe_int) pe_int) pa_nil)) pe_int) (pv 1)))))))), ?_⟩
    -- stream[2] = stream[2] + 1
    refine ix_at (i := 0) rfl S.hs (v := .int b) rfl ?_
    refine .inl ⟨b, 1, rfl, rfl, ?_⟩
    refine set_at (i := 0) (j := 2) rfl S.hs rfl ?_
    have S1 : SpAt st cl ms a (b + 1) c (upd H st (.lst [.ref cl, .int a, .int (b + 1), .int c])) := S.put2 (by have := S.b0; omega)
    have k1 : KpS st cl H (upd H st (.lst [.ref cl, .int a, .int (b + 1), .int c])) := KpS.put (.inl rfl)
    -- the loop
    refine ⟨fun σ H' => ∃ ms' a' c' x, σ = [some (.ref st), some (.int m), x, none, none] ∧ SpAt st cl ms' a' (b + 1) c' H' ∧ KpS st cl H H',
      ⟨fun l σ H' => ∃ ms' a' c' x, l = ms'.length ∧ σ = [some (.ref st), some (.int m), x, none, none] ∧ SpAt st cl ms' a' (b + 1) c' H' ∧ KpS st cl H H', ⟨ms.length, ms, a, c, none, rfl, rfl, S1, k1⟩, ?_⟩, ?_⟩
    · rintro l σ H1 ⟨ms1, a1, c1, x1, rfl, rfl, S2, k2⟩
      refine ix_at (i := 0) rfl S2.hs (v := .int a1) rfl ?_
      refine ⟨.int a1, .int 0, .int _, .int _, shaped_int _, shaped_int _, _, rfl, ?_⟩
      rw [eqv_int]
      by_cases ha : a1 = 0
      · rw [decide_eq_true ha]
        refine iteT ?_
        refine ix_at (i := 0) rfl S2.hs (v := .ref cl) rfl ?_
        refine ⟨by show 0 ≤ sizeLine; decide, fun p hp => ?_⟩
        have S3 := S2.same (Same.upd (o := .lst []) hp)
        refine ⟨.list (ms1.map .int), .list [], .lst (SqL.of S3.hc) (dp_ints ms1), .lst (SqL.of upd_same) .nil, shaped_ints ms1, shaped_ints [], _, rfl, ?_⟩
        have k3 : KpS st cl H (upd H1 p (.lst [])) := k2.trans (KpS.of (Same.upd hp))
        cases ms1 with
        | nil =>
          refine iteF ?_
          exact ⟨[], a1, c1, x1, rfl, S3, k3⟩
        | cons m1 r1 =>
          refine iteT ?_
          refine ⟨fun σ H' => ∃ a' c' x, σ = [some (.ref st), some (.int m), x, none, none] ∧ SpAt st cl r1 a' (b + 1) c' H' ∧ KpS st cl H H', fun σ' H' ⟨a', c', x, e, S', k'⟩ => ⟨r1.length, Nat.lt_succ_self _, r1, a', c', x, rfl, e, S', k'⟩, ?_⟩
          -- cell = stream[0].pop(0)
          refine ix_at (i := 0) rfl S3.hs (v := .ref cl) rfl ?_
          refine ⟨.inl ⟨rfl, _, SqL.of S3.hc⟩, cl, _, 0, 0, .int m1, rfl, rfl, S3.hc, by decide, by decide, (by simp [seqIndex?]), rfl, ?_⟩
          have S4 := S3.pop rfl
          have k4 := k3.trans (KpS.put (H := upd H1 p (.lst [])) (o := .lst (r1.map V.int)) (st := st) (.inr rfl))
          -- stream[3] = int(stream[3] * 8191 + cell + 3) % 2147483647
          refine ix_at (i := 0) rfl S4.hs (v := .int c1) rfl ?_
          refine .inl ⟨c1, 8191, rfl, rfl, .inr ⟨by decide, by decide⟩, ?_⟩
          refine ⟨.int m1, rfl, .inl ⟨_, _, rfl, rfl, ?_⟩⟩
          refine .inl ⟨_, _, rfl, rfl, ?_⟩
          refine .inl ⟨_, rfl, ?_⟩
          refine ⟨_, _, rfl, rfl, (by decide : (0 : Int) < 2147483647), ?_⟩
          refine set_at (i := 0) (j := 3) rfl S4.hs rfl ?_
          have S5 := S4.put3 (z := (c1 * 8191 + m1 + 3) % 2147483647) (Int.emod_nonneg _ (by decide)) (Int.emod_lt_of_pos _ (by decide))
          have k5 := k4.trans (KpS.put (H := upd (upd H1 p (.lst [])) cl (.lst (r1.map V.int))) (o := .lst [.ref cl, .int a1, .int (b + 1), .int ((c1 * 8191 + m1 + 3) % 2147483647)]) (st := st) (cl := cl) (.inl rfl))
          -- stream[1] = cell if cell >= 10 ** 18 else 0
          refine ⟨.int m1, rfl, ?_⟩
          refine ⟨10, 18, rfl, rfl, ⟨by decide, by decide, by decide⟩, ?_⟩
          refine ⟨_, _, rfl, rfl, _, rfl, ?_⟩
          by_cases hg : (10 : Int) ^ (18 : Int).toNat ≤ m1
          · rw [decide_eq_true hg]
            refine iteT ?_
            refine ⟨.int m1, rfl, ?_⟩
            refine set_at (i := 0) (j := 1) rfl S5.hs rfl ?_
            exact ⟨m1, _, _, rfl, S5.put1 (Int.le_trans (by decide) hg), k5.trans (KpS.put (.inl rfl))⟩
          · rw [decide_eq_false hg]
            refine iteF ?_
            refine set_at (i := 0) (j := 1) rfl S5.hs rfl ?_
            exact ⟨0, _, _, rfl, S5.put1 (by decide), k5.trans (KpS.put (.inl rfl))⟩
      · rw [decide_eq_false ha]
        refine iteF ?_
        refine iteF ?_
        exact ⟨ms1, a1, c1, x1, rfl, S2, k2⟩
    · rintro σ H1 ⟨ms1, a1, c1, x1, rfl, S2, k2⟩
      -- if stream[1] > 0
      refine ix_at (i := 0) rfl S2.hs (v := .int a1) rfl ?_
      refine ⟨a1, 0, rfl, rfl, _, rfl, ?_⟩
      by_cases ha : 0 < a1
      · rw [decide_eq_true ha]
        refine iteT ?_
        refine ix_at (i := 0) rfl S2.hs (v := .int a1) rfl ?_
        refine .inl ⟨a1, rfl, ?_⟩
        refine ⟨.int m, rfl, a1, m, rfl, rfl, hm, ?_⟩
        refine ix_at (i := 0) rfl S2.hs (v := .int a1) rfl ?_
        refine ⟨.int m, rfl, a1, m, rfl, rfl, ⟨hm, by omega⟩, ?_⟩
        refine set_at (i := 0) (j := 1) rfl S2.hs rfl ?_
        refine ⟨.int (a1 % m), rfl, ?_⟩
        exact k _ _ (Int.emod_nonneg _ (by omega)) (Int.emod_lt_of_pos _ hm) (k2.trans (KpS.put (.inl rfl))) ⟨ms1, _, _, _, S2.put1 (Int.ediv_nonneg (by omega) (by omega)), by omega⟩
      · rw [decide_eq_false ha]
        refine iteF ?_
        -- mixed
        refine ix_at (i := 0) rfl S2.hs (v := .int c1) rfl ?_
        refine ix_at (i := 0) rfl S2.hs (v := .int (b + 1)) rfl ?_
        refine .inl ⟨7919, b + 1, rfl, rfl, .inl ⟨by decide, by decide⟩, ?_⟩
        refine .inl ⟨_, _, rfl, rfl, ?_⟩
        refine .inl ⟨_, _, rfl, rfl, ?_⟩
        have c0 := S2.c0
        have c1' := S2.c1
        have b0 := S.b0
        refine ⟨_, 5, rfl, rfl, ⟨by decide, by decide, by omega⟩, ?_⟩
        refine .inl ⟨_, rfl, ?_⟩
        refine ⟨_, _, rfl, rfl, (by decide : (0 : Int) < 2147483629), ?_⟩
        show gName 4 (V.int ((c1 + 7919 * (b + 1) + 104729) ^ (5 : Int).toNat % 2147483629)) _ _ _
        generalize hx : (c1 + 7919 * (b + 1) + 104729) ^ (5 : Int).toNat % 2147483629 = x
        have x0 : 0 ≤ x := by rw [← hx]; exact Int.emod_nonneg _ (by decide)
        have x1' : x < 2147483629 := by rw [← hx]; exact Int.emod_lt_of_pos _ (by decide)
        refine ⟨.int x, rfl, .inl ⟨x, 48271, rfl, rfl, .inr ⟨by decide, by decide⟩, ?_⟩⟩
        refine ix_at (i := 0) rfl S2.hs (v := .int (b + 1)) rfl ?_
        refine .inl ⟨30011, b + 1, rfl, rfl, .inl ⟨by decide, by decide⟩, ?_⟩
        refine .inl ⟨_, _, rfl, rfl, ?_⟩
        refine .inl ⟨_, _, rfl, rfl, ?_⟩
        refine ⟨_, 3, rfl, rfl, ⟨by decide, by decide, by omega⟩, ?_⟩
        refine .inl ⟨_, rfl, ?_⟩
        refine ⟨_, _, rfl, rfl, (by decide : (0 : Int) < 1000000007), ?_⟩
        refine ⟨.int m, rfl, _, m, rfl, rfl, hm, ?_⟩
        exact k _ _ (Int.emod_nonneg _ (by omega)) (Int.emod_lt_of_pos _ hm) k2 ⟨ms1, _, _, _, S2, by omega⟩
end K53

/-! Draws over data. -/
namespace K53
-- HINT _law_mixed lcte tBM K "list" rPopAt (tVar 2) (tCons (tCall spDraw [] E0 (tCons (tVar 0) (tCons (tCB (fun xs H Q => ∃ x n, xs = [x] ∧ LenV K x H n ∧ Q (V.int n) H) (tCons (tVar 2) tNil)) tNil))) tNil)
open PySem PySem.Spec PyProof.Rows L2 KD
variable {P : Program} {w : World} {K : PySem.W.Frag} {mg : Str → Option Value} {base : Heap}
/-- the spring stands apart from the data -/
structure Sg (X : Addr → Prop) (st cl : Addr) (n : Nat) (H : Hp) : Prop where
  ok : SpOk st cl n H
  x1 : X st
  x2 : X cl
  t : Trk X H
section
variable {X X' : Addr → Prop} {st cl p : Addr} {n m : Nat} {H H' : Hp} {σ : L2.St} {Γ : List Sv}
theorem Sg.same (S : Sg X st cl n H) (s : Same H H') : Sg X st cl n H' := ⟨S.ok.same s, S.x1, S.x2, S.t.mono s⟩
theorem Sg.step (S : Sg X st cl n H) (k : KpS st cl H H') (o : SpOk st cl m H') : Sg X st cl m H' := ⟨o, S.x1, S.x2, o.trk k S.t⟩
theorem Sg.le (S : Sg X st cl n H) (h : n ≤ m) : Sg X st cl m H := ⟨S.ok.le h, S.x1, S.x2, S.t⟩
theorem Sg.kp (S : Sg X st cl n H) (k : KpS st cl H H') : Kp X H H' := k.kp S.x1 S.x2
theorem Sg.more (S : Sg X st cl n H) (m : More X X' H) (t : Trk X' H) : Sg X' st cl n H := ⟨S.ok, m.1 _ S.x1, m.1 _ S.x2, t⟩
theorem Sg.ne1 (S : Sg X st cl n H) (h : H p = none) : p ≠ st := fun e => S.t.new h (e ▸ S.x1)
theorem Sg.ne2 (S : Sg X st cl n H) (h : H p = none) : p ≠ cl := fun e => S.t.new h (e ▸ S.x2)
theorem SpOk.put {o : HO} (h : SpOk st cl n H) (h1 : p ≠ st) (h2 : p ≠ cl) : SpOk st cl n (upd H p o) := by
  obtain ⟨ms, a, b, c, S, hb⟩ := h
  exact ⟨ms, a, b, c, ⟨by rw [upd_ne (Ne.symm h1)]; exact S.hs, by rw [upd_ne (Ne.symm h2)]; exact S.hc, S.ne, S.a0, S.b0, S.c0, S.c1, S.ml⟩, hb⟩
theorem Sg.put {o : HO} (S : Sg X st cl n H) (h1 : p ≠ st) (h2 : p ≠ cl) : Sg X st cl n (upd H p o) := ⟨S.ok.put h1 h2, S.x1, S.x2, S.t.put⟩
theorem _root_.KD.EnvOk.kps (E : EnvOk X H σ Γ) (S : Sg X st cl n H) (k : KpS st cl H H') : EnvOk X H' σ Γ := E.mono (S.kp k)
end
section
variable {σ : L2.St} {H : Hp} {te ta tb : TE} {D : Ends} {r : R2} {Q : VK} {g : TG} {tz : TS} {tt : TT} {tl : TA}
theorem k_ret (h : te σ H D.rt) : tRet te D σ H := h
theorem k_op (h : ta σ H fun x H1 => tb σ H1 fun y H2 => r x y H2 Q) : tOp r ta tb σ H Q := h
theorem k_set {i : Nat} (h : te σ H fun v H1 => tz D (σ.set i (some v)) H1) : tSeq (tAsg te (gName i)) tz D σ H := h
theorem k_asg (h : te σ H fun v H1 => g v σ H1 fun σ2 H2 => tz D σ2 H2) : tSeq (tAsg te g) tz D σ H := h
theorem k_yes {A B : Hp → Prop} (h : A H) : tYes σ H fun b H3 => if b = true then A H3 else B H3 := by
  show (if true = true then A H else B H)
  rw [if_pos rfl]
  exact h
theorem k_lcR {ta : TA} {us : List Nat} (h : ta σ H fun vs H1 => ∃ j : Int, vs = [.int j] ∧ -(2 ^ 62) ≤ j ∧ j < 2 ^ 62 ∧ tLc (fun _ H2 R => R (Itr 0 j.toNat) H2) g tt te us σ H1 Q) : tLc (iRng1 ta) g tt te us σ H Q := h
theorem k_cb {rr : List V → Hp → VK → Prop} (h : tl σ H fun vs H1 => rr vs H1 Q) : tCB rr tl σ H Q := h
theorem k_cons {Qa : List V → Hp → Prop} (h : te σ H fun v H1 => tl σ H1 fun vs H2 => Qa (v :: vs) H2) : tCons te tl σ H Qa := h
theorem k_par {i j : Nat} (h : ta σ H fun x H1 => tb σ H1 fun y H2 => ∃ v w, [x, y] = [v, w] ∧ tz D ((σ.set i (some v)).set j (some w)) H2) : tSeq (tPar i j (tCons ta (tCons tb tNil))) tz D σ H := h
end
theorem at_nat {ds : List PyData} {i : Int} (h0 : 0 ≤ i) (hj : i.toNat < ds.length) : atI ds i = some ds[i.toNat] := by
  unfold atI
  have e : ixN ds.length i = some i.toNat := by
    have h := Evl.ixN_nat hj
    rw [show ((i.toNat : Nat) : Int) = i from by omega] at h
    exact h
  rw [e]
  show ds[i.toNat]? = some _
  rw [List.getElem?_eq_getElem hj]
theorem seqIx_nat {i : Int} {n : Nat} (h0 : 0 ≤ i) (h1 : i.toNat < n) : seqIndex? i n = some i.toNat := by
  unfold seqIndex?
  have h : ¬ i < 0 := by omega
  have h2 : (decide (0 ≤ i) && decide (i < (n : Int))) = true := by
    rw [Bool.and_eq_true]
    exact ⟨decide_eq_true h0, decide_eq_true (by omega)⟩
  simp only [if_neg h]
  rw [if_pos h2]
theorem erase_perm {α : Type} : ∀ (l : List α) (i : Nat) (h : i < l.length), (l[i] :: l.eraseIdx i).Perm l
  | a :: l, 0, _ => List.Perm.refl _
  | a :: l, i + 1, h => (List.Perm.swap _ _ _).trans ((erase_perm l i (by simpa using h)).cons a)
/-- a draw -/
theorem c_draw {X : Addr → Prop} {st cl : Addr} {n : Nat} {H : Hp} {σ : L2.St} {ts tm : TE} {E : XK} {m : Int} {Q : VK} (S : Sg X st cl n H) (hv : GV ts σ H (.ref st)) (hm : G X tm σ H (.int m)) (hn : n ≤ 1000000000) (h0 : 0 < m) (h1 : m < 1000000)
    (k : ∀ i H', 0 ≤ i → i < m → Sg X st cl (n + 1) H' → KpS st cl H H' → Q (.int i) H') : tCall spDraw [] E (tCons ts (tCons tm tNil)) σ H Q :=
  hv H (Same.refl H) _ (hm H (Same.refl H) _ fun v H1 s1 r => ⟨st, cl, n, m, by rw [r.int_inv]; rfl, S.ok.same s1, hn, h0, h1, fun i H' i0 i1 kk so => k i H' i0 i1 ((S.same s1).step kk so) ((KpS.of s1).trans kk)⟩)
abbrev s__law_pick : Stmt := topS 32
abbrev n__law_pick : List Str := ["_law_stream", "_law_some"]
theorem sc__law_pick : FnScope n__law_pick ["_law_stream", "_law_some"] (defScope s__law_pick) := ⟨rfl, rfl, rfl, by decide +kernel, rfl, by decide +kernel, by decide +kernel⟩
def spPick : Sp := fun vs H Q _ => ∃ (X : Addr → Prop) (st cl : Addr) (n : Nat) (v : V) (ds : List PyData), vs = [.ref st, v] ∧ Sg X st cl n H ∧ n ≤ 1000000000 ∧ DX X H v (.list ds) ∧ 0 < ds.length ∧ ds.length < 1000000 ∧
  ∀ w d H', d ∈ ds → Sg X st cl (n + 1) H' → KpS st cl H H' → DX X H' w d → Q w H'
theorem ok_pick {f : Addr} {fd : FuncData} (F : Fun K "_law_pick" "_law_pick" s__law_pick f fd) (T : Bl mg) (O__law_draw : Own P w K mg base CX0 1 "_law_draw" ["_law_stream", "_law_many"] spDraw) : FnOk P w K mg base CX0 2 f fd ["_law_stream", "_law_some"] spPick := by
  refine F.ok sc__law_pick (fun vs H Q E h => ?_) (fun cdv A outer s H vs Q E hr h => ?_)
  · obtain ⟨X, st, cl, n, v, ds, rfl, _⟩ := h
    rfl
  · obtain ⟨X, st, cl, n, v, ds, rfl, S, hn, hd, h0, h1, k⟩ := h
    refine ⟨_, (pss_one (ps_ret (pe_ix ix_seq (pv 1) (pe_own O__law_draw hr (by decide) (by rfl) (pa_cons (pv 0) (pa_cons (pe_callB call_len (by rfl) T.b_len boot_len (pa_cons (pv 1) pa_nil)) pa_nil))) (fun _ _ => rfl)))), ?_⟩
    have En : EnvOk X H (L2.start n__law_pick [.ref st, v]) [.val (.ref st), .dat (.list ds)] := ⟨rfl, fun i s e => by
      match i, e with
      | 0, e => cases e; rfl
      | 1, e => cases e; exact ⟨_, rfl, hd⟩⟩
    refine k_ret (k_op (g_var (i := 1) En rfl H (Same.refl H) _ fun v1 H1 s1 r1 => ?_))
    refine c_draw (S.same s1) (gv_var (En.same s1) rfl) (g_len (S.t.mono s1) (g_var (En.same s1) rfl) rfl) hn (by show 0 < (ds.length : Int); omega) (by show (ds.length : Int) < 1000000; omega) fun i H' i0 i1 S2 k2 => ?_
    have i1 : i < (ds.length : Int) := i1
    have hj : i.toNat < ds.length := by omega
    refine rd_ixL (z := ds[i.toNat]) (at_nat (by omega) hj) H' v1 (.int i) S2.t (r1.mono ((S.same s1).kp k2)) (.int i) _ fun w2 H2 s2 dw => ?_
    exact k w2 _ H2 (List.getElem_mem _) (S2.same s2) (((KpS.of s1).trans k2).trans (KpS.of s2)) dw
theorem c_pick {X : Addr → Prop} {st cl : Addr} {n : Nat} {H : Hp} {σ : L2.St} {ts tm : TE} {E : XK} {ds : List PyData} {Q : VK} (S : Sg X st cl n H) (hv : GV ts σ H (.ref st)) (hm : G X tm σ H (.list ds)) (hn : n ≤ 1000000000) (h0 : 0 < ds.length) (h1 : ds.length < 1000000)
    (k : ∀ w d H', d ∈ ds → Sg X st cl (n + 1) H' → KpS st cl H H' → DX X H' w d → Q w H') : tCall spPick [] E (tCons ts (tCons tm tNil)) σ H Q :=
  hv H (Same.refl H) _ (hm H (Same.refl H) _ fun v H1 s1 r => ⟨X, st, cl, n, v, ds, rfl, S.same s1, hn, r, h0, h1, fun w d H' hd S2 kk dw => k w d H' hd S2 ((KpS.of s1).trans kk) dw⟩)
/-- some things drawn one after the other into a new list -/
theorem lc_draws {X : Addr → Prop} {st cl : Addr} {n : Nat} {H : Hp} {σ : L2.St} {Γ : List Sv} {te : TE} {i m : Nat} {Q : VK} (pr : PyData → Prop) (S : Sg X st cl n H) (En : EnvOk X H σ Γ) (hm : m ≤ 100000)
    (he : ∀ X' H1 σ2 k Q1, k < m → EnvOk X' H1 σ2 ((Γ.set i .un).set i (.dat (.int (k : Nat)))) → Sg X' st cl (n + k) H1 → (∀ w d H', pr d → Sg X' st cl (n + k + 1) H' → KpS st cl H1 H' → DX X' H' w d → Q1 w H') → te σ2 H1 Q1)
    (q : ∀ w ds H', ds.length = m → (∀ d ∈ ds, pr d) → Sg X st cl (n + m) H' → KpS st cl H H' → DX X H' w (.list ds) → Nw H w → Q w H') : tLc (fun σ H R => R (Itr 0 m) H) (gName i) tYes te [i] σ H Q := by
  intro D hD
  have m2 : More X (fun a => X a ∨ a = D) H := More.one hD
  have d1 := S.ne1 hD
  have d2 := S.ne2 hD
  obtain ⟨Gd, Y, w1, w2⟩ := walkD_range (X := X) (H := H) (lo := 0) (n := m)
  rw [rangeD_len] at w1
  have key : ∀ H3, Kp (fun a => X a ∨ a = D) H H3 ∧ Trk (fun a => X a ∨ a = D) H3 → Gd H3 := fun H3 p => (w2 _ m2.2 H3 p.1 p.2).1
  let I : Nat → Hp → Prop := fun k H3 => KpS st cl H H3 ∧ Sg (fun a => X a ∨ a = D) st cl (n + k) H3 ∧ ∃ acc ds, H3 D = some (.lst acc) ∧ DXs (fun a => X a ∨ a = D) H3 acc ds ∧ ds.length = k ∧ ∀ d ∈ ds, pr d
  have ik : ∀ {k H3}, I k H3 → Kp (fun a => X a ∨ a = D) H H3 ∧ Trk (fun a => X a ∨ a = D) H3 := fun {k H3} p => ⟨p.1.kp (.inl S.x1) (.inl S.x2), p.2.1.t⟩
  refine lc_it w1 I ?_ (fun i H3 _ p => key H3 (ik p)) ?_ ?_
  · exact ⟨KpS.of (Same.upd hD), ⟨(S.ok).same (Same.upd hD), .inl S.x1, .inl S.x2, S.t.one hD⟩, [], [], upd_same, .nil, rfl, fun d h => by cases h⟩
  · rintro k x H3 H4 hk p y
    obtain ⟨s4, d, hd, dx⟩ := (w2 _ m2.2 H3 (ik p).1 (ik p).2).2 k x H4 y
    obtain ⟨p1, p2, acc, ds, p3, p4, p5, p6⟩ := p
    rw [rangeD_get hk] at hd
    cases hd
    have S4 := p2.same s4
    have k4 : Kp (fun a => X a ∨ a = D) H H4 := (p1.kp (.inl S.x1) (.inl S.x2)).trans (Kp.of s4)
    refine tgt_name (X := X) (i := i) En _ H4 m2 k4 S4.t x dx _ fun σ2 E2 hw => ⟨hw, ?_⟩
    refine k_yes ?_
    rw [show (0 : Int) + (k : Int) = (k : Nat) from by omega] at E2
    refine he _ H4 σ2 k _ hk E2 S4 fun w d H5 hp S5 k5 dw => ?_
    refine ⟨acc, k5 D _ d1 d2 (s4 D _ p3), by rw [p4.length, p5, sizeLine_eq]; omega, ?_, ?_, acc ++ [w], ds ++ [d], upd_same, ?_, by rw [List.length_append, p5]; rfl, fun z hz => ?_⟩
    · exact fun a o n1 n2 e => by
        have := k5 a o n1 n2 (s4 a _ (p1 a o n1 n2 e))
        rw [upd_ne (ne_of_none e hD)]
        exact this
    · exact S5.put d1 d2
    · exact (((p4.mono (Kp.of s4)).mono (S4.kp k5)).snoc dw).mono (Kp.put (.inr rfl))
    · rcases List.mem_append.mp hz with h | h
      · exact p6 z h
      · rw [List.mem_singleton.mp h]
        exact hp
  · rintro H3 ⟨p1, p2, acc, ds, p3, p4, p5, p6⟩
    have nXD : ¬ X D := S.t.new hD
    exact q (.ref D) ds H3 p5 p6 ⟨p2.ok, S.x1, S.x2, fun a h => p2.t a (.inl h)⟩ p1 (.lst nXD p3 (p4.less fun a => .inl)) (Nw.of hD)
abbrev s__law_mixed : Stmt := topS 33
abbrev n__law_mixed : List Str := ["_law_stream", "_law_some", "_law_left", "_law_k"]
theorem sc__law_mixed : FnScope n__law_mixed ["_law_stream", "_law_some"] (defScope s__law_mixed) := ⟨rfl, rfl, rfl, by decide +kernel, rfl, by decide +kernel, by decide +kernel⟩
def spMixed : Sp := fun vs H Q _ => ∃ (X : Addr → Prop) (st cl : Addr) (n : Nat) (v : V) (ds : List PyData), vs = [.ref st, v] ∧ Sg X st cl n H ∧ n + ds.length ≤ 1000000000 ∧ DX X H v (.list ds) ∧ ds.length < 1000000 ∧
  ∀ w es H', es.Perm ds → Sg X st cl (n + ds.length) H' → KpS st cl H H' → DX X H' w (.list es) → Nw H w → Q w H'
theorem ok_mixed {f : Addr} {fd : FuncData} (F : Fun K "_law_mixed" "_law_mixed" s__law_mixed f fd) (T : Bl mg) (O__law_draw : Own P w K mg base CX0 1 "_law_draw" ["_law_stream", "_law_many"] spDraw) : FnOk P w K mg base CX0 2 f fd ["_law_stream", "_law_some"] spMixed := by
  refine F.ok sc__law_mixed (fun vs H Q E h => ?_) (fun cdv A outer s H vs Q E hr h => ?_)
  · obtain ⟨X, st, cl, n, v, ds, rfl, _⟩ := h
    rfl
  · obtain ⟨X, st, cl, n, v, ds, rfl, S, hn, hd, h1, k⟩ := h
    refine ⟨_, (pss_cons (ps_set (i := 2) sc__law_mixed.nd rfl (by first | exact Or.inl rfl | exact Or.inr rfl) (pe_callTy call_list_of (by rfl) T.b_list boot_list (pa_cons (pv 1) pa_nil)))
    (pss_one (ps_ret (pe_lc (own := [("_law_k", 3)]) (g := (gName 3)) (tt := tYes) (te := tBM K "list" rPopAt (tVar 2) (tCons (tCall spDraw [] E0 (tCons (tVar 0) (tCons (tCB (fun xs H Q => ∃ x n, xs = [x] ∧ LenV K x H n ∧ Q (V.int n) H) (tCons (tVar 2) tNil)) tNil))) tNil)) rfl sc__law_mixed.nd (pi_range1 (by rfl) T.b_range (pa_cons (pe_callB call_len (by rfl) T.b_len boot_len (pa_cons (pv 2) pa_nil)) pa_nil)) (blkOk_by (N := n__law_mixed) (sc := defScope s__law_mixed) (by decide +kernel)) (fun _ _ _ _ _ => (pg_name (i := 3) sc__law_mixed.nd rfl (by first | exact Or.inl rfl | exact Or.inr rfl))) (fun _ _ _ _ _ => pts_nil) (fun _ _ _ _ _ => (pe_bm PySem.F.plainAttrs_list PySem.F.slot_list_pop PySem.F.type_list_pop mt_popAt (pv 2) (pa_cons (pe_own O__law_draw hr (by decide) (by rfl) (pa_cons (pv 0) (pa_cons (pe_callB call_len (by rfl) T.b_len boot_len (pa_cons (pv 2) pa_nil)) pa_nil))) pa_nil))))))), ?_⟩
    have En : EnvOk X H (L2.start n__law_mixed [.ref st, v]) [.val (.ref st), .dat (.list ds), .un, .un] := ⟨rfl, fun i s e => by
      match i, e with
      | 0, e => cases e; rfl
      | 1, e => cases e; exact ⟨_, rfl, hd⟩
      | 2, e => cases e; trivial
      | 3, e => cases e; trivial⟩
    -- left = list(some)
    refine k_set (gn_listOf (d := .list ds) S.t (g_var (i := 1) En rfl) rfl H (Same.refl H) _ fun v1 H1 s1 d1 nw1 => ?_)
    obtain ⟨L, us, rfl, nL, eL, rL⟩ := d1.inner
    have hL : H L = none := nw1 L rfl
    have E1 := (((En.more (More.one hL)).same s1).setV (i := 2) (v := .ref L))
    have t1 : Trk (fun b => X b ∨ b = L) H1 := fun a h => h.elim (fun x => S.t.mono s1 a x) fun e => ⟨_, e ▸ eL⟩
    have S1 : Sg (fun b => X b ∨ b = L) st cl n H1 := ⟨S.ok.same s1, .inl S.x1, .inl S.x2, t1⟩
    have n1 := S.ne1 hL
    have n2 := S.ne2 hL
    -- range(len(left))
    refine k_ret ?_
    refine ⟨_, E1.get 2 _ rfl, ?_⟩
    have xl1 : us.length = ds.length := rL.length
    refine ⟨.ref L, us.length, rfl, .inl ⟨us, SqL.of eL, rfl⟩, ?_⟩
    refine ⟨_, rfl, by omega, by omega, ?_⟩
    rw [show (us.length : Int).toNat = ds.length from by omega]
    intro D hD
    have dL : D ≠ L := fun e => by rw [e, eL] at hD; cases hD
    let X1 : Addr → Prop := fun b => X b ∨ b = L
    let X2 : Addr → Prop := fun a => X1 a ∨ a = D
    have m2 : More X1 X2 H1 := More.one hD
    have d1 := S1.ne1 hD
    have d2 := S1.ne2 hD
    obtain ⟨Gd, Y, w1, w2⟩ := walkD_range (X := X1) (H := H1) (lo := 0) (n := ds.length)
    rw [rangeD_len] at w1
    let I : Nat → Hp → Prop := fun k H3 => (∀ a o, a ≠ st → a ≠ cl → a ≠ L → H1 a = some o → H3 a = some o) ∧ Sg X2 st cl (n + k) H3 ∧ ∃ acc es left xs, H3 D = some (.lst acc) ∧ DXs X2 H3 acc es ∧ H3 L = some (.lst xs) ∧ DXs X2 H3 xs left ∧ es.length = k ∧ (es ++ left).Perm ds
    have ik : ∀ {k H3}, I k H3 → Kp X2 H1 H3 ∧ Trk X2 H3 := fun {k H3} p => ⟨fun a o n e => p.1 a o (fun z => n (z ▸ .inl (.inl S.x1))) (fun z => n (z ▸ .inl (.inl S.x2))) (fun z => n (z ▸ .inl (.inr rfl))) e, p.2.1.t⟩
    refine lc_it w1 I ?_ (fun i H3 _ p => (w2 _ m2.2 H3 (ik p).1 (ik p).2).1) ?_ ?_
    · have sD : Same H1 (upd H1 D (.lst [])) := Same.upd hD
      exact ⟨fun a o _ _ _ e => sD a o e, ⟨S1.ok.same sD, .inl (.inl S.x1), .inl (.inl S.x2), t1.one hD⟩, [], [], ds, us, upd_same, .nil, sD _ _ eL, (rL.more m2).mono (Kp.of sD), rfl, List.Perm.refl _⟩
    · rintro j x H3 H4 hj p y
      obtain ⟨s4, d, hd4, dx⟩ := (w2 _ m2.2 H3 (ik p).1 (ik p).2).2 j x H4 y
      obtain ⟨p1, p2, acc, es, left, xs, p3, p4, p5, p6, p7, p8⟩ := p
      have S4 := p2.same s4
      refine tgt_name (X := X1) (i := 3) E1 _ H4 m2 ((ik ⟨p1, p2, acc, es, left, xs, p3, p4, p5, p6, p7, p8⟩).1.trans (Kp.of s4)) S4.t x dx _ fun σ2 E2 hw => ⟨hw, ?_⟩
      refine k_yes ?_
      have hL4 : H4 L = some (.lst xs) := s4 _ _ p5
      have r4 := p6.mono (Kp.of s4)
      have q4 := p4.mono (Kp.of s4)
      have lt0 : 0 < left.length := by
        have := p8.length_eq
        rw [List.length_append] at this
        omega
      have lt1 : left.length ≤ ds.length := by
        have := p8.length_eq
        rw [List.length_append] at this
        omega
      have lx : xs.length = left.length := r4.length
      refine ⟨_, E2.get 2 _ rfl, .inl ⟨rfl, _, SqL.of hL4⟩, ?_⟩
      refine k_cons (c_draw (m := (left.length : Nat)) S4 (gv_var (i := 0) E2 rfl) ?_ (by omega) (by omega) (by omega) fun i H5 i0 i1 S5 k5 => ?_)
      · intro H5 s5 Q5 q5
        refine ⟨_, E2.get 2 _ rfl, ?_⟩
        refine ⟨.ref L, xs.length, rfl, .inl ⟨xs, SqL.of (s5 _ _ hL4), rfl⟩, ?_⟩
        rw [lx]
        exact q5 _ H5 (Same.refl _) (.int _)
      · have hL5 : H5 L = some (.lst xs) := k5 L _ n1 n2 hL4
        have r5 := r4.mono (S4.kp k5)
        have q5 := q4.mono (S4.kp k5)
        have hi : i.toNat < left.length := by omega
        have hx : i.toNat < xs.length := by omega
        obtain ⟨y, hy, ry⟩ := r5.get (i := i.toNat) (d := left[i.toNat]) (List.getElem?_eq_getElem hi)
        refine ⟨L, xs, i, i.toNat, y, rfl, rfl, hL5, by omega, by omega, ?_, hy, ?_⟩
        · exact seqIx_nat i0 hx
        · have kL : Kp X2 H5 (upd H5 L (.lst (xs.eraseIdx i.toNat))) := Kp.put (.inl (.inr rfl))
          have nD : H5 D = some (.lst acc) := k5 D _ d1 d2 (s4 D _ p3)
          refine ⟨acc, by rw [upd_ne dL]; exact nD, by rw [p4.length, p7, sizeLine_eq]; omega, ?_, ?_, acc ++ [y], es ++ [left[i.toNat]], left.eraseIdx i.toNat, xs.eraseIdx i.toNat, upd_same, ?_, by rw [upd_ne (Ne.symm dL)]; exact upd_same, ?_, by rw [List.length_append, p7]; rfl, ?_⟩
          · intro a o a1 a2 a3 e
            rw [upd_ne (ne_of_none e hD), upd_ne a3]
            exact k5 a o a1 a2 (s4 a _ (p1 a o a1 a2 a3 e))
          · exact (S5.put n1 n2).put d1 d2
          · exact ((q5.snoc ry).mono kL).mono (Kp.put (.inr rfl))
          · exact ((r5.erase i.toNat).mono kL).mono (Kp.put (.inr rfl))
          · rw [List.append_assoc]
            refine List.Perm.trans (List.Perm.append_left es ?_) p8
            exact erase_perm left i.toNat hi
    · rintro H3 ⟨p1, p2, acc, es, left, xs, p3, p4, p5, p6, p7, p8⟩
      have nXD : ¬ X D := t1.new hD ∘ .inl
      have le : left = [] := by
        have := p8.length_eq
        rw [List.length_append] at this
        exact List.eq_nil_of_length_eq_zero (by omega)
      subst le
      rw [List.append_nil] at p8
      exact k (.ref D) es H3 p8 ⟨p2.ok, S.x1, S.x2, fun a h => p2.t a (.inl (.inl h))⟩ (fun a o n3 n4 e => p1 a o n3 n4 (ne_of_none e hL) (s1 a o e)) (.lst nXD p3 (p4.less fun a h => .inl (.inl h))) (fun a e => by cases e; exact s1.free hD)
end K53

namespace K53
open PySem PySem.Spec PyProof.Rows L2 KD
variable {P : Program} {w : World} {K : PySem.W.Frag} {mg : Str → Option Value} {base : Heap}
/-! ### leaves -/
def leaf : PyData → Bool
  | .none => true
  | .bool _ => true
  | .int _ => true
  | .str s => PyData.strOk s
  | _ => false
theorem canLay_leaf : ∀ {ds : List PyData}, (∀ d ∈ ds, leaf d = true) → PyData.canLayAll0 ds = true
  | [], _ => by simp [PyData.canLayAll0]
  | d :: ds, h => by
    have h1 := h d List.mem_cons_self
    have h2 := canLay_leaf fun z hz => h z (List.mem_cons_of_mem _ hz)
    cases d <;> simp_all [PyData.canLayAll0, PyData.canLay0, leaf]
theorem depth_leaf : ∀ {ds : List PyData}, (∀ d ∈ ds, leaf d = true) → PyData.depthAll ds ≤ 1
  | [], _ => by simp [PyData.depthAll]
  | d :: ds, h => by
    have h1 := h d List.mem_cons_self
    have h2 := depth_leaf fun z hz => h z (List.mem_cons_of_mem _ hz)
    cases d <;> simp_all [PyData.depthAll, PyData.depth, leaf]
theorem shaped_leaf {d : PyData} (h : leaf d = true) : SeqAt.shaped d = true := by
  cases d <;> simp_all [SeqAt.shaped, PyData.canLay0, PyData.depth, leaf]
theorem shaped_leafs {ds : List PyData} (h : ∀ d ∈ ds, leaf d = true) : SeqAt.shaped (.list ds) = true := by
  have := depth_leaf h
  have h2 : PyData.depth (.list ds) ≤ 64 := by
    simp only [PyData.depth]
    omega
  show ((PyData.list ds).canLay0 && decide ((PyData.list ds).depth ≤ 64)) = true
  rw [Bool.and_eq_true]
  exact ⟨by simp only [PyData.canLay0]; exact canLay_leaf h, decide_eq_true h2⟩
theorem noDict_leaf {d : PyData} (h : leaf d = true) : noDict d = true := by cases d <;> first | rfl | cases h
theorem noDicts_leaf : ∀ {ds : List PyData}, (∀ d ∈ ds, leaf d = true) → noDicts ds = true
  | [], _ => by simp [noDicts]
  | d :: ds, h => by
    have h1 := noDict_leaf (h d List.mem_cons_self)
    have h2 := noDicts_leaf fun z hz => h z (List.mem_cons_of_mem _ hz)
    simp [noDicts, h1, h2]
theorem rb_inD {X : Addr → Prop} {d : PyData} {ds : List PyData} (h : leaf d = true) (hs : ∀ z ∈ ds, leaf z = true) : RB X (rInD K) d (.list ds) (ds.any fun z => PyData.eqv z d) := fun H u v _ ru rv Q q => ⟨d, ds, ru.dp (noDict_leaf h), rv.dp (by show noDicts ds = true; exact noDicts_leaf hs), shaped_leaf h, shaped_leafs hs, q⟩
def letters : List Str := ["a", "b", "c", "d e", "", "a"]
def spText : Sp := fun vs H Q _ => ∃ (X : Addr → Prop) (st cl : Addr) (n m : Nat), vs = [.ref st, .int m] ∧ Sg X st cl n H ∧ n + m ≤ 1000000000 ∧ m ≤ 1000 ∧
  ∀ w ws H', ws.length = m → (∀ z ∈ ws, z ∈ letters) → Sg X st cl (n + m) H' → KpS st cl H H' → DX X H' w (wsD ws) → Nw H w → Q w H'
theorem strs_of {L : List Str} : ∀ {ds : List PyData}, (∀ d ∈ ds, d ∈ L.map PyData.str) → ∃ ws : List Str, ds = ws.map PyData.str ∧ ∀ z ∈ ws, z ∈ L
  | [], _ => ⟨[], rfl, fun z h => by cases h⟩
  | d :: ds, h => by
    obtain ⟨s, hs, rfl⟩ := List.mem_map.mp (h d List.mem_cons_self)
    obtain ⟨ws, rfl, hw⟩ := strs_of fun z hz => h z (List.mem_cons_of_mem _ hz)
    exact ⟨s :: ws, rfl, fun z hz => (List.mem_cons.mp hz).elim (fun e => e ▸ hs) (hw z)⟩
theorem env_sv {X : Addr → Prop} {H : Hp} {N : List Str} {vs : List V} {ss : List Sv} (hl : vs.length = ss.length) (hs : ∀ (i : Nat) (s : Sv), ss[i]? = some s → ∀ v, vs[i]? = some v → SvOk X H s (some (some v))) (hN : vs.length ≤ N.length) : EnvOk X H (L2.start N vs) (pad N ss) := by
  unfold pad
  rw [← hl]
  exact envOk_start hl hs hN
theorem env_s1 {X : Addr → Prop} {H : Hp} {N : List Str} {st : Addr} {v : V} {s : Sv} (h : SvOk X H s (some (some v))) (hN : 2 ≤ N.length) : EnvOk X H (L2.start N [.ref st, v]) (pad N [.val (.ref st), s]) :=
  env_sv rfl (fun i s e u e2 => by
    match i, e, e2 with
    | 0, e, e2 => cases e; cases e2; rfl
    | 1, e, e2 => cases e; cases e2; exact h) hN
theorem env_s2 {X : Addr → Prop} {H : Hp} {N : List Str} {st : Addr} {v v2 : V} {s s2 : Sv} (h : SvOk X H s (some (some v))) (h2 : SvOk X H s2 (some (some v2))) (hN : 3 ≤ N.length) : EnvOk X H (L2.start N [.ref st, v, v2]) (pad N [.val (.ref st), s, s2]) :=
  env_sv rfl (fun i s e u e2 => by
    match i, e, e2 with
    | 0, e, e2 => cases e; cases e2; rfl
    | 1, e, e2 => cases e; cases e2; exact h
    | 2, e, e2 => cases e; cases e2; exact h2) hN
theorem ga_strs {X : Addr → Prop} {σ : L2.St} {H : Hp} : ∀ L : List Str, GA X (L.foldr (fun s t => tCons (tC (.str s)) t) tNil) σ H (L.map PyData.str)
  | [] => ga_nil
  | s :: L => ga_cons g_str (ga_strs L)
end K53

/-! Whether two things are the same. -/
namespace K53
open PySem PySem.Spec PyProof.Rows L2 KD
variable {P : Program} {w : World} {K : PySem.W.Frag} {mg : Str → Option Value} {base : Heap}
theorem walk_zipT {a b : Addr} {xs ys : List V} {n : Nat} (hn : n = min xs.length ys.length) : Walk (RZ.ItzT K a b) n (fun H => SqT K H a xs ∧ SqT K H b ys) (YPair (fun i => xs[i]?) (fun i => ys[i]?)) := by
  subst hn
  refine ⟨fun i _ hi q => ?_, fun _ q => ⟨xs, ys, q.1, q.2, by omega⟩, fun i H v H' _ q y => ?_⟩
  · have h1 : i < xs.length := by omega
    have h2 : i < ys.length := by omega
    exact ⟨xs, ys, xs[i], ys[i], q.1, q.2, by simp [h1], by simp [h2]⟩
  · obtain ⟨T, x, z, h1, h2, h3, h4, h5⟩ := y
    exact ⟨T, x, z, h1, h2, h3, h4 xs q.1, h5 ys q.2⟩
theorem gi_zipT {X : Addr → Prop} {H : Hp} {σ : L2.St} {te tb : TE} {ds es : List PyData} (h : G X te σ H (.tuple ds)) (h' : G X tb σ H (.tuple es)) : GI X (RZ.iZipA K (tCons te (tCons tb tNil))) σ H (zipD ds es) := fun H1 s R r => h H1 s _ fun v H2 s2 rv => h' H2 (s.trans s2) _ fun w H3 s3 rw_ => by
  obtain ⟨a, xs, rfl, n, e, rx⟩ := (rv.mono (Kp.of s3)).tup_inv
  obtain ⟨b, ys, rfl, n2, e2, ry⟩ := rw_.tup_inv
  refine ⟨a, b, xs, ys, rfl, .inr ⟨SqT.of e, SqT.of e2, r _ H3 (s2.trans s3) ⟨_, _, walk_zipT (xs := xs) (ys := ys) (by simp [zipD, rx.length, ry.length]), fun X' m H4 k t => ?_⟩⟩⟩
  have n' : ¬ X' a := fun z => (m a z).elim n fun q => by rw [e] at q; cases q
  have n2' : ¬ X' b := fun z => (m b z).elim n2 fun q => by rw [e2] at q; cases q
  refine ⟨⟨SqT.of (k a _ n' e), SqT.of (k b _ n2' e2)⟩, fun i x H5 y => ?_⟩
  obtain ⟨T, u, w, rfl, hT, rfl, hu, hw⟩ := y
  obtain ⟨d, h1, h2⟩ := rx.getV hu
  obtain ⟨d', h3, h4⟩ := ry.getV hw
  refine ⟨Same.upd hT, .tuple [d, d'], ?_, DX.newT t (.cons ((h2.grow m).mono k) (.cons ((h4.grow m).mono k) .nil)) hT⟩
  unfold zipD
  rw [List.getElem?_zipWith, h1, h3]
theorem gi_zipL {X : Addr → Prop} {H : Hp} {σ : L2.St} {te tb : TE} {ds es : List PyData} (h : G X te σ H (.list ds)) (h' : G X tb σ H (.list es)) : GI X (RZ.iZipA K (tCons te (tCons tb tNil))) σ H (zipD ds es) := fun H1 s R r => h H1 s _ fun v H2 s2 rv => h' H2 (s.trans s2) _ fun w H3 s3 rw_ => by
  obtain ⟨a, xs, rfl, n, e, rx⟩ := (rv.mono (Kp.of s3)).lst_inv
  obtain ⟨b, ys, rfl, n2, e2, ry⟩ := rw_.lst_inv
  refine ⟨a, b, xs, ys, rfl, .inl ⟨SqL.of e, SqL.of e2, r _ H3 (s2.trans s3) ⟨_, _, walk_zip (xs := xs) (ys := ys) (by simp [zipD, rx.length, ry.length]), fun X' m H4 k t => ?_⟩⟩⟩
  have n' : ¬ X' a := fun z => (m a z).elim n fun q => by rw [e] at q; cases q
  have n2' : ¬ X' b := fun z => (m b z).elim n2 fun q => by rw [e2] at q; cases q
  refine ⟨⟨SqL.of (k a _ n' e), SqL.of (k b _ n2' e2)⟩, fun i x H5 y => ?_⟩
  obtain ⟨T, u, w, rfl, hT, rfl, hu, hw⟩ := y
  obtain ⟨d, h1, h2⟩ := rx.getV hu
  obtain ⟨d', h3, h4⟩ := ry.getV hw
  refine ⟨Same.upd hT, .tuple [d, d'], ?_, DX.newT t (.cons ((h2.grow m).mono k) (.cons ((h4.grow m).mono k) .nil)) hT⟩
  unfold zipD
  rw [List.getElem?_zipWith, h1, h3]
/-- so deep at most, leaves below -/
def sm : Nat → PyData → Prop
  | 0, d => leaf d = true
  | n + 1, .list ds => ds.length ≤ 100000 ∧ ∀ z ∈ ds, sm n z
  | n + 1, .tuple ds => ds.length ≤ 100000 ∧ ∀ z ∈ ds, sm n z
  | _ + 1, d => leaf d = true
def spSame (n : Nat) : Sp := fun vs H Q _ => ∃ (X : Addr → Prop) (v1 v2 : V) (d : PyData), vs = [v1, v2] ∧ Trk X H ∧ DX X H v1 d ∧ DX X H v2 d ∧ sm n d ∧ ∀ H', Same H H' → Q (.bl true) H'
def spPrev : Nat → Sp
  | 0 => fun _ _ _ _ => False
  | n + 1 => spSame n
theorem eqv_leaf {d : PyData} (h : leaf d = true) : PyData.eqv d d = true := by
  cases d <;> simp_all [PyData.eqv, leaf]
-- HINT _law_same never return isinstance(_law_found, dict)
-- HINT _law_same le (Nat.le_refl _)
-- HINT _law_same zip RZ.pi_zipA
abbrev s__law_same : Stmt := topS 34
abbrev n__law_same : List Str := ["_law_found", "_law_due", "_law_x", "_law_y"]
theorem sc__law_same : FnScope n__law_same ["_law_found", "_law_due"] (defScope s__law_same) := ⟨rfl, rfl, rfl, by decide +kernel, rfl, by decide +kernel, by decide +kernel⟩
theorem ok_same_body {f : Addr} {fd : FuncData} {n : Nat} (F : Fun K "_law_same" "_law_same" s__law_same f fd) (T : Bl mg) (O__law_same : Own P w K mg base CX0 (n + 1) "_law_same" ["_law_found", "_law_due"] (spPrev n)) : FnOk P w K mg base CX0 (n + 2) f fd ["_law_found", "_law_due"] (spSame n) := by
  refine F.ok sc__law_same (fun vs H Q E h => ?_) (fun cdv A outer s H vs Q E hr h => ?_)
  · obtain ⟨X, v1, v2, d, rfl, _⟩ := h
    rfl
  · obtain ⟨X, v1, v2, d, rfl, t, d1, d2, hs, k⟩ := h
    refine ⟨_, (pss_cons (ps_if (pt_val (pe_callB call_isiT (by rfl) T.b_isinstance boot_isinstance (pa_cons (pv 1) (pa_cons (pe_tup (pa_cons (pe_bltn (v := .ty "list") (by rfl) T.b_list boot_list rfl) (pa_cons (pe_bltn (v := .ty "tuple") (by rfl) T.b_tuple boot_tuple rfl) pa_nil))) pa_nil))))
    (pss_cons (ps_if (PW.pt (pw_or (pt_cmpR (op_neD hr.units) (pe_callB call_isi (by rfl) T.b_isinstance boot_isinstance (pa_cons (pv 0) (pa_cons (pe_bltn (v := .ty "list") (by rfl) T.b_list boot_list rfl) pa_nil))) (pe_callB call_isi (by rfl) T.b_isinstance boot_isinstance (pa_cons (pv 1) (pa_cons (pe_bltn (v := .ty "list") (by rfl) T.b_list boot_list rfl) pa_nil))) (nomark _)) (pw_or1 (pt_cmpR (op_neD hr.units) (pe_callB call_isi (by rfl) T.b_isinstance boot_isinstance (pa_cons (pv 0) (pa_cons (pe_bltn (v := .ty "tuple") (by rfl) T.b_tuple boot_tuple rfl) pa_nil))) (pe_callB call_isi (by rfl) T.b_isinstance boot_isinstance (pa_cons (pv 1) (pa_cons (pe_bltn (v := .ty "tuple") (by rfl) T.b_tuple boot_tuple rfl) pa_nil))) (nomark _)))))
    (pss_one (ps_ret pe_bl)) pss_nil)
    (pss_one (ps_ret (pe_and (pe_cmpR (op_eqD hr.units) (pe_callB call_len (by rfl) T.b_len boot_len (pa_cons (pv 0) pa_nil)) (pe_callB call_len (by rfl) T.b_len boot_len (pa_cons (pv 1) pa_nil)) (nomark _)) (pe_one (pe_callB (cr_all rfl) (by rfl) T.b_all boot_all (pa_cons (pe_lc (own := [("_law_x", 2), ("_law_y", 3)]) (g := (gTup K 2 (gCons (gName 2) (gCons (gName 3) gNil)))) (tt := tYes) rfl sc__law_same.nd (RZ.pi_zipA (by rfl) T.b_zip (pa_cons (pv 0) (pa_cons (pv 1) pa_nil))) (blkOk_by (N := n__law_same) (sc := defScope s__law_same) (by decide +kernel)) (fun _ _ _ _ _ => (pg_tup (n := 2) rfl (pgs_cons (pg_name (i := 2) sc__law_same.nd rfl (by first | exact Or.inl rfl | exact Or.inr rfl)) (pgs_cons (pg_name (i := 3) sc__law_same.nd rfl (by first | exact Or.inl rfl | exact Or.inr rfl)) pgs_nil)))) (fun _ _ _ _ _ => pts_nil) (fun _ _ _ _ _ => (pe_own O__law_same hr (Nat.le_refl _) (by rfl) (pa_cons (pv 2) (pa_cons (pv 3) pa_nil))))) pa_nil))))))) pss_nil)
    (pss_cons (ps_if (pt_val (pe_callB call_isi (by rfl) T.b_isinstance boot_isinstance (pa_cons (pv 1) (pa_cons (pe_bltn (v := .ty "dict") (by rfl) T.b_dict boot_dict rfl) pa_nil))))
    (pss_one ps_never) pss_nil)
    (pss_cons (ps_if (pt_val (pe_callB call_isi (by rfl) T.b_isinstance boot_isinstance (pa_cons (pv 1) (pa_cons (pe_bltn (v := .ty "int") (by rfl) T.b_int boot_int rfl) pa_nil))))
    (pss_one (ps_ret (pe_and (pe_callB call_isi (by rfl) T.b_isinstance boot_isinstance (pa_cons (pv 0) (pa_cons (pe_bltn (v := .ty "int") (by rfl) T.b_int boot_int rfl) pa_nil))) (pe_and (pe_cmpR (op_eqD hr.units) (pe_callB call_isi (by rfl) T.b_isinstance boot_isinstance (pa_cons (pv 0) (pa_cons (pe_bltn (v := .ty "bool") (by rfl) T.b_bool boot_bool rfl) pa_nil))) (pe_callB call_isi (by rfl) T.b_isinstance boot_isinstance (pa_cons (pv 1) (pa_cons (pe_bltn (v := .ty "bool") (by rfl) T.b_bool boot_bool rfl) pa_nil))) (nomark _)) (pe_one (pe_cmpR (op_eqD hr.units) (pv 0) (pv 1) (nomark _))))))) pss_nil)
    (pss_one (ps_ret (pe_and (pe_not (pe_callB call_isiT (by rfl) T.b_isinstance boot_isinstance (pa_cons (pv 0) (pa_cons (pe_tup (pa_cons (pe_bltn (v := .ty "int") (by rfl) T.b_int boot_int rfl) (pa_cons (pe_bltn (v := .ty "list") (by rfl) T.b_list boot_list rfl) (pa_cons (pe_bltn (v := .ty "tuple") (by rfl) T.b_tuple boot_tuple rfl) (pa_cons (pe_bltn (v := .ty "dict") (by rfl) T.b_dict boot_dict rfl) pa_nil))))) pa_nil)))) (pe_one (pe_cmpR (op_eqD hr.units) (pv 0) (pv 1) (nomark _))))))))), ?_⟩
    have En : EnvOk X H (L2.start n__law_same [v1, v2]) (pad n__law_same [.dat d, .dat d]) := env2 d1 d2 (by decide)
    have b1 : PyData.eqv (.bool true) (.bool true) = true := by simp [PyData.eqv]
    have eqb : ∀ b : Bool, PyData.eqv (.bool b) (.bool b) = true := fun b => by simp [PyData.eqv]
    have shb : ∀ b : Bool, SeqAt.shaped (.bool b) = true := fun b => shaped_leaf rfl
    have ndb : ∀ b : Bool, noDict (.bool b) = true := fun b => by simp [noDict]
    refine q_if (gt_B (g_isSeq (g_var (i := 1) En rfl))) (fun hb H1 s1 => ?_) (fun hb H1 s1 => ?_)
    · -- a list or a tuple
      have E1 := En.same s1
      have t1 := t.mono s1
      refine q_if (b := false) (gt_is (gt_or (b := !PyData.eqv (.bool (isa_tuple d)) (.bool (isa_tuple d))) (gt_neD t1 (g_isList (g_var (i := 0) E1 rfl)) (g_isList (g_var (i := 1) E1 rfl)) (ndb _) (ndb _) (shb _) (shb _)) fun _ => gt_neD t1 (g_isTuple (g_var (i := 0) E1 rfl)) (g_isTuple (g_var (i := 1) E1 rfl)) (ndb _) (ndb _) (shb _) (shb _)) (by rw [eqb, eqb]; rfl)) (fun h => by cases h) fun _ H2 s2 => ?_
      have E2 := E1.same s2
      have t2 := t1.mono s2
      have hln : ∀ i : Int, PyData.eqv (.int i) (.int i) = true := fun i => by rw [eqv_int]; simp
      have core : ∀ (m : Nat) (te : TE) (wi : TI) (ds : List PyData), ds.length ≤ 100000 → (∀ z ∈ ds, sm m z) → GI X wi (L2.start n__law_same [v1, v2]) H2 (zipD ds ds) → te = tCall (spSame m) [] E0 (tCons (tVar 2) (tCons (tVar 3) tNil)) → G X (tCB (rAll K) (tCons (tLc wi (gTup K 2 (gCons (gName 2) (gCons (gName 3) gNil))) tYes te [2, 3]) tNil)) (L2.start n__law_same [v1, v2]) H2 (.bool true) := fun m te wi ds hl hz hi hte => by
        subst hte
        have hzip : ∀ p ∈ zipD ds ds, ∃ z ∈ ds, p = .tuple [z, z] := fun p hp => by
          obtain ⟨i, hi, he⟩ := List.mem_iff_getElem.mp hp
          unfold zipD at he hi
          rw [List.length_zipWith] at hi
          rw [List.getElem_zipWith] at he
          exact ⟨_, List.getElem_mem (by omega), he.symm⟩
        refine g_is (g_cb (ds := [.list (((zipD ds ds).map fun _ => true).map PyData.bool)]) t2 (ga_cons (g_is (g_lc1 (ds := zipD ds ds) (Γ2 := fun p => ((((pad n__law_same [.dat d, .dat d]).set 3 .un).set 2 .un).set 2 (.dat (it p 0))).set 3 (.dat (it p 1))) (fun _ => .bool true) t2 hi (by unfold zipD; rw [List.length_zipWith]; omega) (fun H3 s3 p hp => ?_) (fun X' H3 σ2 p hp t3 E3 => ?_)) (by rw [List.map_map]; rfl)) ga_nil) rf_all) (by rw [List.all_map]; simp)
        · obtain ⟨z, hzm, rfl⟩ := hzip p hp
          exact tgt_pair (E2.same s3) (by decide)
        · obtain ⟨z, hzm, rfl⟩ := hzip p hp
          intro H4 s4 Q4 q4
          refine g_var (i := 2) E3 rfl H4 s4 _ fun u H5 s5 r5 => g_var (i := 3) (E3.same (s4.trans s5)) rfl H5 (Same.refl _) _ fun u2 H6 s6 r6 => ?_
          exact ⟨X', u, u2, z, rfl, t3.mono ((s4.trans s5).trans s6), r5.mono (Kp.of s6), r6, hz z hzm, fun H7 s7 => q4 _ H7 ((s5.trans s6).trans s7) (.bl true)⟩
      cases n with
      | zero => cases d with
        | list ds => exact absurd hs (by simp [sm, leaf])
        | tuple ds => exact absurd hs (by simp [sm, leaf])
        | _ => cases hb
      | succ m =>
        cases d with
        | list ds =>
          obtain ⟨hl, hz⟩ := hs
          exact s_ret (X := X) (d := .bool true) (g_is (g_and (b := true) (g_eqD t2 (g_len t2 (g_var (i := 0) E2 rfl) rfl) (g_len t2 (g_var (i := 1) E2 rfl) rfl) rfl rfl (shaped_int _) (shaped_int _)) fun _ => core m _ _ ds hl hz (gi_zipL (g_var (i := 0) E2 rfl) (g_var (i := 1) E2 rfl)) rfl) (by rw [hln]; rfl)) fun w H' s' dw => by rw [dw.bl_inv]; exact k H' ((s1.trans s2).trans s')
        | tuple ds =>
          obtain ⟨hl, hz⟩ := hs
          exact s_ret (X := X) (d := .bool true) (g_is (g_and (b := true) (g_eqD t2 (g_len t2 (g_var (i := 0) E2 rfl) rfl) (g_len t2 (g_var (i := 1) E2 rfl) rfl) rfl rfl (shaped_int _) (shaped_int _)) fun _ => core m _ _ ds hl hz (gi_zipT (g_var (i := 0) E2 rfl) (g_var (i := 1) E2 rfl)) rfl) (by rw [hln]; rfl)) fun w H' s' dw => by rw [dw.bl_inv]; exact k H' ((s1.trans s2).trans s')
        | _ => cases hb
    · -- a leaf
      have hlf : leaf d = true := by
        cases n with
        | zero => exact hs
        | succ m => cases d <;> first | exact hs | cases hb
      have E1 := En.same s1
      have t1 := t.mono s1
      refine q_if (b := false) (gt_is (gt_B (g_isDict (g_var (i := 1) E1 rfl))) (by cases d <;> first | rfl | cases hlf)) (fun h => by cases h) fun _ H2 s2 => ?_
      have E2 := E1.same s2
      have t2 := t1.mono s2
      refine q_if (gt_B (g_isInt (g_var (i := 1) E2 rfl))) (fun hi H3 s3 => ?_) (fun hi H3 s3 => ?_)
      · have E3 := E2.same s3
        have t3 := t2.mono s3
        refine s_ret (X := X) (d := .bool true) (g_is (g_and (b := PyData.eqv (.bool (isa_bool d)) (.bool (isa_bool d)) && PyData.eqv d d) (g_isInt (g_var (i := 0) E3 rfl)) fun _ => g_and (g_eqD t3 (g_isBool (g_var (i := 0) E3 rfl)) (g_isBool (g_var (i := 1) E3 rfl)) (ndb _) (ndb _) (shb _) (shb _)) fun _ => g_eqD t3 (g_var (i := 0) E3 rfl) (g_var (i := 1) E3 rfl) (noDict_leaf hlf) (noDict_leaf hlf) (shaped_leaf hlf) (shaped_leaf hlf)) (by rw [hi, eqb, eqv_leaf hlf]; rfl)) fun w H' s' dw => by rw [dw.bl_inv]; exact k H' (((s1.trans s2).trans s3).trans s')
      · have E3 := E2.same s3
        have t3 := t2.mono s3
        refine s_ret (X := X) (d := .bool true) (g_is (g_and (b := PyData.eqv d d) (g_not (g_isiT (ns := ["int", "list", "tuple", "dict"]) (g_var (i := 0) E3 rfl) rfl (by decide) ?_)) fun _ => g_eqD t3 (g_var (i := 0) E3 rfl) (g_var (i := 1) E3 rfl) (noDict_leaf hlf) (noDict_leaf hlf) (shaped_leaf hlf) (shaped_leaf hlf)) ?_) fun w H' s' dw => by rw [dw.bl_inv]; exact k H' (((s1.trans s2).trans s3).trans s')
        · intro n hn
          simp at hn
          rcases hn with rfl | rfl | rfl | rfl
          · exact ksm_int d
          · exact ksm_list d
          · exact ksm_tuple d
          · exact ksm_dict d
        · have e : isDs ["int", "list", "tuple", "dict"] d = false := by
            unfold isDs
            rw [List.any_cons, List.any_cons, List.any_cons, List.any_cons, List.any_nil, isD_int, isD_list, isD_tuple, isD_dict, hi]
            cases d <;> first | rfl | cases hlf
          rw [e, eqv_leaf hlf]
          rfl
theorem ok_same {f : Addr} {fd : FuncData} (F : Fun K "_law_same" "_law_same" s__law_same f fd) (T : Bl mg) (h1 : mg "_law_same" = some (.ref f)) (h2 : PySem.W.keepIn K (.ref f) = true) (h3 : Binds K fd ["_law_found", "_law_due"] []) : ∀ n : Nat, FnOk P w K mg base CX0 (n + 2) f fd ["_law_found", "_law_due"] (spSame n)
  | 0 => ok_same_body F T ⟨f, fd, h1, h2, h3, F.ok (k := 0) sc__law_same (fun _ _ _ _ h => h.elim) (fun _ _ _ _ _ _ _ _ _ h => h.elim)⟩
  | n + 1 => ok_same_body F T ⟨f, fd, h1, h2, h3, ok_same F T h1 h2 h3 n⟩
end K53

/-! Lists of one's own. -/
namespace K53
open PySem PySem.Spec PyProof.Rows L2 KD
variable {P : Program} {w : World} {K : PySem.W.Frag} {mg : Str → Option Value} {base : Heap}
/-! ### a list of one's own that is made longer -/
section
variable {X : Addr → Prop} {σ : L2.St} {H : Hp} {te : TE} {Γ : List Sv} {D : Ends} {tz : TS} {L : Addr} {xs : List V} {ds es : List PyData} {d : PyData} {i : Nat}
/-- all but L stays -/
def KpL (L : Addr) (H H' : Hp) : Prop := ∀ a o, a ≠ L → H a = some o → H' a = some o
theorem KpL.of (s : Same H H') : KpL L H H' := fun a o _ e => s a o e
theorem KpL.trans {H H1 H2 : Hp} (h : KpL L H H1) (k : KpL L H1 H2) : KpL L H H2 := fun a o n e => k a o n (h a o n e)
theorem KpL.put {o : HO} : KpL L H (upd H L o) := fun a u n e => by rw [upd_ne n]; exact e
theorem q_extend (En : EnvOk X H σ Γ) (hi : Γ[i]? = some (.val (.ref L))) (x : X L) (t : Trk X H) (hL : H L = some (.lst xs)) (hx : DXs X H xs ds) (h : G X te σ H (.list es)) (hl : ds.length + es.length ≤ 1000000)
    (k : ∀ H2 ys, H2 L = some (.lst ys) → DXs X H2 ys (ds ++ es) → EnvOk X H2 σ Γ → Trk X H2 → KpL L H H2 → tz D σ H2) : tSeq (tDrop (tBM K "list" rExtend (tVar i) (tCons te tNil))) tz D σ H := by
  refine ⟨.ref L, En.get i _ hi, .inl ⟨rfl, _, SqL.of hL⟩, ?_⟩
  refine h H (Same.refl H) _ fun v H1 s1 dv => ?_
  obtain ⟨b, zs, rfl, nb, hb, hz⟩ := dv.lst_inv
  have hL1 := s1 _ _ hL
  have e1 : xs.length = ds.length := hx.length
  have e2 : zs.length = es.length := hz.length
  refine ⟨L, b, xs, zs, rfl, rfl, hL1, hb, by rw [sizeLine_eq]; omega, ?_⟩
  have kp : Kp X H1 (upd H1 L (.lst (xs ++ zs))) := Kp.put x
  exact k _ _ upd_same (((hx.mono (Kp.of s1)).append hz).mono kp) ((En.same s1).mono kp) ((t.mono s1).put) ((KpL.of s1).trans KpL.put)
theorem q_append (En : EnvOk X H σ Γ) (hi : Γ[i]? = some (.val (.ref L))) (x : X L) (t : Trk X H) (hL : H L = some (.lst xs)) (hx : DXs X H xs ds) (h : G X te σ H d) (hl : ds.length < 1000000)
    (k : ∀ H2 ys, H2 L = some (.lst ys) → DXs X H2 ys (ds ++ [d]) → EnvOk X H2 σ Γ → Trk X H2 → KpL L H H2 → tz D σ H2) : tSeq (tDrop (tBM K "list" rAppend (tVar i) (tCons te tNil))) tz D σ H := by
  refine ⟨.ref L, En.get i _ hi, .inl ⟨rfl, _, SqL.of hL⟩, ?_⟩
  refine h H (Same.refl H) _ fun v H1 s1 dv => ?_
  have hL1 := s1 _ _ hL
  have e1 : xs.length = ds.length := hx.length
  refine ⟨L, xs, v, rfl, rfl, hL1, by rw [sizeLine_eq]; omega, ?_⟩
  have kp : Kp X H1 (upd H1 L (.lst (xs ++ [v]))) := Kp.put x
  exact k _ _ upd_same (((hx.mono (Kp.of s1)).snoc dv).mono kp) ((En.same s1).mono kp) ((t.mono s1).put) ((KpL.of s1).trans KpL.put)
/-- a new list becomes one's own -/
theorem k_own (En : EnvOk X H σ Γ) (t : Trk X H) (h : GN X te σ H (.list ds)) (k : ∀ L H1 xs, H L = none → Same H H1 → H1 L = some (.lst xs) → DXs (fun b => X b ∨ b = L) H1 xs ds → EnvOk (fun b => X b ∨ b = L) H1 (σ.set i (some (.ref L))) (Γ.set i (.val (.ref L))) → Trk (fun b => X b ∨ b = L) H1 → tz D (σ.set i (some (.ref L))) H1) :
    tSeq (tAsg te (gName i)) tz D σ H := by
  refine k_set (h H (Same.refl H) _ fun v H1 s1 dv nw => ?_)
  obtain ⟨L, xs, rfl, nL, hL, hx⟩ := dv.inner
  have h0 := nw L rfl
  exact k L H1 xs h0 s1 hL hx (((En.more (More.one h0)).same s1).setV) (fun a e => e.elim (fun z => t.mono s1 a z) fun z => ⟨_, z ▸ hL⟩)

theorem g_dict (t : Trk X H) : G X tDNewK σ H (.dict []) := fun H1 s Q q => fun p hp => q _ _ (Same.upd hp) (.dic ((t.mono s).new hp) upd_same .nil)
theorem _root_.KD.EnvOk.less {X' : Addr → Prop} (m : ∀ a, X a → X' a) (E : EnvOk X' H σ Γ) : EnvOk X H σ Γ := ⟨E.len, fun i s e => by
  have h := E.get i s e
  cases s with
  | dat d =>
    obtain ⟨v, e1, r⟩ := h
    exact ⟨v, e1, r.less m⟩
  | val v => exact h
  | un => trivial⟩
/-- one's own list is a datum again -/
theorem _root_.KD.EnvOk.give (En : EnvOk (fun b => X b ∨ b = L) H σ Γ) (hi : Γ[i]? = some (.val (.ref L))) (n : ¬ X L) (hL : H L = some (.lst xs)) (hx : DXs (fun b => X b ∨ b = L) H xs ds) : EnvOk X H σ (Γ.set i (.dat (.list ds))) := by
  have E2 : EnvOk X H σ Γ := En.less fun _ => .inl
  refine ⟨by rw [List.length_set]; exact E2.len, fun j s e => ?_⟩
  by_cases hj : i = j
  · subst hj
    have hl : i < Γ.length := (List.getElem?_eq_some_iff.mp hi).1
    rw [List.getElem?_set_self hl] at e
    cases e
    exact ⟨.ref L, En.get i _ hi, .lst n hL (hx.less fun _ => .inl)⟩
  · rw [List.getElem?_set_ne hj] at e
    exact E2.get j s e
end
end K53

/-! Longest common rows: how long they are, which matches are on one. -/
namespace KL
variable (M : Nat → Nat → Bool)
def nxt (m : Nat → Bool) (b : Nat → Nat) : Nat → Nat
  | 0 => 0
  | j + 1 => max (max (b (j + 1)) (nxt m b j)) (if m j = true then b j + 1 else 0)
/-- how long a common row of the first i and the first j can be -/
def L : Nat → Nat → Nat
  | 0 => fun _ => 0
  | i + 1 => nxt (M i) (L i)
abbrev Pr := Nat × Nat
def bh (a b : Pr) : Prop := a.1 < b.1 ∧ a.2 < b.2
/-- a common row -/
def Ch (l : List Pr) : Prop := l.Pairwise bh ∧ ∀ p ∈ l, M p.1 p.2 = true
def Bd (i j : Nat) (l : List Pr) : Prop := ∀ p ∈ l, p.1 < i ∧ p.2 < j
variable {M}
theorem ch_nil : Ch M [] := ⟨.nil, fun p h => by cases h⟩
theorem ch_left {l k : List Pr} (h : Ch M (l ++ k)) : Ch M l := ⟨(List.pairwise_append.mp h.1).1, fun p hp => h.2 p (List.mem_append_left _ hp)⟩
theorem ch_right {l k : List Pr} (h : Ch M (l ++ k)) : Ch M k := ⟨(List.pairwise_append.mp h.1).2.1, fun p hp => h.2 p (List.mem_append_right _ hp)⟩
theorem ch_app {l k : List Pr} (h : Ch M l) (g : Ch M k) (c : ∀ a ∈ l, ∀ b ∈ k, bh a b) : Ch M (l ++ k) := ⟨List.pairwise_append.mpr ⟨h.1, g.1, c⟩, fun p hp => (List.mem_append.mp hp).elim (h.2 p) (g.2 p)⟩
theorem ch_one {p : Pr} (h : M p.1 p.2 = true) : Ch M [p] := ⟨List.pairwise_singleton _ _, fun q hq => by rw [List.mem_singleton.mp hq]; exact h⟩
theorem ch_last {l : List Pr} {p : Pr} (h : Ch M (l ++ [p])) : Bd p.1 p.2 l := fun a ha => (List.pairwise_append.mp h.1).2.2 a ha p (List.mem_singleton.mpr rfl)
theorem snoc {l : List Pr} : l = [] ∨ ∃ k p, l = k ++ [p] := by
  rcases List.eq_nil_or_concat l with h | ⟨k, p, h⟩
  · exact .inl h
  · exact .inr ⟨k, p, by rw [h]; simp⟩
theorem L_up : ∀ (i j : Nat) (l : List Pr), Ch M l → Bd i j l → l.length ≤ L M i j
  | 0, j, l, h, b => by
    cases l with
    | nil => simp
    | cons p l => exact absurd (b p List.mem_cons_self).1 (by omega)
  | i + 1, 0, l, h, b => by
    cases l with
    | nil => simp
    | cons p l => exact absurd (b p List.mem_cons_self).2 (by omega)
  | i + 1, j + 1, l, h, b => by
    have e : L M (i + 1) (j + 1) = max (max (L M i (j + 1)) (L M (i + 1) j)) (if M i j = true then L M i j + 1 else 0) := rfl
    rw [e]
    rcases snoc (l := l) with rfl | ⟨k, p, rfl⟩
    · simp
    have hp := b p (by simp)
    have hk := ch_last h
    by_cases h1 : p.1 < i
    · have := L_up i (j + 1) (k ++ [p]) h fun q hq => by
        rcases List.mem_append.mp hq with hq | hq
        · have := hk q hq
          omega
        · rw [List.mem_singleton.mp hq]
          omega
      omega
    · by_cases h2 : p.2 < j
      · have := L_up (i + 1) j (k ++ [p]) h fun q hq => by
          rcases List.mem_append.mp hq with hq | hq
          · have := hk q hq
            omega
          · rw [List.mem_singleton.mp hq]
            omega
        omega
      · have e1 : p.1 = i := by omega
        have e2 : p.2 = j := by omega
        have hm := h.2 p (by simp)
        rw [e1, e2] at hm
        have := L_up i j k (ch_left h) fun q hq => by
          have := hk q hq
          omega
        rw [if_pos hm, List.length_append]
        simp
        omega
theorem bd_le {i j i' j' : Nat} {l : List Pr} (h : Bd i j l) (hi : i ≤ i') (hj : j ≤ j') : Bd i' j' l := fun p hp => by
  have := h p hp
  omega
theorem L_is : ∀ (i j : Nat), ∃ l, Ch M l ∧ Bd i j l ∧ l.length = L M i j
  | 0, j => ⟨[], ch_nil, (fun p h => by cases h), rfl⟩
  | i + 1, 0 => ⟨[], ch_nil, (fun p h => by cases h), rfl⟩
  | i + 1, j + 1 => by
    have e : L M (i + 1) (j + 1) = max (max (L M i (j + 1)) (L M (i + 1) j)) (if M i j = true then L M i j + 1 else 0) := rfl
    obtain ⟨l1, a1, b1, c1⟩ := L_is i (j + 1)
    obtain ⟨l2, a2, b2, c2⟩ := L_is (i + 1) j
    obtain ⟨l3, a3, b3, c3⟩ := L_is i j
    by_cases hm : M i j = true
    · rw [if_pos hm] at e
      by_cases h1 : L M (i + 1) (j + 1) = L M i (j + 1)
      · exact ⟨l1, a1, bd_le b1 (by omega) (by omega), by omega⟩
      · by_cases h2 : L M (i + 1) (j + 1) = L M (i + 1) j
        · exact ⟨l2, a2, bd_le b2 (by omega) (by omega), by omega⟩
        · refine ⟨l3 ++ [(i, j)], ch_app a3 (ch_one hm) fun a ha b hb => ?_, fun q hq => ?_, ?_⟩
          · rw [List.mem_singleton.mp hb]
            exact b3 a ha
          · rcases List.mem_append.mp hq with hq | hq
            · have := b3 q hq
              omega
            · rw [List.mem_singleton.mp hq]
              exact ⟨by simp, by simp⟩
          · rw [List.length_append]
            simp
            omega
    · rw [if_neg hm] at e
      by_cases h1 : L M (i + 1) (j + 1) = L M i (j + 1)
      · exact ⟨l1, a1, bd_le b1 (by omega) (by omega), by omega⟩
      · exact ⟨l2, a2, bd_le b2 (by omega) (by omega), by omega⟩
theorem L_mono {i j i' j' : Nat} (hi : i ≤ i') (hj : j ≤ j') : L M i j ≤ L M i' j' := by
  obtain ⟨l, a, b, c⟩ := L_is (M := M) i j
  rw [← c]
  exact L_up _ _ l a (bd_le b hi hj)
/-! ### turned round -/
variable (M) in
def rv (n m : Nat) : Nat → Nat → Bool := fun i j => M (n - 1 - i) (m - 1 - j)
def tp (n m : Nat) (p : Pr) : Pr := (n - 1 - p.1, m - 1 - p.2)
theorem ch_turn {n m : Nat} {l : List Pr} (h : Ch M l) (b : Bd n m l) : Ch (rv M n m) (l.map (tp n m)).reverse := by
  refine ⟨?_, fun p hp => ?_⟩
  · rw [List.pairwise_reverse, List.pairwise_map]
    refine h.1.imp_of_mem fun {x y} hx hy hxy => ?_
    have := b x hx
    have := b y hy
    unfold bh tp at *
    omega
  · rw [List.mem_reverse] at hp
    obtain ⟨q, hq, rfl⟩ := List.mem_map.mp hp
    have := b q hq
    show M (n - 1 - (n - 1 - q.1)) (m - 1 - (m - 1 - q.2)) = true
    rw [show n - 1 - (n - 1 - q.1) = q.1 by omega, show m - 1 - (m - 1 - q.2) = q.2 by omega]
    exact h.2 q hq
theorem rv_rv {n m i j : Nat} (hi : i < n) (hj : j < m) : rv (rv M n m) n m i j = M i j := by
  show M (n - 1 - (n - 1 - i)) (m - 1 - (m - 1 - j)) = M i j
  rw [show n - 1 - (n - 1 - i) = i by omega, show m - 1 - (m - 1 - j) = j by omega]
theorem ch_turn' {n m : Nat} {l : List Pr} (h : Ch (rv M n m) l) (b : Bd n m l) : Ch M (l.map (tp n m)).reverse := by
  have h2 := ch_turn h b
  refine ⟨h2.1, fun p hp => ?_⟩
  have := h2.2 p hp
  rw [List.mem_reverse] at hp
  obtain ⟨q, hq, rfl⟩ := List.mem_map.mp hp
  have hb := b q hq
  rwa [rv_rv (by unfold tp; omega) (by unfold tp; omega)] at this
/-- the longest row that ends with p, the longest one that begins with it -/
def lev (M : Nat → Nat → Bool) (p : Pr) : Nat := L M p.1 p.2 + 1
def rst (M : Nat → Nat → Bool) (n m : Nat) (p : Pr) : Nat := L (rv M n m) (n - 1 - p.1) (m - 1 - p.2) + 1
theorem lev_up {l : List Pr} {p : Pr} (h : Ch M (l ++ [p])) : l.length + 1 ≤ lev M p := by
  have := L_up _ _ l (ch_left h) (ch_last h)
  unfold lev
  omega
theorem lev_is (p : Pr) (hp : M p.1 p.2 = true) : ∃ l, Ch M (l ++ [p]) ∧ Bd p.1 p.2 l ∧ l.length + 1 = lev M p := by
  obtain ⟨l, a, b, c⟩ := L_is (M := M) p.1 p.2
  exact ⟨l, ch_app a (ch_one hp) fun x hx y hy => by rw [List.mem_singleton.mp hy]; exact b x hx, b, by unfold lev; omega⟩
theorem ch_first {l : List Pr} {p : Pr} (h : Ch M (p :: l)) : ∀ q ∈ l, bh p q := (List.pairwise_cons.mp h.1).1
theorem rst_up {n m : Nat} {l : List Pr} {p : Pr} (h : Ch M (p :: l)) (b : Bd n m (p :: l)) : l.length + 1 ≤ rst M n m p := by
  have hp := b p List.mem_cons_self
  have h2 := ch_turn h b
  rw [List.map_cons, List.reverse_cons] at h2
  have := L_up _ _ _ (ch_left h2) (ch_last h2)
  rw [List.length_reverse, List.length_map] at this
  unfold rst
  unfold tp at this
  exact Nat.succ_le_succ this
theorem rst_is {n m : Nat} (p : Pr) (hp : M p.1 p.2 = true) (hn : p.1 < n) (hm : p.2 < m) : ∃ l, Ch M (p :: l) ∧ Bd n m (p :: l) ∧ l.length + 1 = rst M n m p := by
  obtain ⟨l, a, b, c⟩ := L_is (M := rv M n m) (n - 1 - p.1) (m - 1 - p.2)
  have b' : Bd n m l := bd_le b (by omega) (by omega)
  have a' := ch_turn' a b'
  have bb : ∀ q ∈ (l.map (tp n m)).reverse, bh p q ∧ q.1 < n ∧ q.2 < m := fun q hq => by
    rw [List.mem_reverse] at hq
    obtain ⟨r, hr, rfl⟩ := List.mem_map.mp hq
    have := b r hr
    unfold bh tp
    omega
  refine ⟨(l.map (tp n m)).reverse, ch_app (ch_one hp) a' fun x hx y hy => by rw [List.mem_singleton.mp hx]; exact (bb y hy).1, fun q hq => ?_, by unfold rst; rw [List.length_reverse, List.length_map]; omega⟩
  rcases List.mem_cons.mp hq with rfl | hq
  · exact ⟨hn, hm⟩
  · exact (bb q hq).2
/-! ### on a longest one -/
section
variable {n m : Nat}
theorem sum_le {p : Pr} (hp : M p.1 p.2 = true) (hn : p.1 < n) (hm : p.2 < m) : lev M p + rst M n m p ≤ L M n m + 1 := by
  obtain ⟨l, a1, b1, c1⟩ := lev_is p hp
  obtain ⟨k, a2, b2, c2⟩ := rst_is (n := n) (m := m) p hp hn hm
  have h : Ch M (l ++ p :: k) := ch_app (ch_left a1) a2 fun x hx y hy => by
    have h1 := b1 x hx
    rcases List.mem_cons.mp hy with rfl | hy
    · exact h1
    · have h2 := ch_first a2 y hy
      unfold bh at *
      omega
  have := L_up n m _ h fun q hq => by
    rcases List.mem_append.mp hq with hq | hq
    · have := b1 q hq
      omega
    · exact b2 q hq
  rw [List.length_append, List.length_cons] at this
  omega
/-- on a longest row, at its place -/
def On (M : Nat → Nat → Bool) (n m k : Nat) (p : Pr) : Prop := M p.1 p.2 = true ∧ p.1 < n ∧ p.2 < m ∧ lev M p = k ∧ lev M p + rst M n m p = L M n m + 1
theorem on_next {k : Nat} {p : Pr} (h : On M n m k p) (hk : k < L M n m) : ∃ q, On M n m (k + 1) q ∧ bh p q := by
  obtain ⟨h1, h2, h3, h4, h5⟩ := h
  obtain ⟨l, a, b, c⟩ := rst_is (n := n) (m := m) p h1 h2 h3
  cases l with
  | nil =>
    simp at c
    omega
  | cons q l =>
    have a' : Ch M (q :: l) := ch_right (l := [p]) a
    have hq := ch_first a q List.mem_cons_self
    have bq := b q (by simp)
    have mq := a.2 q (by simp)
    have r1 := rst_up (n := n) (m := m) a' fun x hx => b x (List.mem_cons_of_mem _ hx)
    have s1 := sum_le (n := n) (m := m) mq bq.1 bq.2
    obtain ⟨l2, a2, b2, c2⟩ := lev_is p h1
    have lq : l2.length + 1 + 1 ≤ lev M q := by
      have : Ch M ((l2 ++ [p]) ++ [q]) := ch_app a2 (ch_one mq) fun x hx y hy => by
        rw [List.mem_singleton.mp hy]
        rcases List.mem_append.mp hx with hx | hx
        · have := b2 x hx
          unfold bh at *
          omega
        · rw [List.mem_singleton.mp hx]
          exact hq
      have := lev_up this
      rw [List.length_append] at this
      simpa using this
    rw [List.length_cons] at c
    exact ⟨q, ⟨mq, bq.1, bq.2, by omega, by omega⟩, hq⟩
theorem on_first (h : 0 < L M n m) : ∃ q, On M n m 1 q := by
  obtain ⟨l, a, b, c⟩ := L_is (M := M) n m
  cases l with
  | nil =>
    simp at c
    omega
  | cons q l =>
    have bq := b q (by simp)
    have mq := a.2 q (by simp)
    have r1 := rst_up a b
    have s1 := sum_le (n := n) (m := m) mq bq.1 bq.2
    have l1 : 1 ≤ lev M q := by unfold lev; omega
    rw [List.length_cons] at c
    exact ⟨q, mq, bq.1, bq.2, by omega, by omega⟩
theorem on_le {k : Nat} {p : Pr} (h : On M n m k p) : 1 ≤ k ∧ k ≤ L M n m := by
  obtain ⟨h1, h2, h3, h4, h5⟩ := h
  have : 1 ≤ lev M p := by unfold lev; omega
  have : 1 ≤ rst M n m p := by unfold rst; omega
  omega
end
end KL

/-! Longest common rows: all of them by going on; turned texts; texts of one word. -/
namespace KL
variable {M : Nat → Nat → Bool}
theorem len_fst : ∀ {l : List Pr} {lo hi : Nat}, Ch M l → (∀ p ∈ l, lo ≤ p.1 ∧ p.1 < hi) → l.length ≤ hi - lo
  | [], lo, hi, _, _ => by simp
  | p :: l, lo, hi, h, b => by
    have hp := b p List.mem_cons_self
    have := len_fst (lo := p.1 + 1) (hi := hi) (ch_right (l := [p]) h) fun q hq => by
      have h1 := ch_first h q hq
      have h2 := b q (List.mem_cons_of_mem _ hq)
      unfold bh at h1
      omega
    rw [List.length_cons]
    omega
theorem len_snd : ∀ {l : List Pr} {lo hi : Nat}, Ch M l → (∀ p ∈ l, lo ≤ p.2 ∧ p.2 < hi) → l.length ≤ hi - lo
  | [], lo, hi, _, _ => by simp
  | p :: l, lo, hi, h, b => by
    have hp := b p List.mem_cons_self
    have := len_snd (lo := p.2 + 1) (hi := hi) (ch_right (l := [p]) h) fun q hq => by
      have h1 := ch_first h q hq
      have h2 := b q (List.mem_cons_of_mem _ hq)
      unfold bh at h1
      omega
    rw [List.length_cons]
    omega
/-- a straight row: c of them, from (i, j) on -/
def str (i j : Nat) : Nat → List Pr
  | 0 => []
  | c + 1 => (i, j) :: str (i + 1) (j + 1) c
theorem str_len : ∀ {c i j : Nat}, (str i j c).length = c
  | 0, _, _ => rfl
  | c + 1, i, j => by rw [str, List.length_cons, str_len]
theorem str_mem : ∀ {c i j : Nat} {p : Pr}, p ∈ str i j c → ∃ k, k < c ∧ p = (i + k, j + k)
  | 0, _, _, p, h => by cases h
  | c + 1, i, j, p, h => by
    rcases List.mem_cons.mp h with rfl | h
    · exact ⟨0, by omega, rfl⟩
    · obtain ⟨k, hk, rfl⟩ := str_mem h
      exact ⟨k + 1, by omega, by rw [show i + 1 + k = i + (k + 1) by omega, show j + 1 + k = j + (k + 1) by omega]⟩
theorem str_ch : ∀ {c i j : Nat}, (∀ k < c, M (i + k) (j + k) = true) → Ch M (str i j c)
  | 0, _, _, _ => ch_nil
  | c + 1, i, j, h => by
    refine ch_app (l := [(i, j)]) (ch_one (h 0 (by omega))) (str_ch fun k hk => ?_) fun a ha b hb => ?_
    · have := h (k + 1) (by omega)
      rwa [show i + (k + 1) = i + 1 + k by omega, show j + (k + 1) = j + 1 + k by omega] at this
    · rw [List.mem_singleton.mp ha]
      obtain ⟨k, _, rfl⟩ := str_mem hb
      exact ⟨by show i < i + 1 + k; omega, by show j < j + 1 + k; omega⟩
/-- a text of unlike words, turned round -/
theorem L_turned {n a : Nat} (ha : a ≤ n) (h : ∀ i j, i < n → j < n → (M i j = true ↔ i = (if j < n - a then j + a else j - (n - a)))) : L M n n = max (n - a) a := by
  have up : ∀ l, Ch M l → Bd n n l → l.length ≤ max (n - a) a := fun l hl b => by
    have at_ : ∀ p ∈ l, (a ≤ p.1 ∧ p.2 + a = p.1) ∨ (p.1 < a ∧ p.2 = p.1 + (n - a)) := fun p hp => by
      have bp := b p hp
      have := (h p.1 p.2 bp.1 bp.2).mp (hl.2 p hp)
      split at this <;> omega
    cases l with
    | nil => simp
    | cons p l =>
      have first := ch_first hl
      rcases at_ p List.mem_cons_self with hp | hp
      · have := len_fst (lo := a) (hi := n) hl fun q hq => by
          have bq := b q hq
          rcases List.mem_cons.mp hq with rfl | hq
          · omega
          · have := first q hq
            unfold bh at this
            omega
        omega
      · have := len_fst (lo := 0) (hi := a) hl fun q hq => by
          have bq := b q hq
          rcases List.mem_cons.mp hq with rfl | hq'
          · omega
          · have h1 := first q hq'
            have h2 := at_ q hq
            unfold bh at h1
            omega
        omega
  obtain ⟨l, x, y, z⟩ := L_is (M := M) n n
  have h1 := up l x y
  have h2 := L_up n n (str a 0 (n - a)) (str_ch (M := M) fun k hk => (h _ _ (by omega) (by omega)).mpr (by rw [if_pos (by omega)]; omega)) fun p hp => by
    obtain ⟨k, hk, rfl⟩ := str_mem hp
    show a + k < n ∧ 0 + k < n
    omega
  have h3 := L_up n n (str 0 (n - a) a) (str_ch (M := M) fun k hk => (h _ _ (by omega) (by omega)).mpr (by rw [if_neg (by omega)]; omega)) fun p hp => by
    obtain ⟨k, hk, rfl⟩ := str_mem hp
    show 0 + k < n ∧ n - a + k < n
    omega
  rw [str_len] at h2 h3
  omega
/-- texts of one word -/
theorem L_all {n m : Nat} (h : ∀ i j, i < n → j < m → M i j = true) : L M n m = min n m := by
  obtain ⟨l, x, y, z⟩ := L_is (M := M) n m
  have h1 := len_fst (lo := 0) (hi := n) x fun p hp => ⟨by omega, (y p hp).1⟩
  have h2 := len_snd (lo := 0) (hi := m) x fun p hp => ⟨by omega, (y p hp).2⟩
  have h3 := L_up n m (str 0 0 (min n m)) (str_ch (M := M) fun k hk => h _ _ (by omega) (by omega)) fun p hp => by
    obtain ⟨k, hk, rfl⟩ := str_mem hp
    show 0 + k < n ∧ 0 + k < m
    omega
  rw [str_len] at h3
  omega
/-! ### all rows of so many, one longer each time -/
def bhB (a b : Pr) : Bool := decide (a.1 < b.1) && decide (a.2 < b.2)
theorem bhB_iff {a b : Pr} : bhB a b = true ↔ bh a b := by
  unfold bhB bh
  rw [Bool.and_eq_true, decide_eq_true_eq, decide_eq_true_eq]
/-- what may stand behind a row -/
def okNext (row : List Pr) (p : Pr) : Bool := match row.getLast? with
  | none => true
  | some q => bhB q p
def longer (ps : List Pr) (rows : List (List Pr)) : List (List Pr) := rows.flatMap fun row => (ps.filter (okNext row)).map fun p => row ++ [p]
def rowsOf (ps : List Pr) : Nat → List (List Pr)
  | 0 => [[]]
  | k + 1 => longer ps (rowsOf ps k)
section
variable {n m : Nat} {ps : List Pr} (hps : ∀ p : Pr, p ∈ ps ↔ (p.1 < n ∧ p.2 < m ∧ M p.1 p.2 = true))
include hps
theorem rows_sound : ∀ (k : Nat) (l : List Pr), l ∈ rowsOf ps k → Ch M l ∧ Bd n m l ∧ l.length = k
  | 0, l, h => by
    rw [rowsOf, List.mem_singleton] at h
    subst h
    exact ⟨ch_nil, (fun p h => by cases h), rfl⟩
  | k + 1, l, h => by
    rw [rowsOf, longer, List.mem_flatMap] at h
    obtain ⟨row, hr, hl⟩ := h
    obtain ⟨p, hp, rfl⟩ := List.mem_map.mp hl
    rw [List.mem_filter] at hp
    obtain ⟨a, b, c⟩ := rows_sound k row hr
    obtain ⟨q1, q2, q3⟩ := (hps p).mp hp.1
    refine ⟨ch_app a (ch_one q3) fun x hx y hy => ?_, fun q hq => ?_, by rw [List.length_append, c]; rfl⟩
    · rw [List.mem_singleton.mp hy]
      rcases snoc (l := row) with rfl | ⟨r, z, rfl⟩
      · cases hx
      · have hz : bh z p := by
          have := hp.2
          unfold okNext at this
          rw [List.getLast?_append] at this
          simpa [bhB_iff] using this
        rcases List.mem_append.mp hx with hx | hx
        · have := ch_last a x hx
          unfold bh at *
          omega
        · rw [List.mem_singleton.mp hx]
          exact hz
    · rcases List.mem_append.mp hq with hq | hq
      · exact b q hq
      · rw [List.mem_singleton.mp hq]
        exact ⟨q1, q2⟩
theorem rows_full : ∀ (k : Nat) (l : List Pr), Ch M l → Bd n m l → l.length = k → l ∈ rowsOf ps k
  | 0, l, _, _, h => by
    rw [List.length_eq_zero_iff.mp h, rowsOf]
    exact List.mem_singleton.mpr rfl
  | k + 1, l, h, b, e => by
    rcases snoc (l := l) with rfl | ⟨r, p, rfl⟩
    · cases e
    · rw [rowsOf, longer, List.mem_flatMap]
      refine ⟨r, rows_full k r (ch_left h) (fun q hq => b q (List.mem_append_left _ hq)) (by rw [List.length_append] at e; simp at e; exact e), List.mem_map.mpr ⟨p, List.mem_filter.mpr ⟨?_, ?_⟩, rfl⟩⟩
      · have := b p (by simp)
        exact (hps p).mpr ⟨this.1, this.2, h.2 p (by simp)⟩
      · unfold okNext
        rcases snoc (l := r) with rfl | ⟨s, z, rfl⟩
        · rfl
        · rw [List.getLast?_append]
          show bhB z p = true
          rw [bhB_iff]
          exact (List.pairwise_append.mp h.1).2.2 z (by simp) p (by simp)
theorem rows_none {k : Nat} : rowsOf ps k = [] ↔ L M n m < k := by
  constructor
  · intro h
    by_cases hk : k ≤ L M n m
    · obtain ⟨l, x, y, z⟩ := L_is (M := M) n m
      have : l.take k ∈ rowsOf ps k := rows_full hps k _ (ch_left (k := l.drop k) (by rw [List.take_append_drop]; exact x)) (fun p hp => y p (List.mem_of_mem_take hp)) (by rw [List.length_take]; omega)
      rw [h] at this
      cases this
    · omega
  · intro h
    cases e : rowsOf ps k with
    | nil => rfl
    | cons l r =>
      obtain ⟨x, y, z⟩ := rows_sound hps k l (by rw [e]; exact List.mem_cons_self)
      have := L_up n m l x y
      omega
end
end KL

/-! How many common rows there can be. -/
namespace KL
def sm : Nat → (Nat → Nat) → Nat
  | 0, _ => 0
  | n + 1, f => sm n f + f n
theorem sm_le : ∀ {n : Nat} {f g : Nat → Nat}, (∀ i, i < n → f i ≤ g i) → sm n f ≤ sm n g
  | 0, _, _, _ => Nat.le_refl _
  | n + 1, f, g, h => Nat.add_le_add (sm_le fun i hi => h i (by omega)) (h n (by omega))
theorem sm_eq {n : Nat} {f g : Nat → Nat} (h : ∀ i, i < n → f i = g i) : sm n f = sm n g := Nat.le_antisymm (sm_le fun i hi => Nat.le_of_eq (h i hi)) (sm_le fun i hi => Nat.le_of_eq (h i hi).symm)
theorem sm_zero : ∀ {n : Nat}, sm n (fun _ => 0) = 0
  | 0 => rfl
  | n + 1 => by rw [sm, sm_zero]
theorem sm_left : ∀ {n : Nat} {f : Nat → Nat}, sm (n + 1) f = f 0 + sm n fun i => f (i + 1)
  | 0, f => by simp [sm]
  | n + 1, f => by
    rw [sm, sm_left (n := n), sm]
    omega
theorem sm_rev : ∀ {n : Nat} {f : Nat → Nat}, sm n (fun i => f (n - 1 - i)) = sm n f
  | 0, _ => rfl
  | n + 1, f => by
    rw [sm_left, sm]
    have : sm n (fun i => f (n + 1 - 1 - (i + 1))) = sm n fun i => f (n - 1 - i) := sm_eq fun i hi => by
      show f (n + 1 - 1 - (i + 1)) = f (n - 1 - i)
      rw [show n + 1 - 1 - (i + 1) = n - 1 - i by omega]
    rw [this, sm_rev]
    show f (n + 1 - 1 - 0) + sm n f = sm n f + f n
    rw [show n + 1 - 1 - 0 = n by omega]
    omega
/-- those behind q alone -/
theorem sm_behind {q : Nat} : ∀ {n : Nat} {f : Nat → Nat}, sm n (fun i => if q < i then f i else 0) = sm (n - 1 - q) fun k => f (q + 1 + k)
  | 0, f => by
    show 0 = sm (0 - 1 - q) _
    rw [show 0 - 1 - q = 0 by omega]
    rfl
  | n + 1, f => by
    rw [sm, sm_behind (n := n)]
    by_cases h : q < n
    · rw [if_pos h, show n + 1 - 1 - q = (n - 1 - q) + 1 by omega, sm, show q + 1 + (n - 1 - q) = n by omega]
    · rw [if_neg h, show n + 1 - 1 - q = 0 by omega, show n - 1 - q = 0 by omega]
      rfl
/-- all rows but the empty one, in a field of a and b -/
def S : Nat → Nat → Nat
  | 0 => fun _ => 0
  | a + 1 => fun b => S a b + sm b fun j => 1 + S a j
theorem S_is : ∀ (a b : Nat), S a b = sm a fun i => sm b fun j => 1 + S i j
  | 0, _ => rfl
  | a + 1, b => by
    show S a b + _ = sm a _ + _
    rw [S_is a b]
theorem S_left : ∀ (i j a b : Nat), i ≤ a → j ≤ b → S i j ≤ S a b := by
  have one : ∀ (b : Nat) (f : Nat → Nat) (j : Nat), j ≤ b → sm j f ≤ sm b f := by
    intro b f j h
    induction b with
    | zero => rw [show j = 0 by omega]; exact Nat.le_refl _
    | succ b ih =>
      by_cases e : j = b + 1
      · rw [e]; exact Nat.le_refl _
      · have := ih (by omega)
        rw [sm]
        omega
  intro i j a b hi hj
  rw [S_is, S_is]
  exact Nat.le_trans (sm_le fun k _ => one b _ j hj) (one a _ i hi)
variable {M : Nat → Nat → Bool} {n m : Nat}
/-- the matches -/
def rowM (m : Nat) (c : Nat → Bool) (i : Nat) : List Pr := ((List.range m).filter c).map fun j => (i, j)
def psL (M : Nat → Nat → Bool) (n m : Nat) : List Pr := (List.range n).flatMap fun i => rowM m (M i) i
theorem psL_mem (p : Pr) : p ∈ psL M n m ↔ (p.1 < n ∧ p.2 < m ∧ M p.1 p.2 = true) := by
  obtain ⟨i, j⟩ := p
  unfold psL rowM
  simp only [List.mem_flatMap, List.mem_range, List.mem_map, List.mem_filter]
  constructor
  · rintro ⟨i', h1, j', ⟨h2, h3⟩, e⟩
    cases e
    exact ⟨h1, h2, h3⟩
  · rintro ⟨h1, h2, h3⟩
    exact ⟨i, h1, j, ⟨h2, h3⟩, rfl⟩
theorem sum_row {c : Nat → Bool} {d : Pr → Bool} {w : Pr → Nat} {i : Nat} : ∀ {m : Nat}, (((rowM m c i).filter d).map w).sum ≤ sm m fun j => if d (i, j) = true then w (i, j) else 0
  | 0 => by simp [rowM, sm]
  | m + 1 => by
    have ih := sum_row (c := c) (d := d) (w := w) (i := i) (m := m)
    have e : rowM (m + 1) c i = rowM m c i ++ (if c m = true then [(i, m)] else []) := by
      unfold rowM
      rw [List.range_succ, List.filter_append, List.map_append]
      congr 1
      by_cases h : c m = true
      · rw [if_pos h]
        simp [h]
      · rw [if_neg h]
        simp [h]
    rw [e, List.filter_append, List.map_append, List.sum_append, sm]
    refine Nat.add_le_add ih ?_
    by_cases h : c m = true
    · rw [if_pos h]
      by_cases h2 : d (i, m) = true
      · rw [if_pos h2]
        simp [h2]
      · rw [if_neg h2]
        simp [h2]
    · rw [if_neg h]
      simp
theorem sum_all {d : Pr → Bool} {w : Pr → Nat} : ∀ {n : Nat}, (((psL M n m).filter d).map w).sum ≤ sm n fun i => sm m fun j => if d (i, j) = true then w (i, j) else 0
  | 0 => by simp [psL, sm]
  | n + 1 => by
    have ih := sum_all (d := d) (w := w) (n := n)
    have e : psL M (n + 1) m = psL M n m ++ rowM m (M n) n := by
      unfold psL
      rw [List.range_succ, List.flatMap_append]
      simp
    rw [e, List.filter_append, List.map_append, List.sum_append, sm]
    exact Nat.add_le_add ih sum_row
/-- how many rows a row can still become, itself too -/
def wt (n m : Nat) (row : List Pr) : Nat := match row.getLast? with
  | none => 1 + S n m
  | some q => 1 + S (n - 1 - q.1) (m - 1 - q.2)
theorem wt_snoc {row : List Pr} {p : Pr} : wt n m (row ++ [p]) = 1 + S (n - 1 - p.1) (m - 1 - p.2) := by
  unfold wt
  rw [List.getLast?_append]
  rfl
theorem wt_next (row : List Pr) : (((psL M n m).filter (okNext row)).map fun p => wt n m (row ++ [p])).sum + 1 ≤ wt n m row := by
  have e : (fun p : Pr => wt n m (row ++ [p])) = fun p => 1 + S (n - 1 - p.1) (m - 1 - p.2) := funext fun p => wt_snoc
  rw [e]
  refine Nat.le_trans (Nat.succ_le_succ sum_all) ?_
  rcases snoc (l := row) with rfl | ⟨r, q, rfl⟩
  · show sm n (fun i => sm m fun j => if true = true then 1 + S (n - 1 - i) (m - 1 - j) else 0) + 1 ≤ 1 + S n m
    rw [S_is n m]
    have : sm n (fun i => sm m fun j => if true = true then 1 + S (n - 1 - i) (m - 1 - j) else 0) = sm n fun i => sm m fun j => 1 + S i j := by
      rw [← sm_rev (n := n) (f := fun i => sm m fun j => 1 + S i j)]
      refine sm_eq fun i _ => ?_
      rw [← sm_rev (n := m) (f := fun j => 1 + S (n - 1 - i) j)]
      exact sm_eq fun j _ => if_pos rfl
    omega
  · have hd : ∀ p, okNext (r ++ [q]) p = bhB q p := fun p => by
      unfold okNext
      rw [List.getLast?_append]
      rfl
    rw [wt_snoc, S_is (n - 1 - q.1)]
    have : sm n (fun i => sm m fun j => if okNext (r ++ [q]) (i, j) = true then 1 + S (n - 1 - i) (m - 1 - j) else 0) = sm (n - 1 - q.1) fun i => sm (m - 1 - q.2) fun j => 1 + S i j := by
      have h1 : ∀ i, i < n → (sm m fun j => if okNext (r ++ [q]) (i, j) = true then 1 + S (n - 1 - i) (m - 1 - j) else 0) = if q.1 < i then sm (m - 1 - q.2) (fun j => 1 + S (n - 1 - i) j) else 0 := fun i _ => by
        by_cases hi : q.1 < i
        · rw [if_pos hi, ← sm_rev (n := m - 1 - q.2), show (sm (m - 1 - q.2) fun j => 1 + S (n - 1 - i) (m - 1 - q.2 - 1 - j)) = sm (m - 1 - q.2) fun k => (fun j => 1 + S (n - 1 - i) (m - 1 - j)) (q.2 + 1 + k) from sm_eq fun j _ => by
            show 1 + S (n - 1 - i) (m - 1 - q.2 - 1 - j) = 1 + S (n - 1 - i) (m - 1 - (q.2 + 1 + j))
            rw [show m - 1 - q.2 - 1 - j = m - 1 - (q.2 + 1 + j) by omega], ← sm_behind (q := q.2) (n := m) (f := fun j => 1 + S (n - 1 - i) (m - 1 - j))]
          refine sm_eq fun j _ => ?_
          rw [hd]
          by_cases hj : q.2 < j
          · rw [if_pos hj, if_pos (by simp [bhB, hi, hj])]
          · rw [if_neg hj, if_neg (by simp [bhB, hj])]
        · rw [if_neg hi]
          rw [show (fun j => if okNext (r ++ [q]) (i, j) = true then 1 + S (n - 1 - i) (m - 1 - j) else 0) = fun _ => 0 from funext fun j => if_neg (by rw [hd]; simp [bhB, hi])]
          exact sm_zero
      rw [sm_eq h1, sm_behind, ← sm_rev (n := n - 1 - q.1) (f := fun i => sm (m - 1 - q.2) fun j => 1 + S i j)]
      refine sm_eq fun i hi => sm_eq fun j _ => ?_
      rw [show n - 1 - (q.1 + 1 + i) = n - 1 - q.1 - 1 - i by omega]
    rw [this]
    omega
theorem rows_wt : ∀ k : Nat, ((rowsOf (psL M n m) k).map (wt n m)).sum ≤ 1 + S n m
  | 0 => by
    rw [rowsOf]
    simp [wt]
  | k + 1 => by
    refine Nat.le_trans ?_ (rows_wt k)
    rw [rowsOf]
    generalize rowsOf (psL M n m) k = rows
    induction rows with
    | nil => simp [longer]
    | cons row rows ih =>
      have h := wt_next (M := M) (n := n) (m := m) row
      have e : longer (psL M n m) (row :: rows) = ((psL M n m).filter (okNext row)).map (fun p => row ++ [p]) ++ longer (psL M n m) rows := by
        unfold longer
        rw [List.flatMap_cons]
      rw [e, List.map_append, List.sum_append, List.map_map, List.map_cons, List.sum_cons]
      have h' : (((psL M n m).filter (okNext row)).map (wt n m ∘ fun p => row ++ [p])).sum + 1 ≤ wt n m row := h
      omega
theorem rows_many (k : Nat) : (rowsOf (psL M n m) k).length ≤ 1 + S n m := by
  refine Nat.le_trans ?_ (rows_wt (M := M) (n := n) (m := m) k)
  generalize rowsOf (psL M n m) k = rows
  induction rows with
  | nil => simp
  | cons row rows ih =>
    rw [List.map_cons, List.sum_cons, List.length_cons]
    have : 1 ≤ wt n m row := by
      unfold wt
      split <;> omega
    omega
theorem S_seven : S 7 7 = 3431 := by decide +kernel
end KL

/-! Matches of two texts, by the law. -/
namespace K53
open PySem PySem.Spec PyProof.Rows L2 KD KL
variable {P : Program} {w : World} {K : PySem.W.Frag} {mg : Str → Option Value} {base : Heap}
def prD (p : Pr) : PyData := .tuple [.int (p.1 : Nat), .int (p.2 : Nat)]
def rowD (l : List Pr) : PyData := .list (l.map prD)
def wAt (ws : List Str) (i : Nat) : Str := ws.getD i default
/-- the words at i and at j are the same -/
def Mw (ws vs : List Str) : Nat → Nat → Bool := fun i j => decide (wAt vs j = wAt ws i)
def matchL (ws vs : List Str) : List Pr := psL (Mw ws vs) ws.length vs.length
theorem eqv_str (a b : Str) : PyData.eqv (.str a) (.str b) = decide (a = b) := by
  have := eqv_strs [a] [b]
  simpa [PyData.eqvAll] using this
theorem enum_range (vs : List Str) : enumD (vs.map PyData.str) = (List.range vs.length).map fun j => .tuple [.int (j : Nat), .str (wAt vs j)] := by
  apply List.ext_getElem?
  intro j
  by_cases h : j < vs.length
  · have e : (vs.map PyData.str)[j]? = some (.str vs[j]) := by rw [List.getElem?_map, List.getElem?_eq_getElem h]; rfl
    rw [enumD_get e, List.getElem?_map, List.getElem?_range h]
    simp [wAt, List.getD_eq_getElem?_getD, List.getElem?_eq_getElem h]
  · rw [List.getElem?_eq_none (by rw [enumD_len, List.length_map]; omega), List.getElem?_eq_none (by rw [List.length_map, List.length_range]; omega)]
theorem enum_at {ws : List Str} {i : Nat} {d : PyData} (h : (enumD (ws.map PyData.str))[i]? = some d) : i < ws.length ∧ d = .tuple [.int (i : Nat), .str (wAt ws i)] := by
  rw [enum_range, List.getElem?_map] at h
  have hi : i < ws.length := by
    by_cases hi : i < ws.length
    · exact hi
    · rw [List.getElem?_eq_none (by rw [List.length_range]; omega)] at h
      cases h
  rw [List.getElem?_range hi] at h
  exact ⟨hi, (Option.some.inj h).symm⟩
theorem row_data (ws vs : List Str) (i : Nat) : (((enumD (vs.map PyData.str)).filter fun d => PyData.eqv (it d 1) (.str (wAt ws i))).map fun d => PyData.tuple [.int (i : Nat), it d 0]) = (rowM vs.length (Mw ws vs i) i).map prD := by
  rw [enum_range, List.filter_map, List.map_map]
  unfold rowM
  rw [List.map_map]
  have : ((fun d => PyData.eqv (it d 1) (.str (wAt ws i))) ∘ fun j : Nat => PyData.tuple [.int (j : Nat), .str (wAt vs j)]) = Mw ws vs i := funext fun j => by
    show PyData.eqv (.str (wAt vs j)) (.str (wAt ws i)) = decide (wAt vs j = wAt ws i)
    rw [eqv_str]
  rw [this]
  rfl
theorem rowM_len {m i : Nat} {c : Nat → Bool} : (rowM m c i).length ≤ m := by
  unfold rowM
  rw [List.length_map]
  exact Nat.le_trans (List.length_filter_le _ _) (by rw [List.length_range]; exact Nat.le_refl _)
theorem psL_succ (M : Nat → Nat → Bool) (n m : Nat) : psL M (n + 1) m = psL M n m ++ rowM m (M n) n := by
  unfold psL
  rw [List.range_succ, List.flatMap_append]
  simp
theorem psL_len (M : Nat → Nat → Bool) (m : Nat) : ∀ n, (psL M n m).length ≤ n * m
  | 0 => by simp [psL]
  | n + 1 => by
    have := psL_len M m n
    have := rowM_len (m := m) (i := n) (c := M n)
    rw [psL_succ, List.length_append, Nat.succ_mul]
    omega
theorem envUn' {X : Addr → Prop} {H : Hp} {σ : L2.St} {Γ : List Sv} (E : EnvOk X H σ Γ) (i : Nat) : EnvOk X H σ (Γ.set i .un) := ⟨by rw [List.length_set]; exact E.len, fun j s e => by
  rw [List.getElem?_set] at e
  split at e
  · split at e
    · cases e
      trivial
    · cases e
  · exact E.get j s e⟩
theorem k_drop1 {te : TE} {D : Ends} {σ : L2.St} {H : Hp} (h : tSeq (tDrop te) (fun D σ H => D.nx σ H) D σ H) : tDrop te D σ H := h
abbrev s__law_m_behind : Stmt := topS 26
abbrev n__law_m_behind : List Str := ["_law_pair", "_law_near"]
theorem sc__law_m_behind : FnScope n__law_m_behind ["_law_pair", "_law_near"] (defScope s__law_m_behind) := ⟨rfl, rfl, rfl, by decide +kernel, rfl, by decide +kernel, by decide +kernel⟩
def pr2 (a b : PyData) : Prop := ∃ p q : Pr, a = prD p ∧ b = prD q
def prOf (a : PyData) : Pr := ((intOf (it a 0)).toNat, (intOf (it a 1)).toNat)
theorem prOf_prD (p : Pr) : prOf (prD p) = p := by
  obtain ⟨i, j⟩ := p
  rfl
theorem ok_behind {f : Addr} {fd : FuncData} (F : Fun K "_law_m_behind" "_law_m_behind" s__law_m_behind f fd) (T : Bl mg) : FnOk P w K mg base CX0 1 f fd ["_law_pair", "_law_near"] (sp2 pr2 fun a b => .bool (bhB (prOf b) (prOf a))) := by
  refine ok2 F sc__law_m_behind (by decide) fun cdv A outer s H E X d1 d2 Q hr t hp q => ⟨_, (pss_one (ps_ret (pe_and (pe_cmpR op_gt (pe_ix ix_seq (pv 0) pe_int (fun _ _ => rfl)) (pe_ix ix_seq (pv 1) pe_int (fun _ _ => rfl)) (nomark _)) (pe_one (pe_cmpR op_gt (pe_ix ix_seq (pv 0) pe_int (fun _ _ => rfl)) (pe_ix ix_seq (pv 1) pe_int (fun _ _ => rfl)) (nomark _)))))), fun σ En => ?_⟩
  obtain ⟨⟨i, j⟩, ⟨k, l⟩, rfl, rfl⟩ := hp
  refine s_ret (X := X) (g_is (g_and (a := decide (((k : Nat) : Int) < ((i : Nat) : Int))) (b := decide (((l : Nat) : Int) < ((j : Nat) : Int))) ?_ fun _ => ?_) ?_) q
  · exact g_op t (g_ixT t (g_var (i := 0) (d := prD (i, j)) En rfl) g_int rfl) (g_ixT t (g_var (i := 1) (d := prD (k, l)) En rfl) g_int rfl) fun H1 u v _ ru rv Q q => ⟨(i : Nat), (k : Nat), ru.int_inv, rv.int_inv, q _ H1 (Same.refl H1) (.bl _)⟩
  · exact g_op t (g_ixT t (g_var (i := 0) (d := prD (i, j)) En rfl) g_int rfl) (g_ixT t (g_var (i := 1) (d := prD (k, l)) En rfl) g_int rfl) fun H1 u v _ ru rv Q q => ⟨(j : Nat), (l : Nat), ru.int_inv, rv.int_inv, q _ H1 (Same.refl H1) (.bl _)⟩
  · rw [prOf_prD, prOf_prD]
    simp [bhB]
-- HINT _law_m_matches lctt#1 tTest (tOp (rEqD K) (tVar 6) (tVar 4))
abbrev s__law_m_matches : Stmt := topS 25
abbrev n__law_m_matches : List Str := ["_law_one", "_law_other", "_law_found", "_law_at", "_law_words", "_law_to", "_law_near"]
theorem sc__law_m_matches : FnScope n__law_m_matches ["_law_one", "_law_other"] (defScope s__law_m_matches) := ⟨rfl, rfl, rfl, by decide +kernel, rfl, by decide +kernel, by decide +kernel⟩
def ws2 (a b : PyData) : Prop := ∃ ws vs : List Str, a = wsD ws ∧ b = wsD vs ∧ ws.length ≤ 100 ∧ vs.length ≤ 100 ∧ WsOk ws ∧ WsOk vs
theorem wAt_ok {ws : List Str} (h : WsOk ws) {i : Nat} (hi : i < ws.length) : PyData.strOk (wAt ws i) = true := by
  unfold wAt
  rw [List.getD_eq_getElem?_getD, List.getElem?_eq_getElem hi]
  exact h.2 _ (List.getElem_mem hi)
theorem ok_matches {f : Addr} {fd : FuncData} (F : Fun K "_law_m_matches" "_law_m_matches" s__law_m_matches f fd) (T : Bl mg) : FnOk P w K mg base CX0 1 f fd ["_law_one", "_law_other"] (sp2 ws2 fun a b => rowD (matchL (wsOf a) (wsOf b))) := by
  refine ok2 F sc__law_m_matches (by decide) fun cdv A outer s H E X d1 d2 Q hr t hp q => ⟨_, (pss_cons (ps_set (i := 2) sc__law_m_matches.nd rfl (by first | exact Or.inl rfl | exact Or.inr rfl) (pe_lst pa_nil))
    (pss_cons (ps_for PassesOwn.never rfl (pi_enum (by rfl) T.b_enumerate (pa_cons (pv 0) pa_nil)) (pg_tup (n := 2) rfl (pgs_cons (pg_name (i := 3) sc__law_m_matches.nd rfl (by first | exact Or.inl rfl | exact Or.inr rfl)) (pgs_cons (pg_name (i := 4) sc__law_m_matches.nd rfl (by first | exact Or.inl rfl | exact Or.inr rfl)) pgs_nil)))
    (pss_one (ps_expr (pe_bm PySem.F.plainAttrs_list PySem.F.slot_list_extend PySem.F.type_list_extend mt_extend (pv 2) (pa_cons (pe_lc (own := [("_law_to", 5), ("_law_near", 6)]) (g := (gTup K 2 (gCons (gName 5) (gCons (gName 6) gNil)))) (tt := tTest (tOp (rEqD K) (tVar 6) (tVar 4))) rfl sc__law_m_matches.nd (pi_enum (by rfl) T.b_enumerate (pa_cons (pv 1) pa_nil)) (blkOk_by (N := n__law_m_matches) (sc := defScope s__law_m_matches) (by decide +kernel)) (fun _ _ _ _ _ => (pg_tup (n := 2) rfl (pgs_cons (pg_name (i := 5) sc__law_m_matches.nd rfl (by first | exact Or.inl rfl | exact Or.inr rfl)) (pgs_cons (pg_name (i := 6) sc__law_m_matches.nd rfl (by first | exact Or.inl rfl | exact Or.inr rfl)) pgs_nil)))) (fun _ _ _ _ _ => (pts_one (pt_cmpR (op_eqD hr.units) (pv 6) (pv 4) (nomark _)))) (fun _ _ _ _ _ => (pe_tup (pa_cons (pv 3) (pa_cons (pv 5) pa_nil))))) pa_nil)))))
    (pss_one (ps_ret (pv 2))))), fun σ En => ?_⟩
  obtain ⟨ws, vs, rfl, rfl, l1, l2, k1, k2⟩ := hp
  rw [wsOf_wsD, wsOf_wsD] at q
  refine k_own (i := 2) En t (gn_lst t ga_nil (by simp)) fun L H1 xs hL s1 h1 x1 E1 t1 => ?_
  have nX : ¬ X L := t.new hL
  let X' : Addr → Prop := fun b => X b ∨ b = L
  refine s_forD (X := X') (gi_enum (g_var (i := 0) (d := wsD ws) E1 rfl)) (fun Hb i σ' H' => Kp X' Hb H' ∧ Trk X' H' ∧ Same H H' ∧ ∃ ys, H' L = some (.lst ys) ∧ DXs X' H' ys ((psL (Mw ws vs) i vs.length).map prD) ∧ EnvOk X' H' σ' [.dat (wsD ws), .dat (wsD vs), .val (.ref L), .un, .un, .un, .un]) ?_ ?_ ?_ ?_
  · intro Hb sb
    exact ⟨Kp.refl, t1.mono sb, s1.trans sb, xs, sb _ _ h1, x1.mono (Kp.of sb), E1.same sb⟩
  · rintro Hb i σ' H' ⟨p1, p2, _⟩
    exact ⟨p1, p2⟩
  · rintro Hb i x d σ' H' H'' sb hd ⟨p1, p2, p3, ys, p4, p5, E⟩ s5 dx
    obtain ⟨hi, rfl⟩ := enum_at hd
    have t5 := p2.mono s5
    refine g_pair dx fun u v q1 q2 => ?_
    have E5 := ((E.same s5).set (i := 3) q1).set (i := 4) q2
    have lp := psL_len (Mw ws vs) vs.length i
    have l5 : i * vs.length ≤ 100 * 100 := Nat.mul_le_mul (by omega) l2
    have lr := rowM_len (m := vs.length) (i := i) (c := Mw ws vs i)
    refine k_drop1 (q_extend (i := 2) (L := L) (es := (rowM vs.length (Mw ws vs i) i).map prD) E5 rfl (.inr rfl) t5 (s5 _ _ p4) (p5.mono (Kp.of s5)) (g_is (g_lc (ds := enumD (vs.map PyData.str)) (Γ2 := fun d => (((((([.dat (wsD ws), .dat (wsD vs), .val (.ref L), .dat (.int (i : Nat)), .dat (.str (wAt ws i)), .un, .un] : List Sv)).set 6 .un).set 5 .un).set 5 (.dat (it d 0))).set 6 (.dat (it d 1)))) (fun d => PyData.eqv (it d 1) (.str (wAt ws i))) (fun d => .tuple [.int (i : Nat), it d 0]) t5 (gi_enum (g_var (i := 1) (d := wsD vs) E5 rfl)) (by rw [enumD_len, List.length_map]; omega) (fun H3 s3 p hp => ?_) (fun X2 H3 σ2 p hp t3 E3 => ?_) (fun X2 H3 σ2 p hp hf t3 E3 => ?_)) (by rw [row_data])) (by rw [List.length_map, List.length_map]; omega) fun H6 ys6 h6 x6 E6 t6 k6 => ?_)
    · obtain ⟨j, hj⟩ := List.mem_iff_getElem?.mp hp
      obtain ⟨_, rfl⟩ := enum_at hj
      exact tgt_pair (E5.same s3) (by decide)
    · obtain ⟨j, hj⟩ := List.mem_iff_getElem?.mp hp
      obtain ⟨hj2, rfl⟩ := enum_at hj
      exact gt_eqD t3 (x := .str (wAt vs j)) (y := .str (wAt ws i)) (g_var (i := 6) E3 rfl) (g_var (i := 4) E3 rfl) rfl rfl (shaped_str (wAt_ok k2 hj2)) (shaped_str (wAt_ok k1 hi))
    · obtain ⟨j, hj⟩ := List.mem_iff_getElem?.mp hp
      obtain ⟨hj2, rfl⟩ := enum_at hj
      exact g_tup t3 (ga_cons (g_var (i := 3) E3 rfl) (ga_cons (g_var (i := 5) (d := .int (j : Nat)) E3 rfl) ga_nil)) (by simp)
    · have kx : Kp X' H'' H6 := fun a o n e => k6 a o (fun z => n (.inr z)) e
      refine ⟨(p1.trans (Kp.of s5)).trans kx, t6, fun a o e => ?_, ys6, h6, ?_, envUn' (envUn' E6 3) 4⟩
      · have n1 : a ≠ L := fun z => by rw [z, hL] at e; cases e
        exact k6 a o n1 (s5 a o (p3 a o e))
      · rw [psL_succ, List.map_append]
        exact x6
  · rintro Hb σ' H' sb ⟨p1, p2, p3, ys, p4, p5, E⟩
    rw [enumD_len, List.length_map] at p5
    have E8 := E.give (i := 2) rfl nX p4 p5
    exact s_ret (X := X) (D := { nx := fun _ H' => Q .non H', rt := Q }) (d := rowD (matchL ws vs)) (g_var (i := 2) E8 rfl) fun w H9 s9 dw => q w H9 (p3.trans s9) dw
end K53

/-! All longest common rows, by the law. -/
namespace K53
open PySem PySem.Spec PyProof.Rows L2 KD KL
variable {P : Program} {w : World} {K : PySem.W.Frag} {mg : Str → Option Value} {base : Heap}
def rowsD (ls : List (List Pr)) : PyData := .list (ls.map rowD)
theorem nd_all : ∀ {ds : List PyData}, (∀ z ∈ ds, noDict z = true) → noDicts ds = true
  | [], _ => by simp [noDicts]
  | d :: ds, h => by simp [noDicts, h d List.mem_cons_self, nd_all fun z hz => h z (List.mem_cons_of_mem _ hz)]
theorem lay_all : ∀ {ds : List PyData}, (∀ z ∈ ds, z.canLay0 = true) → PyData.canLayAll0 ds = true
  | [], _ => by simp [PyData.canLayAll0]
  | d :: ds, h => by simp [PyData.canLayAll0, h d List.mem_cons_self, lay_all fun z hz => h z (List.mem_cons_of_mem _ hz)]
theorem dep_all {k : Nat} : ∀ {ds : List PyData}, (∀ z ∈ ds, z.depth ≤ k) → PyData.depthAll ds ≤ k
  | [], _ => by simp [PyData.depthAll]
  | d :: ds, h => by
    have a := h d List.mem_cons_self
    have b := dep_all fun z hz => h z (List.mem_cons_of_mem _ hz)
    simp only [PyData.depthAll]
    omega
theorem row_mk {l : List Pr} {z : PyData} (h : z ∈ l.map prD) : ∃ p, p ∈ l ∧ z = prD p := by
  obtain ⟨p, hp, rfl⟩ := List.mem_map.mp h
  exact ⟨p, hp, rfl⟩
theorem row_shaped (l : List Pr) : noDict (rowD l) = true ∧ (rowD l).canLay0 = true ∧ (rowD l).depth ≤ 3 := by
  refine ⟨?_, ?_, ?_⟩
  · show noDicts (l.map prD) = true
    refine nd_all fun z hz => ?_
    obtain ⟨p, _, rfl⟩ := row_mk hz
    simp [prD, noDict, noDicts]
  · show PyData.canLay0 (.list (l.map prD)) = true
    simp only [PyData.canLay0]
    refine lay_all fun z hz => ?_
    obtain ⟨p, _, rfl⟩ := row_mk hz
    simp [prD, PyData.canLay0, PyData.canLayAll0]
  · have : PyData.depthAll (l.map prD) ≤ 1 := dep_all fun z hz => by
      obtain ⟨p, _, rfl⟩ := row_mk hz
      simp [prD, PyData.depth, PyData.depthAll]
    show PyData.depth (.list (l.map prD)) ≤ 3
    simp only [PyData.depth]
    omega
theorem shaped_mk {d : PyData} (h : d.canLay0 = true) (h2 : d.depth ≤ 64) : SeqAt.shaped d = true := by
  show (d.canLay0 && decide (d.depth ≤ 64)) = true
  rw [h, decide_eq_true h2]
  rfl
theorem row_sh (l : List Pr) : SeqAt.shaped (rowD l) = true := shaped_mk (row_shaped l).2.1 (by have := (row_shaped l).2.2; omega)
theorem rows_shaped (ls : List (List Pr)) : noDict (rowsD ls) = true ∧ SeqAt.shaped (rowsD ls) = true := by
  have mk : ∀ {z : PyData}, z ∈ ls.map rowD → ∃ l, z = rowD l := fun h => by
    obtain ⟨l, _, rfl⟩ := List.mem_map.mp h
    exact ⟨l, rfl⟩
  refine ⟨?_, shaped_mk ?_ ?_⟩
  · show noDicts (ls.map rowD) = true
    refine nd_all fun z hz => ?_
    obtain ⟨l, rfl⟩ := mk hz
    exact (row_shaped l).1
  · show PyData.canLay0 (.list (ls.map rowD)) = true
    simp only [PyData.canLay0]
    refine lay_all fun z hz => ?_
    obtain ⟨l, rfl⟩ := mk hz
    exact (row_shaped l).2.1
  · have : PyData.depthAll (ls.map rowD) ≤ 3 := dep_all fun z hz => by
      obtain ⟨l, rfl⟩ := mk hz
      exact (row_shaped l).2.2
    show PyData.depth (.list (ls.map rowD)) ≤ 64
    simp only [PyData.depth]
    omega
theorem eqv_nil {ds : List PyData} : PyData.eqv (.list ds) (.list []) = decide (ds = []) := by
  cases ds <;> simp [PyData.eqv, PyData.eqvAll]
theorem atI_last {l : List Pr} {p : Pr} : atI ((l ++ [p]).map prD) (-1) = some (prD p) := by
  unfold atI ixN
  simp
  rw [if_pos (by omega)]
  show (List.map prD l ++ [prD p])[((-1 : Int) + ((l.length : Int) + 1)).toNat]? = some (prD p)
  rw [show ((-1 : Int) + ((l.length : Int) + 1)).toNat = l.length by omega, List.getElem?_append_right (by simp)]
  simp
theorem longer_app (ps : List Pr) (a b : List (List Pr)) : longer ps (a ++ b) = longer ps a ++ longer ps b := by
  unfold longer
  rw [List.flatMap_append]
theorem longer_one (ps : List Pr) (row : List Pr) : longer ps [row] = (ps.filter (okNext row)).map fun p => row ++ [p] := by
  unfold longer
  simp
theorem next_data (ps row : List Pr) : (((ps.map prD).filter fun d => okNext row (prOf d)).map fun d => PyData.list (row.map prD ++ [d])) = ((ps.filter (okNext row)).map fun p => row ++ [p]).map rowD := by
  rw [List.filter_map, List.map_map, List.map_map]
  have : ((fun d => okNext row (prOf d)) ∘ prD) = okNext row := funext fun p => by
    show okNext row (prOf (prD p)) = _
    rw [prOf_prD]
  rw [this]
  congr 1
  funext p
  show PyData.list (row.map prD ++ [prD p]) = .list ((row ++ [p]).map prD)
  rw [List.map_append]
  rfl
theorem g_neg1 {X : Addr → Prop} {σ : L2.St} {H : Hp} : G X (tUn (rU fun i => .int (-i)) (tC (.int 1))) σ H (.int (-1)) := fun H1 s Q q => ⟨1, rfl, q _ H1 (Same.refl H1) (.int _)⟩
theorem k_name {i : Nat} {v : V} {σ : L2.St} {H : Hp} {Ψ : L2.St → Hp → Prop} (h : Ψ (σ.set i (some v)) H) : gName i v σ H Ψ := h
theorem k_set1 {te : TE} {i : Nat} {D : Ends} {σ : L2.St} {H : Hp} (h : te σ H fun v H1 => D.nx (σ.set i (some v)) H1) : tAsg te (gName i) D σ H := h
-- HINT _law_m_longest lctt#1 tOr (tTest (tOp (rEqD K) (tVar 6) (tLst tNil))) (tB (tCall (sp2 pr2 fun a b => .bool (bhB (prOf b) (prOf a))) [] E0 (tCons (tVar 7) (tCons (tOp (rIx K) (tVar 6) (tUn (rU fun i => .int (-i)) (tC (.int 1)))) tNil))))
abbrev s__law_m_longest : Stmt := topS 27
abbrev n__law_m_longest : List Str := ["_law_one", "_law_other", "_law_pairs", "_law_found", "_law_last", "_law_longer", "_law_row", "_law_pair"]
theorem sc__law_m_longest : FnScope n__law_m_longest ["_law_one", "_law_other"] (defScope s__law_m_longest) := ⟨rfl, rfl, rfl, by decide +kernel, rfl, by decide +kernel, by decide +kernel⟩
def ws7 (a b : PyData) : Prop := ∃ ws vs : List Str, a = wsD ws ∧ b = wsD vs ∧ ws.length ≤ 7 ∧ vs.length ≤ 7 ∧ WsOk ws ∧ WsOk vs
def longestL (ws vs : List Str) : List (List Pr) := rowsOf (matchL ws vs) (L (Mw ws vs) ws.length vs.length)
theorem ok_longest {f : Addr} {fd : FuncData} (F : Fun K "_law_m_longest" "_law_m_longest" s__law_m_longest f fd) (T : Bl mg) (O__law_m_matches : Own P w K mg base CX0 1 "_law_m_matches" ["_law_one", "_law_other"] (sp2 ws2 fun a b => rowD (matchL (wsOf a) (wsOf b))))
    (O__law_m_behind : Own P w K mg base CX0 1 "_law_m_behind" ["_law_pair", "_law_near"] (sp2 pr2 fun a b => .bool (bhB (prOf b) (prOf a)))) : FnOk P w K mg base CX0 2 f fd ["_law_one", "_law_other"] (sp2 ws7 fun a b => rowsD (longestL (wsOf a) (wsOf b))) := by
  refine ok2 F sc__law_m_longest (by decide) fun cdv A outer s H E X d1 d2 Q hr t hp q => ⟨_, (pss_cons (ps_par (i := 2) (j := 3) (by rfl) sc__law_m_longest.nd rfl rfl (by decide) rfl rfl (pa_cons (pe_own O__law_m_matches hr (by decide) (by rfl) (pa_cons (pv 0) (pa_cons (pv 1) pa_nil))) (pa_cons (pe_lst (pa_cons (pe_lst pa_nil) pa_nil)) pa_nil)) (by rfl))
    (Evl.pss_cut (ps_while PassesOwn.never (pt_cmpR (op_neD hr.units) (pv 3) (pe_lst pa_nil) (nomark _))
    (pss_cons (ps_par (i := 4) (j := 5) (by rfl) sc__law_m_longest.nd rfl rfl (by decide) rfl rfl (pa_cons (pv 3) (pa_cons (pe_lst pa_nil) pa_nil)) (by rfl))
    (pss_cons (ps_for PassesOwn.never rfl (pi_list (pv 3)) (pg_name (i := 6) sc__law_m_longest.nd rfl (by first | exact Or.inl rfl | exact Or.inr rfl))
    (pss_one (ps_expr (pe_bm PySem.F.plainAttrs_list PySem.F.slot_list_extend PySem.F.type_list_extend mt_extend (pv 5) (pa_cons (pe_lc (own := [("_law_pair", 7)]) (g := (gName 7)) (tt := tOr (tTest (tOp (rEqD K) (tVar 6) (tLst tNil))) (tB (tCall (sp2 pr2 fun a b => .bool (bhB (prOf b) (prOf a))) [] E0 (tCons (tVar 7) (tCons (tOp (rIx K) (tVar 6) (tUn (rU fun i => .int (-i)) (tC (.int 1)))) tNil))))) rfl sc__law_m_longest.nd (pi_list (pv 2)) (blkOk_by (N := n__law_m_longest) (sc := defScope s__law_m_longest) (by decide +kernel)) (fun _ _ _ _ _ => (pg_name (i := 7) sc__law_m_longest.nd rfl (by first | exact Or.inl rfl | exact Or.inr rfl))) (fun _ _ _ _ _ => (pts_one (PW.pt (pw_or (pt_cmpR (op_eqD hr.units) (pv 6) (pe_lst pa_nil) (nomark _)) (pw_or1 (pt_val (pe_own O__law_m_behind hr (by decide) (by rfl) (pa_cons (pv 7) (pa_cons (pe_ix ix_seq (pv 6) (pe_un un_neg pe_int) (fun _ _ => rfl)) pa_nil))))))))) (fun _ _ _ _ _ => (pe_op op_addA (pv 6) (pe_lst (pa_cons (pv 7) pa_nil))))) pa_nil)))))
    (pss_one (ps_set (i := 3) sc__law_m_longest.nd rfl (by first | exact Or.inl rfl | exact Or.inr rfl) (pv 5))))))
    (pss_one (ps_ret (pv 4))))), fun σ En => ?_⟩
  obtain ⟨ws, vs, rfl, rfl, l1, l2, k1, k2⟩ := hp
  rw [wsOf_wsD, wsOf_wsD] at q
  refine k_par (g_call2 t (g_var (i := 0) (d := wsD ws) En rfl) (g_var (i := 1) (d := wsD vs) En rfl) (by exact ⟨ws, vs, rfl, rfl, by omega, by omega, k1, k2⟩) H (Same.refl _) _ fun v1 H1 s1 r1 => g_lst (ds := [.list []]) (t.mono s1) (ga_cons (g_lst (t.mono s1) ga_nil (by simp)) ga_nil) (by simp) H1 (Same.refl _) _ fun v2 H2 s2 r2 => ⟨_, _, rfl, ?_⟩)
  rw [wsOf_wsD, wsOf_wsD] at r1
  have hps : ∀ p : Pr, p ∈ matchL ws vs ↔ (p.1 < ws.length ∧ p.2 < vs.length ∧ Mw ws vs p.1 p.2 = true) := psL_mem
  have hmany : ∀ k, (rowsOf (matchL ws vs) k).length ≤ 3432 := fun k => by
    have h := rows_many (M := Mw ws vs) (n := ws.length) (m := vs.length) k
    have h2 := S_left ws.length vs.length 7 7 l1 l2
    rw [S_seven] at h2
    show (rowsOf (psL (Mw ws vs) ws.length vs.length) k).length ≤ 3432
    omega
  have lps : (matchL ws vs).length ≤ 49 := by
    have h := psL_len (Mw ws vs) vs.length ws.length
    have h2 : ws.length * vs.length ≤ 7 * 7 := Nat.mul_le_mul l1 l2
    show (psL (Mw ws vs) ws.length vs.length).length ≤ 49
    omega
  have hnone : ∀ k, rowsOf (matchL ws vs) k = [] ↔ L (Mw ws vs) ws.length vs.length < k := fun k => rows_none hps
  unfold longestL at q
  generalize hT : L (Mw ws vs) ws.length vs.length = tot at q hnone
  generalize matchL ws vs = ps at *
  have E2 : EnvOk X H2 _ [.dat (wsD ws), .dat (wsD vs), .dat (rowD ps), .dat (rowsD [[]]), .un, .un, .un, .un] := ((En.same (s1.trans s2)).set (i := 2) (r1.mono (Kp.of s2))).set (i := 3) (d := rowsD [[]]) r2
  let Γ (k : Nat) (x : Sv) : List Sv := [.dat (wsD ws), .dat (wsD vs), .dat (rowD ps), .dat (rowsD (rowsOf ps k)), x, .un, .un, .un]
  let J : Nat → L2.St → Hp → Prop := fun l σ' H' => ∃ k x, l = tot + 1 - k ∧ k ≤ tot + 1 ∧ (k = 0 ∨ x = .dat (rowsD (rowsOf ps (k - 1)))) ∧ Same H H' ∧ EnvOk X H' σ' (Γ k x)
  refine ⟨fun σ' H' => Same H H' ∧ ∃ y, EnvOk X H' σ' [.dat (wsD ws), .dat (wsD vs), .dat (rowD ps), y, .dat (rowsD (rowsOf ps tot)), .un, .un, .un], ⟨J, ⟨_, 0, .un, rfl, by omega, .inl rfl, s1.trans s2, E2⟩, ?_⟩, ?_⟩
  rotate_left
  · rintro σ' H' ⟨p1, y, E⟩
    exact s_ret (X := X) (D := { nx := fun _ H' => Q .non H', rt := Q }) (d := rowsD (rowsOf ps tot)) (g_var (i := 4) E rfl) fun w H9 s9 dw => q w H9 (p1.trans s9) dw
  rintro l σ' H3 ⟨k, x, rfl, hk, hx, p1, E3⟩
  have t3 := t.mono p1
  obtain ⟨nd, sh⟩ := rows_shaped (rowsOf ps k)
  refine gt_neD t3 (x := rowsD (rowsOf ps k)) (y := .list []) (g_var (i := 3) E3 rfl) (g_lst t3 ga_nil (by simp)) nd rfl sh rfl H3 (Same.refl _) _ fun H4 s4 => ?_
  have E4 := E3.same s4
  have p4 := p1.trans s4
  have t4 := t.mono p4
  have eq : PyData.eqv (rowsD (rowsOf ps k)) (.list []) = decide (rowsOf ps k = []) := by
    show PyData.eqv (.list _) _ = _
    rw [eqv_nil]
    simp
  rw [eq]
  by_cases h0 : rowsOf ps k = []
  · rw [decide_eq_true h0]
    show (if (false : Bool) = true then _ else _)
    rw [if_neg (by simp)]
    have := (hnone k).mp h0
    have ek : k = tot + 1 := by omega
    subst ek
    rcases hx with hx | rfl
    · omega
    · exact ⟨p4, _, E4⟩
  rw [decide_eq_false h0]
  show (if (true : Bool) = true then _ else _)
  rw [if_pos rfl]
  have hkt : k < tot + 1 := by
    by_cases h : tot < k
    · exact absurd ((hnone k).mpr h) h0
    · omega
  refine ⟨fun σ' H' => ∃ l', l' < tot + 1 - k ∧ J l' σ' H', fun σ' H' h => h, ?_⟩
  -- last, longer
  refine k_par (g_var (i := 3) E4 rfl H4 (Same.refl _) _ fun v5 H5 s5 r5 => ?_)
  refine ⟨by show 0 ≤ sizeLine; omega, fun A hA => ⟨_, _, rfl, ?_⟩⟩
  have p5 := p4.trans s5
  have t5 := t.mono p5
  have nX : ¬ X A := t5.new hA
  have s6 : Same H5 (upd H5 A (.lst [])) := Same.upd hA
  let X' : Addr → Prop := fun b => X b ∨ b = A
  have t6 : Trk X' (upd H5 A (.lst [])) := t5.one hA
  have E6 : EnvOk X' (upd H5 A (.lst [])) _ [.dat (wsD ws), .dat (wsD vs), .dat (rowD ps), .dat (rowsD (rowsOf ps k)), .dat (rowsD (rowsOf ps k)), .val (.ref A), .un, .un] := ((((E4.same s5).set (i := 4) r5).more (More.one hA)).same s6).setV (i := 5) (v := .ref A)
  have hmk := hmany (k + 1)
  have hmk0 := hmany k
  have e1 : rowsOf ps (k + 1) = longer ps (rowsOf ps k) := rfl
  generalize hrows : rowsOf ps k = rows at *
  refine s_forD (X := X') (gi_list (g_var (i := 3) (d := rowsD rows) E6 rfl)) (fun Hb i σ' H' => Kp X' Hb H' ∧ Trk X' H' ∧ Same H5 H' ∧ ∃ ys, H' A = some (.lst ys) ∧ DXs X' H' ys ((longer ps (rows.take i)).map rowD) ∧ EnvOk X' H' σ' [.dat (wsD ws), .dat (wsD vs), .dat (rowD ps), .dat (rowsD rows), .dat (rowsD rows), .val (.ref A), .un, .un]) ?_ ?_ ?_ ?_
  · intro Hb sb
    exact ⟨Kp.refl, t6.mono sb, s6.trans sb, [], sb _ _ upd_same, .nil, E6.same sb⟩
  · rintro Hb i σ' H' ⟨p1, p2, _⟩
    exact ⟨p1, p2⟩
  · rintro Hb i x d σ' H' H'' sb hd ⟨q1, q2, q3, ys, q4, q5, E⟩ s7 dx
    rw [List.getElem?_map] at hd
    obtain ⟨row, hrow, rfl⟩ := Option.map_eq_some_iff.mp hd
    have hi := (List.getElem?_eq_some_iff.mp hrow).1
    have t7 := q2.mono s7
    refine k_name ?_
    have E7 := (E.same s7).set (i := 6) dx
    have lrow : row.length ≤ 7 := by
      obtain ⟨z1, z2, _⟩ := rows_sound hps k row (by rw [hrows]; exact List.mem_of_getElem? hrow)
      have := len_fst (lo := 0) (hi := ws.length) z1 fun p hp => ⟨by omega, (z2 p hp).1⟩
      omega
    have etake : longer ps (rows.take (i + 1)) = longer ps (rows.take i) ++ (ps.filter (okNext row)).map fun p => row ++ [p] := by
      rw [List.take_add_one, hrow, Option.toList_some, longer_app, longer_one]
    have ltake : (longer ps (rows.take i)).length + ((ps.filter (okNext row)).map fun p => row ++ [p]).length ≤ 3432 := by
      rw [← List.length_append, ← etake]
      have : longer ps rows = longer ps (rows.take (i + 1)) ++ longer ps (rows.drop (i + 1)) := by rw [← longer_app, List.take_append_drop]
      rw [e1, this, List.length_append] at hmk
      omega
    refine k_drop1 (q_extend (i := 5) (L := A) (es := ((ps.filter (okNext row)).map fun p => row ++ [p]).map rowD) E7 rfl (.inr rfl) t7 (s7 _ _ q4) (q5.mono (Kp.of s7)) (g_is (g_lc (ds := ps.map prD) (Γ2 := fun d => (([.dat (wsD ws), .dat (wsD vs), .dat (rowD ps), .dat (rowsD rows), .dat (rowsD rows), .val (.ref A), .dat (rowD row), .un] : List Sv).set 7 .un).set 7 (.dat d)) (fun d => okNext row (prOf d)) (fun d => .list (row.map prD ++ [d])) t7 (gi_list (g_var (i := 2) (d := rowD ps) E7 rfl)) (by rw [List.length_map]; omega) (fun H3 s3 p hp => tgt_name (E7.same s3)) (fun X2 H3 σ2 z hz t3 E3 => ?_) (fun X2 H3 σ2 z hz hf t3 E3 => ?_)) (by rw [next_data])) (by rw [List.length_map, List.length_map]; omega) fun H8 ys8 h8 x8 E8 t8 k8 => ?_)
    · obtain ⟨p, hp, rfl⟩ := row_mk hz
      rcases snoc (l := row) with rfl | ⟨r, qq, rfl⟩
      · exact gt_is (gt_or (a := true) (b := true) (gt_is (gt_eqD t3 (x := rowD []) (y := .list []) (g_var (i := 6) E3 rfl) (g_lst t3 ga_nil (by simp)) rfl rfl rfl rfl) rfl) (fun h => by cases h)) rfl
      · refine gt_is (gt_or (a := false) (gt_is (gt_eqD t3 (x := rowD (r ++ [qq])) (y := .list []) (g_var (i := 6) E3 rfl) (g_lst t3 ga_nil (by simp)) (row_shaped _).1 rfl (row_sh _) rfl) (by show PyData.eqv (.list _) _ = _; rw [eqv_nil]; simp)) fun _ => gt_B (g_call2 t3 (g_var (i := 7) (d := prD p) E3 rfl) (g_ixL t3 (g_var (i := 6) (d := rowD (r ++ [qq])) E3 rfl) g_neg1 atI_last) (by exact ⟨p, qq, rfl, rfl⟩))) ?_
        rw [prOf_prD, prOf_prD]
        unfold okNext
        rw [List.getLast?_append]
        rfl
    · exact g_cat t3 (g_var (i := 6) (d := rowD row) E3 rfl) (g_lst t3 (ga_cons (g_var (i := 7) E3 rfl) ga_nil) (by simp)) (by rw [List.length_map]; show row.length + 1 ≤ _; omega)
    · have kx : Kp X' H'' H8 := fun a o n e => k8 a o (fun z => n (.inr z)) e
      refine ⟨(q1.trans (Kp.of s7)).trans kx, t8, fun a o e => ?_, ys8, h8, ?_, envUn' E8 6⟩
      · have n1 : a ≠ A := fun z => by rw [z, hA] at e; cases e
        exact k8 a o n1 (s7 a o (q3 a o e))
      · rw [etake, List.map_append]
        exact x8
  · rintro Hb σ' H' sb ⟨q1, q2, q3, ys, q4, q5, E⟩
    rw [List.length_map, List.take_length] at q5
    have E8 := E.give (i := 5) rfl nX q4 q5
    refine k_set1 (g_var (i := 5) (d := rowsD (longer ps rows)) E8 rfl H' (Same.refl _) _ fun v9 H9 s9 r9 => ?_)
    have E9 := (E8.same s9).set (i := 3) r9
    exact ⟨_, by omega, k + 1, .dat (rowsD rows), rfl, by omega, .inr (by rw [Nat.add_sub_cancel, hrows]), (p5.trans q3).trans s9, by
      have z := envUn' E9 5
      rw [← e1] at z
      exact z⟩
end K53

/-! Differences of least weight, of these with the fewest cuts: by costs from the end. -/
namespace KL
/-- costs of what is left of both at (i, j): c0 behind a kept word, c1 within a cut -/
structure Cost (M : Nat → Nat → Bool) (n m h : Nat) (c0 c1 : Nat → Nat → Nat) : Prop where
  e0 : c0 n m = 0
  e1 : c1 n m = 0
  a1 : ∀ i j, i < n → j ≤ m → c1 i j ≤ c1 (i + 1) j + h ∧ c0 i j ≤ c1 (i + 1) j + h + 1
  b1 : ∀ i j, i ≤ n → j < m → c1 i j ≤ c1 i (j + 1) + h ∧ c0 i j ≤ c1 i (j + 1) + h + 1
  k1 : ∀ i j, i < n → j < m → M i j = true → c1 i j ≤ c0 (i + 1) (j + 1) ∧ c0 i j ≤ c0 (i + 1) (j + 1)
  t1 : ∀ i j, i ≤ n → j ≤ m → (i < n ∨ j < m) → (i < n ∧ c1 i j = c1 (i + 1) j + h) ∨ (j < m ∧ c1 i j = c1 i (j + 1) + h) ∨ (i < n ∧ j < m ∧ M i j = true ∧ c1 i j = c0 (i + 1) (j + 1))
  t0 : ∀ i j, i ≤ n → j ≤ m → (i < n ∨ j < m) → (i < n ∧ c0 i j = c1 (i + 1) j + h + 1) ∨ (j < m ∧ c0 i j = c1 i (j + 1) + h + 1) ∨ (i < n ∧ j < m ∧ M i j = true ∧ c0 i j = c0 (i + 1) (j + 1))
def one (x : Nat) : Nat := if 0 < x then 1 else 0
def gap (h x : Nat) : Nat := h * x + one x
/-- the cost of a row from (i, j) on -/
def cst (n m h : Nat) : Nat → Nat → List Pr → Nat
  | i, j, [] => gap h ((n - i) + (m - j))
  | i, j, p :: r => gap h ((p.1 - i) + (p.2 - j)) + cst n m h (p.1 + 1) (p.2 + 1) r
/-- .. within a cut -/
def cst1 (n m h : Nat) : Nat → Nat → List Pr → Nat
  | i, j, [] => h * ((n - i) + (m - j))
  | i, j, p :: r => h * ((p.1 - i) + (p.2 - j)) + cst n m h (p.1 + 1) (p.2 + 1) r
section
variable {M : Nat → Nat → Bool} {n m h : Nat} {c0 c1 : Nat → Nat → Nat} (C : Cost M n m h c0 c1)
include C
theorem c01 : ∀ (k i j : Nat), (n - i) + (m - j) ≤ k → i ≤ n → j ≤ m → c1 i j ≤ c0 i j ∧ c0 i j ≤ c1 i j + 1 := by
  intro k i j _ hi hj
  by_cases he : i < n ∨ j < m
  · constructor
    · rcases C.t0 i j hi hj he with ⟨h1, h2⟩ | ⟨h1, h2⟩ | ⟨h1, h2, h3, h4⟩
      · have := (C.a1 i j h1 hj).1; omega
      · have := (C.b1 i j hi h1).1; omega
      · have := (C.k1 i j h1 h2 h3).1; omega
    · rcases C.t1 i j hi hj he with ⟨h1, h2⟩ | ⟨h1, h2⟩ | ⟨h1, h2, h3, h4⟩
      · have := (C.a1 i j h1 hj).2; omega
      · have := (C.b1 i j hi h1).2; omega
      · have := (C.k1 i j h1 h2 h3).2; omega
  · have e1 : i = n := by omega
    have e2 : j = m := by omega
    subst e1 e2
    rw [C.e0, C.e1]
    omega
theorem c1_a : ∀ (x i j : Nat), i + x ≤ n → j ≤ m → c1 i j ≤ c1 (i + x) j + h * x
  | 0, i, j, _, _ => by simp
  | x + 1, i, j, hi, hj => by
    have h1 := (C.a1 i j (by omega) hj).1
    have h2 := c1_a x (i + 1) j (by omega) hj
    rw [show i + 1 + x = i + (x + 1) by omega] at h2
    rw [Nat.mul_succ]
    omega
theorem c1_b : ∀ (x i j : Nat), i ≤ n → j + x ≤ m → c1 i j ≤ c1 i (j + x) + h * x
  | 0, i, j, _, _ => by simp
  | x + 1, i, j, hi, hj => by
    have h1 := (C.b1 i j hi (by omega)).1
    have h2 := c1_b x i (j + 1) hi (by omega)
    rw [show j + 1 + x = j + (x + 1) by omega] at h2
    rw [Nat.mul_succ]
    omega
theorem c0_gap {i j i' j' : Nat} (h1 : i ≤ i') (h2 : j ≤ j') (h3 : i' ≤ n) (h4 : j' ≤ m) : c0 i j ≤ gap h ((i' - i) + (j' - j)) + c0 i' j' := by
  by_cases he : (i' - i) + (j' - j) = 0
  · have e1 : i' = i := by omega
    have e2 : j' = j := by omega
    subst e1 e2
    omega
  · have u := (c01 C _ i j (Nat.le_refl _) (by omega) (by omega)).2
    have v := c1_a C (i' - i) i j (by omega) (by omega)
    have w := c1_b C (j' - j) i' j (by omega) (by omega)
    rw [show i + (i' - i) = i' by omega] at v
    rw [show j + (j' - j) = j' by omega] at w
    have z := (c01 C _ i' j' (Nat.le_refl _) h3 h4).1
    unfold gap one
    rw [if_pos (by omega), Nat.mul_add]
    omega
/-- no row costs less -/
theorem cst_ge : ∀ (r : List Pr) (i j : Nat), i ≤ n → j ≤ m → Ch M r → (∀ p ∈ r, i ≤ p.1 ∧ j ≤ p.2 ∧ p.1 < n ∧ p.2 < m) → c0 i j ≤ cst n m h i j r
  | [], i, j, hi, hj, _, _ => by
    have := c0_gap C (i := i) (j := j) (i' := n) (j' := m) hi hj (Nat.le_refl _) (Nat.le_refl _)
    rw [C.e0] at this
    exact this
  | p :: r, i, j, hi, hj, hc, hb => by
    obtain ⟨b1, b2, b3, b4⟩ := hb p List.mem_cons_self
    have h1 := c0_gap C b1 b2 (Nat.le_of_lt b3) (Nat.le_of_lt b4)
    have h2 := (C.k1 p.1 p.2 b3 b4 (hc.2 p List.mem_cons_self)).2
    have first := ch_first hc
    have h3 := cst_ge r (p.1 + 1) (p.2 + 1) b3 b4 (ch_right (l := [p]) hc) fun q hq => by
      have := first q hq
      have b := hb q (List.mem_cons_of_mem _ hq)
      unfold bh at this
      omega
    show c0 i j ≤ gap h _ + cst n m h _ _ r
    omega
/-- the row that is gone along the costs -/
inductive Goes (M : Nat → Nat → Bool) (n m h : Nat) (c0 c1 : Nat → Nat → Nat) : Nat → Nat → List Pr → Prop
  | stop {i j : Nat} : (i = n ∨ j = m) → i ≤ n → j ≤ m → Goes M n m h c0 c1 i j []
  | keep {i j : Nat} {r : List Pr} : i < n → j < m → M i j = true → c0 (i + 1) (j + 1) = c1 i j → Goes M n m h c0 c1 (i + 1) (j + 1) r → Goes M n m h c0 c1 i j ((i, j) :: r)
  | left {i j : Nat} {r : List Pr} : i < n → j < m → ¬ (M i j = true ∧ c0 (i + 1) (j + 1) = c1 i j) → c1 (i + 1) j + h = c1 i j → Goes M n m h c0 c1 (i + 1) j r → Goes M n m h c0 c1 i j r
  | right {i j : Nat} {r : List Pr} : i < n → j < m → ¬ (M i j = true ∧ c0 (i + 1) (j + 1) = c1 i j) → ¬ c1 (i + 1) j + h = c1 i j → Goes M n m h c0 c1 i (j + 1) r → Goes M n m h c0 c1 i j r
omit C in
theorem goes_in {i j : Nat} {r : List Pr} (g : Goes M n m h c0 c1 i j r) : Ch M r ∧ ∀ p ∈ r, i ≤ p.1 ∧ j ≤ p.2 ∧ p.1 < n ∧ p.2 < m := by
  induction g with
  | stop => exact ⟨ch_nil, fun p hp => by cases hp⟩
  | keep h1 h2 h3 _ _ ih =>
    refine ⟨ch_app (l := [_]) (ch_one h3) ih.1 fun a ha b hb => ?_, fun p hp => ?_⟩
    · rw [List.mem_singleton.mp ha]
      have := ih.2 b hb
      exact ⟨by show _ < b.1; omega, by show _ < b.2; omega⟩
    · rcases List.mem_cons.mp hp with rfl | hp
      · exact ⟨Nat.le_refl _, Nat.le_refl _, h1, h2⟩
      · have := ih.2 p hp
        omega
  | left _ _ _ _ _ ih => exact ⟨ih.1, fun p hp => by have := ih.2 p hp; omega⟩
  | right _ _ _ _ _ ih => exact ⟨ih.1, fun p hp => by have := ih.2 p hp; omega⟩
omit C in
theorem cst1_a {i j : Nat} {r : List Pr} (hi : i < n) (b : ∀ p ∈ r, i + 1 ≤ p.1 ∧ j ≤ p.2) : cst1 n m h i j r = cst1 n m h (i + 1) j r + h ∧ cst n m h i j r = cst1 n m h i j r + 1 := by
  cases r with
  | nil =>
    show h * _ = h * _ + h ∧ gap h _ = h * _ + 1
    rw [show (n - i) + (m - j) = ((n - (i + 1)) + (m - j)) + 1 by omega, Nat.mul_succ]
    exact ⟨rfl, by unfold gap one; rw [if_pos (by omega), Nat.mul_succ]⟩
  | cons p r =>
    have := b p List.mem_cons_self
    show h * _ + _ = h * _ + _ + h ∧ gap h _ + _ = h * _ + _ + 1
    rw [show (p.1 - i) + (p.2 - j) = ((p.1 - (i + 1)) + (p.2 - j)) + 1 by omega, Nat.mul_succ]
    exact ⟨by omega, by unfold gap one; rw [if_pos (by omega), Nat.mul_succ]; omega⟩
omit C in
theorem cst1_b {i j : Nat} {r : List Pr} (hj : j < m) (b : ∀ p ∈ r, i ≤ p.1 ∧ j + 1 ≤ p.2) : cst1 n m h i j r = cst1 n m h i (j + 1) r + h ∧ cst n m h i j r = cst1 n m h i j r + 1 := by
  cases r with
  | nil =>
    show h * _ = h * _ + h ∧ gap h _ = h * _ + 1
    rw [show (n - i) + (m - j) = ((n - i) + (m - (j + 1))) + 1 by omega, Nat.mul_succ]
    exact ⟨rfl, by unfold gap one; rw [if_pos (by omega), Nat.mul_succ]⟩
  | cons p r =>
    have := b p List.mem_cons_self
    show h * _ + _ = h * _ + _ + h ∧ gap h _ + _ = h * _ + _ + 1
    rw [show (p.1 - i) + (p.2 - j) = ((p.1 - i) + (p.2 - (j + 1))) + 1 by omega, Nat.mul_succ]
    exact ⟨by omega, by unfold gap one; rw [if_pos (by omega), Nat.mul_succ]; omega⟩
theorem edge : ∀ (x i j : Nat), (n - i) + (m - j) = x → (i = n ∨ j = m) → i ≤ n → j ≤ m → c1 i j = h * x ∧ c0 i j = gap h x
  | 0, i, j, hx, _, hi, hj => by
    have e1 : i = n := by omega
    have e2 : j = m := by omega
    subst e1 e2
    rw [C.e0, C.e1]
    exact ⟨by simp, by simp [gap, one]⟩
  | x + 1, i, j, hx, he, hi, hj => by
    have st : c1 i j = h * (x + 1) := by
      rcases C.t1 i j hi hj (by omega) with ⟨h1, h2⟩ | ⟨h1, h2⟩ | ⟨h1, h2, _, _⟩
      · have := (edge x (i + 1) j (by omega) (by omega) (by omega) hj).1
        rw [h2, this, Nat.mul_succ]
      · have := (edge x i (j + 1) (by omega) (by omega) hi (by omega)).1
        rw [h2, this, Nat.mul_succ]
      · omega
    refine ⟨st, ?_⟩
    unfold gap one
    rw [if_pos (by omega), ← st]
    rcases C.t0 i j hi hj (by omega) with ⟨h1, h2⟩ | ⟨h1, h2⟩ | ⟨h1, h2, _, _⟩
    · have := (edge x (i + 1) j (by omega) (by omega) (by omega) hj).1
      rw [h2, st, this, Nat.mul_succ]
    · have := (edge x i (j + 1) (by omega) (by omega) hi (by omega)).1
      rw [h2, st, this, Nat.mul_succ]
    · omega
/-- the row gone along costs just so much -/
theorem goes_cost {i j : Nat} {r : List Pr} (g : Goes M n m h c0 c1 i j r) : cst1 n m h i j r = c1 i j ∧ cst n m h i j r = c0 i j := by
  induction g with
  | @stop i j he hi hj =>
    have := edge C _ i j rfl he hi hj
    exact ⟨this.1.symm, this.2.symm⟩
  | @keep i j r h1 h2 h3 h4 g ih =>
    have e1 : cst1 n m h i j ((i, j) :: r) = cst n m h (i + 1) (j + 1) r := by
      show h * ((i - i) + (j - j)) + _ = _
      simp
    have e2 : cst n m h i j ((i, j) :: r) = cst n m h (i + 1) (j + 1) r := by
      show gap h ((i - i) + (j - j)) + _ = _
      simp [gap, one]
    have u := (C.k1 i j h1 h2 h3).2
    have v := (c01 C _ i j (Nat.le_refl _) (by omega) (by omega)).1
    exact ⟨by rw [e1, ih.2, h4], by rw [e2, ih.2]; omega⟩
  | @left i j r h1 h2 h3 h4 g ih =>
    have b := (goes_in g).2
    obtain ⟨u, v⟩ := cst1_a (n := n) (m := m) (h := h) (i := i) (j := j) (r := r) h1 fun p hp => by have := b p hp; omega
    have e1 : cst1 n m h i j r = c1 i j := by rw [u, ih.1]; exact h4
    refine ⟨e1, ?_⟩
    rw [v, e1]
    have w := (c01 C _ i j (Nat.le_refl _) (by omega) (by omega)).2
    rcases C.t0 i j (by omega) (by omega) (.inl h1) with ⟨k1, k2⟩ | ⟨k1, k2⟩ | ⟨k1, k2, k3, k4⟩
    · omega
    · have := (C.b1 i j (by omega) k1).1
      omega
    · have := (C.k1 i j k1 k2 k3).1
      have : c0 (i + 1) (j + 1) ≠ c1 i j := fun e => h3 ⟨k3, e⟩
      omega
  | @right i j r h1 h2 h3 h4 g ih =>
    have b := (goes_in g).2
    obtain ⟨u, v⟩ := cst1_b (n := n) (m := m) (h := h) (i := i) (j := j) (r := r) h2 fun p hp => by have := b p hp; omega
    have st : c1 i j = c1 i (j + 1) + h := by
      rcases C.t1 i j (by omega) (by omega) (.inl h1) with ⟨k1, k2⟩ | ⟨k1, k2⟩ | ⟨k1, k2, k3, k4⟩
      · exact absurd k2.symm h4
      · exact k2
      · exact absurd ⟨k3, k4.symm⟩ h3
    have e1 : cst1 n m h i j r = c1 i j := by rw [u, ih.1]; exact st.symm
    refine ⟨e1, ?_⟩
    rw [v, e1]
    have w := (c01 C _ i j (Nat.le_refl _) (by omega) (by omega)).2
    rcases C.t0 i j (by omega) (by omega) (.inl h1) with ⟨k1, k2⟩ | ⟨k1, k2⟩ | ⟨k1, k2, k3, k4⟩
    · have := (C.a1 i j k1 (by omega)).1
      omega
    · omega
    · have := (C.k1 i j k1 k2 k3).1
      have : c0 (i + 1) (j + 1) ≠ c1 i j := fun e => h3 ⟨k3, e⟩
      omega
end
/-! ### what costs say -/
/-- how many cuts a row leaves -/
def cuts (n m : Nat) : Nat → Nat → List Pr → Nat
  | i, j, [] => one ((n - i) + (m - j))
  | i, j, p :: r => one ((p.1 - i) + (p.2 - j)) + cuts n m (p.1 + 1) (p.2 + 1) r
theorem one_le (x : Nat) : one x ≤ 1 := by
  unfold one
  split <;> omega
theorem cuts_le {n m : Nat} : ∀ (r : List Pr) (i j : Nat), cuts n m i j r ≤ r.length + 1
  | [], i, j => by
    have := one_le ((n - i) + (m - j))
    show one _ ≤ _
    simp
    omega
  | p :: r, i, j => by
    have := one_le ((p.1 - i) + (p.2 - j))
    have := cuts_le (n := n) (m := m) r (p.1 + 1) (p.2 + 1)
    show one _ + cuts n m _ _ r ≤ _
    rw [List.length_cons]
    omega
theorem cst_is {M : Nat → Nat → Bool} {n m h : Nat} : ∀ (r : List Pr) (i j : Nat), i ≤ n → j ≤ m → Ch M r → (∀ p ∈ r, i ≤ p.1 ∧ j ≤ p.2 ∧ p.1 < n ∧ p.2 < m) → ∃ w, w + 2 * r.length = (n - i) + (m - j) ∧ cst n m h i j r = h * w + cuts n m i j r
  | [], i, j, hi, hj, _, _ => ⟨(n - i) + (m - j), by simp, rfl⟩
  | p :: r, i, j, hi, hj, hc, hb => by
    obtain ⟨b1, b2, b3, b4⟩ := hb p List.mem_cons_self
    have first := ch_first hc
    obtain ⟨w, e1, e2⟩ := cst_is (h := h) r (p.1 + 1) (p.2 + 1) b3 b4 (ch_right (l := [p]) hc) fun q hq => by
      have := first q hq
      have b := hb q (List.mem_cons_of_mem _ hq)
      unfold bh at this
      omega
    refine ⟨w + ((p.1 - i) + (p.2 - j)), by rw [List.length_cons]; omega, ?_⟩
    show gap h _ + cst n m h _ _ r = h * _ + (one _ + cuts n m _ _ r)
    rw [e2]
    unfold gap
    rw [Nat.mul_add h w]
    omega
/-- the row gone along is a longest one, and of these none leaves fewer cuts -/
theorem goes_best {M : Nat → Nat → Bool} {n m : Nat} {c0 c1 : Nat → Nat → Nat} (C : Cost M n m (n + m + 1) c0 c1) {r : List Pr} (g : Goes M n m (n + m + 1) c0 c1 0 0 r) :
    Ch M r ∧ Bd n m r ∧ r.length = L M n m ∧ ∀ s, Ch M s → Bd n m s → s.length = L M n m → cuts n m 0 0 r ≤ cuts n m 0 0 s := by
  obtain ⟨gc, gb⟩ := goes_in g
  have bd : Bd n m r := fun p hp => by have := gb p hp; omega
  have up := L_up n m r gc bd
  obtain ⟨w, e1, e2⟩ := cst_is (h := n + m + 1) r 0 0 (Nat.zero_le _) (Nat.zero_le _) gc gb
  have ce := (goes_cost C g).2
  have best : ∀ s, Ch M s → Bd n m s → (n + m + 1) * w + cuts n m 0 0 r ≤ cst n m (n + m + 1) 0 0 s := fun s hs hb => by
    have := cst_ge C s 0 0 (Nat.zero_le _) (Nat.zero_le _) hs fun p hp => by have := hb p hp; omega
    omega
  have len : r.length = L M n m := by
    obtain ⟨l, x, y, z⟩ := L_is (M := M) n m
    have h1 := best l x y
    obtain ⟨w2, f1, f2⟩ := cst_is (n := n) (m := m) (h := n + m + 1) l 0 0 (Nat.zero_le _) (Nat.zero_le _) x fun p hp => by have := y p hp; omega
    rw [f2] at h1
    have h2 := cuts_le (n := n) (m := m) l 0 0
    by_cases hlt : r.length < L M n m
    · have : w2 + 2 ≤ w := by omega
      have h3 : (n + m + 1) * (w2 + 2) ≤ (n + m + 1) * w := Nat.mul_le_mul_left _ this
      rw [Nat.mul_add] at h3
      omega
    · omega
  refine ⟨gc, bd, len, fun s hs hb he => ?_⟩
  have h1 := best s hs hb
  obtain ⟨w2, f1, f2⟩ := cst_is (n := n) (m := m) (h := n + m + 1) s 0 0 (Nat.zero_le _) (Nat.zero_le _) hs fun p hp => by have := hb p hp; omega
  rw [f2] at h1
  have : w2 = w := by omega
  rw [this] at h1
  omega
end KL

/-! The cuts of a row, by the law. -/
namespace K53
open PySem PySem.Spec PyProof.Rows L2 KD KL
variable {P : Program} {w : World} {K : PySem.W.Frag} {mg : Str → Option Value} {base : Heap}
section
variable {X : Addr → Prop} {σ : L2.St} {H : Hp} {tt : TT} {tu tz : TS} {D : Ends}
theorem q_ifJ {b : Bool} (h : GT tt σ H b) (J : L2.St → Hp → Prop) (hJ : ∀ σ H, J σ H → tz D σ H) (h1 : b = true → (∀ σ H, J σ H → tz D σ H) → ∀ H1, Same H H1 → tu { D with nx := tz D } σ H1) (h0 : b = false → ∀ H1, Same H H1 → J σ H1) : tSeq (tIfS tt tu tNext) tz D σ H :=
  q_if h (fun e H1 s => h1 e hJ H1 s) fun e H1 s => hJ σ H1 (h0 e H1 s)
end
def cutD (ds : List PyData) (f p : Pr) : PyData := .tuple [.int (f.1 : Nat), .int ((p.1 : Int) - (f.1 : Int)), .list (cutPD ds (some (f.2 : Nat)) (some (p.2 : Nat)))]
def cutsL (ds : List PyData) : Pr → List Pr → List PyData
  | _, [] => []
  | f, p :: r => (if p = f then [] else [cutD ds f p]) ++ cutsL ds (p.1 + 1, p.2 + 1) r
theorem eqv_pr (p q : Pr) : PyData.eqv (prD p) (prD q) = decide (p = q) := by
  obtain ⟨a, b⟩ := p
  obtain ⟨c, d⟩ := q
  have h1 : PyData.eqv (.int (a : Nat)) (.int (c : Nat)) = decide (a = c) := by rw [eqv_int]; exact decide_eq_decide.mpr ⟨fun h => by omega, fun h => by omega⟩
  have h2 : PyData.eqv (.int (b : Nat)) (.int (d : Nat)) = decide (b = d) := by rw [eqv_int]; exact decide_eq_decide.mpr ⟨fun h => by omega, fun h => by omega⟩
  show PyData.eqv (.tuple [_, _]) (.tuple [_, _]) = _
  simp only [PyData.eqv, PyData.eqvAll] at h1 h2 ⊢
  by_cases e : a = c <;> by_cases e2 : b = d <;> simp_all
theorem pr_sh (p : Pr) : noDict (prD p) = true ∧ SeqAt.shaped (prD p) = true := ⟨by simp [prD, noDict, noDicts], shaped_mk (by simp [prD, PyData.canLay0, PyData.canLayAll0]) (by simp [prD, PyData.depth, PyData.depthAll])⟩
/-- as many as the row leaves -/
theorem cutsL_len {n m : Nat} (ds : List PyData) : ∀ (r : List Pr) (i j : Nat), i ≤ n → j ≤ m → r.Pairwise bh → (∀ p ∈ r, i ≤ p.1 ∧ j ≤ p.2 ∧ p.1 < n ∧ p.2 < m) → (cutsL ds (i, j) (r ++ [(n, m)])).length = cuts n m i j r
  | [], i, j, hi, hj, _, _ => by
    show ((if (n, m) = (i, j) then [] else [cutD ds (i, j) (n, m)]) ++ []).length = one ((n - i) + (m - j))
    unfold one
    by_cases e : (n, m) = (i, j)
    · cases e
      simp
    · have : n ≠ i ∨ m ≠ j := by
        by_cases h : n = i
        · exact .inr fun h2 => e (by rw [h, h2])
        · exact .inl h
      rw [if_neg e, if_pos (by omega)]
      rfl
  | p :: r, i, j, hi, hj, hp, hb => by
    obtain ⟨b1, b2, b3, b4⟩ := hb p List.mem_cons_self
    have first := (List.pairwise_cons.mp hp).1
    have ih := cutsL_len (n := n) (m := m) ds r (p.1 + 1) (p.2 + 1) b3 b4 (List.pairwise_cons.mp hp).2 fun q hq => by
      have := first q hq
      have b := hb q (List.mem_cons_of_mem _ hq)
      unfold bh at this
      omega
    show ((if p = (i, j) then [] else [cutD ds (i, j) p]) ++ cutsL ds (p.1 + 1, p.2 + 1) (r ++ [(n, m)])).length = one ((p.1 - i) + (p.2 - j)) + cuts n m (p.1 + 1) (p.2 + 1) r
    rw [List.length_append, ih]
    congr 1
    unfold one
    obtain ⟨p1, p2⟩ := p
    by_cases e : (p1, p2) = (i, j)
    · cases e
      simp
    · have : p1 ≠ i ∨ p2 ≠ j := by
        by_cases h : p1 = i
        · exact .inr fun h2 => e (by rw [h, h2])
        · exact .inl h
      simp only at b1 b2
      rw [if_neg e, if_pos (by simp only; omega)]
      rfl
abbrev s__law_m_cuts : Stmt := topS 28
abbrev n__law_m_cuts : List Str := ["_law_one", "_law_other", "_law_row", "_law_found", "_law_far", "_law_pair"]
theorem sc__law_m_cuts : FnScope n__law_m_cuts ["_law_one", "_law_other", "_law_row"] (defScope s__law_m_cuts) := ⟨rfl, rfl, rfl, by decide +kernel, rfl, by decide +kernel, by decide +kernel⟩
def spCuts : Sp := fun vs H Q _ => ∃ (X : Addr → Prop) (v1 v2 v3 : V) (as bs : List PyData) (r : List Pr), vs = [v1, v2, v3] ∧ Trk X H ∧ DX X H v1 (.list as) ∧ DX X H v2 (.list bs) ∧ DX X H v3 (rowD r) ∧ as.length ≤ 1000 ∧ bs.length ≤ 1000 ∧ r.length ≤ 1000 ∧ ∀ w H', Same H H' → DX X H' w (.list (cutsL bs (0, 0) (r ++ [(as.length, bs.length)]))) → Q w H'
theorem ok_m_cuts {f : Addr} {fd : FuncData} (F : Fun K "_law_m_cuts" "_law_m_cuts" s__law_m_cuts f fd) (T : Bl mg) : FnOk P w K mg base CX0 1 f fd ["_law_one", "_law_other", "_law_row"] spCuts := by
  refine F.ok sc__law_m_cuts (fun vs H Q E h => ?_) (fun cdv A outer s H vs Q E hr h => ?_)
  · obtain ⟨X, v1, v2, v3, as, bs, r, rfl, _⟩ := h
    rfl
  · obtain ⟨X, v1, v2, v3, as, bs, r, rfl, t, d1, d2, d3, l1, l2, l3, q⟩ := h
    refine ⟨_, (pss_cons (ps_par (i := 3) (j := 4) (by rfl) sc__law_m_cuts.nd rfl rfl (by decide) rfl rfl (pa_cons (pe_lst pa_nil) (pa_cons (pe_tup (pa_cons pe_int (pa_cons pe_int pa_nil))) pa_nil)) (by rfl))
    (pss_cons (ps_for PassesOwn.never rfl (pi_list (pe_op op_addA (pe_callTy call_list_of (by rfl) T.b_list boot_list (pa_cons (pv 2) pa_nil)) (pe_lst (pa_cons (pe_tup (pa_cons (pe_callB call_len (by rfl) T.b_len boot_len (pa_cons (pv 0) pa_nil)) (pa_cons (pe_callB call_len (by rfl) T.b_len boot_len (pa_cons (pv 1) pa_nil)) pa_nil))) pa_nil)))) (pg_name (i := 5) sc__law_m_cuts.nd rfl (by first | exact Or.inl rfl | exact Or.inr rfl))
    (pss_cons (ps_if (pt_cmpR (op_neD hr.units) (pv 5) (pv 4) (nomark _))
    (pss_one (ps_expr (pe_bm PySem.F.plainAttrs_list PySem.F.slot_list_append PySem.F.type_list_append mt_append (pv 3) (pa_cons (pe_tup (pa_cons (pe_ix ix_seq (pv 4) pe_int (fun _ _ => rfl)) (pa_cons (pe_op op_sub (pe_ix ix_seq (pv 5) pe_int (fun _ _ => rfl)) (pe_ix ix_seq (pv 4) pe_int (fun _ _ => rfl))) (pa_cons (pe_callTy call_list_of (by rfl) T.b_list boot_list (pa_cons (pe_slice sl_list (pv 1) (po_some (pe_ix ix_seq (pv 4) pe_int (fun _ _ => rfl))) (po_some (pe_ix ix_seq (pv 5) pe_int (fun _ _ => rfl)))) pa_nil)) pa_nil)))) pa_nil)))) pss_nil)
    (pss_one (ps_set (i := 4) sc__law_m_cuts.nd rfl (by first | exact Or.inl rfl | exact Or.inr rfl) (pe_tup (pa_cons (pe_op op_addA (pe_ix ix_seq (pv 5) pe_int (fun _ _ => rfl)) pe_int) (pa_cons (pe_op op_addA (pe_ix ix_seq (pv 5) pe_int (fun _ _ => rfl)) pe_int) pa_nil)))))))
    (pss_one (ps_ret (pv 3))))), ?_⟩
    have En : EnvOk X H (L2.start n__law_m_cuts [v1, v2, v3]) [.dat (.list as), .dat (.list bs), .dat (rowD r), .un, .un, .un] := ⟨rfl, fun i s e => by
      match i, e with
      | 0, e => cases e; exact ⟨_, rfl, d1⟩
      | 1, e => cases e; exact ⟨_, rfl, d2⟩
      | 2, e => cases e; exact ⟨_, rfl, d3⟩
      | 3, e => cases e; trivial
      | 4, e => cases e; trivial
      | 5, e => cases e; trivial
      | _ + 6, e => cases e⟩
    refine k_par ?_
    refine ⟨by show 0 ≤ sizeLine; omega, fun A hA => ?_⟩
    have nX : ¬ X A := t.new hA
    have s1 : Same H (upd H A (.lst [])) := Same.upd hA
    let X' : Addr → Prop := fun b => X b ∨ b = A
    have t1 : Trk X' (upd H A (.lst [])) := t.one hA
    refine (g_tup (ds := [.int 0, .int 0]) t1 (ga_cons g_int (ga_cons g_int ga_nil)) (by simp)) _ (Same.refl _) _ fun v2' H2 s2 r2 => ⟨_, _, rfl, ?_⟩
    have t2 := t1.mono s2
    have E2 : EnvOk X' H2 _ [.dat (.list as), .dat (.list bs), .dat (rowD r), .val (.ref A), .dat (prD (0, 0)), .un] := ((((En.more (More.one hA)).same s1).same s2).setV (i := 3) (v := .ref A)).set (i := 4) (d := prD (0, 0)) r2
    obtain ⟨rs, hrs⟩ : ∃ rs, rs = r ++ [(as.length, bs.length)] := ⟨_, rfl⟩
    have lrs : rs.length ≤ 1001 := by rw [hrs, List.length_append]; simp; omega
    refine s_forD (X := X') (ds := rs.map prD) (gi_list (g_is (g_cat t2 (g_listOf t2 (g_var (i := 2) (d := rowD r) E2 rfl) rfl) (g_lst t2 (ga_cons (g_tup t2 (ga_cons (g_len t2 (g_var (i := 0) (d := .list as) E2 rfl) rfl) (ga_cons (g_len t2 (g_var (i := 1) (d := .list bs) E2 rfl) rfl) ga_nil)) (by simp)) ga_nil) (by simp)) (by show (r.map prD).length + 1 ≤ _; rw [List.length_map]; omega)) (by rw [hrs, List.map_append]; rfl))) (fun Hb i σ' H' => Kp X' Hb H' ∧ Trk X' H' ∧ Same H H' ∧ ∃ (far : Pr) (ys : List V) (acc : List PyData), H' A = some (.lst ys) ∧ DXs X' H' ys acc ∧ acc.length ≤ i ∧ acc ++ cutsL bs far (rs.drop i) = cutsL bs (0, 0) rs ∧ EnvOk X' H' σ' [.dat (.list as), .dat (.list bs), .dat (rowD r), .val (.ref A), .dat (prD far), .un]) ?_ ?_ ?_ ?_
    · intro Hb sb
      exact ⟨Kp.refl, t2.mono sb, (s1.trans s2).trans sb, (0, 0), [], [], sb _ _ (s2 _ _ upd_same), .nil, by simp, rfl, E2.same sb⟩
    · rintro Hb i σ' H' ⟨p1, p2, _⟩
      exact ⟨p1, p2⟩
    · rintro Hb i x d σ' H' H'' sb hd ⟨p1, p2, p3, far, ys, acc, p4, p5, p6, p7, E⟩ s5 dx
      rw [List.getElem?_map] at hd
      obtain ⟨p, hp, rfl⟩ := Option.map_eq_some_iff.mp hd
      have hi := (List.getElem?_eq_some_iff.mp hp).1
      have edrop : rs.drop i = p :: rs.drop (i + 1) := by
        rw [List.drop_eq_getElem_cons hi, (List.getElem?_eq_some_iff.mp hp).2]
      rw [edrop, cutsL] at p7
      have t5 := p2.mono s5
      refine k_name ?_
      have E5 := (E.same s5).set (i := 5) dx
      refine q_ifJ (b := !decide (p = far)) (gt_is (gt_neD t5 (x := prD p) (y := prD far) (g_var (i := 5) E5 rfl) (g_var (i := 4) E5 rfl) (pr_sh p).1 (pr_sh far).1 (pr_sh p).2 (pr_sh far).2) (by rw [eqv_pr])) (fun σ2 H2 => Kp X' Hb H2 ∧ Trk X' H2 ∧ Same H H2 ∧ ∃ (ys : List V) (ac : List PyData), H2 A = some (.lst ys) ∧ DXs X' H2 ys ac ∧ ac.length ≤ i + 1 ∧ ac ++ cutsL bs (p.1 + 1, p.2 + 1) (rs.drop (i + 1)) = cutsL bs (0, 0) rs ∧ EnvOk X' H2 σ2 [.dat (.list as), .dat (.list bs), .dat (rowD r), .val (.ref A), .dat (prD far), .dat (prD p)]) (fun σ6 H6 pJ => ?_) (fun h1 hJ H6 s6 => ?_) fun h0 H6 s6 => ?_
      · obtain ⟨q1, q2, q3, ys6, ac, q4, q5, q6, q7, E6⟩ := pJ
        refine k_set1 ((g_tup (ds := [.int ((p.1 : Nat) + 1), .int ((p.2 : Nat) + 1)]) q2 (ga_cons (g_addI q2 (g_ixT q2 (g_var (i := 5) (d := prD p) E6 rfl) g_int rfl) g_int) (ga_cons (g_addI q2 (g_ixT q2 (g_var (i := 5) (d := prD p) E6 rfl) g_int rfl) g_int) ga_nil)) (by simp)) H6 (Same.refl _) _ fun v7 H7 s7 r7 => ?_)
        exact ⟨q1.trans (Kp.of s7), q2.mono s7, q3.trans s7, (p.1 + 1, p.2 + 1), ys6, ac, s7 _ _ q4, q5.mono (Kp.of s7), q6, q7, envUn' ((E6.same s7).set (i := 4) (d := prD (p.1 + 1, p.2 + 1)) r7) 5⟩
      · have hne : p ≠ far := by simpa using h1
        rw [if_neg hne] at p7
        have E6 := E5.same s6
        have t6 := t5.mono s6
        have s56 := s5.trans s6
        refine k_drop1 (q_append (i := 3) (L := A) (d := cutD bs far p) E6 rfl (.inr rfl) t6 (s56 _ _ p4) (p5.mono (Kp.of s56)) (g_tup t6 (ga_cons (g_ixT t6 (g_var (i := 4) (d := prD far) E6 rfl) g_int rfl) (ga_cons (g_op t6 (g_ixT t6 (g_var (i := 5) (d := prD p) E6 rfl) g_int rfl) (g_ixT t6 (g_var (i := 4) (d := prD far) E6 rfl) g_int rfl) (rd_I0 (g := fun i j => i - j))) (ga_cons (g_is (e := .list (cutPD bs (some (far.2 : Nat)) (some (p.2 : Nat)))) (g_listOf t6 (g_sl (K := K) t6 (g_var (i := 1) (d := .list bs) E6 rfl) (go_some (g_ixT t6 (g_var (i := 4) (d := prD far) E6 rfl) g_int rfl)) (go_some (g_ixT t6 (g_var (i := 5) (d := prD p) E6 rfl) g_int rfl))) rfl) rfl) ga_nil))) (by simp)) (by omega) fun H7 ys7 h7 x7 E7 t7 k7 => ?_)
        have kx : Kp X' H6 H7 := fun a o n e => k7 a o (fun z => n (.inr z)) e
        refine hJ _ _ ⟨((p1.trans (Kp.of s56))).trans kx, t7, fun a o e => ?_, ys7, acc ++ [cutD bs far p], h7, x7, by rw [List.length_append]; simp; omega, by rw [List.append_assoc]; exact p7, E7⟩
        have n1 : a ≠ A := fun z => by rw [z, hA] at e; cases e
        exact k7 a o n1 (s56 a o (p3 a o e))
      · have he : p = far := by simpa using h0
        rw [if_pos he, List.nil_append] at p7
        have s56 := s5.trans s6
        exact ⟨p1.trans (Kp.of s56), p2.mono s56, p3.trans s56, ys, acc, s56 _ _ p4, p5.mono (Kp.of s56), by omega, p7, E5.same s6⟩
    · rintro Hb σ' H' sb ⟨p1, p2, p3, far, ys, acc, p4, p5, p6, p7, E⟩
      rw [List.length_map, List.drop_length, cutsL, List.append_nil] at p7
      have E8 := E.give (i := 3) rfl nX p4 p5
      refine k_ret (g_var (i := 3) (d := .list acc) E8 rfl H' (Same.refl _) _ fun w H9 s9 dw => q w H9 (p3.trans s9) ?_)
      rw [← hrs, ← p7]
      exact dw
end K53

/-! A text near to another one. -/
namespace K53
open PySem PySem.Spec PyProof.Rows L2 KD KL
variable {P : Program} {w : World} {K : PySem.W.Frag} {mg : Str → Option Value} {base : Heap}
def nW : List Str := ["x", "y", "z", "", "a b", "0", "new"]
def Nw7 (ds : List PyData) : Prop := ∀ d ∈ ds, d ∈ nW.map PyData.str
theorem Nw7.app {a b : List PyData} (h : Nw7 a) (k : Nw7 b) : Nw7 (a ++ b) := fun d hd => (List.mem_append.mp hd).elim (h d) (k d)
theorem Nw7.cut {a : List PyData} {lo hi : Option Int} (h : Nw7 a) : Nw7 (cutPD a lo hi) := fun d hd => h d (List.mem_of_mem_drop (List.mem_of_mem_take hd))
theorem cutPD_len (ds : List PyData) (lo hi : Option Int) : (cutPD ds lo hi).length ≤ ds.length := by
  unfold cutPD
  rw [List.length_take, List.length_drop]
  omega
section
variable {X : Addr → Prop} {σ : L2.St} {H : Hp} {g : TG} {tu tz : TS} {D : Ends} {ta : TA} {te : TE} {Q : VK}
def ForR (g : TG) (tb : TS) (D : Ends) (σ : L2.St) (vs : List V) (H1 : Hp) : Prop := ∃ j : Int, vs = [.int j] ∧ -(2 ^ 62) ≤ j ∧ j < 2 ^ 62 ∧ tFor (fun _ H R => R (Itr 0 j.toNat) H) g tb D σ H1
theorem k_forR (h : ta σ H fun vs H1 => ForR g tu { D with nx := tz D } σ vs H1) : tSeq (tFor (iRng1 ta) g tu) tz D σ H := h
theorem k_lst (h : ta σ H fun vs H1 => vs.length ≤ sizeLine ∧ ∀ p, H1 p = none → Q (.ref p) (upd H1 p (.lst vs))) : tLst ta σ H Q := h
theorem rd_addL {xs ys : List PyData} (h : xs.length + ys.length ≤ 1000000) : RD X rAddA (.list xs) (.list ys) (.list (xs ++ ys)) := RD.or2 (RD.or1 (rd_cat h))
end
abbrev s__law_m_near : Stmt := topS 24
abbrev n__law_m_near : List Str := ["_law_stream", "_law_text", "_law_most", "_law_found", "_law_k", "_law_at", "_law_way"]
theorem sc__law_m_near : FnScope n__law_m_near ["_law_stream", "_law_text", "_law_most"] (defScope s__law_m_near) := ⟨rfl, rfl, rfl, by decide +kernel, rfl, by decide +kernel, by decide +kernel⟩
def spNear : Sp := fun vs H Q _ => ∃ (X : Addr → Prop) (st cl : Addr) (n m : Nat) (v1 : V) (ds : List PyData), vs = [.ref st, v1, .int (m : Int)] ∧ Sg X st cl n H ∧ n + 100 ≤ 1000000000 ∧ DX X H v1 (.list ds) ∧ ds.length ≤ 8 ∧ Nw7 ds ∧ m ≤ 20 ∧ ∀ w es H', es.length ≤ m → Nw7 es → Sg X st cl (n + 20) H' → KpS st cl H H' → DX X H' w (.list es) → Q w H'
theorem ok_m_near {f : Addr} {fd : FuncData} (F : Fun K "_law_m_near" "_law_m_near" s__law_m_near f fd) (T : Bl mg) (O__law_draw : Own P w K mg base CX0 1 "_law_draw" ["_law_stream", "_law_many"] spDraw) (O__law_pick : Own P w K mg base CX0 2 "_law_pick" ["_law_stream", "_law_some"] spPick) :
    FnOk P w K mg base CX0 3 f fd ["_law_stream", "_law_text", "_law_most"] spNear := by
  refine F.ok sc__law_m_near (fun vs H Q E h => ?_) (fun cdv A outer s H vs Q E hr h => ?_)
  · obtain ⟨X, st, cl, n, m, v1, ds, rfl, _⟩ := h
    rfl
  · obtain ⟨X, st, cl, n, m, v1, ds, rfl, S, hn, d1, l1, w1, hm, q⟩ := h
    refine ⟨_, (pss_cons (ps_set (i := 3) sc__law_m_near.nd rfl (by first | exact Or.inl rfl | exact Or.inr rfl) (pe_callTy call_list_of (by rfl) T.b_list boot_list (pa_cons (pv 1) pa_nil)))
    (pss_cons (ps_for PassesOwn.never rfl (pi_range1 (by rfl) T.b_range (pa_cons (pe_op op_addA pe_int (pe_own O__law_draw hr (by decide) (by rfl) (pa_cons (pv 0) (pa_cons pe_int pa_nil)))) pa_nil)) (pg_name (i := 4) sc__law_m_near.nd rfl (by first | exact Or.inl rfl | exact Or.inr rfl))
    (pss_cons (ps_par (i := 5) (j := 6) (by rfl) sc__law_m_near.nd rfl rfl (by decide) rfl rfl (pa_cons (pe_own O__law_draw hr (by decide) (by rfl) (pa_cons (pv 0) (pa_cons (pe_op op_addA (pe_callB call_len (by rfl) T.b_len boot_len (pa_cons (pv 3) pa_nil)) pe_int) pa_nil))) (pa_cons (pe_own O__law_draw hr (by decide) (by rfl) (pa_cons (pv 0) (pa_cons pe_int pa_nil))) pa_nil)) (by rfl))
    (pss_one (ps_if (pt_cmpR (op_eqD hr.units) (pv 6) pe_int (nomark _))
    (pss_one (ps_set (i := 3) sc__law_m_near.nd rfl (by first | exact Or.inl rfl | exact Or.inr rfl) (pe_op op_addA (pe_slice sl_list (pv 3) po_none (po_some (pv 5))) (pe_slice sl_list (pv 3) (po_some (pe_op op_addA (pv 5) pe_int)) po_none)))) (pss_one (ps_if (pt_cmpR (op_eqD hr.units) (pv 6) pe_int (nomark _))
    (pss_one (ps_set (i := 3) sc__law_m_near.nd rfl (by first | exact Or.inl rfl | exact Or.inr rfl) (pe_op op_addA (pe_op op_addA (pe_slice sl_list (pv 3) po_none (po_some (pv 5))) (pe_lst (pa_cons (pe_own O__law_pick hr (by decide) (by rfl) (pa_cons (pv 0) (pa_cons (pe_op op_addA (pv 1) (pe_lst (pa_cons pe_str (pa_cons pe_str pa_nil)))) pa_nil))) pa_nil))) (pe_slice sl_list (pv 3) (po_some (pv 5)) po_none)))) (pss_one (ps_if (pt_cmpR (op_eqD hr.units) (pv 6) pe_int (nomark _))
    (pss_one (ps_set (i := 3) sc__law_m_near.nd rfl (by first | exact Or.inl rfl | exact Or.inr rfl) (pe_op op_addA (pe_op op_addA (pe_slice sl_list (pv 3) po_none (po_some (pv 5))) (pe_lst (pa_cons pe_str pa_nil))) (pe_slice sl_list (pv 3) (po_some (pe_op op_addA (pv 5) pe_int)) po_none)))) (pss_one (ps_set (i := 3) sc__law_m_near.nd rfl (by first | exact Or.inl rfl | exact Or.inr rfl) (pe_op op_addA (pe_slice sl_list (pv 3) (po_some (pv 5)) po_none) (pe_slice sl_list (pv 3) po_none (po_some (pv 5))))))))))))))
    (pss_one (ps_ret (pe_slice sl_list (pv 3) po_none (po_some (pv 2))))))), ?_⟩
    have En : EnvOk X H (L2.start n__law_m_near [.ref st, v1, .int (m : Int)]) [.val (.ref st), .dat (.list ds), .dat (.int (m : Int)), .un, .un, .un, .un] := ⟨rfl, fun i s e => by
      match i, e with
      | 0, e => cases e; rfl
      | 1, e => cases e; exact ⟨_, rfl, d1⟩
      | 2, e => cases e; exact ⟨_, rfl, .int _⟩
      | 3, e => cases e; trivial
      | 4, e => cases e; trivial
      | 5, e => cases e; trivial
      | 6, e => cases e; trivial
      | _ + 7, e => cases e⟩
    refine q_set (i := 3) (d := .list ds) En (g_listOf S.t (g_var (i := 1) (d := .list ds) En rfl) rfl) fun H1 v3 s1 E1 => ?_
    have S1 := S.same s1
    have k1 := KpS.of (st := st) (cl := cl) s1
    refine k_forR (k_cons (k_op (g_int (X := X) (i := 1) H1 (Same.refl _) _ fun v4 H2 s2 r2 => ?_)))
    have S2 := S1.same s2
    have r2' := r2.int_inv
    subst r2'
    refine c_draw (m := 3) S2 (gv_var (i := 0) (E1.same s2) rfl) g_int (by omega) (by decide) (by decide) fun j H3 j0 j1 S3 k3 => ?_
    refine .inl ⟨1, j, rfl, rfl, ?_⟩
    refine ⟨1 + j, rfl, by omega, by omega, ?_⟩
    have k4 := (k1.trans (KpS.of s2)).trans k3
    refine for_it walk_range (fun i σ' H' => ∃ es : List PyData, es.length ≤ 8 + i ∧ Nw7 es ∧ Sg X st cl (n + 1 + 3 * i) H' ∧ KpS st cl H H' ∧ EnvOk X H' σ' [.val (.ref st), .dat (.list ds), .dat (.int (m : Int)), .dat (.list es), .un, .un, .un]) ⟨ds, by omega, w1, S3, k4, (E1.same s2).kps S2 k3⟩ (fun _ _ _ _ _ => trivial) (fun i x σ' H4 H5 hi p y => ?_) (fun σ' H4 p => ?_)
    rotate_left
    · obtain ⟨es, p1, p2, p3, p4, E⟩ := p
      refine k_ret (g_sl (K := K) p3.t (g_var (i := 3) (d := .list es) E rfl) go_none (go_some (g_var (i := 2) E rfl)) H4 (Same.refl _) _ fun w H5 s5 dw => q w _ H5 ?_ (Nw7.cut p2) ((p3.same s5).le ?_) (p4.trans (KpS.of s5)) dw)
      · show ((es.drop (HT.sIx es.length 0 none)).take (HT.sIx es.length es.length (some (m : Int)) - HT.sIx es.length 0 none)).length ≤ m
        rw [sIx_nn (by omega), List.length_take]
        show min (min (m : Int).toNat es.length - 0) _ ≤ m
        omega
      · have : (1 + j).toNat ≤ 3 := by omega
        omega
    · obtain ⟨rfl, rfl⟩ := y
      obtain ⟨es, p1, p2, p3, p4, E⟩ := p
      have hi3 : i < 3 := by omega
      refine k_name ?_
      have E6 := E.setV (i := 4) (v := .int (0 + (i : Int)))
      have t6 := p3.t
      refine k_par (c_draw (m := ((es.length : Int) + 1)) p3 (gv_var (i := 0) E6 rfl) (g_addI t6 (g_len t6 (g_var (i := 3) (d := .list es) E6 rfl) rfl) g_int) (by omega) (by omega) (by omega) fun at_ H6 a0 a1 S6 k6 => ?_)
      have E7 := E6.kps p3 k6
      refine c_draw (m := 4) S6 (gv_var (i := 0) E7 rfl) g_int (by omega) (by decide) (by decide) fun way H7 b0 b1 S7 k7 => ⟨_, _, rfl, ?_⟩
      have E8 := ((E7.kps S6 k7).set (i := 5) (v := .int at_) (d := .int at_) (.int _)).set (i := 6) (v := .int way) (d := .int way) (.int _)
      have k8 := p4.trans (k6.trans k7)
      clear E E6 E7 S6 k6 k7 p3 p4 t6
      have sh : ∀ i : Int, SeqAt.shaped (.int i) = true := shaped_int
      have fin : ∀ {H9 : Hp} {es' : List PyData} {v : V} {mm : Nat}, es'.length ≤ 8 + (i + 1) → Nw7 es' → mm ≤ n + 1 + 3 * (i + 1) → Sg X st cl mm H9 → KpS st cl H H9 → EnvOk X H9 (((σ'.set 4 (some (.int (0 + (i : Int))))).set 5 (some (.int at_))).set 6 (some (.int way))) [.val (.ref st), .dat (.list ds), .dat (.int (m : Int)), .dat (.list es), .val (.int (0 + (i : Int))), .dat (.int at_), .dat (.int way)] → DX X H9 v (.list es') → ∃ es : List PyData, es.length ≤ 8 + (i + 1) ∧ Nw7 es ∧ Sg X st cl (n + 1 + 3 * (i + 1)) H9 ∧ KpS st cl H H9 ∧ EnvOk X H9 ((((σ'.set 4 (some (.int (0 + (i : Int))))).set 5 (some (.int at_))).set 6 (some (.int way))).set 3 (some v)) [.val (.ref st), .dat (.list ds), .dat (.int (m : Int)), .dat (.list es), .un, .un, .un] := fun a b c S k E d => ⟨_, a, b, S.le c, k, envUn' (envUn' (envUn' (E.set (i := 3) d) 4) 5) 6⟩
      have wn : ∀ s ∈ nW, Nw7 [.str s] := fun s hs d hd => by
        rw [List.mem_singleton.mp hd]
        exact List.mem_map.mpr ⟨s, hs, rfl⟩
      have c1 := cutPD_len es none (some at_)
      have c2 := cutPD_len es (some (at_ + 1)) none
      have c3 := cutPD_len es (some at_) none
      have tk : (cutPD es none (some at_)).length ≤ at_.toNat := by
        show ((es.drop (HT.sIx es.length 0 none)).take (HT.sIx es.length es.length (some at_) - HT.sIx es.length 0 none)).length ≤ _
        rw [sIx_nn a0, List.length_take]
        show min (min at_.toNat es.length - 0) _ ≤ _
        omega
      have dk : (cutPD es (some at_) none).length ≤ es.length - at_.toNat := by
        show ((es.drop (HT.sIx es.length 0 (some at_))).take _).length ≤ _
        rw [sIx_nn a0, List.length_take, List.length_drop]
        omega
      have dk1 : (cutPD es (some (at_ + 1)) none).length ≤ es.length - (at_ + 1).toNat := by
        show ((es.drop (HT.sIx es.length 0 (some (at_ + 1)))).take _).length ≤ _
        rw [sIx_nn (by omega), List.length_take, List.length_drop]
        omega
      refine s_if (gt_eqD S7.t (x := .int way) (y := .int 0) (g_var (i := 6) E8 rfl) g_int rfl rfl (sh _) (sh _)) (fun _ H9 s9 => ?_) fun _ H9 s9 => ?_
      · have S9 := S7.same s9
        have E9 := E8.same s9
        refine k_set1 (g_cat S9.t (g_sl (K := K) S9.t (g_var (i := 3) (d := .list es) E9 rfl) go_none (go_some (g_var (i := 5) E9 rfl))) (g_sl (K := K) S9.t (g_var (i := 3) (d := .list es) E9 rfl) (go_some (g_addI S9.t (g_var (i := 5) E9 rfl) g_int)) go_none) (by omega) H9 (Same.refl _) _ fun v HA sA dv => fin (by rw [List.length_append]; omega) (Nw7.app (Nw7.cut p2) (Nw7.cut p2)) (by omega) (S9.same sA) (k8.trans ((KpS.of s9).trans (KpS.of sA))) (E9.same sA) dv)
      refine s_if (gt_eqD (S7.same s9).t (x := .int way) (y := .int 1) (g_var (i := 6) (E8.same s9) rfl) g_int rfl rfl (sh _) (sh _)) (fun _ HB sB => ?_) fun _ HB sB => ?_
      · have S9 := (S7.same s9).same sB
        have E9 := (E8.same s9).same sB
        refine k_set1 (k_op (k_op (g_sl (K := K) S9.t (g_var (i := 3) (d := .list es) E9 rfl) go_none (go_some (g_var (i := 5) E9 rfl)) HB (Same.refl _) _ fun v5 HC sC rC => k_lst (k_cons ?_))))
        have SC := S9.same sC
        have EC := E9.same sC
        refine c_pick (ds := ds ++ [.str "x", .str "new"]) SC (gv_var (i := 0) EC rfl) (g_cat SC.t (g_var (i := 1) (d := .list ds) EC rfl) (g_lst SC.t (ga_cons g_str (ga_cons g_str ga_nil)) (by simp)) (by simp; omega)) (by omega) (by simp) (by simp; omega) fun w d HD hd SD kD dw => ?_
        have ED := EC.kps SC kD
        refine ⟨by show 1 ≤ sizeLine; decide, fun q1 hq => ?_⟩
        have sq : Same HD (upd HD q1 (.lst [w])) := Same.upd hq
        have SE := SD.same sq
        have EE := ED.same sq
        have dq : DX X (upd HD q1 (.lst [w])) (.ref q1) (.list [d]) := DX.newL SD.t (.cons dw .nil) hq
        have rC' := (rC.mono (SC.kp kD)).mono (Kp.of sq)
        refine rd_addL (xs := cutPD es none (some at_)) (ys := [d]) (by simp; omega) _ _ _ SE.t rC' dq _ fun x HG s2 dx => ?_
        have SG := SE.same s2
        have EG := EE.same s2
        refine g_sl (K := K) SG.t (g_var (i := 3) (d := .list es) EG rfl) (go_some (g_var (i := 5) EG rfl)) go_none HG (Same.refl _) _ fun y HI s3 dy => ?_
        refine rd_addL (xs := cutPD es none (some at_) ++ [d]) (ys := cutPD es (some at_) none) (by simp; omega) _ _ _ (SG.t.mono s3) (dx.mono (Kp.of s3)) dy _ fun z HJ s4 dz => ?_
        have nd : Nw7 [d] := fun d' hd' => by
          rw [List.mem_singleton.mp hd']
          rcases List.mem_append.mp hd with h | h
          · exact w1 d h
          · simp at h
            rcases h with rfl | rfl
            · exact wn "x" (by decide +kernel) _ List.mem_cons_self
            · exact wn "new" (by decide +kernel) _ List.mem_cons_self
        exact fin (by rw [List.length_append, List.length_append]; simp; omega) (Nw7.app (Nw7.app (Nw7.cut p2) nd) (Nw7.cut p2)) (by omega) ((SG.same s3).same s4) (k8.trans ((((KpS.of s9).trans (KpS.of sB)).trans (KpS.of sC)).trans (kD.trans ((KpS.of sq).trans ((KpS.of s2).trans ((KpS.of s3).trans (KpS.of s4))))))) ((EG.same s3).same s4) dz
      refine s_if (gt_eqD ((S7.same s9).same sB).t (x := .int way) (y := .int 2) (g_var (i := 6) ((E8.same s9).same sB) rfl) g_int rfl rfl (sh _) (sh _)) (fun _ HC sC => ?_) fun _ HC sC => ?_
      · have S9 := ((S7.same s9).same sB).same sC
        have E9 := ((E8.same s9).same sB).same sC
        refine k_set1 (g_cat S9.t (g_cat S9.t (g_sl (K := K) S9.t (g_var (i := 3) (d := .list es) E9 rfl) go_none (go_some (g_var (i := 5) E9 rfl))) (g_lst S9.t (ga_cons g_str ga_nil) (by simp)) (by simp; omega)) (g_sl (K := K) S9.t (g_var (i := 3) (d := .list es) E9 rfl) (go_some (g_addI S9.t (g_var (i := 5) E9 rfl) g_int)) go_none) (by simp; omega) HC (Same.refl _) _ fun v HA sA dv => fin (by rw [List.length_append, List.length_append]; simp; omega) (Nw7.app (Nw7.app (Nw7.cut p2) (wn "new" (by decide +kernel))) (Nw7.cut p2)) (by omega) (S9.same sA) (k8.trans ((((KpS.of s9).trans (KpS.of sB)).trans (KpS.of sC)).trans (KpS.of sA))) (E9.same sA) dv)
      · have S9 := ((S7.same s9).same sB).same sC
        have E9 := ((E8.same s9).same sB).same sC
        refine k_set1 (g_cat S9.t (g_sl (K := K) S9.t (g_var (i := 3) (d := .list es) E9 rfl) (go_some (g_var (i := 5) E9 rfl)) go_none) (g_sl (K := K) S9.t (g_var (i := 3) (d := .list es) E9 rfl) go_none (go_some (g_var (i := 5) E9 rfl))) (by omega) HC (Same.refl _) _ fun v HA sA dv => fin (by rw [List.length_append]; omega) (Nw7.app (Nw7.cut p2) (Nw7.cut p2)) (by omega) (S9.same sA) (k8.trans ((((KpS.of s9).trans (KpS.of sB)).trans (KpS.of sC)).trans (KpS.of sA))) (E9.same sA) dv)
end K53

/-! What differences weigh, what leads back, by the law. -/
namespace K53
open PySem PySem.Spec PyProof.Rows L2 KD KL
variable {P : Program} {w : World} {K : PySem.W.Frag} {mg : Str → Option Value} {base : Heap}
section
variable {X : Addr → Prop} {H : Hp} {σ : L2.St} {Γ : List Sv} {te : TE}
theorem dxs_ints : ∀ {vs : List V} {ns : List Int}, DXs X H vs (ns.map PyData.int) → vs = ns.map V.int
  | _, [], .nil => rfl
  | _, n :: ns, .cons h r => by rw [h.int_inv, dxs_ints r]; rfl
theorem g_sum {ns : List Int} (t : Trk X H) (h : G X te σ H (.list (ns.map PyData.int))) : G X (tCB (rSum K) (tCons te tNil)) σ H (.int ns.sum) := fun H1 s Q q =>
  h H1 s _ fun v H2 s2 r => by
    obtain ⟨a, vs, rfl, _, ha, rv⟩ := r.lst_inv
    exact ⟨a, ns, rfl, SqL.of (by rw [← dxs_ints rv]; exact ha), q _ H2 s2 (.int _)⟩
theorem wipe_three {i j l : Nat} {x y z : Option V} : wipe ((((wipe σ [i, j, l]).set i x).set j y).set l z) [i, j, l] = wipe σ [i, j, l] := by
  show ((((((((σ.set l none).set j none).set i none).set i x).set j y).set l z).set l none).set j none).set i none = ((σ.set l none).set j none).set i none
  apply List.ext_getElem?
  intro n
  simp only [List.getElem?_set, List.length_set]
  by_cases h1 : i = n <;> by_cases h2 : j = n <;> by_cases h3 : l = n <;> simp_all
theorem tgt_triple {i j l : Nat} {d e f : PyData} (E : EnvOk X H σ Γ) : Tgt X (gTup K 3 (gCons (gName i) (gCons (gName j) (gCons (gName l) gNil)))) σ ((((((Γ.set l .un).set j .un).set i .un).set i (.dat d)).set j (.dat e)).set l (.dat f)) [i, j, l] (.tuple [d, e, f]) H := fun X' H3 m k t v hd Ψ q =>
  g_triple hd fun u w z h1 h2 h3 => q _ ((((((E.more m).mono k).wipe [i, j, l] |>.set h1).set h2).set h3)) wipe_three
end
def Cut3 (z : PyData) : Prop := ∃ (p m : Int) (ws : List PyData), z = .tuple [.int p, .int m, .list ws] ∧ ws.length ≤ 1000
def wgt (z : PyData) : Int := intOf (it z 1) + ((itemsD (it z 2)).length : Int)
def weightD (ds : List PyData) : Int := (ds.map wgt).sum
def cuts3 (d : PyData) : Prop := ∃ ds, d = .list ds ∧ ds.length ≤ 1000 ∧ ∀ z ∈ ds, Cut3 z
-- HINT _law_weight lcte (tOp rAddA (tVar 2) (tCB (fun xs H Q => ∃ x n, xs = [x] ∧ LenV K x H n ∧ Q (V.int n) H) (tCons (tVar 3) tNil)))
abbrev s__law_weight : Stmt := topS 35
abbrev n__law_weight : List Str := ["_law_cuts", "_law_place", "_law_many", "_law_words"]
theorem sc__law_weight : FnScope n__law_weight ["_law_cuts"] (defScope s__law_weight) := ⟨rfl, rfl, rfl, by decide +kernel, rfl, by decide +kernel, by decide +kernel⟩
theorem ok_weight {f : Addr} {fd : FuncData} (F : Fun K "_law_weight" "_law_weight" s__law_weight f fd) (T : Bl mg) (b_sum : mg "sum" = none) : FnOk P w K mg base CX0 1 f fd ["_law_cuts"] (sp1 cuts3 fun d => .int (weightD (itemsD d))) := by
  refine ok1 F sc__law_weight (by decide) fun cdv A outer s H E X d Q hr t hp q => ⟨_, (pss_one (ps_ret (pe_callB (cr_sum rfl) (by rfl) b_sum boot_sum (pa_cons (pe_lc (own := [("_law_place", 1), ("_law_many", 2), ("_law_words", 3)]) (g := (gTup K 3 (gCons (gName 1) (gCons (gName 2) (gCons (gName 3) gNil))))) (tt := tYes) (te := (tOp rAddA (tVar 2) (tCB (fun xs H Q => ∃ x n, xs = [x] ∧ LenV K x H n ∧ Q (V.int n) H) (tCons (tVar 3) tNil)))) rfl sc__law_weight.nd (pi_list (pv 0)) (blkOk_by (N := n__law_weight) (sc := defScope s__law_weight) (by decide +kernel)) (fun _ _ _ _ _ => (pg_tup (n := 3) rfl (pgs_cons (pg_name (i := 1) sc__law_weight.nd rfl (by first | exact Or.inl rfl | exact Or.inr rfl)) (pgs_cons (pg_name (i := 2) sc__law_weight.nd rfl (by first | exact Or.inl rfl | exact Or.inr rfl)) (pgs_cons (pg_name (i := 3) sc__law_weight.nd rfl (by first | exact Or.inl rfl | exact Or.inr rfl)) pgs_nil))))) (fun _ _ _ _ _ => pts_nil) (fun _ _ _ _ _ => (pe_op op_addA (pv 2) (pe_callB call_len (by rfl) T.b_len boot_len (pa_cons (pv 3) pa_nil))))) pa_nil)))), fun σ En => ?_⟩
  obtain ⟨ds, rfl, l1, hz⟩ := hp
  let Γ2 : PyData → List Sv := fun z => [.dat (.list ds), .dat (it z 0), .dat (it z 1), .dat (it z 2)]
  refine s_ret (X := X) (d := .int (weightD ds)) (g_sum (ns := ds.map wgt) t (g_is (g_lc1 (ds := ds) (Γ2 := Γ2) (fun z => .int (wgt z)) t (gi_list (g_var (i := 0) (d := .list ds) En rfl)) (by omega) (fun H3 s3 z hm => ?_) (fun X2 H3 σ2 z hm t3 E3 => ?_)) (by rw [List.map_map]; rfl))) q
  · obtain ⟨p, m, ws, rfl, _⟩ := hz z hm
    exact tgt_triple (En.same s3)
  · obtain ⟨p, m, ws, rfl, _⟩ := hz z hm
    exact g_addI t3 (g_var (i := 2) (d := .int m) E3 rfl) (g_len t3 (g_var (i := 3) (d := .list ws) E3 rfl) rfl)
/-- what leads back, as the law tells it -/
def backsL (ts : List PyData) : Int → List PyData → List PyData
  | _, [] => []
  | sh, z :: r => .tuple [.int (intOf (it z 0) + sh), .int ((itemsD (it z 2)).length : Int), .list (cutPD ts (some (intOf (it z 0))) (some (intOf (it z 0) + intOf (it z 1))))] :: backsL ts (sh + ((itemsD (it z 2)).length : Int) - intOf (it z 1)) r
def back2 (a b : PyData) : Prop := ∃ ts ds, a = .list ts ∧ b = .list ds ∧ ts.length ≤ 1000 ∧ ds.length ≤ 1000 ∧ ∀ z ∈ ds, Cut3 z
abbrev s__law_back : Stmt := topS 36
abbrev n__law_back : List Str := ["_law_one", "_law_cuts", "_law_found", "_law_shift", "_law_place", "_law_many", "_law_words"]
theorem sc__law_back : FnScope n__law_back ["_law_one", "_law_cuts"] (defScope s__law_back) := ⟨rfl, rfl, rfl, by decide +kernel, rfl, by decide +kernel, by decide +kernel⟩
theorem ok_back {f : Addr} {fd : FuncData} (F : Fun K "_law_back" "_law_back" s__law_back f fd) (T : Bl mg) : FnOk P w K mg base CX0 1 f fd ["_law_one", "_law_cuts"] (sp2 back2 fun a b => .list (backsL (itemsD a) 0 (itemsD b))) := by
  refine ok2 F sc__law_back (by decide) fun cdv A outer s H E X d1 d2 Q hr t hp q => ⟨_, (pss_cons (ps_par (i := 2) (j := 3) (by rfl) sc__law_back.nd rfl rfl (by decide) rfl rfl (pa_cons (pe_lst pa_nil) (pa_cons pe_int pa_nil)) (by rfl))
    (pss_cons (ps_for PassesOwn.never rfl (pi_list (pv 1)) (pg_tup (n := 3) rfl (pgs_cons (pg_name (i := 4) sc__law_back.nd rfl (by first | exact Or.inl rfl | exact Or.inr rfl)) (pgs_cons (pg_name (i := 5) sc__law_back.nd rfl (by first | exact Or.inl rfl | exact Or.inr rfl)) (pgs_cons (pg_name (i := 6) sc__law_back.nd rfl (by first | exact Or.inl rfl | exact Or.inr rfl)) pgs_nil))))
    (pss_cons (ps_expr (pe_bm PySem.F.plainAttrs_list PySem.F.slot_list_append PySem.F.type_list_append mt_append (pv 2) (pa_cons (pe_tup (pa_cons (pe_op op_addA (pv 4) (pv 3)) (pa_cons (pe_callB call_len (by rfl) T.b_len boot_len (pa_cons (pv 6) pa_nil)) (pa_cons (pe_slice sl_list (pv 0) (po_some (pv 4)) (po_some (pe_op op_addA (pv 4) (pv 5)))) pa_nil)))) pa_nil)))
    (pss_one (ps_set (i := 3) sc__law_back.nd rfl (by first | exact Or.inl rfl | exact Or.inr rfl) (pe_op op_sub (pe_op op_addA (pv 3) (pe_callB call_len (by rfl) T.b_len boot_len (pa_cons (pv 6) pa_nil))) (pv 5))))))
    (pss_one (ps_ret (pv 2))))), fun σ En => ?_⟩
  obtain ⟨ts, ds, rfl, rfl, l1, l2, hz⟩ := hp
  have q : ∀ w H', Same H H' → DX X H' w (.list (backsL ts 0 ds)) → Q w H' := q
  refine k_par ?_
  refine ⟨by show 0 ≤ sizeLine; omega, fun A hA => ?_⟩
  have nX : ¬ X A := t.new hA
  have s1 : Same H (upd H A (.lst [])) := Same.upd hA
  let X' : Addr → Prop := fun b => X b ∨ b = A
  have t1 : Trk X' (upd H A (.lst [])) := t.one hA
  refine ⟨_, _, rfl, ?_⟩
  have E2 : EnvOk X' (upd H A (.lst [])) _ [.dat (.list ts), .dat (.list ds), .val (.ref A), .dat (.int 0), .un, .un, .un] := (((En.more (More.one hA)).same s1).setV (i := 2) (v := .ref A)).set (i := 3) (v := .int 0) (d := .int 0) (.int _)
  refine s_forD (X := X') (gi_list (g_var (i := 1) (d := .list ds) E2 rfl)) (fun Hb i σ' H' => Kp X' Hb H' ∧ Trk X' H' ∧ Same H H' ∧ ∃ (sh : Int) (ys : List V) (acc : List PyData), H' A = some (.lst ys) ∧ DXs X' H' ys acc ∧ acc.length = i ∧ acc ++ backsL ts sh (ds.drop i) = backsL ts 0 ds ∧ EnvOk X' H' σ' [.dat (.list ts), .dat (.list ds), .val (.ref A), .dat (.int sh), .un, .un, .un]) ?_ ?_ ?_ ?_
  · intro Hb sb
    exact ⟨Kp.refl, t1.mono sb, s1.trans sb, 0, [], [], sb _ _ upd_same, .nil, rfl, rfl, E2.same sb⟩
  · rintro Hb i σ' H' ⟨p1, p2, _⟩
    exact ⟨p1, p2⟩
  · rintro Hb i x z σ' H' H'' sb hzi ⟨p1, p2, p3, sh, ys, acc, p4, p5, p6, p7, E⟩ s5 dx
    have hi := (List.getElem?_eq_some_iff.mp hzi).1
    have edrop : ds.drop i = z :: ds.drop (i + 1) := by
      rw [List.drop_eq_getElem_cons hi, (List.getElem?_eq_some_iff.mp hzi).2]
    obtain ⟨p, m, ws, rfl, lw⟩ := hz z (List.mem_of_getElem? hzi)
    rw [edrop, backsL] at p7
    have t5 := p2.mono s5
    refine g_triple dx fun u v w3 q1 q2 q3 => ?_
    have E5 := (((E.same s5).set (i := 4) q1).set (i := 5) q2).set (i := 6) q3
    refine q_append (i := 2) (L := A) (d := .tuple [.int (p + sh), .int (ws.length : Int), .list (cutPD ts (some p) (some (p + m)))]) E5 rfl (.inr rfl) t5 (s5 _ _ p4) (p5.mono (Kp.of s5)) (g_tup t5 (ga_cons (g_addI t5 (g_var (i := 4) E5 rfl) (g_var (i := 3) E5 rfl)) (ga_cons (g_len t5 (g_var (i := 6) (d := .list ws) E5 rfl) rfl) (ga_cons (g_sl (K := K) t5 (g_var (i := 0) (d := .list ts) E5 rfl) (go_some (g_var (i := 4) E5 rfl)) (go_some (g_addI t5 (g_var (i := 4) E5 rfl) (g_var (i := 5) E5 rfl)))) ga_nil))) (by simp)) (by omega) fun H6 ys6 h6 x6 E6 t6 k6 => ?_
    have kx : Kp X' H'' H6 := fun a o n e => k6 a o (fun z => n (.inr z)) e
    refine k_set1 ((g_op t6 (g_addI t6 (g_var (i := 3) E6 rfl) (g_len t6 (g_var (i := 6) (d := .list ws) E6 rfl) rfl)) (g_var (i := 5) E6 rfl) (rd_I0 (g := fun i j => i - j))) H6 (Same.refl _) _ fun v7 H7 s7 r7 => ?_)
    refine ⟨((p1.trans (Kp.of s5)).trans kx).trans (Kp.of s7), t6.mono s7, fun a o e => ?_, sh + (ws.length : Int) - m, ys6, acc ++ [.tuple [.int (p + sh), .int (ws.length : Int), .list (cutPD ts (some p) (some (p + m)))]], s7 _ _ h6, x6.mono (Kp.of s7), by rw [List.length_append, p6]; rfl, ?_, envUn' (envUn' (envUn' ((E6.same s7).set (i := 3) r7) 4) 5) 6⟩
    · have n1 : a ≠ A := fun z => by rw [z, hA] at e; cases e
      exact s7 _ _ (k6 a o n1 (s5 a o (p3 a o e)))
    · rw [← p7, List.append_assoc]
      rfl
  · rintro Hb σ' H' sb ⟨p1, p2, p3, sh, ys, acc, p4, p5, p6, p7, E⟩
    rw [List.drop_length, backsL, List.append_nil] at p7
    have E8 := E.give (i := 2) rfl nX p4 p5
    refine k_ret (g_var (i := 2) (d := .list acc) E8 rfl H' (Same.refl _) _ fun w H9 s9 dw => q w H9 (p3.trans s9) ?_)
    rw [← p7]
    exact dw
end K53

/-! Several texts, looked at. -/
namespace K53
open PySem PySem.Spec PyProof.Rows L2 KD KL
-- RAISES check_texts
variable {P : Program} {w : World} {K : PySem.W.Frag} {mg : Str → Option Value} {base : Heap}
def textsOutN (C : Addr) : List PyData → Out
  | [] => .val .none
  | d :: r => if isNone (wrongD d) then textsOutN C r else .err C "index" (wrongD d)
theorem textsN_ok {C : Addr} {ds : List PyData} (h : ∀ d ∈ ds, isNone (wrongD d) = true) : textsOutN C ds = .val .none := by
  induction ds with
  | nil => rfl
  | cons d r ih =>
    rw [textsOutN, if_pos (h d List.mem_cons_self)]
    exact ih fun z hz => h z (List.mem_cons_of_mem _ hz)
theorem textsN_no {C : Addr} {d : PyData} (h2 : isNone (wrongD d) = false) : ∀ {ds : List PyData} {i : Nat}, ds[i]? = some d → (∀ j < i, ∀ e, ds[j]? = some e → isNone (wrongD e) = true) → textsOutN C ds = .err C "index" (wrongD d)
  | [], _, h, _ => by cases h
  | e :: r, 0, h, _ => by
    cases h
    rw [textsOutN, if_neg (by rw [h2]; simp)]
  | e :: r, i + 1, h, k => by
    rw [textsOutN, if_pos (k 0 (by omega) e rfl)]
    exact textsN_no h2 (i := i) h fun j hj z hz => k (j + 1) (by omega) z hz
abbrev s_check_texts : Stmt := topS 12
abbrev n_check_texts : List Str := ["texts", "text", "index"]
theorem sc_check_texts : FnScope n_check_texts ["texts"] (defScope s_check_texts) := ⟨rfl, rfl, rfl, by decide +kernel, rfl, by decide +kernel, by decide +kernel⟩
theorem ok_check_textsN {f C : Addr} {fd : FuncData} (F : Fun K "check_texts" "check_texts" s_check_texts f fd) (T : Bl mg) (O_wrong_words : Own P w K mg base CX0 2 "wrong_words" ["things"] (sp1 wordsAll wrongD)) (E_NoText : Ec P w K mg base "NoText" "index" C) : FnOk P w K mg base (L2.CX P w) 3 f fd ["texts"] (spX1 (fun D => ∃ ds, D = .list ds ∧ ∀ d ∈ ds, wordsAll d) fun D => textsOutN C (itemsD D)) := by
  refine okX1 F sc_check_texts (by decide) fun cdv A outer s H E X d Q hr t hp q => ⟨_, (pss_one (ps_for (passes_of rfl) rfl (pi_list (pv 0)) (pg_name (i := 1) sc_check_texts.nd rfl (by first | exact Or.inl rfl | exact Or.inr rfl))
    (pss_cons (ps_set (i := 2) sc_check_texts.nd rfl (by first | exact Or.inl rfl | exact Or.inr rfl) (pe_own O_wrong_words hr (by decide) (by rfl) (pa_cons (pv 1) pa_nil)))
    (pss_one (ps_if (pt_cmpR op_notN (pv 2) pe_non (nomark _))
    (pss_one (ps_err rfl E_NoText hr (by decide) (takes_of rfl rfl rfl rfl) (by rfl) (pa_cons (pv 2) pa_nil))) pss_nil))))), fun σ En => ?_⟩
  obtain ⟨ds, rfl, hw⟩ := hp
  have q : EndQ X H (textsOutN C ds) Q E := q
  refine s_forD (X := X) (gi_list (g_var (i := 0) (d := .list ds) En rfl)) (fun Hb i σ' H' => Same Hb H' ∧ Trk X H' ∧ EnvOk X H' σ' [.dat (.list ds), .un, .un] ∧ ∀ j < i, ∀ e, ds[j]? = some e → isNone (wrongD e) = true) (fun Hb sb => ⟨Same.refl _, t.mono sb, En.same sb, fun j h => by omega⟩) (fun Hb i σ' H' p => ⟨Kp.of p.1, p.2.1⟩) ?_ ?_
  · rintro Hb i x d' σ' H' H'' sb hd ⟨p1, p2, E0, p4⟩ s2 dx
    have E2 := (E0.same s2).set (i := 1) dx
    have t2 := p2.mono s2
    refine q_set (i := 2) E2 (g_call1 t2 (g_var (i := 1) E2 rfl) (hw d' (List.mem_of_getElem? hd))) fun H3 v3 s3 E3 => ?_
    have t3 := t2.mono s3
    refine s_if (b := !isNone (wrongD d')) (gt_op t3 (g_var (i := 2) E3 rfl) g_non rb_notN) (fun hb H4 s4 => ?_) fun hb H4 s4 => ?_
    · have e : isNone (wrongD d') = false := by simpa using hb
      refine mk_err (X := X) (g_var (i := 2) (E3.same s4) rfl) fun a v H5 s5 e5 dv => q.2 C "index" (wrongD d') (textsN_no e hd p4) a v H5 (((((sb.trans p1).trans s2).trans s3).trans s4).trans s5) e5 dv
    · have e : isNone (wrongD d') = true := by simpa using hb
      refine ⟨((p1.trans s2).trans s3).trans s4, t3.mono s4, envUn' (envUn' (E3.same s4) 1) 2, fun j hj z hz => ?_⟩
      by_cases h : j = i
      · subst h
        rw [hd] at hz
        cases hz
        exact e
      · exact p4 j (by omega) z hz
  · rintro Hb σ' H' sb ⟨p1, p2, E0, p4⟩
    exact q.1 .none (textsN_ok fun d hd => by
      obtain ⟨i, hi⟩ := List.mem_iff_getElem?.mp hd
      exact p4 i (List.getElem?_eq_some_iff.mp hi).1 d hi) .non H' (sb.trans p1) .non fun a z => by cases z
end K53

/-! Differences, looked at. -/
namespace K53
open PySem PySem.Spec PyProof.Rows L2 KD
-- RAISES check_texts is_difference check_difference cut_text turned_round
/-! ### a target that takes lists and tuples -/
def gAny (K : PySem.W.Frag) (n : Nat) (t : TGs) : TG := fun v σ H Q => gTup K n t v σ H Q ∨ gUnl K n t v σ H Q
theorem pg_any {X : Cx} {es : List Expr} {k : Nat} {pos : Pos} {n : Nat} {t : TGs} (hc : X.calm = true) (hs : PGs X es t) (hn : (assignEach es X.env).length = n := by rfl) (hst : List.findIdx? (·.1) (assignEach es X.env) = none := by rfl) : PG X (.Tuple es k pos) (gAny X.K n t) := by
  exact ⟨fun pins s σ H v u Q I r h => h.elim (fun h => (pg_tup hc hs hn hst).run pins s σ H v u Q I r h) fun h => (pg_unl hc hs hn hst).run pins s σ H v u Q I r h⟩
theorem g_any3 {X : Addr → Prop} {H : Hp} {σ : L2.St} {K : PySem.W.Frag} {i j l : Nat} {v : V} {c d e f : PyData} (hd : DX X H v c) (hs : isSeq c = true) (hi : itemsD c = [d, e, f]) {Ψ : L2.St → Hp → Prop} (q : ∀ u w z, DX X H u d → DX X H w e → DX X H z f → Ψ (((σ.set i (some u)).set j (some w)).set l (some z)) H) :
    gAny K 3 (gCons (gName i) (gCons (gName j) (gCons (gName l) gNil))) v σ H Ψ := by
  cases c with
  | tuple ds =>
    have e : ds = [d, e, f] := hi
    subst e
    exact .inl (g_triple hd q)
  | list ds =>
    have e : ds = [d, e, f] := hi
    subst e
    obtain ⟨a, xs, rfl, _, ea, rx⟩ := hd.lst_inv
    cases rx with
    | cons h1 rx =>
      cases rx with
      | cons h2 rx =>
        cases rx with
        | cons h3 rx =>
          cases rx
          exact .inr ⟨a, _, rfl, SqL.of ea, rfl, _, _, rfl, _, _, rfl, _, _, rfl, rfl, q _ _ _ h1 h2 h3⟩
  | _ => cases hs
variable {P : Program} {w : World} {K : PySem.W.Frag} {mg : Str → Option Value} {base : Heap}
def textsOut (C : Addr) : PyData → Out
  | .list [d] => if isNone (wrongD d) then .val .none else .err C "index" (wrongD d)
  | _ => .val .none
theorem ok_check_texts {f C : Addr} {fd : FuncData} (F : Fun K "check_texts" "check_texts" s_check_texts f fd) (T : Bl mg) (O_wrong_words : Own P w K mg base CX0 2 "wrong_words" ["things"] (sp1 wordsAll wrongD)) (E_NoText : Ec P w K mg base "NoText" "index" C) : FnOk P w K mg base (L2.CX P w) 3 f fd ["texts"] (spX1 (fun D => ∃ d, D = .list [d] ∧ wordsAll d) (textsOut C)) := by
  refine okX1 F sc_check_texts (by decide) fun cdv A outer s H E X d Q hr t hp q => ⟨_, (pss_one (ps_for (passes_of rfl) rfl (pi_list (pv 0)) (pg_name (i := 1) sc_check_texts.nd rfl (by first | exact Or.inl rfl | exact Or.inr rfl))
    (pss_cons (ps_set (i := 2) sc_check_texts.nd rfl (by first | exact Or.inl rfl | exact Or.inr rfl) (pe_own O_wrong_words hr (by decide) (by rfl) (pa_cons (pv 1) pa_nil)))
    (pss_one (ps_if (pt_cmpR op_notN (pv 2) pe_non (nomark _))
    (pss_one (ps_err rfl E_NoText hr (by decide) (takes_of rfl rfl rfl rfl) (by rfl) (pa_cons (pv 2) pa_nil))) pss_nil))))), fun σ En => ?_⟩
  obtain ⟨d, rfl, hw⟩ := hp
  refine s_forD (X := X) (gi_list (g_var (i := 0) (d := .list [d]) En rfl)) (fun Hb i σ' H' => Same Hb H' ∧ Trk X H' ∧ EnvOk X H' σ' [.dat (.list [d]), .un, .un] ∧ (i = 1 → isNone (wrongD d) = true)) (fun Hb sb => ⟨Same.refl _, t.mono sb, En.same sb, fun h => by cases h⟩) (fun Hb i σ' H' p => ⟨Kp.of p.1, p.2.1⟩) ?_ ?_
  · rintro Hb i x d' σ' H' H'' sb hd ⟨p1, p2, E0, _⟩ s2 dx
    have hi : i = 0 := by
      have := (List.getElem?_eq_some_iff.mp hd).1
      simp at this
      exact this
    subst hi
    cases hd
    have E2 := (E0.same s2).set (i := 1) dx
    have t2 := p2.mono s2
    refine q_set (i := 2) E2 (g_call1 t2 (g_var (i := 1) E2 rfl) hw) fun H3 v3 s3 E3 => ?_
    have t3 := t2.mono s3
    refine s_if (b := !isNone (wrongD d)) (gt_op t3 (g_var (i := 2) E3 rfl) g_non rb_notN) (fun hb H4 s4 => ?_) fun hb H4 s4 => ?_
    · have e : isNone (wrongD d) = false := by simpa using hb
      refine mk_err (X := X) (g_var (i := 2) (E3.same s4) rfl) fun a v H5 s5 e5 dv => q.2 C "index" (wrongD d) (by simp [textsOut, e]) a v H5 (((((sb.trans p1).trans s2).trans s3).trans s4).trans s5) e5 dv
    · have e : isNone (wrongD d) = true := by simpa using hb
      exact ⟨((p1.trans s2).trans s3).trans s4, t3.mono s4, envUn' (envUn' (E3.same s4) 1) 2, fun _ => e⟩
  · rintro Hb σ' H' sb ⟨p1, p2, E0, p4⟩
    have e := p4 rfl
    exact q.1 .none (by simp [textsOut, e]) .non H' (sb.trans p1) .non fun a z => by cases z
/-! ### cuts -/
abbrev s_is_cut : Stmt := topS 14
abbrev n_is_cut : List Str := ["thing"]
theorem sc_is_cut : FnScope n_is_cut ["thing"] (defScope s_is_cut) := ⟨rfl, rfl, rfl, by decide +kernel, rfl, by decide +kernel, by decide +kernel⟩
def isCutD (d : PyData) : Bool := isSeq d && (decide ((itemsD d).length = 3) && (isNumD (it d 0) && isNumD (it d 1))) && (isNone (wrongD (it d 2)) && (decide (0 < intOf (it d 1)) || decide (0 < lenD (it d 2))))
theorem isNumD_int {d : PyData} (h : isNumD d = true) : ∃ i : Int, d = .int i ∧ 0 ≤ i := by
  cases d <;> simp [isNumD] at h ⊢
  exact h
theorem ok_is_cut {f : Addr} {fd : FuncData} (F : Fun K "is_cut" "is_cut" s_is_cut f fd) (T : Bl mg) (O_is_list : Own P w K mg base CX0 1 "is_list" ["thing"] (sp1 (fun _ => True) fun d => .bool (isSeq d))) (O_is_number : Own P w K mg base CX0 2 "is_number" ["thing"] (sp1 (fun _ => True) fun d => .bool (isNumD d)))
    (O_wrong_words : Own P w K mg base CX0 2 "wrong_words" ["things"] (sp1 wordsAll wrongD)) : FnOk P w K mg base CX0 3 f fd ["thing"] (sp1 chPre fun d => .bool (isCutD d)) := by
  refine ok1 F sc_is_cut (by decide) fun cdv A outer s H E X d Q hr t hp q => ⟨_, (pss_cons (ps_if (PW.pt (pw_or (pt_not (pt_val (pe_own O_is_list hr (by decide) (by rfl) (pa_cons (pv 0) pa_nil)))) (pw_or (pt_cmpR (op_neD hr.units) (pe_callB call_len (by rfl) T.b_len boot_len (pa_cons (pv 0) pa_nil)) pe_int (nomark _)) (pw_or (pt_not (pt_val (pe_own O_is_number hr (by decide) (by rfl) (pa_cons (pe_ix ix_seq (pv 0) pe_int (fun _ _ => rfl)) pa_nil)))) (pw_or1 (pt_not (pt_val (pe_own O_is_number hr (by decide) (by rfl) (pa_cons (pe_ix ix_seq (pv 0) pe_int (fun _ _ => rfl)) pa_nil)))))))))
    (pss_one (ps_ret pe_bl)) pss_nil)
    (pss_one (ps_ret (pe_and (pe_cmpR op_isN (pe_own O_wrong_words hr (by decide) (by rfl) (pa_cons (pe_ix ix_seq (pv 0) pe_int (fun _ _ => rfl)) pa_nil)) pe_non (nomark _)) (pe_one (pe_or (pe_cmpR op_gt (pe_ix ix_seq (pv 0) pe_int (fun _ _ => rfl)) pe_int (nomark _)) (pe_one (pe_cmpR op_gt (pe_callB call_len (by rfl) T.b_len boot_len (pa_cons (pe_ix ix_seq (pv 0) pe_int (fun _ _ => rfl)) pa_nil)) pe_int (nomark _))))))))), fun σ En => ?_⟩
  have v0 : ∀ {H1 : Hp}, Same H H1 → G X (tVar 0) σ H1 d := fun s => g_var (i := 0) (En.same s) rfl
  by_cases hs : isSeq d = true
  · obtain ⟨pl, pw⟩ := hp hs
    by_cases h3 : (itemsD d).length = 3
    · have at0 : atI (itemsD d) 0 = some (it d 0) := it_at (i := 0) rfl (by omega)
      have at1 : atI (itemsD d) 1 = some (it d 1) := it_at (i := 1) rfl (by omega)
      have at2 : atI (itemsD d) 2 = some (it d 2) := it_at (i := 2) rfl (by omega)
      have c : isCutD d = ((isNumD (it d 0) && isNumD (it d 1)) && (isNone (wrongD (it d 2)) && (decide (0 < intOf (it d 1)) || decide (0 < lenD (it d 2))))) := by
        unfold isCutD
        rw [hs, decide_eq_true h3]
        rfl
      rw [c] at q
      refine q_if (b := !(isNumD (it d 0) && isNumD (it d 1))) (gt_is (gt_or (a := false) (gt_is (gt_not (gt_B (g_call1 t (v0 (Same.refl _)) trivial))) (by rw [hs]; rfl)) fun _ => gt_or (a := false) (gt_is (gt_neI t (g_is (g_len t (v0 (Same.refl _)) (hasLen_seq hs)) (by rw [lenD_seq hs, h3])) g_int) rfl) fun _ => gt_or (gt_not (gt_B (g_call1 t (g_ix t (v0 (Same.refl _)) hs g_int at0) trivial))) fun _ => gt_not (gt_B (g_call1 t (g_ix t (v0 (Same.refl _)) hs g_int at1) trivial))) (by simp [Bool.not_and])) (fun hb H1 s1 => ?_) fun hb H1 s1 => ?_
      · have e : (isNumD (it d 0) && isNumD (it d 1)) = false := by rw [Bool.not_eq_true'] at hb; exact hb
        rw [e, Bool.false_and] at q
        exact s_ret g_bl fun w H2 s2 dw => q w H2 (s1.trans s2) dw
      · have e : (isNumD (it d 0) && isNumD (it d 1)) = true := by rw [Bool.not_eq_false'] at hb; exact hb
        rw [e, Bool.true_and] at q
        have t1 := t.mono s1
        have w2 : wordsAll (it d 2) := pw _ (it_mem (by omega))
        obtain ⟨m, em, m0⟩ := isNumD_int (Bool.and_eq_true _ _ ▸ e).2
        refine s_ret (g_and (g_op t1 (g_call1 t1 (g_ix t1 (v0 s1) hs g_int at2) w2) g_non (RB.rd rb_isN)) fun hn => g_or (g_op t1 (g_is (g_ix t1 (v0 s1) hs g_int at1) em) g_int (RB.rd (b := decide (0 < intOf (it d 1))) ?_)) fun _ => g_is (g_cmpI t1 (g := fun i j => decide (j < i)) (g_len t1 (g_ix t1 (v0 s1) hs g_int at2) (hasLen_seq (wrong_seq hn))) g_int) ?_) fun w H2 s2 dw => q w H2 (s1.trans s2) dw
        · rw [em]
          exact rb_I0 (g := fun i j => decide (j < i))
        · congr 1
          exact decide_eq_decide.mpr (by omega)
    · have c : isCutD d = false := by
        unfold isCutD
        rw [decide_eq_false h3, Bool.false_and, Bool.and_false, Bool.false_and]
      rw [c] at q
      refine q_if (b := true) (gt_is (gt_or (a := false) (b := true) (gt_is (gt_not (gt_B (g_call1 t (v0 (Same.refl _)) trivial))) (by rw [hs]; rfl)) fun _ => gt_is (gt_or (a := true) (b := true) (gt_is (gt_neI t (g_is (g_len t (v0 (Same.refl _)) (hasLen_seq hs)) (by rw [lenD_seq hs])) g_int) (by rw [decide_eq_false (by omega)]; rfl)) fun h => by cases h) rfl) rfl) (fun hb H1 s1 => ?_) fun h => by cases h
      exact s_ret g_bl fun w H2 s2 dw => q w H2 (s1.trans s2) dw
  · have c : isCutD d = false := by
      unfold isCutD
      rw [Bool.eq_false_iff.mpr hs, Bool.false_and, Bool.false_and]
    rw [c] at q
    refine q_if (b := true) (gt_is (gt_or (a := true) (b := true) (gt_is (gt_not (gt_B (g_call1 t (v0 (Same.refl _)) trivial))) (by rw [Bool.eq_false_iff.mpr hs]; rfl)) fun h => by cases h) rfl) (fun hb H1 s1 => ?_) fun h => by cases h
    exact s_ret g_bl fun w H2 s2 dw => q w H2 (s1.trans s2) dw
end K53

/-! Differences: tests of any object, the text behind, turned round. -/
namespace K53
open PySem PySem.Spec PyProof.Rows L2 KD
-- RAISES check_texts is_difference check_difference cut_text turned_round
-- HINT is_difference it pi_seq
-- HINT is_difference tgt pg_any
-- HINT cut_text it pi_seq
-- HINT cut_text tgt pg_any
-- HINT turned_round it pi_seq
-- HINT turned_round tgt pg_any
variable {P : Program} {w : World} {K : PySem.W.Frag} {mg : Str → Option Value} {base : Heap}
theorem g_all {X : Addr → Prop} {σ : L2.St} {H : Hp} {te : TE} {bs : List Bool} (t : Trk X H) (h : G X te σ H (.list (bs.map PyData.bool))) : G X (tCB (rAll K) (tCons te tNil)) σ H (.bool (bs.all id)) := g_cb t (ga_cons h ga_nil) rf_all
theorem k_nB {te : TE} {σ : L2.St} {H : Hp} {Qb : Bool → Hp → Prop} (h : te σ H fun x H1 => ∃ c, x = V.bl c ∧ Qb (!c) H1) : tNot (tB te) σ H Qb := h
theorem k_if1 {tt : TT} {tu : TS} {D : Ends} {σ : L2.St} {H : Hp} (h : tt σ H fun b H1 => if b = true then tu D σ H1 else D.nx σ H1) : tIfS tt tu tNext D σ H := h
theorem k_drop {te : TE} {tz : TS} {D : Ends} {σ : L2.St} {H : Hp} (h : te σ H fun _ H1 => tz D σ H1) : tSeq (tDrop te) tz D σ H := h
theorem go_neg1 {X : Addr → Prop} {σ : L2.St} {H : Hp} : G X (tUn (rU fun i => .int (-i)) (tC (.int 1))) σ H (.int (-1)) := fun H1 s Q q => ⟨1, rfl, q _ H1 (Same.refl H1) (.int _)⟩
theorem g_sl {X : Addr → Prop} {te : TE} {tl th : TO} {σ : L2.St} {H : Hp} {ds : List PyData} {lo hi : Option Int} (t : Trk X H) (h : G X te σ H (.list ds)) (hl : GO tl σ H lo) (hh : GO th σ H hi) : G X (tSl (rSlL K) te tl th) σ H (.list (cutPD ds lo hi)) := fun H1 s Q q =>
  h H1 s _ fun v H2 s2 r => hl H2 (s.trans s2) _ fun H3 s3 => hh H3 ((s.trans s2).trans s3) _ fun H4 s4 => by
    obtain ⟨a, xs, rfl, n, e, rx⟩ := (r.mono (Kp.of (s3.trans s4))).lst_inv
    exact ⟨a, xs, rfl, SqL.of e, fun p hp => q _ _ (((s2.trans s3).trans s4).trans (Same.upd hp)) (DX.newL ((((t.mono s).mono s2).mono s3).mono s4) (rx.cut lo hi) hp)⟩
def goD : Int → List PyData → Nat → Bool
  | e, [], n => decide (e ≤ (n : Int))
  | e, c :: r, n => if intOf (it c 0) ≤ e then false else goD (intOf (it c 0) + intOf (it c 1)) r n
def isDiffD (a b : PyData) : Bool := isSeq b && (itemsD b).all isCutD && goD (-1) (itemsD b) (lenD a)
def difPre (b : PyData) : Prop := isSeq b = true → (itemsD b).length ≤ 100000 ∧ ∀ z ∈ itemsD b, chPre z
def difPre2 (a b : PyData) : Prop := wordsAll a ∧ difPre b
theorem cut_parts {c : PyData} (h : isCutD c = true) : isSeq c = true ∧ ∃ (p m : Int) (d : PyData), itemsD c = [.int p, .int m, d] ∧ 0 ≤ p ∧ 0 ≤ m ∧ isSeq d = true ∧ intOf (it c 0) = p ∧ intOf (it c 1) = m ∧ it c 2 = d := by
  simp only [isCutD, Bool.and_eq_true, decide_eq_true_eq] at h
  obtain ⟨⟨h1, h2, h3, h4⟩, h5, h6⟩ := h
  obtain ⟨p, e1, p0⟩ := isNumD_int h3
  obtain ⟨m, e2, m0⟩ := isNumD_int h4
  refine ⟨h1, p, m, it c 2, ?_, p0, m0, wrong_seq h5, by rw [e1]; rfl, by rw [e2]; rfl, rfl⟩
  have e3 : itemsD c = [it c 0, it c 1, it c 2] := by
    unfold it
    match itemsD c, h2 with
    | [x, y, z], _ => rfl
  rw [e3, e1, e2]
abbrev s_is_difference : Stmt := topS 15
abbrev n_is_difference : List Str := ["text", "thing", "end", "place", "many", "_", "cut"]
theorem sc_is_difference : FnScope n_is_difference ["text", "thing"] (defScope s_is_difference) := ⟨rfl, rfl, rfl, by decide +kernel, rfl, by decide +kernel, by decide +kernel⟩
theorem ok_is_difference {f C : Addr} {fd : FuncData} (F : Fun K "is_difference" "is_difference" s_is_difference f fd) (T : Bl mg) (O_is_list : Own P w K mg base CX0 1 "is_list" ["thing"] (sp1 (fun _ => True) fun d => .bool (isSeq d))) (O_is_cut : Own P w K mg base CX0 3 "is_cut" ["thing"] (sp1 chPre fun d => .bool (isCutD d)))
    (O_check_texts : Own P w K mg base (L2.CX P w) 3 "check_texts" ["texts"] (spX1 (fun D => ∃ d, D = .list [d] ∧ wordsAll d) (textsOut C))) : FnOk P w K mg base (L2.CX P w) 4 f fd ["text", "thing"] (spX2 difPre2 fun a b => if isNone (wrongD a) then .val (.bool (isDiffD a b)) else .err C "index" (wrongD a)) := by
  refine okX2 F sc_is_difference (by decide) fun cdv A outer s H E X d1 d2 Q hr t hp q => ⟨_, (pss_cons (ps_expr (pe_ownX O_check_texts hr (by decide) (takes_of rfl rfl rfl rfl) (by rfl) (pa_cons (pe_lst (pa_cons (pv 0) pa_nil)) pa_nil)))
    (pss_cons (ps_if (PW.pt (pw_or (pt_not (pt_val (pe_own O_is_list hr (by decide) (by rfl) (pa_cons (pv 1) pa_nil)))) (pw_or1 (pt_not (pt_val (pe_callB (cr_all rfl) (by rfl) T.b_all boot_all (pa_cons (pe_lc (own := [("cut", 6)]) (g := (gName 6)) (tt := tYes) rfl sc_is_difference.nd (pi_seq (pv 1)) (blkOk_by (N := n_is_difference) (sc := defScope s_is_difference) (by decide +kernel)) (fun _ _ _ _ _ => (pg_name (i := 6) sc_is_difference.nd rfl (by first | exact Or.inl rfl | exact Or.inr rfl))) (fun _ _ _ _ _ => pts_nil) (fun _ _ _ _ _ => (pe_own O_is_cut hr (by decide) (by rfl) (pa_cons (pv 6) pa_nil)))) pa_nil)))))))
    (pss_one (ps_ret pe_bl)) pss_nil)
    (pss_cons (ps_set (i := 2) sc_is_difference.nd rfl (by first | exact Or.inl rfl | exact Or.inr rfl) (pe_un un_neg pe_int))
    (pss_cons (ps_for (passes_of rfl) rfl (pi_seq (pv 1)) (pg_any (n := 3) rfl (pgs_cons (pg_name (i := 3) sc_is_difference.nd rfl (by first | exact Or.inl rfl | exact Or.inr rfl)) (pgs_cons (pg_name (i := 4) sc_is_difference.nd rfl (by first | exact Or.inl rfl | exact Or.inr rfl)) (pgs_cons (pg_name (i := 5) sc_is_difference.nd rfl (by first | exact Or.inl rfl | exact Or.inr rfl)) pgs_nil))))
    (pss_cons (ps_if (pt_cmpR op_le (pv 3) (pv 2) (nomark _))
    (pss_one (ps_ret pe_bl)) pss_nil)
    (pss_one (ps_set (i := 2) sc_is_difference.nd rfl (by first | exact Or.inl rfl | exact Or.inr rfl) (pe_op op_addA (pv 3) (pv 4))))))
    (pss_one (ps_ret (pe_cmpR op_le (pv 2) (pe_callB call_len (by rfl) T.b_len boot_len (pa_cons (pv 0) pa_nil)) (nomark _)))))))), fun σ En => ?_⟩
  obtain ⟨hw, hd⟩ := hp
  refine k_drop (c_X1 t (g_lst t (ga_cons (g_var (i := 0) En rfl) ga_nil) (by simp)) ⟨d1, rfl, hw⟩ ⟨fun r e w0 H1 s1 _ _ => ?_, fun C' fl r e a v H1 s1 ea dv => ?_⟩)
  rotate_left
  · have h : isNone (wrongD d1) = false := by
      cases h : isNone (wrongD d1) with
      | false => rfl
      | true => simp [textsOut, h] at e
    simp [textsOut, h] at e
    obtain ⟨rfl, rfl, rfl⟩ := e
    exact q.2 _ _ _ (by simp [h]) a v H1 s1 ea dv
  have hn : isNone (wrongD d1) = true := by
    cases h : isNone (wrongD d1) with
    | true => rfl
    | false => simp [textsOut, h] at e
  have E1 := En.same s1
  have t1 := t.mono s1
  have kv : ∀ (b : Bool), isDiffD d1 d2 = b → ∀ w H', Same H1 H' → DX X H' w (.bool b) → Q w H' := fun b hb w H' s' dw => q.1 (.bool b) (by simp [hn, hb]) w H' (s1.trans s') dw fun a z => by rw [dw.bl_inv] at z; cases z
  refine q_if (b := !(isSeq d2 && (itemsD d2).all isCutD)) (gt_is (gt_or (a := !isSeq d2) (b := !(isSeq d2 && (itemsD d2).all isCutD)) (gt_not (gt_B (g_call1 t1 (g_var (i := 1) E1 rfl) trivial))) fun hs => ?_) ?_) (fun hb H2 s2 => ?_) fun hb H2 s2 => ?_
  · have hs : isSeq d2 = true := by rw [Bool.not_eq_false'] at hs; exact hs
    obtain ⟨l1, l2⟩ := hd hs
    rw [hs, Bool.true_and]
    refine gt_not (gt_B (g_is (g_all t1 (bs := (itemsD d2).map isCutD) (g_is (g_lc1 (fun d => .bool (isCutD d)) t1 (gi_seq (g_var (i := 1) E1 rfl) hs) (by omega) (fun H1 s d hd => tgt_name (E1.same s)) (fun X' H1 σ2 d hd t E => g_call1 t (g_var (i := 6) E rfl) (l2 d hd))) ?_)) ?_))
    · rw [List.map_map]
      rfl
    · rw [List.all_map]
      rfl
  · cases isSeq d2 <;> simp
  · have e : (isSeq d2 && (itemsD d2).all isCutD) = false := by rw [Bool.not_eq_true'] at hb; exact hb
    exact s_ret g_bl fun w H3 s3 dw => kv false (by unfold isDiffD; rw [e, Bool.false_and]) w H3 (s2.trans s3) dw
  · have e : (isSeq d2 && (itemsD d2).all isCutD) = true := by rw [Bool.not_eq_false'] at hb; exact hb
    obtain ⟨hs, hc⟩ := Bool.and_eq_true _ _ ▸ e
    have hc := List.all_eq_true.mp hc
    have ed : isDiffD d1 d2 = goD (-1) (itemsD d2) (lenD d1) := by unfold isDiffD; rw [e, Bool.true_and]
    have E2 := E1.same s2
    have t2 := t1.mono s2
    refine q_set (i := 2) (d := .int (-1)) E2 go_neg1 fun H3 v3 s3 E3 => ?_
    refine s_forD (X := X) (gi_seq (g_var (i := 1) (d := d2) E3 rfl) hs) (fun Hb i σ' H' => Same Hb H' ∧ Trk X H' ∧ ∃ en : Int, EnvOk X H' σ' [.dat d1, .dat d2, .dat (.int en), .un, .un, .un, .un] ∧ goD (-1) (itemsD d2) (lenD d1) = goD en ((itemsD d2).drop i) (lenD d1)) (fun Hb sb => ⟨Same.refl _, (t2.mono s3).mono sb, -1, E3.same sb, rfl⟩) (fun Hb i σ' H' p => ⟨Kp.of p.1, p.2.1⟩) ?_ ?_
    · rintro Hb i x d σ' H' H'' sb hd ⟨p1, p2, en, E4, p4⟩ s5 dx
      have hm := List.mem_of_getElem? hd
      obtain ⟨c1, p, m, dd, c2, p0, m0, c3, c4, c5, c6⟩ := cut_parts (hc d hm)
      have hi := (List.getElem?_eq_some_iff.mp hd).1
      have edrop : (itemsD d2).drop i = d :: (itemsD d2).drop (i + 1) := by
        rw [List.drop_eq_getElem_cons hi, (List.getElem?_eq_some_iff.mp hd).2]
      refine g_any3 dx c1 c2 fun u v z q1 q2 q3 => ?_
      have E5 := (((E4.same s5).set (i := 3) q1).set (i := 4) q2).set (i := 5) q3
      have t5 := p2.mono s5
      refine q_if (b := decide (p ≤ en)) (gt_cmpI t5 (g := fun i j => decide (i ≤ j)) (g_var (i := 3) E5 rfl) (g_var (i := 2) E5 rfl)) (fun hb H6 s6 => ?_) fun hb H6 s6 => ?_
      · refine s_ret g_bl fun w H7 s7 dw => kv false ?_ w H7 ((((((s2.trans s3).trans sb).trans p1).trans s5).trans s6).trans s7) dw
        rw [ed, p4, edrop, goD, c4, if_pos (of_decide_eq_true hb)]
      · refine (g_addI (t5.mono s6) (g_var (i := 3) (E5.same s6) rfl) (g_var (i := 4) (E5.same s6) rfl)) H6 (Same.refl _) _ fun w7 H7 s7 d7 => ?_
        refine ⟨((p1.trans s5).trans s6).trans s7, (t5.mono s6).mono s7, p + m, envUn' (envUn' (envUn' (((E5.same s6).same s7).set (i := 2) d7) 3) 4) 5, ?_⟩
        rw [p4, edrop, goD, c4, c5, if_neg (of_decide_eq_false hb)]
    · rintro Hb σ' H' sb ⟨p1, p2, en, E4, p4⟩
      rw [List.drop_length] at p4
      exact s_ret (X := X) (D := { nx := fun _ H' => Q .non H', rt := Q }) (g_cmpI p2 (g := fun i j => decide (i ≤ j)) (g_var (i := 2) E4 rfl) (g_len p2 (g_var (i := 0) E4 rfl) (hasLen_seq (wrong_seq hn)))) fun w H7 s7 dw => kv _ (by rw [ed, p4]; rfl) w H7 ((((s2.trans s3).trans sb).trans p1).trans s7) dw
abbrev s_check_difference : Stmt := topS 16
abbrev n_check_difference : List Str := ["text", "cuts"]
theorem sc_check_difference : FnScope n_check_difference ["text", "cuts"] (defScope s_check_difference) := ⟨rfl, rfl, rfl, by decide +kernel, rfl, by decide +kernel, by decide +kernel⟩
def chkOut (C1 C2 : Addr) (r : PyData) (a b : PyData) : Out := if isNone (wrongD a) then (if isDiffD a b then .val r else .err C2 "thing" b) else .err C1 "index" (wrongD a)
theorem ok_check_difference {f C C2 : Addr} {fd : FuncData} (F : Fun K "check_difference" "check_difference" s_check_difference f fd) (T : Bl mg) (O_is_difference : Own P w K mg base (L2.CX P w) 4 "is_difference" ["text", "thing"] (spX2 difPre2 fun a b => if isNone (wrongD a) then .val (.bool (isDiffD a b)) else .err C "index" (wrongD a)))
    (E_BadDifference : Ec P w K mg base "BadDifference" "thing" C2) : FnOk P w K mg base (L2.CX P w) 5 f fd ["text", "cuts"] (spX2 difPre2 (chkOut C C2 .none)) := by
  refine okX2 F sc_check_difference (by decide) fun cdv A outer s H E X d1 d2 Q hr t hp q => ⟨_, (pss_one (ps_if (pt_not (pt_val (pe_ownX O_is_difference hr (by decide) (takes_of rfl rfl rfl rfl) (by rfl) (pa_cons (pv 0) (pa_cons (pv 1) pa_nil)))))
    (pss_one (ps_err rfl E_BadDifference hr (by decide) (takes_of rfl rfl rfl rfl) (by rfl) (pa_cons (pv 1) pa_nil))) pss_nil)), fun σ En => ?_⟩
  refine k_if1 (k_nB (c_X2 t (g_var (i := 0) En rfl) (g_var (i := 1) En rfl) hp ⟨fun r e w0 H1 s1 dw _ => ?_, fun C' fl r e a v H1 s1 ea dv => ?_⟩))
  · have hn : isNone (wrongD d1) = true := by
      cases h : isNone (wrongD d1) with
      | true => rfl
      | false => simp [h] at e
    simp [hn] at e
    subst e
    refine ⟨_, dw.bl_inv, ?_⟩
    cases hd : isDiffD d1 d2 with
    | true => exact q.1 .none (by simp [chkOut, hn, hd]) .non H1 s1 .non fun a z => by cases z
    | false =>
      refine mk_err (X := X) (g_var (i := 1) (En.same s1) rfl) fun a v H2 s2 e2 dv => q.2 C2 "thing" d2 (by simp [chkOut, hn, hd]) a v H2 (s1.trans s2) e2 dv
  · have h : isNone (wrongD d1) = false := by
      cases h : isNone (wrongD d1) with
      | false => rfl
      | true => simp [h] at e
    simp [h] at e
    obtain ⟨rfl, rfl, rfl⟩ := e
    exact q.2 _ _ _ (by simp [chkOut, h]) a v H1 s1 ea dv
end K53

/-! The text behind a difference; turned round. -/
namespace K53
open PySem PySem.Spec PyProof.Rows L2 KD
-- RAISES check_texts is_difference check_difference cut_text turned_round
-- HINT cut_text it pi_seq
-- HINT cut_text tgt pg_any
-- HINT turned_round it pi_seq
-- HINT turned_round tgt pg_any
variable {P : Program} {w : World} {K : PySem.W.Frag} {mg : Str → Option Value} {base : Heap}
def madeL (ts : List PyData) : Int → List PyData → List PyData
  | come, [] => cutPD ts (some come) none
  | come, c :: r => (cutPD ts (some come) (some (intOf (it c 0))) ++ itemsD (it c 2)) ++ madeL ts (intOf (it c 0) + intOf (it c 1)) r
def backL (ts : List PyData) : Int → List PyData → List PyData
  | _, [] => []
  | more, c :: r => .tuple [.int (intOf (it c 0) + more), .int ((itemsD (it c 2)).length : Int), .list (cutPD ts (some (intOf (it c 0))) (some (intOf (it c 0) + intOf (it c 1))))] :: backL ts (more + ((itemsD (it c 2)).length : Int) - intOf (it c 1)) r
def cutPre2 (a b : PyData) : Prop := difPre2 a b ∧ (isNone (wrongD a) = true → isDiffD a b = true → (∃ ds, a = .list ds ∧ ds.length ≤ 1000) ∧ (itemsD b).length ≤ 100 ∧ ∀ z ∈ itemsD b, (itemsD (it z 2)).length ≤ 1000)
def tsOf : PyData → List PyData
  | .list ds => ds
  | _ => []
def twoOut (C1 C2 : Addr) (g : PyData → PyData → PyData) (a b : PyData) : Out := if isNone (wrongD a) then (if isDiffD a b then .val (g a b) else .err C2 "thing" b) else .err C1 "index" (wrongD a)
/-- ahead of both: the look -/
theorem c_check {X : Addr → Prop} {σ : L2.St} {H : Hp} {ta tb : TE} {E : XK} {d1 d2 : PyData} {C1 C2 : Addr} {g : PyData → PyData → PyData} {Q' : VK} {tz : TS} {D : Ends} (t : Trk X H) (h1 : G X ta σ H d1) (h2 : G X tb σ H d2) (hp : difPre2 d1 d2) (q : EndQ X H (twoOut C1 C2 g d1 d2) Q' E)
    (k : isNone (wrongD d1) = true → isDiffD d1 d2 = true → ∀ H1, Same H H1 → tz D σ H1) : tSeq (tDrop (tCall (spX2 difPre2 (chkOut C1 C2 .none)) [] E (tCons ta (tCons tb tNil)))) tz D σ H := by
  refine k_drop (c_X2 t h1 h2 hp ⟨fun r e w0 H1 s1 dw _ => ?_, fun C' fl r e a v H1 s1 ea dv => ?_⟩)
  · cases hn : isNone (wrongD d1) with
    | false => simp [chkOut, hn] at e
    | true =>
      cases hd : isDiffD d1 d2 with
      | false => simp [chkOut, hn, hd] at e
      | true => exact k hn hd H1 s1
  · refine q.2 C' fl r ?_ a v H1 s1 ea dv
    unfold chkOut at e
    unfold twoOut
    cases hn : isNone (wrongD d1) with
    | false =>
      rw [hn] at e
      exact e
    | true =>
      cases hd : isDiffD d1 d2 with
      | false =>
        rw [hn, hd] at e
        exact e
      | true =>
        rw [hn, hd] at e
        cases e
abbrev s_cut_text : Stmt := topS 17
abbrev n_cut_text : List Str := ["text", "cuts", "made", "come", "place", "many", "words"]
theorem sc_cut_text : FnScope n_cut_text ["text", "cuts"] (defScope s_cut_text) := ⟨rfl, rfl, rfl, by decide +kernel, rfl, by decide +kernel, by decide +kernel⟩
theorem ok_cut_text {f C C2 : Addr} {fd : FuncData} (F : Fun K "cut_text" "cut_text" s_cut_text f fd) (T : Bl mg) (O_check_difference : Own P w K mg base (L2.CX P w) 5 "check_difference" ["text", "cuts"] (spX2 difPre2 (chkOut C C2 .none))) : FnOk P w K mg base (L2.CX P w) 6 f fd ["text", "cuts"] (spX2 cutPre2 (twoOut C C2 fun a b => .list (madeL (tsOf a) 0 (itemsD b)))) := by
  refine okX2 F sc_cut_text (by decide) fun cdv A outer s H E X d1 d2 Q hr t hp q => ⟨_, (pss_cons (ps_expr (pe_ownX O_check_difference hr (by decide) (takes_of rfl rfl rfl rfl) (by rfl) (pa_cons (pv 0) (pa_cons (pv 1) pa_nil))))
    (pss_cons (ps_set (i := 2) sc_cut_text.nd rfl (by first | exact Or.inl rfl | exact Or.inr rfl) (pe_lst pa_nil))
    (pss_cons (ps_set (i := 3) sc_cut_text.nd rfl (by first | exact Or.inl rfl | exact Or.inr rfl) pe_int)
    (pss_cons (ps_for (passes_of rfl) rfl (pi_seq (pv 1)) (pg_any (n := 3) rfl (pgs_cons (pg_name (i := 4) sc_cut_text.nd rfl (by first | exact Or.inl rfl | exact Or.inr rfl)) (pgs_cons (pg_name (i := 5) sc_cut_text.nd rfl (by first | exact Or.inl rfl | exact Or.inr rfl)) (pgs_cons (pg_name (i := 6) sc_cut_text.nd rfl (by first | exact Or.inl rfl | exact Or.inr rfl)) pgs_nil))))
    (pss_cons (ps_expr (pe_bm PySem.F.plainAttrs_list PySem.F.slot_list_extend PySem.F.type_list_extend mt_extend (pv 2) (pa_cons (pe_op op_addA (pe_callTy call_list_of (by rfl) T.b_list boot_list (pa_cons (pe_slice sl_list (pv 0) (po_some (pv 3)) (po_some (pv 4))) pa_nil)) (pe_callTy call_list_of (by rfl) T.b_list boot_list (pa_cons (pv 6) pa_nil))) pa_nil)))
    (pss_one (ps_set (i := 3) sc_cut_text.nd rfl (by first | exact Or.inl rfl | exact Or.inr rfl) (pe_op op_addA (pv 4) (pv 5))))))
    (pss_one (ps_ret (pe_op op_addA (pv 2) (pe_callTy call_list_of (by rfl) T.b_list boot_list (pa_cons (pe_slice sl_list (pv 0) (po_some (pv 3)) po_none) pa_nil))))))))), fun σ En => ?_⟩
  obtain ⟨hp, hv⟩ := hp
  refine c_check t (g_var (i := 0) En rfl) (g_var (i := 1) En rfl) hp q fun hn hd H1 s1 => ?_
  obtain ⟨⟨ts, rfl, lts⟩, lit, lws⟩ := hv hn hd
  have hs : isSeq d2 = true := by
    cases h : isSeq d2 with
    | true => rfl
    | false => simp [isDiffD, h] at hd
  have hc : ∀ z ∈ itemsD d2, isCutD z = true := by
    simp only [isDiffD, Bool.and_eq_true, List.all_eq_true] at hd
    exact hd.1.2
  have kv : ∀ w H', Same H1 H' → DX X H' w (.list (madeL ts 0 (itemsD d2))) → Nw H1 w → Q w H' := fun w H' s' dw nw => q.1 _ (by simp [twoOut, hn, hd, tsOf]) w H' (s1.trans s') dw (Nw.back s1 nw)
  have E1 := En.same s1
  have t1 := t.mono s1
  refine k_own (i := 2) E1 t1 (gn_lst t1 ga_nil (by simp)) fun L H2 xs2 f2 s2 h2 x2 E2 t2 => ?_
  refine q_set (i := 3) (d := .int 0) E2 g_int fun H3 v3 s3 E3 => ?_
  let X' : Addr → Prop := fun b => X b ∨ b = L
  have t3 : Trk X' H3 := t2.mono s3
  have nX : ¬ X L := t1.new f2
  let Γ (come : Int) : List Sv := [.dat (.list ts), .dat d2, .val (.ref L), .dat (.int come), .un, .un, .un]
  refine s_forD (X := X') (gi_seq (g_var (i := 1) (d := d2) E3 rfl) hs) (fun Hb i σ' H' => Kp X' Hb H' ∧ Trk X' H' ∧ Same H1 H' ∧ ∃ (acc : List PyData) (come : Int) (xs : List V), H' L = some (.lst xs) ∧ DXs X' H' xs acc ∧ acc.length ≤ i * 2000 ∧ acc ++ madeL ts come ((itemsD d2).drop i) = madeL ts 0 (itemsD d2) ∧ EnvOk X' H' σ' (Γ come)) ?_ ?_ ?_ ?_
  · intro Hb sb
    refine ⟨Kp.refl, t3.mono sb, (s2.trans s3).trans sb, [], 0, xs2, sb _ _ (s3 _ _ h2), ?_, by simp, rfl, E3.same sb⟩
    cases x2
    exact .nil
  · rintro Hb i σ' H' ⟨p1, p2, _⟩
    exact ⟨p1, p2⟩
  · rintro Hb i x d σ' H' H'' sb hdi ⟨p1, p2, p3, acc, come, xs, p4, p5, p6, p7, E⟩ s5 dx
    have hm := List.mem_of_getElem? hdi
    obtain ⟨c1, p, m, dd, c2, p0, m0, c3, c4, c5, c6⟩ := cut_parts (hc d hm)
    have hi := (List.getElem?_eq_some_iff.mp hdi).1
    have edrop : (itemsD d2).drop i = d :: (itemsD d2).drop (i + 1) := by
      rw [List.drop_eq_getElem_cons hi, (List.getElem?_eq_some_iff.mp hdi).2]
    have lw := lws d hm
    rw [c6] at lw
    refine g_any3 dx c1 c2 fun u v z q1 q2 q3 => ?_
    have E5 := (((E.same s5).set (i := 4) q1).set (i := 5) q2).set (i := 6) q3
    have t5 := p2.mono s5
    have lc := cutPD_len ts (some come) (some p)
    refine q_extend (i := 2) (L := L) (es := cutPD ts (some come) (some p) ++ itemsD dd) E5 rfl (.inr rfl) t5 (s5 _ _ p4) (p5.mono (Kp.of s5)) (g_cat t5 (g_listOf t5 (g_sl t5 (g_var (i := 0) (d := .list ts) E5 rfl) (go_some (g_var (i := 3) E5 rfl)) (go_some (g_var (i := 4) E5 rfl))) rfl) (g_listOf t5 (g_var (i := 6) E5 rfl) c3) (by show (cutPD ts (some come) (some p)).length + _ ≤ _; omega)) (by rw [List.length_append]; omega) fun H6 ys h6 x6 E6 t6 k6 => ?_
    have kx : Kp X' H'' H6 := fun a o n e => k6 a o (fun z => n (.inr z)) e
    have same6 : Same H1 H6 := fun a o e => by
      have n1 : a ≠ L := fun z => by rw [z, f2] at e; cases e
      exact k6 a o n1 (s5 a o (p3 a o e))
    refine (g_addI t6 (g_var (i := 4) E6 rfl) (g_var (i := 5) E6 rfl)) H6 (Same.refl _) _ fun w7 H7 s7 d7 => ?_
    refine ⟨((p1.trans (Kp.of s5)).trans kx).trans (Kp.of s7), t6.mono s7, same6.trans s7, acc ++ (cutPD ts (some come) (some p) ++ itemsD dd), p + m, ys, s7 _ _ h6, x6.mono (Kp.of s7), by rw [List.length_append, List.length_append]; omega, ?_, envUn' (envUn' (envUn' ((E6.same s7).set (i := 3) d7) 4) 5) 6⟩
    rw [← p7, edrop, madeL, c4, c5, c6, List.append_assoc]
  · rintro Hb σ' H' sb ⟨p1, p2, p3, acc, come, xs, p4, p5, p6, p7, E⟩
    rw [List.drop_length, madeL] at p7
    have E8 := E.give (i := 2) rfl nX p4 p5
    have t8 : Trk X H' := t1.mono p3
    have lc := cutPD_len ts (some come) none
    refine s_retN (X := X) (D := { nx := fun _ H' => Q .non H', rt := Q }) (gn_cat t8 (g_var (i := 2) E8 rfl) (g_listOf t8 (g_sl t8 (g_var (i := 0) (d := .list ts) E8 rfl) (go_some (g_var (i := 3) E8 rfl)) go_none) rfl) (by show _ + (cutPD ts (some come) none).length ≤ _; omega)) fun w H9 s9 dw nw => kv w H9 (p3.trans s9) ?_ (Nw.back p3 nw)
    rw [← p7]
    exact dw
abbrev s_turned_round : Stmt := topS 21
abbrev n_turned_round : List Str := ["text", "cuts", "turned_cuts", "more", "place", "many", "words"]
theorem sc_turned_round : FnScope n_turned_round ["text", "cuts"] (defScope s_turned_round) := ⟨rfl, rfl, rfl, by decide +kernel, rfl, by decide +kernel, by decide +kernel⟩
theorem ok_turned_round {f C C2 : Addr} {fd : FuncData} (F : Fun K "turned_round" "turned_round" s_turned_round f fd) (T : Bl mg) (O_check_difference : Own P w K mg base (L2.CX P w) 5 "check_difference" ["text", "cuts"] (spX2 difPre2 (chkOut C C2 .none))) : FnOk P w K mg base (L2.CX P w) 6 f fd ["text", "cuts"] (spX2 cutPre2 (twoOut C C2 fun a b => .list (backL (tsOf a) 0 (itemsD b)))) := by
  refine okX2 F sc_turned_round (by decide) fun cdv A outer s H E X d1 d2 Q hr t hp q => ⟨_, (pss_cons (ps_expr (pe_ownX O_check_difference hr (by decide) (takes_of rfl rfl rfl rfl) (by rfl) (pa_cons (pv 0) (pa_cons (pv 1) pa_nil))))
    (pss_cons (ps_set (i := 2) sc_turned_round.nd rfl (by first | exact Or.inl rfl | exact Or.inr rfl) (pe_lst pa_nil))
    (pss_cons (ps_set (i := 3) sc_turned_round.nd rfl (by first | exact Or.inl rfl | exact Or.inr rfl) pe_int)
    (pss_cons (ps_for (passes_of rfl) rfl (pi_seq (pv 1)) (pg_any (n := 3) rfl (pgs_cons (pg_name (i := 4) sc_turned_round.nd rfl (by first | exact Or.inl rfl | exact Or.inr rfl)) (pgs_cons (pg_name (i := 5) sc_turned_round.nd rfl (by first | exact Or.inl rfl | exact Or.inr rfl)) (pgs_cons (pg_name (i := 6) sc_turned_round.nd rfl (by first | exact Or.inl rfl | exact Or.inr rfl)) pgs_nil))))
    (pss_cons (ps_expr (pe_bm PySem.F.plainAttrs_list PySem.F.slot_list_append PySem.F.type_list_append mt_append (pv 2) (pa_cons (pe_tup (pa_cons (pe_op op_addA (pv 4) (pv 3)) (pa_cons (pe_callB call_len (by rfl) T.b_len boot_len (pa_cons (pv 6) pa_nil)) (pa_cons (pe_callTy call_list_of (by rfl) T.b_list boot_list (pa_cons (pe_slice sl_list (pv 0) (po_some (pv 4)) (po_some (pe_op op_addA (pv 4) (pv 5)))) pa_nil)) pa_nil)))) pa_nil)))
    (pss_one (ps_set (i := 3) sc_turned_round.nd rfl (by first | exact Or.inl rfl | exact Or.inr rfl) (pe_op op_sub (pe_op op_addA (pv 3) (pe_callB call_len (by rfl) T.b_len boot_len (pa_cons (pv 6) pa_nil))) (pv 5))))))
    (pss_one (ps_ret (pv 2))))))), fun σ En => ?_⟩
  obtain ⟨hp, hv⟩ := hp
  refine c_check t (g_var (i := 0) En rfl) (g_var (i := 1) En rfl) hp q fun hn hd H1 s1 => ?_
  obtain ⟨⟨ts, rfl, lts⟩, lit, lws⟩ := hv hn hd
  have hs : isSeq d2 = true := by
    cases h : isSeq d2 with
    | true => rfl
    | false => simp [isDiffD, h] at hd
  have hc : ∀ z ∈ itemsD d2, isCutD z = true := by
    simp only [isDiffD, Bool.and_eq_true, List.all_eq_true] at hd
    exact hd.1.2
  have kv : ∀ w H', Same H1 H' → DX X H' w (.list (backL ts 0 (itemsD d2))) → Nw H1 w → Q w H' := fun w H' s' dw nw => q.1 _ (by simp [twoOut, hn, hd, tsOf]) w H' (s1.trans s') dw (Nw.back s1 nw)
  have E1 := En.same s1
  have t1 := t.mono s1
  refine k_own (i := 2) E1 t1 (gn_lst t1 ga_nil (by simp)) fun L H2 xs2 f2 s2 h2 x2 E2 t2 => ?_
  refine q_set (i := 3) (d := .int 0) E2 g_int fun H3 v3 s3 E3 => ?_
  let X' : Addr → Prop := fun b => X b ∨ b = L
  have t3 : Trk X' H3 := t2.mono s3
  have nX : ¬ X L := t1.new f2
  let Γ (more : Int) : List Sv := [.dat (.list ts), .dat d2, .val (.ref L), .dat (.int more), .un, .un, .un]
  refine s_forD (X := X') (gi_seq (g_var (i := 1) (d := d2) E3 rfl) hs) (fun Hb i σ' H' => Kp X' Hb H' ∧ Trk X' H' ∧ Same H1 H' ∧ ∃ (acc : List PyData) (more : Int) (xs : List V), H' L = some (.lst xs) ∧ DXs X' H' xs acc ∧ acc.length = i ∧ acc ++ backL ts more ((itemsD d2).drop i) = backL ts 0 (itemsD d2) ∧ EnvOk X' H' σ' (Γ more)) ?_ ?_ ?_ ?_
  · intro Hb sb
    refine ⟨Kp.refl, t3.mono sb, (s2.trans s3).trans sb, [], 0, xs2, sb _ _ (s3 _ _ h2), ?_, rfl, rfl, E3.same sb⟩
    cases x2
    exact .nil
  · rintro Hb i σ' H' ⟨p1, p2, _⟩
    exact ⟨p1, p2⟩
  · rintro Hb i x d σ' H' H'' sb hdi ⟨p1, p2, p3, acc, more, xs, p4, p5, p6, p7, E⟩ s5 dx
    have hm := List.mem_of_getElem? hdi
    obtain ⟨c1, p, m, dd, c2, p0, m0, c3, c4, c5, c6⟩ := cut_parts (hc d hm)
    have hi := (List.getElem?_eq_some_iff.mp hdi).1
    have edrop : (itemsD d2).drop i = d :: (itemsD d2).drop (i + 1) := by
      rw [List.drop_eq_getElem_cons hi, (List.getElem?_eq_some_iff.mp hdi).2]
    refine g_any3 dx c1 c2 fun u v z q1 q2 q3 => ?_
    have E5 := (((E.same s5).set (i := 4) q1).set (i := 5) q2).set (i := 6) q3
    have t5 := p2.mono s5
    have gl : ∀ {H1 : Hp} {σ : L2.St} {Γ' : List Sv}, EnvOk X' H1 σ Γ' → Γ'[6]? = some (.dat dd) → Trk X' H1 → G X' (tCB (fun xs H Q => ∃ x n, xs = [x] ∧ LenV K x H n ∧ Q (V.int n) H) (tCons (tVar 6) tNil)) σ H1 (.int ((itemsD dd).length : Int)) := fun E e t => g_is (g_len t (g_var (i := 6) E e) (hasLen_seq c3)) (by rw [lenD_seq c3])
    refine q_append (i := 2) (L := L) (d := .tuple [.int (p + more), .int ((itemsD dd).length : Int), .list (cutPD ts (some p) (some (p + m)))]) E5 rfl (.inr rfl) t5 (s5 _ _ p4) (p5.mono (Kp.of s5)) (g_tup t5 (ga_cons (g_addI t5 (g_var (i := 4) E5 rfl) (g_var (i := 3) E5 rfl)) (ga_cons (gl E5 rfl t5) (ga_cons (g_is (g_listOf t5 (g_sl t5 (g_var (i := 0) (d := .list ts) E5 rfl) (go_some (g_var (i := 4) E5 rfl)) (go_some (g_addI t5 (g_var (i := 4) E5 rfl) (g_var (i := 5) E5 rfl)))) rfl) rfl) ga_nil))) (by simp)) (by omega) fun H6 ys h6 x6 E6 t6 k6 => ?_
    have kx : Kp X' H'' H6 := fun a o n e => k6 a o (fun z => n (.inr z)) e
    have same6 : Same H1 H6 := fun a o e => by
      have n1 : a ≠ L := fun z => by rw [z, f2] at e; cases e
      exact k6 a o n1 (s5 a o (p3 a o e))
    refine (g_sub t6 (g_addI t6 (g_var (i := 3) E6 rfl) (gl E6 rfl t6)) (g_var (i := 5) E6 rfl)) H6 (Same.refl _) _ fun w7 H7 s7 d7 => ?_
    refine ⟨((p1.trans (Kp.of s5)).trans kx).trans (Kp.of s7), t6.mono s7, same6.trans s7, acc ++ [.tuple [.int (p + more), .int ((itemsD dd).length : Int), .list (cutPD ts (some p) (some (p + m)))]], more + ((itemsD dd).length : Int) - m, ys, s7 _ _ h6, x6.mono (Kp.of s7), by rw [List.length_append, p6]; rfl, ?_, envUn' (envUn' (envUn' ((E6.same s7).set (i := 3) d7) 4) 5) 6⟩
    rw [← p7, edrop, backL, c4, c5, c6, List.append_assoc]
    rfl
  · rintro Hb σ' H' sb ⟨p1, p2, p3, acc, more, xs, p4, p5, p6, p7, E⟩
    rw [List.drop_length, backL, List.append_nil] at p7
    exact ⟨.ref L, E.get 2 (.val (.ref L)) rfl, kv _ H' p3 (p7 ▸ .lst nX p4 (DXs.less (fun a h => .inl h) p5)) (Nw.of f2)⟩
end K53

/-! min(xs, default=d), max(xs, default=d): whole numbers. -/
namespace KD
open PySem PySem.W PySem.Spec PyProof.Rows L2
def leastD (d : Int) : List Int → Int
  | [] => d
  | n :: ns => ns.foldl min n
def mostD (d : Int) : List Int → Int
  | [] => d
  | n :: ns => ns.foldl max n
def rMinDef (K : PySem.W.Frag) (g : Int → List Int → Int) : List V → List V → Hp → VK → Prop := fun xs zs H Q => ∃ (a : Addr) (ns : List Int) (d : Int), xs = [.ref a] ∧ zs = [.int d] ∧ SqL K H a (ns.map V.int) ∧ Q (.int (g d ns)) H
section
variable {X : Cx}
theorem ints_alike (ns : List Int) : AlikeAll (ns.map PyData.int) := by
  refine ⟨fun x hx y hy => ?_, fun x hx => ?_⟩
  · obtain ⟨i, _, rfl⟩ := List.mem_map.mp hx
    obtain ⟨j, _, rfl⟩ := List.mem_map.mp hy
    rfl
  · obtain ⟨i, _, rfl⟩ := List.mem_map.mp hx
    simp
theorem ints_reads (h : Heap) : ∀ (ns : List Int) (us : List Value), Vals (ns.map V.int) us → ReadsAll h us (ns.map PyData.int) []
  | [], _, .nil => .nil
  | n :: ns, _, .cons ⟨t, e⟩ r => by
    subst e
    exact .cons (as := []) (.int n t) (ints_reads h ns _ r)
theorem ints_depth : ∀ ns : List Int, PyData.depthAll (ns.map PyData.int) ≤ 1
  | [] => by simp [PyData.depthAll]
  | n :: ns => by
    have := ints_depth ns
    rw [List.map_cons, PyData.depthAll]
    have e : (PyData.int n).depth = 0 := by simp [PyData.depth]
    omega
theorem cr_minDef (hc : X.calm = true) (hu : X.A.units + 64 < cLine) : CallRK X (.builtin "min") [Str.ofString "default"] (rMinDef X.K leastD) := by
  intro pins s σ H vs zs us ws Q I r rz h
  obtain ⟨a, ns, d, rfl, rfl, hs, q⟩ := h
  obtain rfl := Vals.ref1 r
  obtain ⟨w1, rfl, t1, e1⟩ := vals1 rz
  subst e1
  obtain ⟨its, rv, hl, _⟩ := I.list hs
  have hd := ints_depth ns
  refine min_list_default (I.ok.hd hc) hl.isList (by simpa using ints_reads s.heap ns its rv) (ints_alike ns) (by omega) (fun e h' tk hk => ?_) fun y ys i v h' tk bs e hv hr hk => ?_
  · have e2 : ns = [] := List.map_eq_nil_iff.mp e
    subst e2
    exact ⟨.int d, H, I.kept hk, ⟨_, rfl⟩, q⟩
  · match ns, e with
    | n :: ns, e =>
      rw [List.map_cons] at e
      cases e
      rw [minD_ints] at hr
      cases hr
      exact ⟨.int _, H, I.kept hk, ⟨_, rfl⟩, q⟩
theorem cr_maxDef (hc : X.calm = true) (hu : X.A.units + 64 < cLine) : CallRK X (.builtin "max") [Str.ofString "default"] (rMinDef X.K mostD) := by
  intro pins s σ H vs zs us ws Q I r rz h
  obtain ⟨a, ns, d, rfl, rfl, hs, q⟩ := h
  obtain rfl := Vals.ref1 r
  obtain ⟨w1, rfl, t1, e1⟩ := vals1 rz
  subst e1
  obtain ⟨its, rv, hl, _⟩ := I.list hs
  have hd := ints_depth ns
  refine max_list_default (I.ok.hd hc) hl.isList (by simpa using ints_reads s.heap ns its rv) (ints_alike ns) (by omega) (fun e h' tk hk => ?_) fun y ys i v h' tk bs e hv hr hk => ?_
  · have e2 : ns = [] := List.map_eq_nil_iff.mp e
    subst e2
    exact ⟨.int d, H, I.kept hk, ⟨_, rfl⟩, q⟩
  · match ns, e with
    | n :: ns, e =>
      rw [List.map_cons] at e
      cases e
      rw [maxD_ints] at hr
      cases hr
      exact ⟨.int _, H, I.kept hk, ⟨_, rfl⟩, q⟩
end
theorem cr_minDefK {X : Cx} {K : PySem.W.Frag} (h : X.K = K) (hc : X.calm = true) (hu : X.A.units + 64 < cLine) : CallRK X (.builtin "min") [Str.ofString "default"] (rMinDef K leastD) := h ▸ cr_minDef hc hu
section
variable {X : Addr → Prop} {H : Hp} {σ : L2.St} {te td : TE} {K : PySem.W.Frag} {ns : List Int} {d : Int} {g : Int → List Int → Int}
theorem g_minDef (h : G X te σ H (.list (ns.map PyData.int))) (h2 : G X td σ H (.int d)) : G X (tCKw (rMinDef K g) (tCons te tNil) (tCons td tNil)) σ H (.int (g d ns)) := fun H1 s Q q =>
  h H1 s _ fun v H2 s2 r => h2 H2 (s.trans s2) _ fun w H3 s3 r3 => by
    obtain ⟨a, vs, rfl, _, ha, rv⟩ := (r.mono (Kp.of s3)).lst_inv
    exact ⟨a, ns, d, rfl, by rw [r3.int_inv], SqL.of (by rw [← rv.ints]; exact ha), q _ H3 (s2.trans s3) (.int _)⟩
end
theorem foldl_least : ∀ (ns : List Int) (n : Int), ns.foldl min n ∈ n :: ns ∧ ∀ y ∈ n :: ns, ns.foldl min n ≤ y
  | [], n => ⟨List.mem_cons_self, fun y hy => by rw [List.mem_singleton.mp hy]; exact Int.le_refl _⟩
  | m :: ms, n => by
    obtain ⟨a, b⟩ := foldl_least ms (min n m)
    have e : (m :: ms).foldl min n = ms.foldl min (min n m) := rfl
    rw [e]
    refine ⟨?_, fun y hy => ?_⟩
    · rcases List.mem_cons.mp a with h | h
      · rw [h]
        by_cases c : n ≤ m
        · rw [Int.min_eq_left c]
          exact List.mem_cons_self
        · rw [Int.min_eq_right (by omega)]
          exact .tail _ List.mem_cons_self
      · exact .tail _ (.tail _ h)
    · have b0 := b (min n m) List.mem_cons_self
      rcases List.mem_cons.mp hy with rfl | hy
      · omega
      · rcases List.mem_cons.mp hy with rfl | hy
        · omega
        · exact b y (.tail _ hy)
theorem least_is {d : Int} : ∀ {ns : List Int}, ns ≠ [] → leastD d ns ∈ ns ∧ ∀ y ∈ ns, leastD d ns ≤ y
  | [], h => absurd rfl h
  | n :: ns, _ => foldl_least ns n
end KD

/-! The costs, cell by cell from the end. -/
namespace KL
def leastN : List Nat → Nat
  | [] => 0
  | n :: ns => ns.foldl min n
theorem foldl_cast : ∀ (ns : List Nat) (n : Nat), (ns.map fun (x : Nat) => (x : Int)).foldl min (n : Int) = ((ns.foldl min n : Nat) : Int)
  | [], n => rfl
  | m :: ms, n => by
    show (ms.map fun (x : Nat) => (x : Int)).foldl min (min (n : Int) (m : Int)) = ((ms.foldl min (min n m) : Nat) : Int)
    rw [show min (n : Int) (m : Int) = ((min n m : Nat) : Int) by omega]
    exact foldl_cast ms (min n m)
theorem leastD_nat : ∀ ns : List Nat, KD.leastD 0 (ns.map fun (x : Nat) => (x : Int)) = (leastN ns : Int)
  | [] => rfl
  | n :: ns => foldl_cast ns n
theorem leastN_is {ns : List Nat} (h : ns ≠ []) : leastN ns ∈ ns ∧ ∀ y ∈ ns, leastN ns ≤ y := by
  have hne : (ns.map fun (x : Nat) => (x : Int)) ≠ [] := by simpa using h
  obtain ⟨a, b⟩ := KD.least_is (d := 0) hne
  rw [leastD_nat] at a b
  refine ⟨?_, fun y hy => ?_⟩
  · obtain ⟨x, hx, e⟩ := List.mem_map.mp a
    have : x = leastN ns := by omega
    exact this ▸ hx
  · have := b (y : Int) (List.mem_map.mpr ⟨y, hy, rfl⟩)
    omega
section
variable (M : Nat → Nat → Bool) (n m h : Nat)
def cutL (c1 : Nat → Nat → Nat) (i j : Nat) : List Nat := (if i < n then [c1 (i + 1) j + h] else []) ++ (if j < m then [c1 i (j + 1) + h] else [])
def keepL (c0 : Nat → Nat → Nat) (i j : Nat) : List Nat := if i < n ∧ j < m ∧ M i j = true then [c0 (i + 1) (j + 1)] else []
def kst (i j : Nat) : Nat × Nat :=
  let cut := (if _ : i < n then [(kst (i + 1) j).2 + h] else []) ++ (if _ : j < m then [(kst i (j + 1)).2 + h] else [])
  let keep := if _ : i < n ∧ j < m ∧ M i j = true then [(kst (i + 1) (j + 1)).1] else []
  (leastN (keep ++ cut.map (· + 1)), leastN (keep ++ cut))
termination_by (n - i) + (m - j)
decreasing_by all_goals omega
def k0 (i j : Nat) : Nat := (kst M n m h i j).1
def k1 (i j : Nat) : Nat := (kst M n m h i j).2
theorem k0_is (i j : Nat) : k0 M n m h i j = leastN (keepL M n m (k0 M n m h) i j ++ (cutL n m h (k1 M n m h) i j).map (· + 1)) := by
  unfold k0
  rw [kst]
  rfl
theorem k1_is (i j : Nat) : k1 M n m h i j = leastN (keepL M n m (k0 M n m h) i j ++ cutL n m h (k1 M n m h) i j) := by
  unfold k1
  rw [kst]
  rfl
theorem cut_a {c1 : Nat → Nat → Nat} {i j : Nat} (hi : i < n) : c1 (i + 1) j + h ∈ cutL n m h c1 i j := by
  unfold cutL
  rw [if_pos hi]
  exact List.mem_cons_self
theorem cut_b {c1 : Nat → Nat → Nat} {i j : Nat} (hj : j < m) : c1 i (j + 1) + h ∈ cutL n m h c1 i j := by
  unfold cutL
  rw [if_pos hj]
  exact List.mem_append_right _ List.mem_cons_self
theorem cut_mem {c1 : Nat → Nat → Nat} {i j x : Nat} (hx : x ∈ cutL n m h c1 i j) : (i < n ∧ x = c1 (i + 1) j + h) ∨ (j < m ∧ x = c1 i (j + 1) + h) := by
  unfold cutL at hx
  rcases List.mem_append.mp hx with q | q
  · split at q
    · rename_i hi
      exact .inl ⟨hi, List.mem_singleton.mp q⟩
    · cases q
  · split at q
    · rename_i hj
      exact .inr ⟨hj, List.mem_singleton.mp q⟩
    · cases q
theorem keep_mem {c0 : Nat → Nat → Nat} {i j x : Nat} (hx : x ∈ keepL M n m c0 i j) : i < n ∧ j < m ∧ M i j = true ∧ x = c0 (i + 1) (j + 1) := by
  unfold keepL at hx
  split at hx
  · rename_i hc
    exact ⟨hc.1, hc.2.1, hc.2.2, List.mem_singleton.mp hx⟩
  · cases hx
theorem keep_is {c0 : Nat → Nat → Nat} {i j : Nat} (hi : i < n) (hj : j < m) (hM : M i j = true) : c0 (i + 1) (j + 1) ∈ keepL M n m c0 i j := by
  unfold keepL
  rw [if_pos ⟨hi, hj, hM⟩]
  exact List.mem_cons_self
theorem kst_cost : Cost M n m h (k0 M n m h) (k1 M n m h) := by
  have mem0 : ∀ {x i j}, x ∈ cutL n m h (k1 M n m h) i j → k0 M n m h i j ≤ x + 1 ∧ k1 M n m h i j ≤ x := fun {x i j} hx => by
    have a : x + 1 ∈ keepL M n m (k0 M n m h) i j ++ (cutL n m h (k1 M n m h) i j).map (· + 1) := List.mem_append_right _ (List.mem_map.mpr ⟨x, hx, rfl⟩)
    have b : x ∈ keepL M n m (k0 M n m h) i j ++ cutL n m h (k1 M n m h) i j := List.mem_append_right _ hx
    rw [k0_is, k1_is]
    exact ⟨(leastN_is (List.ne_nil_of_mem a)).2 _ a, (leastN_is (List.ne_nil_of_mem b)).2 _ b⟩
  have ne : ∀ {i j}, i < n ∨ j < m → cutL n m h (k1 M n m h) i j ≠ [] := fun {i j} he => by
    rcases he with he | he
    · exact List.ne_nil_of_mem (cut_a n m h he)
    · exact List.ne_nil_of_mem (cut_b n m h he)
  refine ⟨?_, ?_, fun i j hi hj => ?_, fun i j hi hj => ?_, fun i j hi hj hM => ?_, fun i j hi hj he => ?_, fun i j hi hj he => ?_⟩
  · rw [k0_is]
    unfold keepL cutL
    simp [leastN]
  · rw [k1_is]
    unfold keepL cutL
    simp [leastN]
  · have := mem0 (cut_a n m h (c1 := k1 M n m h) (j := j) hi)
    omega
  · have := mem0 (cut_b n m h (c1 := k1 M n m h) (i := i) hj)
    omega
  · have q := keep_is M n m (c0 := k0 M n m h) hi hj hM
    have a : _ ∈ keepL M n m (k0 M n m h) i j ++ (cutL n m h (k1 M n m h) i j).map (· + 1) := List.mem_append_left _ q
    have b : _ ∈ keepL M n m (k0 M n m h) i j ++ cutL n m h (k1 M n m h) i j := List.mem_append_left _ q
    rw [k0_is M n m h i j, k1_is M n m h i j]
    exact ⟨(leastN_is (List.ne_nil_of_mem b)).2 _ b, (leastN_is (List.ne_nil_of_mem a)).2 _ a⟩
  · have hne : keepL M n m (k0 M n m h) i j ++ cutL n m h (k1 M n m h) i j ≠ [] := by
      intro e
      exact ne he (List.append_eq_nil_iff.mp e).2
    have q := (leastN_is hne).1
    rw [← k1_is] at q
    rcases List.mem_append.mp q with q | q
    · obtain ⟨a, b, c, d⟩ := keep_mem M n m q
      exact .inr (.inr ⟨a, b, c, d⟩)
    · rcases cut_mem n m h q with q | q
      · exact .inl q
      · exact .inr (.inl q)
  · have hne : keepL M n m (k0 M n m h) i j ++ (cutL n m h (k1 M n m h) i j).map (· + 1) ≠ [] := by
      intro e
      exact ne he (List.map_eq_nil_iff.mp (List.append_eq_nil_iff.mp e).2)
    have q := (leastN_is hne).1
    rw [← k0_is] at q
    rcases List.mem_append.mp q with q | q
    · obtain ⟨a, b, c, d⟩ := keep_mem M n m q
      exact .inr (.inr ⟨a, b, c, d⟩)
    · obtain ⟨x, hx, e⟩ := List.mem_map.mp q
      rcases cut_mem n m h hx with ⟨a, b⟩ | ⟨a, b⟩
      · exact .inl ⟨a, by omega⟩
      · exact .inr (.inl ⟨a, by omega⟩)
end
end KL

/-! The costs from the end. -/
namespace K53
open PySem PySem.Spec PyProof.Rows L2 KD KL
variable {P : Program} {w : World} {K : PySem.W.Frag} {mg : Str → Option Value} {base : Heap}
def revD (n : Nat) : List PyData := (List.range n).map fun (k : Nat) => PyData.int ((n : Int) - 1 - (k : Int))
theorem revD_len {n : Nat} : (revD n).length = n := by unfold revD; rw [List.length_map, List.length_range]
theorem revD_get {n k : Nat} (h : k < n) : (revD n)[k]? = some (.int ((n : Int) - 1 - (k : Int))) := by
  unfold revD
  rw [List.getElem?_map, List.getElem?_range h]
  rfl
/-- a text as it is passed -/
structure Txt (d : PyData) (ws : List Str) : Prop where
  seq : isSeq d = true
  its : itemsD d = ws.map PyData.str
  few : ws.length ≤ 60
  ok : ∀ z ∈ ws, PyData.strOk z = true
theorem Txt.len {d : PyData} {ws : List Str} (T : Txt d ws) : lenD d = ws.length := by rw [lenD_seq T.seq, T.its, List.length_map]
section
variable {X : Addr → Prop} {H : Hp} {σ : L2.St} {Γ : List Sv} {te ta tb : TE} {D p : Addr} {kvs : List (List Key × V)} {s : Nat} {i j a b : Int}
theorem gi_revR {n : Nat} (h : G X te σ H (.int (n : Int))) (hn : n ≤ 1000000) : GI X (iRevR (tRg1 te)) σ H (revD n) := fun H1 s R r => h H1 s _ fun v H2 s2 rv => by
  rw [rv.int_inv]
  refine ⟨(n : Int), rfl, by omega, by omega, by omega, by omega, ?_⟩
  rw [show ((n : Int) - 0).toNat = n by omega]
  refine r _ H2 s2 ⟨_, fun i H x H' => (YFn fun i => V.int (0 + ((n : Nat) : Int) - 1 + (i : Nat) * (-1))) i H x H' ∧ i < n, ?_, fun X' m H3 k t => ⟨trivial, fun i x H4 y => ?_⟩⟩
  · rw [revD_len]
    exact ⟨fun _ _ hi _ => hi, fun _ _ => Nat.le_refl _, fun _ _ _ _ hi _ y => ⟨y, hi⟩⟩
  · obtain ⟨⟨rfl, rfl⟩, hi⟩ := y
    refine ⟨Same.refl _, _, revD_get hi, ?_⟩
    show DX X' _ (V.int ((0 : Int) + (n : Int) - 1 + (i : Int) * (-1))) _
    rw [show (0 : Int) + (n : Int) - 1 + (i : Int) * (-1) = (n : Int) - 1 - (i : Int) by omega]
    exact .int _
theorem g_cell (En : EnvOk X H σ Γ) (hi : Γ[s]? = some (.val (.ref D))) (hD : H D = some (.dT kvs)) (hc : valV kvs [.inl i, .inl j] = some (.ref p)) (hp : H p = some (.tup [.int a, .int b])) (nX : ¬ X p) (t : Trk X H) (ha : G X ta σ H (.int i)) (hb : G X tb σ H (.int j)) :
    G X (tDGet (tVar s) (tTup (tCons ta (tCons tb tNil)))) σ H (.tuple [.int a, .int b]) := fun H1 s1 Q q =>
  ⟨_, En.get _ _ hi, ha H1 s1 _ fun u H2 s2 r2 => hb H2 (s1.trans s2) _ fun v H3 s3 r3 => ⟨by show 2 ≤ sizeLine; decide, fun y hy => by
    rw [r2.int_inv, r3.int_inv]
    have s4 : Same H1 (upd H3 y (.tup [.int i, .int j])) := (s2.trans s3).trans (Same.upd hy)
    refine ⟨D, _, rfl, ?_, q _ _ s4 (.tup nX ((s1.trans s4) _ _ hp) (.cons (.int _) (.cons (.int _) .nil)))⟩
    rw [← hc]
    exact DGet.t (k := [.inl i, .inl j]) ((s1.trans s4) _ _ hD) upd_same⟩⟩
end
theorem k_nil {σ : L2.St} {H : Hp} {Qa : List V → Hp → Prop} (h : Qa [] H) : tNil σ H Qa := h
/-- the cells that are told -/
def Filled (X : Addr → Prop) (H : Hp) (ws vs : List Str) (kvs : List (List Key × V)) (S : Nat → Nat → Prop) : Prop :=
  ∀ i j, i ≤ ws.length → j ≤ vs.length → S i j → ∃ p, valV kvs [.inl (i : Int), .inl (j : Int)] = some (.ref p) ∧ H p = some (.tup [.int (k0 (Mw ws vs) ws.length vs.length (ws.length + vs.length + 1) i j : Int), .int (k1 (Mw ws vs) ws.length vs.length (ws.length + vs.length + 1) i j : Int)]) ∧ ¬ X p
theorem Filled.mono {X : Addr → Prop} {H H' : Hp} {ws vs : List Str} {kvs : List (List Key × V)} {S : Nat → Nat → Prop} (F : Filled X H ws vs kvs S) (k : ∀ a o, ¬ X a → (∃ xs, o = .tup xs) → H a = some o → H' a = some o) : Filled X H' ws vs kvs S := fun i j hi hj h => by
  obtain ⟨p, e1, e2, e3⟩ := F i j hi hj h
  exact ⟨p, e1, k _ _ e3 ⟨_, rfl⟩ e2, e3⟩
def spCosts : Sp := fun us H Q _ => ∃ (X : Addr → Prop) (v1 v2 : V) (d1 d2 : PyData) (ws vs : List Str), us = [v1, v2] ∧ Trk X H ∧ DX X H v1 d1 ∧ DX X H v2 d2 ∧ Txt d1 ws ∧ Txt d2 vs ∧ ∀ D kvs H', Same H H' → H D = none → H' D = some (.dT kvs) → Filled X H' ws vs kvs (fun _ _ => True) → Q (.ref D) H'
-- HINT least_costs dnew pe_dnewT
abbrev s_least_costs : Stmt := topS 18
abbrev n_least_costs : List Str := ["one", "other", "heavy", "costs", "i", "j", "cutting", "keeping", "cost"]
theorem sc_least_costs : FnScope n_least_costs ["one", "other"] (defScope s_least_costs) := ⟨rfl, rfl, rfl, by decide +kernel, rfl, by decide +kernel, by decide +kernel⟩
theorem ok_least_costs {f : Addr} {fd : FuncData} (F : Fun K "least_costs" "least_costs" s_least_costs f fd) (T : Bl mg) (b_reversed : mg "reversed" = none) : FnOk P w K mg base CX0 1 f fd ["one", "other"] spCosts := by
  refine F.ok sc_least_costs (fun vs H Q E h => ?_) (fun cdv A outer s H us Q E hr h => ?_)
  · obtain ⟨X, v1, v2, d1, d2, ws, vs, rfl, _⟩ := h
    rfl
  · obtain ⟨X, v1, v2, d1, d2, ws, vs, rfl, t, r1, r2, T1, T2, q⟩ := h
    refine ⟨_, (pss_cons (ps_set (i := 2) sc_least_costs.nd rfl (by first | exact Or.inl rfl | exact Or.inr rfl) (pe_op op_addA (pe_op op_addA (pe_callB call_len (by rfl) T.b_len boot_len (pa_cons (pv 0) pa_nil)) (pe_callB call_len (by rfl) T.b_len boot_len (pa_cons (pv 1) pa_nil))) pe_int))
    (pss_cons (ps_set (i := 3) sc_least_costs.nd rfl (by first | exact Or.inl rfl | exact Or.inr rfl) pe_dnewT)
    (pss_cons (ps_for PassesOwn.never rfl (pi_revR (by rfl) b_reversed (prg_1 (by rfl) T.b_range (pe_op op_addA (pe_callB call_len (by rfl) T.b_len boot_len (pa_cons (pv 0) pa_nil)) pe_int))) (pg_name (i := 4) sc_least_costs.nd rfl (by first | exact Or.inl rfl | exact Or.inr rfl))
    (pss_one (ps_for PassesOwn.never rfl (pi_revR (by rfl) b_reversed (prg_1 (by rfl) T.b_range (pe_op op_addA (pe_callB call_len (by rfl) T.b_len boot_len (pa_cons (pv 1) pa_nil)) pe_int))) (pg_name (i := 5) sc_least_costs.nd rfl (by first | exact Or.inl rfl | exact Or.inr rfl))
    (pss_cons (ps_set (i := 6) sc_least_costs.nd rfl (by first | exact Or.inl rfl | exact Or.inr rfl) (pe_lst pa_nil))
    (pss_cons (ps_set (i := 7) sc_least_costs.nd rfl (by first | exact Or.inl rfl | exact Or.inr rfl) (pe_lst pa_nil))
    (pss_cons (ps_if (pt_cmpR op_lt (pv 4) (pe_callB call_len (by rfl) T.b_len boot_len (pa_cons (pv 0) pa_nil)) (nomark _))
    (pss_one (ps_expr (pe_bm PySem.F.plainAttrs_list PySem.F.slot_list_append PySem.F.type_list_append mt_append (pv 6) (pa_cons (pe_op op_addA (pe_ix ix_seq (pe_dget (hu_of hr) (pv 3) (pe_tup (pa_cons (pe_op op_addA (pv 4) pe_int) (pa_cons (pv 5) pa_nil))) (fun _ _ => rfl)) pe_int (fun _ _ => rfl)) (pv 2)) pa_nil)))) pss_nil)
    (pss_cons (ps_if (pt_cmpR op_lt (pv 5) (pe_callB call_len (by rfl) T.b_len boot_len (pa_cons (pv 1) pa_nil)) (nomark _))
    (pss_one (ps_expr (pe_bm PySem.F.plainAttrs_list PySem.F.slot_list_append PySem.F.type_list_append mt_append (pv 6) (pa_cons (pe_op op_addA (pe_ix ix_seq (pe_dget (hu_of hr) (pv 3) (pe_tup (pa_cons (pv 4) (pa_cons (pe_op op_addA (pv 5) pe_int) pa_nil))) (fun _ _ => rfl)) pe_int (fun _ _ => rfl)) (pv 2)) pa_nil)))) pss_nil)
    (pss_cons (ps_if (PW.pt (pw_and (pt_cmpR op_lt (pv 4) (pe_callB call_len (by rfl) T.b_len boot_len (pa_cons (pv 0) pa_nil)) (nomark _)) (pw_and (pt_cmpR op_lt (pv 5) (pe_callB call_len (by rfl) T.b_len boot_len (pa_cons (pv 1) pa_nil)) (nomark _)) (pw_and1 (pt_cmpR (op_eqD hr.units) (pe_ix ix_seq (pv 0) (pv 4) (fun _ _ => rfl)) (pe_ix ix_seq (pv 1) (pv 5) (fun _ _ => rfl)) (nomark _))))))
    (pss_one (ps_expr (pe_bm PySem.F.plainAttrs_list PySem.F.slot_list_append PySem.F.type_list_append mt_append (pv 7) (pa_cons (pe_ix ix_seq (pe_dget (hu_of hr) (pv 3) (pe_tup (pa_cons (pe_op op_addA (pv 4) pe_int) (pa_cons (pe_op op_addA (pv 5) pe_int) pa_nil))) (fun _ _ => rfl)) pe_int (fun _ _ => rfl)) pa_nil)))) pss_nil)
    (pss_one (ps_dput (hu_of hr) (pv 3) (pe_tup (pa_cons (pv 4) (pa_cons (pv 5) pa_nil))) (pe_tup (pa_cons (pe_callBK (cr_minDef rfl hr.units) (by rfl) T.b_min boot_min (pa_cons (pe_op op_addA (pv 7) (pe_lc (own := [("cost", 8)]) (g := (gName 8)) (tt := tYes) rfl sc_least_costs.nd (pi_list (pv 6)) (blkOk_by (N := n_least_costs) (sc := defScope s_least_costs) (by decide +kernel)) (fun _ _ _ _ _ => (pg_name (i := 8) sc_least_costs.nd rfl (by first | exact Or.inl rfl | exact Or.inr rfl))) (fun _ _ _ _ _ => pts_nil) (fun _ _ _ _ _ => (pe_op op_addA (pv 8) pe_int)))) pa_nil) (pk_cons pe_int pk_nil)) (pa_cons (pe_callBK (cr_minDef rfl hr.units) (by rfl) T.b_min boot_min (pa_cons (pe_op op_addA (pv 7) (pv 6)) pa_nil) (pk_cons pe_int pk_nil)) pa_nil))) rfl))))))))))
    (pss_one (ps_ret (pv 3)))))), ?_⟩
    have En : EnvOk X H (L2.start n_least_costs [v1, v2]) [.dat d1, .dat d2, .un, .un, .un, .un, .un, .un, .un] := env2 (N := n_least_costs) r1 r2 (by decide)
    have w1 := T1.few
    have w2 := T2.few
    obtain ⟨h, hh⟩ : ∃ h : Nat, h = ws.length + vs.length + 1 := ⟨_, rfl⟩
    have len1 : ∀ {X H σ Γ}, Trk X H → EnvOk X H σ Γ → Γ[0]? = some (.dat d1) → G X (tCB (fun xs H Q => ∃ x n, xs = [x] ∧ LenV K x H n ∧ Q (V.int n) H) (tCons (tVar 0) tNil)) σ H (.int (ws.length : Int)) := fun t E e => g_is (g_len t (g_var E e) (hasLen_seq T1.seq)) (by rw [T1.len])
    have len2 : ∀ {X H σ Γ}, Trk X H → EnvOk X H σ Γ → Γ[1]? = some (.dat d2) → G X (tCB (fun xs H Q => ∃ x n, xs = [x] ∧ LenV K x H n ∧ Q (V.int n) H) (tCons (tVar 1) tNil)) σ H (.int (vs.length : Int)) := fun t E e => g_is (g_len t (g_var E e) (hasLen_seq T2.seq)) (by rw [T2.len])
    refine q_set (i := 2) (d := .int (h : Int)) En (g_is (g_addI t (g_addI t (len1 t En rfl) (len2 t En rfl)) g_int) (by rw [hh]; congr 1)) fun H1 v3 s1 E1 => ?_
    have t1 := t.mono s1
    refine k_set fun D hD => ?_
    have nX : ¬ X D := t1.new hD
    have s2 : Same H1 (upd H1 D (.dT [])) := Same.upd hD
    let X1 : Addr → Prop := fun b => X b ∨ b = D
    have t2 : Trk X1 (upd H1 D (.dT [])) := t1.one hD
    have h0 : H D = none := s1.free hD
    have E2 : EnvOk X1 (upd H1 D (.dT [])) _ [.dat d1, .dat d2, .dat (.int (h : Int)), .val (.ref D), .un, .un, .un, .un, .un] := ((E1.more (More.one hD)).same s2).setV (i := 3) (v := .ref D)
    let St (a b : Nat) : Nat → Nat → Prop := fun i j => ws.length < i + a ∨ (ws.length = i + a ∧ vs.length < j + b)
    let I (a b : Nat) (x y : Sv) : Hp → L2.St → Hp → Prop := fun Hb σ' H' => Kp X1 Hb H' ∧ Trk X1 H' ∧ Same H H' ∧ ∃ kvs, H' D = some (.dT kvs) ∧ kvs.length ≤ a * (vs.length + 1) + b ∧ Filled X H' ws vs kvs (St a b) ∧ EnvOk X1 H' σ' [.dat d1, .dat d2, .dat (.int (h : Int)), .val (.ref D), x, y, .un, .un, .un]
    refine s_forD (X := X1) (gi_revR (n := ws.length + 1) (g_is (g_addI t2 (len1 t2 E2 rfl) g_int) (by congr 1)) (by omega)) (fun Hb a σ' H' => I a 0 .un .un Hb σ' H') (fun Hb sb => ⟨Kp.refl, t2.mono sb, (s1.trans s2).trans sb, [], sb _ _ upd_same, by simp, fun i j hi hj h => by rcases h with h | h <;> omega, E2.same sb⟩) (fun Hb a σ' H' p => ⟨p.1, p.2.1⟩) ?_ ?_
    rotate_left
    · rintro Hb σ' H' sb ⟨p1, p2, p3, kvs, p4, p5, p6, E⟩
      rw [revD_len] at p6
      show tRet (tVar 3) { nx := fun _ H' => Q .non H', rt := Q } σ' H'
      exact ⟨_, E.get 3 _ rfl, q D kvs H' p3 h0 p4 fun i j hi hj _ => p6 i j hi hj (.inl (by omega))⟩
    rintro Hb a x d σ' H' H'' sb hd ⟨p1, p2, p3, kvs, p4, p5, p6, E⟩ s5 dx
    have la : a < ws.length + 1 := by
      have := (List.getElem?_eq_some_iff.mp hd).1
      rw [revD_len] at this
      exact this
    rw [revD_get la] at hd
    cases hd
    obtain ⟨i, hi⟩ : ∃ i : Nat, ws.length = i + a := ⟨ws.length - a, by omega⟩
    have ei : (((ws.length + 1 : Nat) : Int) - 1 - (a : Int)) = (i : Int) := by omega
    rw [ei] at dx
    refine k_name ?_
    have E5 := (E.same s5).set (i := 4) dx
    have t5 := p2.mono s5
    refine s_forD (X := X1) (gi_revR (n := vs.length + 1) (g_is (g_addI t5 (len2 t5 E5 rfl) g_int) (by congr 1)) (by omega)) (fun Hc b σ' H' => I a b (.dat (.int (i : Int))) .un Hc σ' H') (fun Hc sc => ⟨Kp.refl, t5.mono sc, (p3.trans s5).trans sc, kvs, (s5.trans sc) _ _ p4, p5, p6.mono fun a o _ _ e => (s5.trans sc) _ _ e, E5.same sc⟩) (fun Hc b σ' H' p => ⟨p.1, p.2.1⟩) ?_ ?_
    rotate_left
    · rintro Hc σ2 H2' sc ⟨r1, r2, r3, kvs', r4, r5, r6, E6⟩
      rw [revD_len] at r5 r6
      refine ⟨((p1.trans (Kp.of s5)).trans (Kp.of sc)).trans r1, r2, r3, kvs', r4, by rw [Nat.add_mul]; omega, fun i' j' hi' hj' h' => r6 i' j' hi' hj' ?_, envUn' E6 4⟩
      rcases h' with h' | h'
      · by_cases c : ws.length < i' + a
        · exact .inl c
        · exact .inr ⟨by omega, by omega⟩
      · omega
    rintro Hc b x' d' σ2 H2' H2'' sc hd' ⟨r1, r2, r3, kvs', r4, r5, r6, E6⟩ s6 dx'
    have lb : b < vs.length + 1 := by
      have := (List.getElem?_eq_some_iff.mp hd').1
      rw [revD_len] at this
      exact this
    rw [revD_get lb] at hd'
    cases hd'
    obtain ⟨j, hj⟩ : ∃ j : Nat, vs.length = j + b := ⟨vs.length - b, by omega⟩
    have ej : (((vs.length + 1 : Nat) : Int) - 1 - (b : Int)) = (j : Int) := by omega
    rw [ej] at dx'
    refine k_name ?_
    have E7 := (E6.same s6).set (i := 5) dx'
    have t7 := r2.mono s6
    -- cutting, keeping
    refine k_set (k_lst (k_nil ⟨by show 0 ≤ sizeLine; omega, fun La hL1 => ?_⟩))
    have s8 : Same H2'' (upd H2'' La (.lst [])) := Same.upd hL1
    have t8 := t7.one (o := .lst []) hL1
    have E8 := ((E7.more (More.one hL1)).same s8).setV (i := 6) (v := .ref La)
    refine k_set (k_lst (k_nil ⟨by show 0 ≤ sizeLine; omega, fun Lb hL2 => ?_⟩))
    have s9 : Same _ (upd _ Lb (.lst [])) := Same.upd hL2
    have t9 := t8.one (o := .lst []) hL2
    have E9 := ((E8.more (More.one hL2)).same s9).setV (i := 7) (v := .ref Lb)
    have n12 : La ≠ Lb := fun e => by
      rw [← e, upd_same] at hL2
      cases hL2
    have l2' : H2'' Lb = none := s8.free hL2
    have nX1 : ¬ X1 La := t7.new hL1
    have nX2 : ¬ X1 Lb := t7.new l2'
    have s69 : Same H2' (upd (upd H2'' La (.lst [])) Lb (.lst [])) := (s6.trans s8).trans s9
    obtain ⟨Hs, hHs⟩ : ∃ Hs, Hs = upd (upd H2'' La (.lst [])) Lb (.lst []) := ⟨_, rfl⟩
    have hl1 : Hs La = some (.lst []) := by rw [hHs, upd_ne n12]; exact upd_same
    have hl2 : Hs Lb = some (.lst []) := by rw [hHs]; exact upd_same
    rw [← hHs] at s69 t9 E9 ⊢
    have hDs := s69 _ _ r4
    have F9 : Filled X Hs ws vs kvs' (St a b) := r6.mono fun a o _ _ e => s69 _ _ e
    let X3 : Addr → Prop := fun z => (X1 z ∨ z = La) ∨ z = Lb
    let Γ9 : List Sv := [.dat d1, .dat d2, .dat (.int (h : Int)), .val (.ref D), .dat (.int (i : Int)), .dat (.int (j : Int)), .val (.ref La), .val (.ref Lb), .un]
    have E9' : EnvOk X3 Hs _ Γ9 := E9
    let B (c1 c2 : List Nat) : L2.St → Hp → Prop := fun σ H' => Trk X3 H' ∧ (∀ a o, a ≠ La → a ≠ Lb → Hs a = some o → H' a = some o) ∧ (∃ ys, H' La = some (.lst ys) ∧ DXs X3 H' ys ((c1.map fun (x : Nat) => (x : Int)).map PyData.int)) ∧ (∃ ys, H' Lb = some (.lst ys) ∧ DXs X3 H' ys ((c2.map fun (x : Nat) => (x : Int)).map PyData.int)) ∧ EnvOk X3 H' σ Γ9
    have B0 : B [] [] _ Hs := ⟨t9, fun _ _ _ _ e => e, ⟨[], hl1, .nil⟩, ⟨[], hl2, .nil⟩, E9'⟩
    have nl1 : D ≠ La := fun e => nX1 (.inr e.symm)
    have nl2 : D ≠ Lb := fun e => nX2 (.inr e.symm)
    -- a cell, read
    have cell : ∀ {H' σ' i' j' ta tb} {c1 c2 : List Nat}, B c1 c2 σ' H' → i' ≤ ws.length → j' ≤ vs.length → St a b i' j' → G X3 ta σ' H' (.int (i' : Int)) → G X3 tb σ' H' (.int (j' : Int)) → G X3 (tDGet (tVar 3) (tTup (tCons ta (tCons tb tNil)))) σ' H' (.tuple [.int (k0 (Mw ws vs) ws.length vs.length h i' j' : Int), .int (k1 (Mw ws vs) ws.length vs.length h i' j' : Int)]) := fun {H' σ' i' j' ta tb c1 c2} b hi' hj' hs ga gb => by
      obtain ⟨q1, q2, ⟨ys1, q3, _⟩, ⟨ys2, q4, _⟩, q5⟩ := b
      obtain ⟨p, f1, f2, f3⟩ := F9 i' j' hi' hj' hs
      have np1 : p ≠ La := fun e => by rw [e, hl1] at f2; cases f2
      have np2 : p ≠ Lb := fun e => by rw [e, hl2] at f2; cases f2
      have npD : p ≠ D := fun e => by rw [e, hDs] at f2; cases f2
      rw [hh]
      exact g_cell q5 rfl (q2 _ _ nl1 nl2 hDs) f1 (q2 _ _ np1 np2 f2) (fun z => z.elim (fun z => z.elim (fun z => z.elim f3 npD) np1) np2) q1 ga gb
    have addL : ∀ {H' H1' : Hp} {σ'} {c1 c2 : List Nat} {x : Nat} {te : TE} {Dn : Ends}, B c1 c2 σ' H' → Same H' H1' → c1.length ≤ 10 → G X3 te σ' H1' (.int (x : Int)) → (∀ H2, B (c1 ++ [x]) c2 σ' H2 → Dn.nx σ' H2) → tDrop (tBM K "list" rAppend (tVar 6) (tCons te tNil)) Dn σ' H1' := fun {H' H1' σ' c1 c2 x te Dn} b s lc g k => by
      obtain ⟨q1, q2, ⟨ys1, q3, x3⟩, ⟨ys2, q4, x4⟩, q5⟩ := b
      refine k_drop1 (q_append (i := 6) (L := La) (d := .int (x : Int)) (q5.same s) rfl (.inl (.inr rfl)) (q1.mono s) (s _ _ q3) (x3.mono (Kp.of s)) g (by rw [List.length_map, List.length_map]; omega) fun H2 ys h2 x2 E2 t2 k2 => k H2 ⟨t2, fun a o n1 n2 e => k2 a o n1 (s a o (q2 a o n1 n2 e)), ⟨ys, h2, by rw [List.map_append, List.map_append]; exact x2⟩, ⟨ys2, k2 _ _ (Ne.symm n12) (s _ _ q4), ?_⟩, E2⟩)
      exact x4.mono (fun a o n e => k2 a o (fun z => n (.inl (.inr z))) (s a o e))
    have ai : ∀ {H' σ'} {c1 c2 : List Nat}, B c1 c2 σ' H' → ∀ {H1'}, Same H' H1' → EnvOk X3 H1' σ' Γ9 ∧ Trk X3 H1' := fun b _ s => ⟨b.2.2.2.2.same s, b.1.mono s⟩
    refine q_ifJ (b := decide ((i : Int) < (ws.length : Int))) (gt_cmpI t9 (g := fun i j => decide (i < j)) (g_var (i := 4) (d := .int (i : Int)) E9' rfl) (len1 t9 E9' rfl)) (B (if i < ws.length then [k1 (Mw ws vs) ws.length vs.length h (i + 1) j + h] else []) []) (fun σA HA BA => ?_) (fun hb hJ HA sA => ?_) fun hb HA sA => ?_
    rotate_left
    · have hi' : i < ws.length := by have := of_decide_eq_true hb; omega
      obtain ⟨EA, tA⟩ := ai B0 sA
      rw [if_pos hi'] at hJ
      have gc := (cell B0 (i' := i + 1) (j' := j) (by omega) (by omega) (.inl (by omega)) (g_is (g_addI (j := 1) t9 (g_var (i := 4) (d := .int (i : Int)) E9' rfl) g_int) rfl) (g_var (i := 5) (d := .int (j : Int)) E9' rfl)).mono sA
      exact addL B0 sA (by simp) (g_is (g_addI tA (g_ixT tA gc g_int rfl) (g_var (i := 2) (d := .int (h : Int)) EA rfl)) (by congr 1)) fun H2 b2 => hJ _ _ b2
    · have hi' : ¬ i < ws.length := by have := of_decide_eq_false hb; omega
      rw [if_neg hi']
      obtain ⟨EA, tA⟩ := ai B0 sA
      exact ⟨tA, fun a o _ _ e => sA _ _ e, ⟨[], sA _ _ hl1, .nil⟩, ⟨[], sA _ _ hl2, .nil⟩, EA⟩
    clear B0 E9' t9
    obtain ⟨cA, hcA⟩ : ∃ cA, cA = (if i < ws.length then [k1 (Mw ws vs) ws.length vs.length h (i + 1) j + h] else []) := ⟨_, rfl⟩
    rw [← hcA] at BA
    have lcA : cA.length ≤ 1 := by rw [hcA]; split <;> simp
    have tA := BA.1
    have EA := BA.2.2.2.2
    refine q_ifJ (b := decide ((j : Int) < (vs.length : Int))) (gt_cmpI tA (g := fun i j => decide (i < j)) (g_var (i := 5) (d := .int (j : Int)) EA rfl) (len2 tA EA rfl)) (B (cA ++ (if j < vs.length then [k1 (Mw ws vs) ws.length vs.length h i (j + 1) + h] else [])) []) (fun σB HB BB => ?_) (fun hb hJ HB sB => ?_) fun hb HB sB => ?_
    rotate_left
    · have hj' : j < vs.length := by have := of_decide_eq_true hb; omega
      obtain ⟨EB, tB⟩ := ai BA sB
      rw [if_pos hj'] at hJ
      have gc := (cell BA (i' := i) (j' := j + 1) (by omega) (by omega) (.inr (by omega)) (g_var (i := 4) (d := .int (i : Int)) EA rfl) (g_is (g_addI (j := 1) tA (g_var (i := 5) (d := .int (j : Int)) EA rfl) g_int) rfl)).mono sB
      exact addL BA sB (by omega) (g_is (g_addI tB (g_ixT tB gc g_int rfl) (g_var (i := 2) (d := .int (h : Int)) EB rfl)) (by congr 1)) fun H2 b2 => hJ _ _ b2
    · have hj' : ¬ j < vs.length := by have := of_decide_eq_false hb; omega
      rw [if_neg hj', List.append_nil]
      obtain ⟨EB, tB⟩ := ai BA sB
      obtain ⟨q1, q2, ⟨ys1, q3, x3⟩, ⟨ys2, q4, x4⟩, q5⟩ := BA
      exact ⟨tB, fun a o n1 n2 e => sB _ _ (q2 a o n1 n2 e), ⟨ys1, sB _ _ q3, x3.mono (Kp.of sB)⟩, ⟨ys2, sB _ _ q4, x4.mono (Kp.of sB)⟩, EB⟩
    have hcut : cA ++ (if j < vs.length then [k1 (Mw ws vs) ws.length vs.length h i (j + 1) + h] else []) = cutL ws.length vs.length h (k1 (Mw ws vs) ws.length vs.length h) i j := by rw [hcA]; rfl
    rw [hcut] at BB
    clear BA EA tA hcA hcut lcA
    have tB := BB.1
    have EB := BB.2.2.2.2
    have lcut : (cutL ws.length vs.length h (k1 (Mw ws vs) ws.length vs.length h) i j).length ≤ 2 := by
      unfold cutL
      rw [List.length_append]
      split <;> split <;> simp
    have at1 : ∀ {X H σ Γ} (hi' : i < ws.length), Trk X H → EnvOk X H σ Γ → Γ[0]? = some (.dat d1) → Γ[4]? = some (.dat (.int (i : Int))) → G X (tOp (rIx K) (tVar 0) (tVar 4)) σ H (.str (wAt ws i)) := fun hi' t E e0 e4 => g_ix t (g_var E e0) T1.seq (g_var E e4) (atI_nat (by rw [T1.its, List.getElem?_map, List.getElem?_eq_getElem hi']; unfold wAt; rw [List.getD_eq_getElem?_getD, List.getElem?_eq_getElem hi']; rfl))
    have at2 : ∀ {X H σ Γ} (hj' : j < vs.length), Trk X H → EnvOk X H σ Γ → Γ[1]? = some (.dat d2) → Γ[5]? = some (.dat (.int (j : Int))) → G X (tOp (rIx K) (tVar 1) (tVar 5)) σ H (.str (wAt vs j)) := fun hj' t E e0 e4 => g_ix t (g_var E e0) T2.seq (g_var E e4) (atI_nat (by rw [T2.its, List.getElem?_map, List.getElem?_eq_getElem hj']; unfold wAt; rw [List.getD_eq_getElem?_getD, List.getElem?_eq_getElem hj']; rfl))
    have okw : ∀ {i : Nat} {us : List Str}, (∀ z ∈ us, PyData.strOk z = true) → i < us.length → SeqAt.shaped (.str (wAt us i)) = true := fun {i us} ok hi => shaped_str (by unfold wAt; rw [List.getD_eq_getElem?_getD, List.getElem?_eq_getElem hi]; exact ok _ (List.getElem_mem hi))
    refine q_ifJ (b := decide ((i : Int) < (ws.length : Int)) && (decide ((j : Int) < (vs.length : Int)) && Mw ws vs i j)) (gt_and (gt_cmpI tB (g := fun i j => decide (i < j)) (g_var (i := 4) (d := .int (i : Int)) EB rfl) (len1 tB EB rfl)) fun hb1 => gt_and (gt_cmpI tB (g := fun i j => decide (i < j)) (g_var (i := 5) (d := .int (j : Int)) EB rfl) (len2 tB EB rfl)) fun hb2 => ?_) (B (cutL ws.length vs.length h (k1 (Mw ws vs) ws.length vs.length h) i j) (keepL (Mw ws vs) ws.length vs.length (k0 (Mw ws vs) ws.length vs.length h) i j)) (fun σC HC BC => ?_) (fun hb hJ HC sC => ?_) fun hb HC sC => ?_
    · have hi' : i < ws.length := by have := of_decide_eq_true hb1; omega
      have hj' : j < vs.length := by have := of_decide_eq_true hb2; omega
      refine gt_is (gt_eqD tB (at1 hi' tB EB rfl rfl) (at2 hj' tB EB rfl rfl) rfl rfl (okw T1.ok hi') (okw T2.ok hj')) ?_
      rw [eqv_str]
      unfold Mw
      exact decide_eq_decide.mpr eq_comm
    rotate_left
    · have hb' : i < ws.length ∧ j < vs.length ∧ Mw ws vs i j = true := by
        rw [Bool.and_eq_true, Bool.and_eq_true] at hb
        have := of_decide_eq_true hb.1
        have := of_decide_eq_true hb.2.1
        exact ⟨by omega, by omega, hb.2.2⟩
      unfold keepL at hJ
      rw [if_pos hb'] at hJ
      obtain ⟨EC, tC⟩ := ai BB sC
      have gc := (cell BB (i' := i + 1) (j' := j + 1) (by omega) (by omega) (.inl (by omega)) (g_is (g_addI (j := 1) tB (g_var (i := 4) (d := .int (i : Int)) EB rfl) g_int) rfl) (g_is (g_addI (j := 1) tB (g_var (i := 5) (d := .int (j : Int)) EB rfl) g_int) rfl)).mono sC
      obtain ⟨q1, q2, ⟨ys1, q3, x3⟩, ⟨ys2, q4, x4⟩, q5⟩ := BB
      refine k_drop1 (q_append (i := 7) (L := Lb) (d := .int (k0 (Mw ws vs) ws.length vs.length h (i + 1) (j + 1) : Int)) EC rfl (.inr rfl) tC (sC _ _ q4) (x4.mono (Kp.of sC)) (g_ixT tC gc g_int rfl) (by simp) fun H2 ys h2 x2 E2 t2 k2 => hJ _ _ ⟨t2, fun a o n1 n2 e => k2 a o n2 (sC a o (q2 a o n1 n2 e)), ⟨ys1, k2 _ _ n12 (sC _ _ q3), ?_⟩, ⟨ys, h2, x2⟩, E2⟩)
      exact x3.mono (fun a o n e => k2 a o (fun z => n (.inr z)) (sC a o e))
    · have hb' : ¬ (i < ws.length ∧ j < vs.length ∧ Mw ws vs i j = true) := fun z => by
        rw [decide_eq_true (by omega), decide_eq_true (by omega), z.2.2] at hb
        cases hb
      unfold keepL
      rw [if_neg hb']
      obtain ⟨EC, tC⟩ := ai BB sC
      obtain ⟨q1, q2, ⟨ys1, q3, x3⟩, ⟨ys2, q4, x4⟩, q5⟩ := BB
      exact ⟨tC, fun a o n1 n2 e => sC _ _ (q2 a o n1 n2 e), ⟨ys1, sC _ _ q3, x3.mono (Kp.of sC)⟩, ⟨ys2, sC _ _ q4, x4.mono (Kp.of sC)⟩, EC⟩
    -- the cell is told
    clear BB EB tB cell addL ai
    obtain ⟨tC, q2, ⟨ys1, q3, x3⟩, ⟨ys2, q4, x4⟩, EC⟩ := BC
    have nXb : ¬ (fun z => X1 z ∨ z = La) Lb := fun z => z.elim nX2 fun e => n12 e.symm
    have EG1 := EnvOk.give (X := fun z => X1 z ∨ z = La) (L := Lb) (i := 7) EC rfl nXb q4 x4
    have EG : EnvOk X1 HC σC [.dat d1, .dat d2, .dat (.int (h : Int)), .val (.ref D), .dat (.int (i : Int)), .dat (.int (j : Int)), .dat (.list (((cutL ws.length vs.length h (k1 (Mw ws vs) ws.length vs.length h) i j).map fun (x : Nat) => (x : Int)).map PyData.int)), .dat (.list (((keepL (Mw ws vs) ws.length vs.length (k0 (Mw ws vs) ws.length vs.length h) i j).map fun (x : Nat) => (x : Int)).map PyData.int)), .un] := EnvOk.give (X := X1) (L := La) (i := 6) EG1 rfl nX1 q3 (x3.less fun _ => .inl)
    have tG : Trk X1 HC := fun a h => tC a (.inl (.inl h))
    have lkeep : (keepL (Mw ws vs) ws.length vs.length (k0 (Mw ws vs) ws.length vs.length h) i j).length ≤ 1 := by unfold keepL; split <;> simp
    have ek0 := k0_is (Mw ws vs) ws.length vs.length h i j
    have ek1 := k1_is (Mw ws vs) ws.length vs.length h i j
    obtain ⟨cut, hcut⟩ : ∃ cut, cut = cutL ws.length vs.length h (k1 (Mw ws vs) ws.length vs.length h) i j := ⟨_, rfl⟩
    obtain ⟨keep, hkeep⟩ : ∃ keep, keep = keepL (Mw ws vs) ws.length vs.length (k0 (Mw ws vs) ws.length vs.length h) i j := ⟨_, rfl⟩
    rw [← hcut] at EG lcut ek0 ek1
    rw [← hkeep] at EG lkeep ek0 ek1
    clear EC EG1 x3 x4 q3 q4 hcut hkeep tC
    have cast2 : ∀ a b : List Nat, (a.map fun (x : Nat) => (x : Int)).map PyData.int ++ (b.map fun (x : Nat) => (x : Int)).map PyData.int = ((a ++ b).map fun (x : Nat) => (x : Int)).map PyData.int := fun a b => by rw [List.map_append, List.map_append]
    refine (g_tup (ds := [.int (k0 (Mw ws vs) ws.length vs.length h i j : Int), .int (k1 (Mw ws vs) ws.length vs.length h i j : Int)]) tG (ga_cons (g_is (g_minDef (g := leastD) (d := 0) (ns := (keep ++ cut.map (· + 1)).map fun (x : Nat) => (x : Int)) (g_is (g_cat tG (g_var (i := 7) EG rfl) (g_lc1 (ds := (cut.map fun (x : Nat) => (x : Int)).map PyData.int) (fun z => .int (intOf z + 1)) tG (gi_list (g_var (i := 6) EG rfl)) (by rw [List.length_map, List.length_map]; omega) (fun H3 s3 z hz => tgt_name (EG.same s3)) (fun X' H3 σ3 z hz t3 E3 => ?_)) (by simp; omega)) ?_) g_int) (by rw [leastD_nat, ← ek0])) (ga_cons (g_is (g_minDef (g := leastD) (d := 0) (ns := (keep ++ cut).map fun (x : Nat) => (x : Int)) (g_is (g_cat tG (g_var (i := 7) EG rfl) (g_var (i := 6) EG rfl) (by simp; omega)) (by rw [cast2])) g_int) (by rw [leastD_nat, ← ek1])) ga_nil)) (by simp)) HC (Same.refl _) _ fun v Hd sd rd => ?_
    · obtain ⟨y, _, rfl⟩ := List.mem_map.mp hz
      exact g_addI t3 (g_var (i := 8) (d := .int y) E3 rfl) g_int
    · rw [← cast2]
      simp only [List.map_map]
      rfl
    have EH := EG.same sd
    refine ⟨_, EH.get 3 _ rfl, g_var (i := 4) (d := .int (i : Int)) EH rfl Hd (Same.refl _) _ fun u1 He se re => g_var (i := 5) (d := .int (j : Int)) (EH.same se) rfl He (Same.refl _) _ fun u2 Hf sf rf => ⟨by show 2 ≤ sizeLine; decide, fun y hy => ?_⟩⟩
    rw [re.int_inv, rf.int_inv]
    have sg : Same HC (upd Hf y (.tup [.int (i : Int), .int (j : Int)])) := ((sd.trans se).trans sf).trans (Same.upd hy)
    obtain ⟨p, xs, rfl, np, ep, rp⟩ := rd.tup_inv
    have hxs : xs = [.int (k0 (Mw ws vs) ws.length vs.length h i j : Int), .int (k1 (Mw ws vs) ws.length vs.length h i j : Int)] := by
      cases rp with
      | cons a1 rp =>
        cases rp with
        | cons a2 rp =>
          cases rp
          rw [a1.int_inv, a2.int_inv]
    subst hxs
    have hDg := sg _ _ (q2 _ _ nl1 nl2 hDs)
    refine ⟨D, _, rfl, DPut.t (k := [.inl (i : Int), .inl (j : Int)]) hDg upd_same (by
      have : a * (vs.length + 1) ≤ 60 * 61 := Nat.mul_le_mul (by omega) (by omega)
      rw [sizeLine_eq]
      omega), ?_⟩
    have base0 : ∀ z o, z ≠ D → H2' z = some o → (upd (upd Hf y (.tup [.int (i : Int), .int (j : Int)])) D (.dT (putK kvs' [.inl (i : Int), .inl (j : Int)] (.ref p)))) z = some o := fun z o nz e => by
      have m1 : z ≠ La := fun q => by rw [q, s6.free hL1] at e; cases e
      have m2 : z ≠ Lb := fun q => by rw [q, s6.free l2'] at e; cases e
      rw [upd_ne nz]
      exact sg _ _ (q2 _ _ m1 m2 (s69 _ _ e))
    have kp : Kp X1 (upd Hf y (.tup [.int (i : Int), .int (j : Int)])) (upd (upd Hf y (.tup [.int (i : Int), .int (j : Int)])) D (.dT (putK kvs' [.inl (i : Int), .inl (j : Int)] (.ref p)))) := Kp.put (.inr rfl)
    have npD : p ≠ D := fun e => np (.inr e)
    refine ⟨fun z o nz e => base0 z o (fun q => nz (.inr q)) (r1 z o nz e), (tG.mono sg).put, fun z o e => base0 z o (fun q => by rw [q, h0] at e; cases e) (r3 z o e), _, upd_same, by have := length_putK kvs' [.inl (i : Int), .inl (j : Int)] (.ref p); omega, fun i' j' hi' hj' hs => ?_, envUn' (envUn' (envUn' ((EG.same sg).mono kp) 5) 6) 7⟩
    rw [valV_put, ← hh]
    by_cases c : i' = i ∧ j' = j
    · obtain ⟨rfl, rfl⟩ := c
      refine ⟨p, by rw [if_pos rfl], ?_, fun z => np (.inl z)⟩
      rw [upd_ne npD, upd_ne (ne_of_none ((se.trans sf) _ _ ep) hy)]
      exact (se.trans sf) _ _ ep
    · have hs' : St a b i' j' := by
        rcases hs with h' | h'
        · exact .inl h'
        · exact .inr ⟨h'.1, by omega⟩
      obtain ⟨p', f1, f2, f3⟩ := F9 i' j' hi' hj' hs'
      rw [← hh] at f2
      have np1 : p' ≠ La := fun e => by rw [e, hl1] at f2; cases f2
      have np2 : p' ≠ Lb := fun e => by rw [e, hl2] at f2; cases f2
      have np3 : p' ≠ D := fun e => by rw [e, hDs] at f2; cases f2
      refine ⟨p', ?_, ?_, f3⟩
      · rw [if_neg]
        · exact f1
        · intro e
          simp only [List.cons.injEq, Sum.inl.injEq, and_true] at e
          exact c ⟨by omega, by omega⟩
      · rw [upd_ne np3]
        exact sg _ _ (q2 _ _ np1 np2 f2)
end K53

/-! The row that is gone is one. -/
namespace KL
theorem goes_uniq {M : Nat → Nat → Bool} {n m h : Nat} {c0 c1 : Nat → Nat → Nat} {i j : Nat} {r : List Pr} (g : Goes M n m h c0 c1 i j r) : ∀ {r' : List Pr}, Goes M n m h c0 c1 i j r' → r = r' := by
  induction g with
  | stop h1 h2 h3 =>
    intro r' g'
    cases g' with
    | stop _ _ _ => rfl
    | keep a b _ _ _ => omega
    | left a b _ _ _ => omega
    | right a b _ _ _ => omega
  | keep a b c d g ih =>
    intro r' g'
    cases g' with
    | stop h1 h2 h3 => omega
    | keep _ _ _ _ g2 => rw [ih g2]
    | left _ _ e _ _ => exact absurd ⟨c, d⟩ e
    | right _ _ e _ _ => exact absurd ⟨c, d⟩ e
  | left a b c d g ih =>
    intro r' g'
    cases g' with
    | stop h1 h2 h3 => omega
    | keep _ _ e f _ => exact absurd ⟨e, f⟩ c
    | left _ _ _ _ g2 => exact ih g2
    | right _ _ _ e _ => exact absurd d e
  | right a b c d g ih =>
    intro r' g'
    cases g' with
    | stop h1 h2 h3 => omega
    | keep _ _ e f _ => exact absurd ⟨e, f⟩ c
    | left _ _ _ e _ => exact absurd e d
    | right _ _ _ _ g2 => exact ih g2
end KL

/-! The row that is kept. -/
namespace K53
open PySem PySem.Spec PyProof.Rows L2 KD KL
variable {P : Program} {w : World} {K : PySem.W.Frag} {mg : Str → Option Value} {base : Heap}
/-- the row that is kept -/
def Kept (ws vs : List Str) (r : List Pr) : Prop := Goes (Mw ws vs) ws.length vs.length (ws.length + vs.length + 1) (k0 (Mw ws vs) ws.length vs.length (ws.length + vs.length + 1)) (k1 (Mw ws vs) ws.length vs.length (ws.length + vs.length + 1)) 0 0 r
theorem Kept.best {ws vs : List Str} {r : List Pr} (k : Kept ws vs r) : Ch (Mw ws vs) r ∧ Bd ws.length vs.length r ∧ r.length = L (Mw ws vs) ws.length vs.length ∧ ∀ s, Ch (Mw ws vs) s → Bd ws.length vs.length s → s.length = L (Mw ws vs) ws.length vs.length → cuts ws.length vs.length 0 0 r ≤ cuts ws.length vs.length 0 0 s := goes_best (kst_cost _ _ _ _) k
theorem Kept.uniq {ws vs : List Str} {r r' : List Pr} (k : Kept ws vs r) (k' : Kept ws vs r') : r = r' := goes_uniq k k'
section
variable {X : Addr → Prop} {H : Hp} {σ : L2.St} {Γ : List Sv} {D : Ends} {s : Nat} {a : Int} {te ta tb : TE} {E : XK} {Q : VK}
theorem q_inc (En : EnvOk X H σ Γ) (hi : Γ[s]? = some (.dat (.int a))) (k : D.nx (σ.set s (some (.int (a + 1)))) H) : tAug s (tC (.int 1)) (ipI fun i j => i + j) D σ H := by
  obtain ⟨v, e, r⟩ := En.get s _ hi
  rw [r.int_inv] at e
  exact ⟨_, e, a, 1, rfl, rfl, k⟩
theorem k_callS {sp : Sp} {tl : TA} (h : tl σ H fun vs H1 => sp (vs ++ []) H1 Q E) : tCall sp [] E tl σ H Q := h
theorem k_c {v : V} (h : Q v H) : tC v σ H Q := h
theorem k_seq {tu tz : TS} (h : tu { D with nx := tz D } σ H) : tSeq tu tz D σ H := h
end
def spKept : Sp := fun us H Q _ => ∃ (X : Addr → Prop) (v1 v2 : V) (d1 d2 : PyData) (ws vs : List Str), us = [v1, v2] ∧ Trk X H ∧ DX X H v1 d1 ∧ DX X H v2 d2 ∧ Txt d1 ws ∧ Txt d2 vs ∧ ∀ w r H', Kept ws vs r → Same H H' → DX X H' w (rowD r) → Q w H'
abbrev s_kept_row : Stmt := topS 19
abbrev n_kept_row : List Str := ["one", "other", "costs", "heavy", "row", "i", "j", "cost"]
theorem sc_kept_row : FnScope n_kept_row ["one", "other"] (defScope s_kept_row) := ⟨rfl, rfl, rfl, by decide +kernel, rfl, by decide +kernel, by decide +kernel⟩
theorem ok_kept_row {f : Addr} {fd : FuncData} (F : Fun K "kept_row" "kept_row" s_kept_row f fd) (T : Bl mg) (O_least_costs : Own P w K mg base CX0 1 "least_costs" ["one", "other"] spCosts) : FnOk P w K mg base CX0 2 f fd ["one", "other"] spKept := by
  refine F.ok sc_kept_row (fun vs H Q E h => ?_) (fun cdv A outer s H us Q E hr h => ?_)
  · obtain ⟨X, v1, v2, d1, d2, ws, vs, rfl, _⟩ := h
    rfl
  · obtain ⟨X, v1, v2, d1, d2, ws, vs, rfl, t, r1, r2, T1, T2, q⟩ := h
    refine ⟨_, (pss_cons (ps_set (i := 2) sc_kept_row.nd rfl (by first | exact Or.inl rfl | exact Or.inr rfl) (pe_own O_least_costs hr (by decide) (by rfl) (pa_cons (pv 0) (pa_cons (pv 1) pa_nil))))
    (pss_cons (ps_set (i := 3) sc_kept_row.nd rfl (by first | exact Or.inl rfl | exact Or.inr rfl) (pe_op op_addA (pe_op op_addA (pe_callB call_len (by rfl) T.b_len boot_len (pa_cons (pv 0) pa_nil)) (pe_callB call_len (by rfl) T.b_len boot_len (pa_cons (pv 1) pa_nil))) pe_int))
    (pss_cons (ps_set (i := 4) sc_kept_row.nd rfl (by first | exact Or.inl rfl | exact Or.inr rfl) (pe_lst pa_nil))
    (pss_cons (ps_set (i := 5) sc_kept_row.nd rfl (by first | exact Or.inl rfl | exact Or.inr rfl) pe_int)
    (pss_cons (ps_set (i := 6) sc_kept_row.nd rfl (by first | exact Or.inl rfl | exact Or.inr rfl) pe_int)
    (Evl.pss_cut (ps_while PassesOwn.never (PW.pt (pw_and (pt_cmpR op_lt (pv 5) (pe_callB call_len (by rfl) T.b_len boot_len (pa_cons (pv 0) pa_nil)) (nomark _)) (pw_and1 (pt_cmpR op_lt (pv 6) (pe_callB call_len (by rfl) T.b_len boot_len (pa_cons (pv 1) pa_nil)) (nomark _)))))
    (pss_cons (ps_set (i := 7) sc_kept_row.nd rfl (by first | exact Or.inl rfl | exact Or.inr rfl) (pe_ix ix_seq (pe_dget (hu_of hr) (pv 2) (pe_tup (pa_cons (pv 5) (pa_cons (pv 6) pa_nil))) (fun _ _ => rfl)) pe_int (fun _ _ => rfl)))
    (pss_one (ps_if (PW.pt (pw_and (pt_cmpR (op_eqD hr.units) (pe_ix ix_seq (pv 0) (pv 5) (fun _ _ => rfl)) (pe_ix ix_seq (pv 1) (pv 6) (fun _ _ => rfl)) (nomark _)) (pw_and1 (pt_cmpR (op_eqD hr.units) (pe_ix ix_seq (pe_dget (hu_of hr) (pv 2) (pe_tup (pa_cons (pe_op op_addA (pv 5) pe_int) (pa_cons (pe_op op_addA (pv 6) pe_int) pa_nil))) (fun _ _ => rfl)) pe_int (fun _ _ => rfl)) (pv 7) (nomark _)))))
    (pss_cons (ps_expr (pe_bm PySem.F.plainAttrs_list PySem.F.slot_list_append PySem.F.type_list_append mt_append (pv 4) (pa_cons (pe_tup (pa_cons (pv 5) (pa_cons (pv 6) pa_nil))) pa_nil)))
    (pss_cons (ps_aug (i := 5) sc_kept_row.nd rfl (by first | exact Or.inl rfl | exact Or.inr rfl) pe_int ip_add)
    (pss_one (ps_aug (i := 6) sc_kept_row.nd rfl (by first | exact Or.inl rfl | exact Or.inr rfl) pe_int ip_add)))) (pss_one (ps_if (pt_cmpR (op_eqD hr.units) (pe_op op_addA (pe_ix ix_seq (pe_dget (hu_of hr) (pv 2) (pe_tup (pa_cons (pe_op op_addA (pv 5) pe_int) (pa_cons (pv 6) pa_nil))) (fun _ _ => rfl)) pe_int (fun _ _ => rfl)) (pv 3)) (pv 7) (nomark _))
    (pss_one (ps_aug (i := 5) sc_kept_row.nd rfl (by first | exact Or.inl rfl | exact Or.inr rfl) pe_int ip_add)) (pss_one (ps_aug (i := 6) sc_kept_row.nd rfl (by first | exact Or.inl rfl | exact Or.inr rfl) pe_int ip_add))))))))
    (pss_one (ps_ret (pv 4))))))))), ?_⟩
    have En : EnvOk X H (L2.start n_kept_row [v1, v2]) [.dat d1, .dat d2, .un, .un, .un, .un, .un, .un] := env2 (N := n_kept_row) r1 r2 (by decide)
    have w1 := T1.few
    have w2 := T2.few
    obtain ⟨h, hh⟩ : ∃ h : Nat, h = ws.length + vs.length + 1 := ⟨_, rfl⟩
    have len1 : ∀ {X H σ Γ}, Trk X H → EnvOk X H σ Γ → Γ[0]? = some (.dat d1) → G X (tCB (fun xs H Q => ∃ x n, xs = [x] ∧ LenV K x H n ∧ Q (V.int n) H) (tCons (tVar 0) tNil)) σ H (.int (ws.length : Int)) := fun t E e => g_is (g_len t (g_var E e) (hasLen_seq T1.seq)) (by rw [T1.len])
    have len2 : ∀ {X H σ Γ}, Trk X H → EnvOk X H σ Γ → Γ[1]? = some (.dat d2) → G X (tCB (fun xs H Q => ∃ x n, xs = [x] ∧ LenV K x H n ∧ Q (V.int n) H) (tCons (tVar 1) tNil)) σ H (.int (vs.length : Int)) := fun t E e => g_is (g_len t (g_var E e) (hasLen_seq T2.seq)) (by rw [T2.len])
    have at1 : ∀ {X H σ Γ} {i : Nat} (hi' : i < ws.length), Trk X H → EnvOk X H σ Γ → Γ[0]? = some (.dat d1) → Γ[5]? = some (.dat (.int (i : Int))) → G X (tOp (rIx K) (tVar 0) (tVar 5)) σ H (.str (wAt ws i)) := fun hi' t E e0 e4 => g_ix t (g_var E e0) T1.seq (g_var E e4) (atI_nat (by rw [T1.its, List.getElem?_map, List.getElem?_eq_getElem hi']; unfold wAt; rw [List.getD_eq_getElem?_getD, List.getElem?_eq_getElem hi']; rfl))
    have at2 : ∀ {X H σ Γ} {j : Nat} (hj' : j < vs.length), Trk X H → EnvOk X H σ Γ → Γ[1]? = some (.dat d2) → Γ[6]? = some (.dat (.int (j : Int))) → G X (tOp (rIx K) (tVar 1) (tVar 6)) σ H (.str (wAt vs j)) := fun hj' t E e0 e4 => g_ix t (g_var E e0) T2.seq (g_var E e4) (atI_nat (by rw [T2.its, List.getElem?_map, List.getElem?_eq_getElem hj']; unfold wAt; rw [List.getD_eq_getElem?_getD, List.getElem?_eq_getElem hj']; rfl))
    have okw : ∀ {i : Nat} {us : List Str}, (∀ z ∈ us, PyData.strOk z = true) → i < us.length → SeqAt.shaped (.str (wAt us i)) = true := fun {i us} ok hi => shaped_str (by unfold wAt; rw [List.getD_eq_getElem?_getD, List.getElem?_eq_getElem hi]; exact ok _ (List.getElem_mem hi))
    refine k_set (k_callS ((ga_cons (g_var (i := 0) (d := d1) En rfl) (ga_cons (g_var (i := 1) (d := d2) En rfl) ga_nil)) H (Same.refl _) _ fun us H1 s1 rs => ?_))
    have t1 := t.mono s1
    refine ⟨X, us.getD 0 .non, us.getD 1 .non, d1, d2, ws, vs, ?_, t1, ?_, ?_, T1, T2, fun D kvs H2 s2 hD eD F2 => ?_⟩
    · cases rs with
      | cons a rs =>
        cases rs with
        | cons b rs =>
          cases rs
          rfl
    · cases rs with
      | cons a rs => exact a
    · cases rs with
      | cons a rs =>
        cases rs with
        | cons b rs => exact b
    have s12 := s1.trans s2
    have nX : ¬ X D := t1.new hD
    have m1 : More X (fun b => X b ∨ b = D) H1 := More.one hD
    let X1 : Addr → Prop := fun b => X b ∨ b = D
    have t2 : Trk X1 H2 := fun a z => z.elim (fun z => t.mono s12 a z) fun z => ⟨_, z ▸ eD⟩
    have E2 : EnvOk X1 H2 _ [.dat d1, .dat d2, .val (.ref D), .un, .un, .un, .un, .un] := (((En.same s1).more m1).same s2).setV (i := 2) (v := .ref D)
    refine q_set (i := 3) (d := .int (h : Int)) E2 (g_is (g_addI t2 (g_addI t2 (len1 t2 E2 rfl) (len2 t2 E2 rfl)) g_int) (by rw [hh]; congr 1)) fun H3 v3 s3 E3 => ?_
    have t3 := t2.mono s3
    refine k_set (k_lst (k_nil ⟨by show 0 ≤ sizeLine; omega, fun La hL => ?_⟩))
    have s4 : Same H3 (upd H3 La (.lst [])) := Same.upd hL
    have nX2 : ¬ X1 La := t3.new hL
    let X2 : Addr → Prop := fun b => X1 b ∨ b = La
    have t4 : Trk X2 (upd H3 La (.lst [])) := t3.one hL
    have E4 := ((E3.more (More.one hL)).same s4).setV (i := 4) (v := .ref La)
    have E5 := (E4.set (i := 5) (v := .int 0) (d := .int 0) (.int _)).set (i := 6) (v := .int 0) (d := .int 0) (.int _)
    have s04 : Same H2 (upd H3 La (.lst [])) := s3.trans s4
    obtain ⟨Hs, hHs⟩ : ∃ Hs, Hs = upd H3 La (.lst []) := ⟨_, rfl⟩
    have hL0 : Hs La = some (.lst []) := by rw [hHs]; exact upd_same
    have hLn : H La = none := s12.free (s3.free hL)
    rw [← hHs] at t4 E5 s04 ⊢
    show tSeq _ _ _ _ _
    refine k_set (k_c ?_)
    show tSeq _ _ _ _ _
    refine k_set (k_c ?_)
    have nXL : ¬ X La := fun z => nX2 (.inl z)
    have nDL : D ≠ La := fun z => by rw [z, s3.free hL] at eD; cases eD
    have cell : ∀ {H' : Hp} {σ' : L2.St} {i' j' : Nat} {ta tb : TE} {Γ : List Sv}, EnvOk X2 H' σ' Γ → Γ[2]? = some (.val (.ref D)) → Trk X2 H' → (∀ a o, a ≠ La → Hs a = some o → H' a = some o) → i' ≤ ws.length → j' ≤ vs.length → G X2 ta σ' H' (.int (i' : Int)) → G X2 tb σ' H' (.int (j' : Int)) → G X2 (tDGet (tVar 2) (tTup (tCons ta (tCons tb tNil)))) σ' H' (.tuple [.int (k0 (Mw ws vs) ws.length vs.length h i' j' : Int), .int (k1 (Mw ws vs) ws.length vs.length h i' j' : Int)]) := fun {H' σ' i' j' ta tb Γ} E e t k hi hj ga gb => by
      obtain ⟨p, f1, f2, f3⟩ := F2 i' j' hi hj trivial
      have npL : p ≠ La := fun z => by rw [z, s3.free hL] at f2; cases f2
      have npD : p ≠ D := fun z => by rw [z, eD] at f2; cases f2
      rw [hh]
      exact g_cell E e (k _ _ nDL (s04 _ _ eD)) f1 (k _ _ npL (s04 _ _ f2)) (fun z => z.elim (fun z => z.elim f3 npD) npL) t ga gb
    let Γ (i j : Nat) (c : Sv) : List Sv := [.dat d1, .dat d2, .val (.ref D), .dat (.int (h : Int)), .val (.ref La), .dat (.int (i : Int)), .dat (.int (j : Int)), c]
    let J : Nat → L2.St → Hp → Prop := fun l σ' H' => ∃ (i j : Nat) (row : List Pr) (xs : List V) (c : Sv), l = (ws.length - i) + (vs.length - j) ∧ i ≤ ws.length ∧ j ≤ vs.length ∧ (∀ r, Goes (Mw ws vs) ws.length vs.length h (k0 (Mw ws vs) ws.length vs.length h) (k1 (Mw ws vs) ws.length vs.length h) i j r → Kept ws vs (row ++ r)) ∧ row.length ≤ i ∧ Trk X2 H' ∧ (∀ a o, a ≠ La → Hs a = some o → H' a = some o) ∧ H' La = some (.lst xs) ∧ DXs X2 H' xs (row.map prD) ∧ EnvOk X2 H' σ' (Γ i j c)
    refine ⟨fun σ' H' => ∃ (row : List Pr) (xs : List V) (i j : Nat) (c : Sv), Kept ws vs row ∧ (∀ a o, a ≠ La → Hs a = some o → H' a = some o) ∧ H' La = some (.lst xs) ∧ DXs X2 H' xs (row.map prD) ∧ EnvOk X2 H' σ' (Γ i j c), ⟨J, ⟨_, 0, 0, [], [], .un, rfl, by omega, by omega, fun r g => by subst hh; exact g, by simp, t4, fun _ _ _ e => e, hL0, .nil, E5⟩, ?_⟩, ?_⟩
    rotate_left
    · rintro σ' H' ⟨row, xs, i, j, c, kr, p1, p2, p3, E⟩
      show tRet (tVar 4) { nx := fun _ H' => Q .non H', rt := Q } σ' H'
      exact ⟨_, E.get 4 _ rfl, q _ row H' kr (fun a o e => p1 a o (fun z => by rw [z, hLn] at e; cases e) ((s12.trans s04) a o e)) (.lst nXL p2 (p3.less fun _ z => .inl (.inl z)))⟩
    rintro l σ' H' ⟨i, j, row, xs, c, rfl, hi, hj, hk, hr, t5, p1, p2, p3, E⟩
    refine gt_and (gt_cmpI t5 (g := fun i j => decide (i < j)) (g_var (i := 5) (d := .int (i : Int)) E rfl) (len1 t5 E rfl)) (fun _ => gt_cmpI t5 (g := fun i j => decide (i < j)) (g_var (i := 6) (d := .int (j : Int)) E rfl) (len2 t5 E rfl)) H' (Same.refl _) _ fun H5 s5 => ?_
    have p1' : ∀ a o, a ≠ La → Hs a = some o → H5 a = some o := fun a o n e => s5 _ _ (p1 a o n e)
    have E5 := E.same s5
    have t6 := t5.mono s5
    by_cases hb : i < ws.length ∧ j < vs.length
    rotate_left
    · rw [show (decide ((i : Int) < (ws.length : Int)) && decide ((j : Int) < (vs.length : Int))) = false from by
        by_cases h1 : i < ws.length
        · rw [decide_eq_false (p := (j : Int) < (vs.length : Int)) (by omega), Bool.and_false]
        · rw [decide_eq_false (p := (i : Int) < (ws.length : Int)) (by omega), Bool.false_and]]
      rw [if_neg (by simp)]
      have := hk [] (.stop (by omega) hi hj)
      rw [List.append_nil] at this
      exact ⟨row, xs, i, j, c, this, p1', s5 _ _ p2, p3.mono (Kp.of s5), E5⟩
    obtain ⟨li, lj⟩ := hb
    rw [decide_eq_true (p := (i : Int) < (ws.length : Int)) (by omega), decide_eq_true (p := (j : Int) < (vs.length : Int)) (by omega)]
    show (if (true : Bool) = true then _ else _)
    rw [if_pos rfl]
    refine ⟨fun σ' H' => ∃ l', l' < (ws.length - i) + (vs.length - j) ∧ J l' σ' H', fun σ' H' h => h, ?_⟩
    refine q_set (i := 7) (d := .int (k1 (Mw ws vs) ws.length vs.length h i j : Int)) E5 (g_ixT t6 (cell E5 rfl t6 p1' hi hj (g_var (i := 5) (d := .int (i : Int)) E5 rfl) (g_var (i := 6) (d := .int (j : Int)) E5 rfl)) g_int rfl) fun H6 v6 s6 E6 => ?_
    have E6 : EnvOk X2 H6 (σ'.set 7 (some v6)) (Γ i j (.dat (.int (k1 (Mw ws vs) ws.length vs.length h i j : Int)))) := E6
    have t7 := t6.mono s6
    have p6 : ∀ a o, a ≠ La → Hs a = some o → H6 a = some o := fun a o n e => s6 _ _ (p1' a o n e)
    have gi : ∀ {H'}, EnvOk X2 H' (σ'.set 7 (some v6)) (Γ i j (.dat (.int (k1 (Mw ws vs) ws.length vs.length h i j : Int)))) → G X2 (tVar 5) (σ'.set 7 (some v6)) H' (.int (i : Int)) := fun E => g_var (i := 5) (d := .int (i : Int)) E rfl
    have gj : ∀ {H'}, EnvOk X2 H' (σ'.set 7 (some v6)) (Γ i j (.dat (.int (k1 (Mw ws vs) ws.length vs.length h i j : Int)))) → G X2 (tVar 6) (σ'.set 7 (some v6)) H' (.int (j : Int)) := fun E => g_var (i := 6) (d := .int (j : Int)) E rfl
    have gc : ∀ {H'}, EnvOk X2 H' (σ'.set 7 (some v6)) (Γ i j (.dat (.int (k1 (Mw ws vs) ws.length vs.length h i j : Int)))) → G X2 (tVar 7) (σ'.set 7 (some v6)) H' (.int (k1 (Mw ws vs) ws.length vs.length h i j : Int)) := fun E => g_var (i := 7) (d := .int (k1 (Mw ws vs) ws.length vs.length h i j : Int)) E rfl
    have gi1 : ∀ {H'}, Trk X2 H' → EnvOk X2 H' (σ'.set 7 (some v6)) (Γ i j (.dat (.int (k1 (Mw ws vs) ws.length vs.length h i j : Int)))) → G X2 (tOp rAddA (tVar 5) (tC (.int 1))) (σ'.set 7 (some v6)) H' (.int ((i + 1 : Nat) : Int)) := fun t E => g_is (g_addI (j := 1) t (gi E) g_int) rfl
    have gj1 : ∀ {H'}, Trk X2 H' → EnvOk X2 H' (σ'.set 7 (some v6)) (Γ i j (.dat (.int (k1 (Mw ws vs) ws.length vs.length h i j : Int)))) → G X2 (tOp rAddA (tVar 6) (tC (.int 1))) (σ'.set 7 (some v6)) H' (.int ((j + 1 : Nat) : Int)) := fun t E => g_is (g_addI (j := 1) t (gj E) g_int) rfl
    refine s_if (b := Mw ws vs i j && decide ((k0 (Mw ws vs) ws.length vs.length h (i + 1) (j + 1) : Int) = (k1 (Mw ws vs) ws.length vs.length h i j : Int))) (gt_and ?_ fun _ => gt_eqI t7 (g_ixT t7 (cell E6 rfl t7 p6 (by omega) (by omega) (gi1 t7 E6) (gj1 t7 E6)) g_int rfl) (gc E6)) (fun hb H7 s7 => ?_) (fun hb H7 s7 => ?_)
    · refine gt_is (gt_eqD t7 (at1 li t7 E6 rfl rfl) (at2 lj t7 E6 rfl rfl) rfl rfl (okw T1.ok li) (okw T2.ok lj)) ?_
      rw [eqv_str]
      unfold Mw
      exact decide_eq_decide.mpr eq_comm
    · rw [Bool.and_eq_true] at hb
      have e2 : k0 (Mw ws vs) ws.length vs.length h (i + 1) (j + 1) = k1 (Mw ws vs) ws.length vs.length h i j := by
        have := of_decide_eq_true hb.2
        omega
      have E7 := E6.same s7
      have t8 := t7.mono s7
      have s57 := (s5.trans s6).trans s7
      refine q_append (i := 4) (L := La) (d := prD (i, j)) E7 rfl (.inr rfl) t8 (s57 _ _ p2) (p3.mono (Kp.of s57)) (g_tup t8 (ga_cons (gi E7) (ga_cons (gj E7) ga_nil)) (by simp)) (by rw [List.length_map]; omega) fun H8 ys h8 x8 E8 t8 k8 => ?_
      refine k_seq (q_inc (a := (i : Int)) E8 rfl ?_)
      refine q_inc (a := (j : Int)) (E8.set (i := 5) (v := .int ((i : Int) + 1)) (d := .int ((i + 1 : Nat) : Int)) (show DX X2 H8 (.int ((i + 1 : Nat) : Int)) (.int ((i + 1 : Nat) : Int)) from .int _)) rfl ?_
      have E9 := (E8.set (i := 5) (v := .int ((i : Int) + 1)) (d := .int ((i + 1 : Nat) : Int)) (show DX X2 H8 (.int ((i + 1 : Nat) : Int)) (.int ((i + 1 : Nat) : Int)) from .int _)).set (i := 6) (v := .int ((j : Int) + 1)) (d := .int ((j + 1 : Nat) : Int)) (show DX X2 H8 (.int ((j + 1 : Nat) : Int)) (.int ((j + 1 : Nat) : Int)) from .int _)
      refine ⟨_, by omega, i + 1, j + 1, row ++ [(i, j)], ys, _, rfl, li, lj, fun r g => ?_, by rw [List.length_append, List.length_singleton]; omega, t8, fun a o n e => k8 a o n (s7 _ _ (p6 a o n e)), h8, by rw [List.map_append]; exact x8, E9⟩
      rw [List.append_assoc]
      exact hk _ (.keep li lj hb.1 e2 g)
    have E7 := E6.same s7
    have t8 := t7.mono s7
    have p7 : ∀ a o, a ≠ La → Hs a = some o → H7 a = some o := fun a o n e => s7 _ _ (p6 a o n e)
    have s57 := (s5.trans s6).trans s7
    have hn : ¬ (Mw ws vs i j = true ∧ k0 (Mw ws vs) ws.length vs.length h (i + 1) (j + 1) = k1 (Mw ws vs) ws.length vs.length h i j) := fun z => by
      rw [z.1, decide_eq_true (by omega)] at hb
      cases hb
    refine s_if (b := decide ((k1 (Mw ws vs) ws.length vs.length h (i + 1) j : Int) + (h : Int) = (k1 (Mw ws vs) ws.length vs.length h i j : Int))) (gt_eqI t8 (g_addI t8 (g_ixT t8 (cell E7 rfl t8 p7 (by omega) (by omega) (gi1 t8 E7) (gj E7)) g_int rfl) (g_var (i := 3) (d := .int (h : Int)) E7 rfl)) (gc E7)) (fun hb2 H8 s8 => ?_) (fun hb2 H8 s8 => ?_)
    · have := of_decide_eq_true hb2
      have E8 := E7.same s8
      refine q_inc (a := (i : Int)) E8 rfl ?_
      have E9 := E8.set (i := 5) (v := .int ((i : Int) + 1)) (d := .int ((i + 1 : Nat) : Int)) (show DX X2 H8 (.int ((i + 1 : Nat) : Int)) (.int ((i + 1 : Nat) : Int)) from .int _)
      exact ⟨_, by omega, i + 1, j, row, xs, _, rfl, li, hj, fun r g => hk _ (.left li lj hn (by omega) g), by omega, t8.mono s8, fun a o n e => s8 _ _ (p7 a o n e), s8 _ _ (s57 _ _ p2), p3.mono (Kp.of (s57.trans s8)), E9⟩
    · have := of_decide_eq_false hb2
      have E8 := E7.same s8
      refine q_inc (a := (j : Int)) E8 rfl ?_
      have E9 := E8.set (i := 6) (v := .int ((j : Int) + 1)) (d := .int ((j + 1 : Nat) : Int)) (show DX X2 H8 (.int ((j + 1 : Nat) : Int)) (.int ((j + 1 : Nat) : Int)) from .int _)
      exact ⟨_, by omega, i, j + 1, row, xs, _, rfl, hi, lj, fun r g => hk _ (.right li lj hn (by omega) g), hr, t8.mono s8, fun a o n e => s8 _ _ (p7 a o n e), s8 _ _ (s57 _ _ p2), p3.mono (Kp.of (s57.trans s8)), E9⟩
end K53

/-! The difference of two texts. -/
namespace K53
open PySem PySem.Spec PyProof.Rows L2 KD KL
-- RAISES check_texts is_difference check_difference cut_text turned_round difference
-- HINT difference slice sl_seq
variable {P : Program} {w : World} {K : PySem.W.Frag} {mg : Str → Option Value} {base : Heap}
/-! ### slices of lists and tuples -/
def rSlQ (K : PySem.W.Frag) : V → Option Int → Option Int → Hp → VK → Prop := fun x lo hi H Q => rSlL K x lo hi H Q ∨ rSlA K x lo hi H Q
theorem sl_seq {X : Cx} : SlR X (rSlQ X.K) := SlR.or sl_list sl_tupA
/-- a slice has the slice's items -/
theorem g_slQ {X : Addr → Prop} {te : TE} {tl th : TO} {σ : L2.St} {H : Hp} {d : PyData} {lo hi : Option Int} (t : Trk X H) (h : G X te σ H d) (hs : isSeq d = true) (hl : GO tl σ H lo) (hh : GO th σ H hi) : ∃ e, isSeq e = true ∧ itemsD e = cutPD (itemsD d) lo hi ∧ G X (tSl (rSlQ K) te tl th) σ H e := by
  cases d with
  | list ds =>
    refine ⟨.list (cutPD ds lo hi), rfl, rfl, fun H1 s Q q => ?_⟩
    exact h H1 s _ fun v H2 s2 r => hl H2 (s.trans s2) _ fun H3 s3 => hh H3 ((s.trans s2).trans s3) _ fun H4 s4 => by
      obtain ⟨a, xs, rfl, n, e, rx⟩ := (r.mono (Kp.of (s3.trans s4))).lst_inv
      exact .inl ⟨a, xs, rfl, SqL.of e, fun p hp => q _ _ (((s2.trans s3).trans s4).trans (Same.upd hp)) (DX.newL ((((t.mono s).mono s2).mono s3).mono s4) (rx.cut lo hi) hp)⟩
  | tuple ds =>
    refine ⟨.tuple (cutPD ds lo hi), rfl, rfl, fun H1 s Q q => ?_⟩
    exact h H1 s _ fun v H2 s2 r => hl H2 (s.trans s2) _ fun H3 s3 => hh H3 ((s.trans s2).trans s3) _ fun H4 s4 => by
      obtain ⟨a, xs, rfl, n, e, rx⟩ := (r.mono (Kp.of (s3.trans s4))).tup_inv
      have lx := rx.length
      refine .inr ⟨a, xs, rfl, SqT.of e, fun hw => q _ _ ((s2.trans s3).trans s4) ?_, fun _ p hp => q _ _ (((s2.trans s3).trans s4).trans (Same.upd hp)) (DX.newT ((((t.mono s).mono s2).mono s3).mono s4) (rx.cut lo hi) hp)⟩
      have e2 : cutPD ds lo hi = ds := by
        show (ds.drop (HT.sIx ds.length 0 lo)).take (HT.sIx ds.length ds.length hi - HT.sIx ds.length 0 lo) = ds
        rw [← lx, hw.1, hw.2, List.drop_zero, Nat.sub_zero, lx, List.take_length]
      rw [e2]
      exact .tup n e rx
  | _ => cases hs
/-! ### the row that is gone -/
theorem goes_ex {M : Nat → Nat → Bool} {n m h : Nat} {c0 c1 : Nat → Nat → Nat} : ∀ (k i j : Nat), (n - i) + (m - j) ≤ k → i ≤ n → j ≤ m → ∃ r, Goes M n m h c0 c1 i j r
  | 0, i, j, hk, hi, hj => ⟨[], .stop (by omega) hi hj⟩
  | k + 1, i, j, hk, hi, hj => by
    by_cases a : i < n ∧ j < m
    · obtain ⟨a, b⟩ := a
      by_cases c : M i j = true ∧ c0 (i + 1) (j + 1) = c1 i j
      · obtain ⟨r, g⟩ := goes_ex (M := M) (n := n) (m := m) (h := h) (c0 := c0) (c1 := c1) k (i + 1) (j + 1) (by omega) (by omega) (by omega)
        exact ⟨_, .keep a b c.1 c.2 g⟩
      · by_cases d : c1 (i + 1) j + h = c1 i j
        · obtain ⟨r, g⟩ := goes_ex (M := M) (n := n) (m := m) (h := h) (c0 := c0) (c1 := c1) k (i + 1) j (by omega) (by omega) (by omega)
          exact ⟨_, .left a b c d g⟩
        · obtain ⟨r, g⟩ := goes_ex (M := M) (n := n) (m := m) (h := h) (c0 := c0) (c1 := c1) k i (j + 1) (by omega) (by omega) (by omega)
          exact ⟨_, .right a b c d g⟩
    · exact ⟨[], .stop (by omega) hi hj⟩
theorem kept_ex (ws vs : List Str) : ∃ r, Kept ws vs r := goes_ex _ 0 0 (Nat.le_refl _) (Nat.zero_le _) (Nat.zero_le _)
noncomputable def keptR (ws vs : List Str) : List Pr := Classical.choose (kept_ex ws vs)
theorem keptR_is (ws vs : List Str) : Kept ws vs (keptR ws vs) := Classical.choose_spec (kept_ex ws vs)
theorem g_callRow {X : Addr → Prop} {σ : L2.St} {H : Hp} {ta tb : TE} {E : XK} {d1 d2 : PyData} {ws vs : List Str} (t : Trk X H) (h1 : G X ta σ H d1) (h2 : G X tb σ H d2) (T1 : Txt d1 ws) (T2 : Txt d2 vs) : G X (tCall spKept [] E (tCons ta (tCons tb tNil))) σ H (rowD (keptR ws vs)) :=
  g_call (ga_cons h1 (ga_cons h2 ga_nil)) fun us H1 s rs Q q => by
    cases rs with
    | cons r1 rs =>
      cases rs with
      | cons r2 rs =>
        cases rs
        exact ⟨X, _, _, d1, d2, ws, vs, rfl, t.mono s, r1, r2, T1, T2, fun w r H' kr s' dw => q w H' s' (by rw [(keptR_is ws vs).uniq kr]; exact dw)⟩
def dfrPre (a b : PyData) : Prop := ∃ ws vs, Txt a ws ∧ Txt b vs ∧ isNone (wrongD a) = true ∧ isNone (wrongD b) = true ∧ wordsAll a ∧ wordsAll b
noncomputable def difL (a b : PyData) : List PyData := cutsL (itemsD b) (0, 0) (keptR (wsOf a) (wsOf b) ++ [((wsOf a).length, (wsOf b).length)])
theorem Txt.of {d : PyData} {ws : List Str} (T : Txt d ws) : wsOf d = ws := by
  unfold wsOf
  rw [T.its, List.map_map]
  exact (List.map_congr_left fun _ _ => rfl).trans (List.map_id ws)
theorem rs_bh {ws vs : List Str} : (keptR ws vs ++ [(ws.length, vs.length)]).Pairwise bh := by
  obtain ⟨k1, k2, _⟩ := (keptR_is ws vs).best
  exact List.pairwise_append.mpr ⟨k1.1, List.pairwise_singleton _ _, fun a ha b hb => by rw [List.mem_singleton.mp hb]; exact k2 a ha⟩
abbrev s_difference : Stmt := topS 20
abbrev n_difference : List Str := ["one", "other", "cuts", "place", "put", "i", "j"]
theorem sc_difference : FnScope n_difference ["one", "other"] (defScope s_difference) := ⟨rfl, rfl, rfl, by decide +kernel, rfl, by decide +kernel, by decide +kernel⟩
theorem ok_difference {f C : Addr} {fd : FuncData} (F : Fun K "difference" "difference" s_difference f fd) (T : Bl mg) (O_check_texts : Own P w K mg base (L2.CX P w) 3 "check_texts" ["texts"] (spX1 (fun D => ∃ ds, D = .list ds ∧ ∀ d ∈ ds, wordsAll d) fun D => textsOutN C (itemsD D))) (O_kept_row : Own P w K mg base CX0 2 "kept_row" ["one", "other"] spKept) : FnOk P w K mg base (L2.CX P w) 4 f fd ["one", "other"] (spX2 dfrPre fun a b => .val (.list (difL a b))) := by
  refine okX2 F sc_difference (by decide) fun cdv A outer s H E X d1 d2 Q hr t hp q => ⟨_, (pss_cons (ps_expr (pe_ownX O_check_texts hr (by decide) (takes_of rfl rfl rfl rfl) (by rfl) (pa_cons (pe_lst (pa_cons (pv 0) (pa_cons (pv 1) pa_nil))) pa_nil)))
    (pss_cons (ps_set (i := 2) sc_difference.nd rfl (by first | exact Or.inl rfl | exact Or.inr rfl) (pe_lst pa_nil))
    (pss_cons (ps_set (i := 3) sc_difference.nd rfl (by first | exact Or.inl rfl | exact Or.inr rfl) pe_int)
    (pss_cons (ps_set (i := 4) sc_difference.nd rfl (by first | exact Or.inl rfl | exact Or.inr rfl) pe_int)
    (pss_cons (ps_for (passes_of rfl) rfl (pi_list (pe_op op_addA (pe_own O_kept_row hr (by decide) (by rfl) (pa_cons (pv 0) (pa_cons (pv 1) pa_nil))) (pe_lst (pa_cons (pe_tup (pa_cons (pe_callB call_len (by rfl) T.b_len boot_len (pa_cons (pv 0) pa_nil)) (pa_cons (pe_callB call_len (by rfl) T.b_len boot_len (pa_cons (pv 1) pa_nil)) pa_nil))) pa_nil)))) (pg_tup (n := 2) rfl (pgs_cons (pg_name (i := 5) sc_difference.nd rfl (by first | exact Or.inl rfl | exact Or.inr rfl)) (pgs_cons (pg_name (i := 6) sc_difference.nd rfl (by first | exact Or.inl rfl | exact Or.inr rfl)) pgs_nil)))
    (pss_cons (ps_if (PW.pt (pw_or (pt_cmpR op_lt (pv 3) (pv 5) (nomark _)) (pw_or1 (pt_cmpR op_lt (pv 4) (pv 6) (nomark _)))))
    (pss_one (ps_expr (pe_bm PySem.F.plainAttrs_list PySem.F.slot_list_append PySem.F.type_list_append mt_append (pv 2) (pa_cons (pe_tup (pa_cons (pv 3) (pa_cons (pe_op op_sub (pv 5) (pv 3)) (pa_cons (pe_callTy call_list_of (by rfl) T.b_list boot_list (pa_cons (pe_slice sl_seq (pv 1) (po_some (pv 4)) (po_some (pv 6))) pa_nil)) pa_nil)))) pa_nil)))) pss_nil)
    (pss_cons (ps_set (i := 3) sc_difference.nd rfl (by first | exact Or.inl rfl | exact Or.inr rfl) (pe_op op_addA (pv 5) pe_int))
    (pss_one (ps_set (i := 4) sc_difference.nd rfl (by first | exact Or.inl rfl | exact Or.inr rfl) (pe_op op_addA (pv 6) pe_int))))))
    (pss_one (ps_ret (pv 2)))))))), fun σ En => ?_⟩
  obtain ⟨ws, vs, T1, T2, n1, n2, a1, a2⟩ := hp
  refine k_drop (c_X1 t (g_lst t (ga_cons (g_var (i := 0) En rfl) (ga_cons (g_var (i := 1) En rfl) ga_nil)) (by simp)) ⟨[d1, d2], rfl, by simp; exact ⟨a1, a2⟩⟩ ⟨fun r e w0 H1 s1 dw _ => ?_, fun C' fl r e a v H1 s1 ea dv => ?_⟩)
  rotate_left
  · exfalso
    rw [show textsOutN C (itemsD (.list [d1, d2])) = .val .none from textsN_ok (by simp [itemsD]; exact ⟨n1, n2⟩)] at e
    cases e
  have E1 := En.same s1
  have t1 := t.mono s1
  have hd : difL d1 d2 = cutsL (itemsD d2) (0, 0) (keptR ws vs ++ [(ws.length, vs.length)]) := by unfold difL; rw [T1.of, T2.of]
  have kv : ∀ w H', Same H1 H' → DX X H' w (.list (difL d1 d2)) → Nw H1 w → Q w H' := fun w H' s' dw nw => q.1 _ rfl w H' (s1.trans s') dw (Nw.back s1 nw)
  rw [hd] at kv
  have hbh := rs_bh (ws := ws) (vs := vs)
  have hrow : (keptR ws vs).length ≤ 60 := by
    have := len_fst (keptR_is ws vs).best.1 (lo := 0) (hi := ws.length) fun p hp => ⟨Nat.zero_le _, ((keptR_is ws vs).best.2.1 p hp).1⟩
    have := T1.few
    omega
  refine k_own (i := 2) E1 t1 (gn_lst t1 ga_nil (by simp)) fun L H2 xs2 f2 s2 h2 x2 E2 t2 => ?_
  refine q_set (i := 3) (d := .int 0) E2 g_int fun H3 v3 s3 E3 => ?_
  have t3 := t2.mono s3
  refine q_set (i := 4) (d := .int 0) E3 g_int fun H4 v4 s4 E4 => ?_
  have t4 := t3.mono s4
  let X' : Addr → Prop := fun b => X b ∨ b = L
  have nX : ¬ X L := t1.new f2
  obtain ⟨rs, hrs⟩ : ∃ rs, rs = keptR ws vs ++ [(ws.length, vs.length)] := ⟨_, rfl⟩
  have lrs : rs.length ≤ 61 := by rw [hrs, List.length_append]; simp; omega
  rw [← hrs] at kv hbh
  obtain ⟨bs, hbs⟩ : ∃ bs, bs = itemsD d2 := ⟨_, rfl⟩
  rw [← hbs] at kv
  let Γ (a b : Int) (x y : Sv) : List Sv := [.dat d1, .dat d2, .val (.ref L), .dat (.int a), .dat (.int b), x, y]
  have E4 : EnvOk X' H4 _ (Γ 0 0 .un .un) := E4
  have hsize : ((keptR ws vs).map prD).length + 1 ≤ 1000000 := by rw [List.length_map]; omega
  refine s_forD (X := X') (ds := rs.map prD) (gi_list (g_is (g_cat t4 (g_callRow t4 (g_var (i := 0) E4 rfl) (g_var (i := 1) E4 rfl) T1 T2) (g_lst t4 (ga_cons (g_tup t4 (ga_cons (g_is (g_len t4 (g_var (i := 0) E4 rfl) (hasLen_seq T1.seq)) (by rw [T1.len])) (ga_cons (g_is (g_len t4 (g_var (i := 1) E4 rfl) (hasLen_seq T2.seq)) (by rw [T2.len])) ga_nil)) (by simp)) ga_nil) (by simp)) hsize) (by rw [hrs, List.map_append]; rfl))) (fun Hb k σ' H' => Kp X' Hb H' ∧ Trk X' H' ∧ Same H1 H' ∧ ∃ (far : Pr) (ys : List V) (acc : List PyData), H' L = some (.lst ys) ∧ DXs X' H' ys acc ∧ acc.length ≤ k ∧ (∀ p ∈ rs.drop k, far.1 ≤ p.1 ∧ far.2 ≤ p.2) ∧ acc ++ cutsL bs far (rs.drop k) = cutsL bs (0, 0) rs ∧ EnvOk X' H' σ' (Γ far.1 far.2 .un .un)) ?_ ?_ ?_ ?_
  · intro Hb sb
    cases x2
    exact ⟨Kp.refl, t4.mono sb, ((s2.trans s3).trans s4).trans sb, (0, 0), [], [], sb _ _ (s4 _ _ (s3 _ _ h2)), .nil, by simp, fun p _ => ⟨Nat.zero_le _, Nat.zero_le _⟩, rfl, E4.same sb⟩
  · rintro Hb k σ' H' ⟨p1, p2, _⟩
    exact ⟨p1, p2⟩
  · rintro Hb k x d σ' H' H'' sb hdk ⟨p1, p2, p3, far, ys, acc, p4, p5, p6, pf, p7, E⟩ s5 dx
    rw [List.getElem?_map] at hdk
    obtain ⟨p, hp, rfl⟩ := Option.map_eq_some_iff.mp hdk
    have hi := (List.getElem?_eq_some_iff.mp hp).1
    have edrop : rs.drop k = p :: rs.drop (k + 1) := by
      rw [List.drop_eq_getElem_cons hi, (List.getElem?_eq_some_iff.mp hp).2]
    have hnext : ∀ z ∈ rs.drop (k + 1), p.1 + 1 ≤ z.1 ∧ p.2 + 1 ≤ z.2 := fun z hz => by
      have hd := hbh.sublist (List.drop_sublist k rs)
      rw [edrop] at hd
      exact (List.pairwise_cons.mp hd).1 z hz
    have hfar := pf p (by rw [edrop]; exact List.mem_cons_self)
    rw [edrop, cutsL] at p7
    have t5 := p2.mono s5
    refine g_pair (i := 5) (j := 6) dx fun u v q1 q2 => ?_
    have E5 : EnvOk X' H'' ((σ'.set 5 (some u)).set 6 (some v)) (Γ far.1 far.2 (.dat (.int (p.1 : Nat))) (.dat (.int (p.2 : Nat)))) := ((E.same s5).set (i := 5) q1).set (i := 6) q2
    refine q_ifJ (b := decide ((far.1 : Int) < (p.1 : Int)) || decide ((far.2 : Int) < (p.2 : Int))) (gt_or (gt_cmpI t5 (g := fun i j => decide (i < j)) (g_var (i := 3) (d := .int (far.1 : Int)) E5 rfl) (g_var (i := 5) (d := .int (p.1 : Int)) E5 rfl)) (fun _ => gt_cmpI t5 (g := fun i j => decide (i < j)) (g_var (i := 4) (d := .int (far.2 : Int)) E5 rfl) (g_var (i := 6) (d := .int (p.2 : Int)) E5 rfl))) (fun σ2 H2 => Kp X' Hb H2 ∧ Trk X' H2 ∧ Same H1 H2 ∧ ∃ (ys : List V) (ac : List PyData), H2 L = some (.lst ys) ∧ DXs X' H2 ys ac ∧ ac.length ≤ k + 1 ∧ ac ++ cutsL bs (p.1 + 1, p.2 + 1) (rs.drop (k + 1)) = cutsL bs (0, 0) rs ∧ EnvOk X' H2 σ2 (Γ far.1 far.2 (.dat (.int (p.1 : Nat))) (.dat (.int (p.2 : Nat))))) (fun σ6 H6 pJ => ?_) (fun h1 hJ H6 s6 => ?_) fun h0 H6 s6 => ?_
    · obtain ⟨q1, q2, q3, ys6, ac, q4, q5, q6, q7, E6⟩ := pJ
      refine q_set (i := 3) (d := .int ((p.1 + 1 : Nat) : Int)) E6 (g_is (g_addI (j := 1) q2 (g_var (i := 5) (d := .int (p.1 : Int)) E6 rfl) g_int) rfl) fun H7 v7 s7 E7 => ?_
      have t7 := q2.mono s7
      refine k_set1 ((g_is (e := .int ((p.2 + 1 : Nat) : Int)) (g_addI (j := 1) t7 (g_var (i := 6) (d := .int (p.2 : Int)) E7 rfl) g_int) rfl) H7 (Same.refl _) _ fun v8 H8 s8 r8 => ?_)
      have s78 := s7.trans s8
      exact ⟨q1.trans (Kp.of s78), q2.mono s78, q3.trans s78, (p.1 + 1, p.2 + 1), ys6, ac, s78 _ _ q4, q5.mono (Kp.of s78), q6, hnext, q7, envUn' (envUn' ((E7.same s8).set (i := 4) (d := .int ((p.2 + 1 : Nat) : Int)) r8) 5) 6⟩
    · have hne : p ≠ far := fun e => by
        rw [e] at h1
        simp at h1
      rw [if_neg hne] at p7
      have E6 := E5.same s6
      have t6 := t5.mono s6
      have s56 := s5.trans s6
      obtain ⟨e, es, ei, ge⟩ := g_slQ (K := K) (lo := some (far.2 : Int)) (hi := some (p.2 : Int)) t6 (g_var (i := 1) (d := d2) E6 rfl) T2.seq (go_some (g_var (i := 4) (d := .int (far.2 : Int)) E6 rfl)) (go_some (g_var (i := 6) (d := .int (p.2 : Int)) E6 rfl))
      refine k_drop1 (q_append (i := 2) (L := L) (d := cutD bs far p) E6 rfl (.inr rfl) t6 (s56 _ _ p4) (p5.mono (Kp.of s56)) (g_tup t6 (ga_cons (g_var (i := 3) (d := .int (far.1 : Int)) E6 rfl) (ga_cons (g_op t6 (g_var (i := 5) (d := .int (p.1 : Int)) E6 rfl) (g_var (i := 3) (d := .int (far.1 : Int)) E6 rfl) (rd_I0 (g := fun i j => i - j))) (ga_cons (g_is (g_listOf t6 ge es) (by rw [ei, hbs])) ga_nil))) (by simp)) (by omega) fun H7 ys7 h7 x7 E7 t7 k7 => ?_)
      have kx : Kp X' H6 H7 := fun a o n e => k7 a o (fun z => n (.inr z)) e
      refine hJ _ _ ⟨((p1.trans (Kp.of s56))).trans kx, t7, fun a o e => ?_, ys7, acc ++ [cutD bs far p], h7, x7, by rw [List.length_append]; simp; omega, by rw [List.append_assoc]; exact p7, E7⟩
      have n1 : a ≠ L := fun z => by rw [z, f2] at e; cases e
      exact k7 a o n1 (s56 a o (p3 a o e))
    · have heq : p = far := by
        have h0 := Bool.or_eq_false_iff.mp h0
        have := of_decide_eq_false h0.1
        have := of_decide_eq_false h0.2
        exact Prod.ext (by omega) (by omega)
      rw [if_pos heq, List.nil_append] at p7
      have s56 := s5.trans s6
      exact ⟨p1.trans (Kp.of s56), t5.mono s6, p3.trans s56, ys, acc, s56 _ _ p4, p5.mono (Kp.of s56), by omega, p7, E5.same s6⟩
  · rintro Hb σ' H' sb ⟨p1, p2, p3, far, ys, acc, p4, p5, p6, pf, p7, E⟩
    rw [List.length_map, List.drop_length, cutsL, List.append_nil] at p7
    show tRet (tVar 2) { nx := fun _ H' => Q .non H', rt := Q } σ' H'
    exact ⟨_, E.get 2 _ rfl, kv _ H' p3 (.lst nX p4 (by rw [← p7]; exact p5.less fun _ => .inl)) fun a z => by cases z; exact f2⟩
end K53

/-! How many cuts: texts of one word, texts of one word but one. -/
namespace KL
variable {M : Nat → Nat → Bool} {n m : Nat}
theorem one_pos {x : Nat} (h : 0 < x) : one x = 1 := by unfold one; rw [if_pos h]
theorem one_zero {x : Nat} (h : one x = 0) : x = 0 := by
  unfold one at h
  split at h <;> omega
/-- no cut: all is kept -/
theorem cuts_zero : ∀ (r : List Pr) (i j : Nat), i ≤ n → j ≤ m → r.Pairwise bh → (∀ p ∈ r, i ≤ p.1 ∧ j ≤ p.2 ∧ p.1 < n ∧ p.2 < m) → cuts n m i j r = 0 → n - i = r.length ∧ m - j = r.length
  | [], i, j, hi, hj, _, _, h => by
    have := one_zero (x := (n - i) + (m - j)) h
    simp
    omega
  | p :: r, i, j, hi, hj, hp, hb, h => by
    obtain ⟨b1, b2, b3, b4⟩ := hb p List.mem_cons_self
    have first := (List.pairwise_cons.mp hp).1
    have h : one ((p.1 - i) + (p.2 - j)) + cuts n m (p.1 + 1) (p.2 + 1) r = 0 := h
    have h1 := one_zero (x := (p.1 - i) + (p.2 - j)) (by omega)
    have ih := cuts_zero r (p.1 + 1) (p.2 + 1) b3 b4 (List.pairwise_cons.mp hp).2 (fun q hq => by
      have := first q hq
      have b := hb q (List.mem_cons_of_mem _ hq)
      unfold bh at this
      omega) (by omega)
    rw [List.length_cons]
    omega
theorem cuts_split (p : Pr) (r2 : List Pr) : ∀ (r1 : List Pr) (i j : Nat), cuts n m i j (r1 ++ p :: r2) = cuts p.1 p.2 i j r1 + cuts n m (p.1 + 1) (p.2 + 1) r2
  | [], i, j => rfl
  | q :: r1, i, j => by
    show one _ + cuts n m _ _ (r1 ++ p :: r2) = one _ + cuts p.1 p.2 _ _ r1 + _
    rw [cuts_split p r2 r1]
    omega
theorem cuts_str : ∀ (c i j : Nat), cuts n m i j (str i j c) = one ((n - (i + c)) + (m - (j + c)))
  | 0, i, j => rfl
  | c + 1, i, j => by
    show one ((i - i) + (j - j)) + cuts n m (i + 1) (j + 1) (str (i + 1) (j + 1) c) = _
    rw [cuts_str c, show (i - i) + (j - j) = 0 by omega, show i + 1 + c = i + (c + 1) by omega, show j + 1 + c = j + (c + 1) by omega]
    simp [one]
theorem cuts_str' (c i j i0 j0 : Nat) (hi : i0 ≤ i) (hj : j0 ≤ j) (hc : 0 < c) : cuts n m i0 j0 (str i j c) = one ((i - i0) + (j - j0)) + one ((n - (i + c)) + (m - (j + c))) := by
  cases c with
  | zero => omega
  | succ c =>
    show one ((i - i0) + (j - j0)) + cuts n m (i + 1) (j + 1) (str (i + 1) (j + 1) c) = _
    rw [cuts_str c, show i + 1 + c = i + (c + 1) by omega, show j + 1 + c = j + (c + 1) by omega]
/-- a text of one word made shorter: one cut -/
theorem like_one (h : ∀ i j, i < n → j < m → M i j = true) (hm : 0 < m) (hn : m < n) {r : List Pr} (hr : Ch M r) (hb : Bd n m r) (hl : r.length = L M n m) (best : ∀ s, Ch M s → Bd n m s → s.length = L M n m → cuts n m 0 0 r ≤ cuts n m 0 0 s) : r.length = m ∧ cuts n m 0 0 r = 1 := by
  have eL : L M n m = m := by rw [L_all h]; omega
  have b1 := best (str 0 0 m) (str_ch (M := M) fun k hk => h _ _ (by omega) (by omega)) (fun p hp => by
    obtain ⟨k, hk, rfl⟩ := str_mem hp
    show 0 + k < n ∧ 0 + k < m
    omega) (by rw [str_len, eL])
  rw [cuts_str, one_pos (by omega)] at b1
  refine ⟨by omega, ?_⟩
  by_cases e : cuts n m 0 0 r = 0
  · have := cuts_zero r 0 0 (Nat.zero_le _) (Nat.zero_le _) hr.1 (fun p hp => by have := hb p hp; omega) e
    omega
  · omega
/-- one word on both sides of another one, on both sides as much shorter: two cuts -/
theorem like_two {a b : Nat} (hab : b < a) (h : ∀ i j, i < 2 * a + 1 → j < 2 * b + 1 → (M i j = true ↔ (i = a ↔ j = b))) {r : List Pr} (hr : Ch M r) (hb : Bd (2 * a + 1) (2 * b + 1) r) (hl : r.length = L M (2 * a + 1) (2 * b + 1)) (best : ∀ s, Ch M s → Bd (2 * a + 1) (2 * b + 1) s → s.length = L M (2 * a + 1) (2 * b + 1) → cuts (2 * a + 1) (2 * b + 1) 0 0 r ≤ cuts (2 * a + 1) (2 * b + 1) 0 0 s) :
    r.length = 2 * b + 1 ∧ cuts (2 * a + 1) (2 * b + 1) 0 0 r = 2 := by
  have hs : Ch M (str (a - b) 0 (2 * b + 1)) := str_ch (M := M) fun k hk => (h _ _ (by omega) (by omega)).mpr ⟨fun e => by omega, fun e => by omega⟩
  have hsb : Bd (2 * a + 1) (2 * b + 1) (str (a - b) 0 (2 * b + 1)) := fun p hp => by
    obtain ⟨k, hk, rfl⟩ := str_mem hp
    show a - b + k < 2 * a + 1 ∧ 0 + k < 2 * b + 1
    omega
  have up := len_snd (lo := 0) (hi := 2 * b + 1) hr fun p hp => ⟨by omega, (hb p hp).2⟩
  have lo := L_up _ _ _ hs hsb
  rw [str_len] at lo
  have lr : r.length = 2 * b + 1 := by omega
  have b1 := best _ hs hsb (by rw [str_len]; omega)
  rw [cuts_str' _ _ _ _ _ (by omega) (by omega) (by omega), one_pos (by omega), one_pos (by omega)] at b1
  refine ⟨lr, ?_⟩
  -- the other word is kept
  have mem : (a, b) ∈ r := by
    by_cases he : ∃ p ∈ r, p.2 = b
    · obtain ⟨p, hp, e⟩ := he
      have hbp := hb p hp
      have := (h p.1 p.2 hbp.1 hbp.2).mp (hr.2 p hp)
      have e1 : p.1 = a := this.mpr e
      obtain ⟨p1, p2⟩ := p
      simp only at e e1
      subst e e1
      exact hp
    · exfalso
      have l1 := len_snd (lo := 0) (hi := b) (l := r.filter fun p => decide (p.2 < b)) ⟨hr.1.filter _, fun p hp => hr.2 p (List.mem_filter.mp hp).1⟩ fun p hp => ⟨by omega, by simpa using (List.mem_filter.mp hp).2⟩
      have l2 := len_snd (lo := b + 1) (hi := 2 * b + 1) (l := r.filter fun p => !decide (p.2 < b)) ⟨hr.1.filter _, fun p hp => hr.2 p (List.mem_filter.mp hp).1⟩ fun p hp => by
        obtain ⟨h1, h2⟩ := List.mem_filter.mp hp
        have h3 := (hb p h1).2
        have h4 : p.2 ≠ b := fun e => he ⟨p, h1, e⟩
        have h5 : ¬ p.2 < b := by simpa using h2
        omega
      have l3 : (r.filter fun p => decide (p.2 < b)).length + (r.filter fun p => !decide (p.2 < b)).length = r.length := by
        clear up lo lr b1 l1 l2 he hl best hb hr
        induction r with
        | nil => rfl
        | cons p r ih =>
          by_cases e : p.2 < b
          · rw [List.filter_cons_of_pos (by simp [e]), List.filter_cons_of_neg (by simp [e]), List.length_cons, List.length_cons]
            omega
          · rw [List.filter_cons_of_neg (by simp [e]), List.filter_cons_of_pos (by simp [e]), List.length_cons, List.length_cons]
            omega
      omega
  obtain ⟨r1, r2, rfl⟩ := List.append_of_mem mem
  have c1 := ch_left hr
  have c2 := ch_right hr
  have first := ch_first c2
  have c3 := ch_right (l := [(a, b)]) c2
  have lb1 : Bd a b r1 := fun p hp => (List.pairwise_append.mp hr.1).2.2 p hp (a, b) List.mem_cons_self
  have n1 := len_snd (lo := 0) (hi := b) c1 fun p hp => ⟨by omega, (lb1 p hp).2⟩
  have n2 := len_snd (lo := b + 1) (hi := 2 * b + 1) c3 fun p hp => by
    have h1 := first p hp
    have h2 := hb p (List.mem_append_right _ (List.mem_cons_of_mem _ hp))
    unfold bh at h1
    simp only at h1
    omega
  rw [List.length_append, List.length_cons] at lr
  rw [cuts_split]
  rw [cuts_split] at b1
  have k1 : cuts a b 0 0 r1 ≠ 0 := fun e => by
    have := cuts_zero r1 0 0 (Nat.zero_le _) (Nat.zero_le _) c1.1 (fun p hp => by have := lb1 p hp; omega) e
    omega
  have k2 : cuts (2 * a + 1) (2 * b + 1) (a + 1) (b + 1) r2 ≠ 0 := fun e => by
    have := cuts_zero r2 (a + 1) (b + 1) (by omega) (by omega) c3.1 (fun p hp => by
      have h1 := first p hp
      have h2 := hb p (List.mem_append_right _ (List.mem_cons_of_mem _ hp))
      unfold bh at h1
      simp only at h1
      omega) e
    omega
  show cuts a b 0 0 r1 + cuts (2 * a + 1) (2 * b + 1) (a + 1) (b + 1) r2 = 2
  have b1 : cuts a b 0 0 r1 + cuts (2 * a + 1) (2 * b + 1) (a + 1) (b + 1) r2 ≤ 1 + 1 := b1
  omega
end KL

/-! Where the matches are a row themselves, it is the longest one alone. -/
namespace KL
theorem bh_ne {p q : Pr} (h : bh p q) : q ≠ p := fun e => by
  subst e
  unfold bh at h
  omega
theorem sub_len : ∀ {K r : List Pr}, K.Pairwise bh → r.Pairwise bh → (∀ p ∈ r, p ∈ K) → r.length ≤ K.length
  | [], r, _, _, s => by
    cases r with
    | nil => simp
    | cons p r => exact absurd (s p List.mem_cons_self) (by simp)
  | k :: K, [], _, _, _ => by simp
  | k :: K, p :: r, hK, hr, s => by
    obtain ⟨k1, k2⟩ := List.pairwise_cons.mp hK
    obtain ⟨r1, r2⟩ := List.pairwise_cons.mp hr
    have tail : ∀ q ∈ r, q ∈ K := fun q hq => by
      rcases List.mem_cons.mp (s q (List.mem_cons_of_mem _ hq)) with h | h
      · exfalso
        have h1 := r1 q hq
        rcases List.mem_cons.mp (s p List.mem_cons_self) with h2 | h2
        · rw [h, h2] at h1
          unfold bh at h1
          omega
        · have h3 := k1 p h2
          rw [h] at h1
          unfold bh at h1 h3
          omega
      · exact h
    have := sub_len k2 r2 tail
    rw [List.length_cons, List.length_cons]
    omega
theorem sub_eq : ∀ {K r : List Pr}, K.Pairwise bh → r.Pairwise bh → (∀ p ∈ r, p ∈ K) → K.length ≤ r.length → r = K
  | [], r, _, _, s, _ => by
    cases r with
    | nil => rfl
    | cons p r => exact absurd (s p List.mem_cons_self) (by simp)
  | k :: K, [], _, _, _, l => by simp at l
  | k :: K, p :: r, hK, hr, s, l => by
    obtain ⟨k1, k2⟩ := List.pairwise_cons.mp hK
    obtain ⟨r1, r2⟩ := List.pairwise_cons.mp hr
    rcases List.mem_cons.mp (s p List.mem_cons_self) with h | h
    · subst h
      rw [sub_eq k2 r2 (fun q hq => (List.mem_cons.mp (s q (List.mem_cons_of_mem _ hq))).resolve_left (bh_ne (r1 q hq))) (by rw [List.length_cons, List.length_cons] at l; omega)]
    · exfalso
      have h0 := k1 p h
      have := sub_len (K := K) (r := p :: r) k2 hr fun q hq => by
        rcases List.mem_cons.mp hq with rfl | hq
        · exact h
        · refine (List.mem_cons.mp (s q (List.mem_cons_of_mem _ hq))).resolve_left fun e => ?_
          have h1 := r1 q hq
          rw [e] at h1
          unfold bh at h0 h1
          omega
      rw [List.length_cons] at l
      omega
theorem row_alone {M : Nat → Nat → Bool} {n m : Nat} {K r : List Pr} (hK : Ch M K) (bK : Bd n m K) (all : ∀ i j, i < n → j < m → M i j = true → (i, j) ∈ K) (hr : Ch M r) (br : Bd n m r) (hl : r.length = L M n m) : r = K := by
  refine sub_eq hK.1 hr.1 (fun p hp => ?_) (by rw [hl]; exact L_up n m K hK bK)
  have := br p hp
  exact all p.1 p.2 this.1 this.2 (hr.2 p hp)
end KL

/-! Cuts of a text, and what leads back. -/
namespace KL
variable {α : Type}
abbrev Cu (α : Type) := Nat × Nat × List α
/-- they come one behind another, with a word between two of them at least -/
def Fits : Nat → List (Cu α) → Nat → Prop
  | lo, [], n => lo ≤ n + 1
  | lo, c :: r, n => lo ≤ c.1 ∧ (0 < c.2.1 ∨ 0 < c.2.2.length) ∧ Fits (c.1 + c.2.1 + 1) r n
theorem Fits.le : ∀ {cs : List (Cu α)} {lo n : Nat}, Fits lo cs n → lo ≤ n + 1
  | [], lo, n, h => h
  | c :: r, lo, n, h => by
    have := Fits.le h.2.2
    have := h.1
    omega
theorem Fits.low {cs : List (Cu α)} {lo lo' n : Nat} (h : Fits lo cs n) (hl : lo' ≤ lo) : Fits lo' cs n := by
  cases cs with
  | nil => exact Nat.le_trans hl h
  | cons c r => exact ⟨Nat.le_trans hl h.1, h.2⟩
/-- what is made -/
def mdS (ts : List α) : Nat → List (Cu α) → List α
  | come, [] => ts.drop come
  | come, c :: r => ((ts.drop come).take (c.1 - come) ++ c.2.2) ++ mdS ts (c.1 + c.2.1) r
/-- what leads back -/
def bkS (ts : List α) : Nat → Nat → List (Cu α) → List (Cu α)
  | _, _, [] => []
  | come, q, c :: r => (q + (c.1 - come), c.2.2.length, (ts.drop c.1).take c.2.1) :: bkS ts (c.1 + c.2.1) (q + (c.1 - come) + c.2.2.length) r
theorem take_len {ts : List α} {a k : Nat} (h : a + k ≤ ts.length) : ((ts.drop a).take k).length = k := by
  rw [List.length_take, List.length_drop]
  omega
theorem drop_split {ts : List α} {a k : Nat} : (ts.drop a).take k ++ ts.drop (a + k) = ts.drop a := by
  rw [← List.drop_drop]
  exact List.take_append_drop k _
theorem back_is (ts : List α) : ∀ (cs : List (Cu α)) (lo come q : Nat) (out : List α), Fits lo cs ts.length → come ≤ lo → come ≤ ts.length → out.length = q →
    mdS (out ++ mdS ts come cs) q (bkS ts come q cs) = ts.drop come ∧ bkS (out ++ mdS ts come cs) q come (bkS ts come q cs) = cs ∧ Fits (q + (lo - come)) (bkS ts come q cs) (out ++ mdS ts come cs).length
  | [], lo, come, q, out, h, hl, hc, hq => by
    refine ⟨?_, rfl, ?_⟩
    · show (out ++ ts.drop come).drop q = _
      rw [List.drop_append_of_le_length (by omega), List.drop_of_length_le (by omega), List.nil_append]
    · show q + (lo - come) ≤ (out ++ ts.drop come).length + 1
      have h : lo ≤ ts.length + 1 := h
      rw [List.length_append, List.length_drop]
      omega
  | (p, m, ws) :: r, lo, come, q, out, h, hl, hc, hq => by
    obtain ⟨h1, h2, h3⟩ := h
    simp only at h1 h2 h3
    have e := h3.le
    obtain ⟨A, hA⟩ : ∃ A, A = (ts.drop come).take (p - come) := ⟨_, rfl⟩
    have lA : A.length = p - come := by rw [hA]; exact take_len (by omega)
    obtain ⟨i1, i2, i3⟩ := back_is ts r (p + m + 1) (p + m) (q + (p - come) + ws.length) (out ++ (A ++ ws)) h3 (by omega) (by omega) (by rw [List.length_append, List.length_append]; omega)
    have eT : out ++ mdS ts come ((p, m, ws) :: r) = (out ++ (A ++ ws)) ++ mdS ts (p + m) r := by
      show out ++ (((ts.drop come).take (p - come) ++ ws) ++ mdS ts (p + m) r) = _
      rw [← hA, List.append_assoc out]
    rw [eT]
    generalize hR : mdS ts (p + m) r = R at i1 i2 i3 ⊢
    have tA : ((out ++ (A ++ ws) ++ R).drop q).take (q + (p - come) - q) = A := by
      rw [List.append_assoc, List.drop_append_of_le_length (by omega), List.drop_of_length_le (by omega), List.nil_append, List.append_assoc, List.take_append_of_le_length (by omega), List.take_of_length_le (by omega)]
    have tW : ((out ++ (A ++ ws) ++ R).drop (q + (p - come))).take ws.length = ws := by
      rw [show out ++ (A ++ ws) ++ R = (out ++ A) ++ (ws ++ R) by simp only [List.append_assoc], List.drop_append_of_le_length (by rw [List.length_append]; omega), List.drop_of_length_le (by rw [List.length_append]; omega), List.nil_append, List.take_append_of_le_length (Nat.le_refl _), List.take_length]
    refine ⟨?_, ?_, ?_⟩
    · show (((out ++ (A ++ ws) ++ R).drop q).take (q + (p - come) - q) ++ (ts.drop p).take m) ++ mdS (out ++ (A ++ ws) ++ R) (q + (p - come) + ws.length) (bkS ts (p + m) (q + (p - come) + ws.length) r) = ts.drop come
      rw [i1, tA, List.append_assoc, drop_split, hA]
      have := drop_split (ts := ts) (a := come) (k := p - come)
      rw [show come + (p - come) = p by omega] at this
      exact this
    · show (come + (q + (p - come) - q), ((ts.drop p).take m).length, ((out ++ (A ++ ws) ++ R).drop (q + (p - come))).take ws.length) :: bkS (out ++ (A ++ ws) ++ R) (q + (p - come) + ws.length) (come + (q + (p - come) - q) + ((ts.drop p).take m).length) (bkS ts (p + m) (q + (p - come) + ws.length) r) = (p, m, ws) :: r
      rw [tW, take_len (by omega), show come + (q + (p - come) - q) = p by omega, i2]
    · refine ⟨by show q + (lo - come) ≤ q + (p - come); omega, ?_, ?_⟩
      · show 0 < ws.length ∨ 0 < ((ts.drop p).take m).length
        rw [take_len (by omega)]
        exact h2.symm
      · show Fits (q + (p - come) + ws.length + 1) (bkS ts (p + m) (q + (p - come) + ws.length) r) _
        rw [show p + m + 1 - (p + m) = 1 by omega] at i3
        exact i3
/-- the cuts that a row leaves -/
def cutsS (vs : List α) : Pr → List Pr → List (Cu α)
  | _, [] => []
  | f, p :: r => (if p = f then [] else [(f.1, p.1 - f.1, (vs.drop f.2).take (p.2 - f.2))]) ++ cutsS vs (p.1 + 1, p.2 + 1) r
theorem mdS_one (ts : List α) {cs : List (Cu α)} {lo come n : Nat} (h : Fits lo cs n) (hl : come + 1 ≤ lo) : mdS ts come cs = (ts.drop come).take 1 ++ mdS ts (come + 1) cs := by
  cases cs with
  | nil => exact drop_split.symm
  | cons c r =>
    have h1 := h.1
    show ((ts.drop come).take (c.1 - come) ++ c.2.2) ++ _ = (ts.drop come).take 1 ++ (((ts.drop (come + 1)).take (c.1 - (come + 1)) ++ c.2.2) ++ _)
    rw [← List.append_assoc, ← List.append_assoc]
    congr 2
    rw [show c.1 - come = 1 + (c.1 - (come + 1)) by omega, List.take_add, List.drop_drop]
/-- how much they weigh -/
def wtS (cs : List (Cu α)) : Nat := (cs.map fun c => c.2.1 + c.2.2.length).sum
theorem cutsS_is (us vs : List α) : ∀ (r : List Pr) (f : Pr), r.Pairwise bh → (∀ p ∈ r, f.1 ≤ p.1 ∧ f.2 ≤ p.2 ∧ p.1 < us.length ∧ p.2 < vs.length ∧ us[p.1]? = vs[p.2]?) → f.1 ≤ us.length → f.2 ≤ vs.length →
    mdS us f.1 (cutsS vs f (r ++ [(us.length, vs.length)])) = vs.drop f.2 ∧ Fits f.1 (cutsS vs f (r ++ [(us.length, vs.length)])) us.length ∧ wtS (cutsS vs f (r ++ [(us.length, vs.length)])) + 2 * r.length = (us.length - f.1) + (vs.length - f.2)
  | [], f, _, _, h1, h2 => by
    obtain ⟨a, b⟩ := f
    simp only at h1 h2 ⊢
    show mdS us a ((if (us.length, vs.length) = (a, b) then [] else [(a, us.length - a, (vs.drop b).take (vs.length - b))]) ++ []) = _ ∧ Fits a ((if (us.length, vs.length) = (a, b) then [] else [(a, us.length - a, (vs.drop b).take (vs.length - b))]) ++ []) us.length ∧ wtS ((if (us.length, vs.length) = (a, b) then [] else [(a, us.length - a, (vs.drop b).take (vs.length - b))]) ++ []) + 0 = _
    by_cases e : (us.length, vs.length) = (a, b)
    · rw [if_pos e]
      cases e
      refine ⟨?_, Nat.le_succ _, ?_⟩
      · show us.drop us.length = _
        rw [List.drop_length, List.drop_length]
      · show (0 : Nat) = _
        omega
    · rw [if_neg e]
      have ne : a < us.length ∨ b < vs.length := by
        by_cases x : a < us.length
        · exact .inl x
        · by_cases y : b < vs.length
          · exact .inr y
          · exact absurd (Prod.ext (by simp only; omega) (by simp only; omega)) e
      refine ⟨?_, ⟨Nat.le_refl _, ?_, ?_⟩, ?_⟩
      · show ((us.drop a).take (a - a) ++ (vs.drop b).take (vs.length - b)) ++ us.drop (a + (us.length - a)) = vs.drop b
        have e0 : us.drop (a + (us.length - a)) = [] := List.drop_of_length_le (by omega)
        rw [Nat.sub_self, List.take_zero, List.nil_append, e0, List.append_nil, List.take_of_length_le (by rw [List.length_drop]; omega)]
      · show 0 < us.length - a ∨ 0 < ((vs.drop b).take (vs.length - b)).length
        rw [take_len (by omega)]
        omega
      · show a + (us.length - a) + 1 ≤ us.length + 1
        omega
      · show (us.length - a + ((vs.drop b).take (vs.length - b)).length) + 0 + 0 = _
        rw [take_len (by omega)]
        omega
  | p :: r, f, hp, hb, h1, h2 => by
    obtain ⟨a, b⟩ := f
    obtain ⟨p1, p2⟩ := p
    obtain ⟨b1, b2, b3, b4, b5⟩ := hb _ List.mem_cons_self
    simp only at h1 h2 b1 b2 b3 b4 b5 ⊢
    have first := (List.pairwise_cons.mp hp).1
    obtain ⟨i1, i2, i3⟩ := cutsS_is us vs r (p1 + 1, p2 + 1) (List.pairwise_cons.mp hp).2 (fun q hq => by
      have h := first q hq
      have b := hb q (List.mem_cons_of_mem _ hq)
      unfold bh at h
      simp only at h
      exact ⟨h.1, h.2, b.2.2⟩) b3 b4
    simp only at i1 i2 i3
    generalize hX : cutsS vs (p1 + 1, p2 + 1) (r ++ [(us.length, vs.length)]) = Z at i1 i2 i3
    have eX : cutsS vs (a, b) ((p1, p2) :: r ++ [(us.length, vs.length)]) = (if (p1, p2) = (a, b) then [] else [(a, p1 - a, (vs.drop b).take (p2 - b))]) ++ Z := by rw [← hX]; rfl
    rw [eX]
    have hstep : mdS us p1 Z = vs.drop p2 := by
      rw [mdS_one us i2 (Nat.le_refl _), i1]
      have e1 : (us.drop p1).take 1 = (vs.drop p2).take 1 := by
        rw [List.take_one, List.take_one, List.head?_drop, List.head?_drop, b5]
      rw [e1]
      exact drop_split
    by_cases e : (p1, p2) = (a, b)
    · rw [if_pos e, List.nil_append]
      cases e
      refine ⟨hstep, i2.low (Nat.le_succ _), ?_⟩
      rw [List.length_cons]
      omega
    · rw [if_neg e]
      refine ⟨?_, ⟨Nat.le_refl _, ?_, ?_⟩, ?_⟩
      · show ((us.drop a).take (a - a) ++ (vs.drop b).take (p2 - b)) ++ mdS us (a + (p1 - a)) Z = vs.drop b
        rw [Nat.sub_self, List.take_zero, List.nil_append, show a + (p1 - a) = p1 by omega, hstep]
        have := drop_split (ts := vs) (a := b) (k := p2 - b)
        rw [show b + (p2 - b) = p2 by omega] at this
        exact this
      · show 0 < p1 - a ∨ 0 < ((vs.drop b).take (p2 - b)).length
        rw [take_len (by omega)]
        by_cases x : a < p1
        · exact .inl (by omega)
        · by_cases y : b < p2
          · exact .inr (by omega)
          · exact absurd (Prod.ext (by simp only; omega) (by simp only; omega)) e
      · show Fits (a + (p1 - a) + 1) Z us.length
        rw [show a + (p1 - a) = p1 by omega]
        exact i2
      · show wtS ((a, p1 - a, (vs.drop b).take (p2 - b)) :: Z) + _ = _
        unfold wtS at i3 ⊢
        rw [List.map_cons, List.sum_cons]
        simp only
        rw [take_len (by omega), List.length_cons]
        omega
/-- the row that the cuts leave -/
def keepRow (n : Nat) : Nat → Nat → List (Cu α) → List Pr
  | come, q, [] => str come q (n - come)
  | come, q, c :: r => str come q (c.1 - come) ++ keepRow n (c.1 + c.2.1) (q + (c.1 - come) + c.2.2.length) r
theorem cuts_over (vs : List α) : ∀ (k a b : Nat) (Z : List Pr), cutsS vs (a, b) (str a b k ++ Z) = cutsS vs (a + k, b + k) Z
  | 0, a, b, Z => rfl
  | k + 1, a, b, Z => by
    show (if (a, b) = (a, b) then [] else _) ++ cutsS vs (a + 1, b + 1) (str (a + 1) (b + 1) k ++ Z) = _
    rw [if_pos rfl, List.nil_append, cuts_over vs k]
    congr 2 <;> omega
theorem keep_head (n : Nat) {cs : List (Cu α)} {lo come q m : Nat} (h : Fits lo cs n) (hl : come + 1 ≤ lo) (hn : come ≤ n) (hm : m = q + (n - come) ∨ cs ≠ []) : ∃ t, keepRow n come q cs ++ [(n, m)] = (come, q) :: t := by
  cases cs with
  | nil =>
    have hm : m = q + (n - come) := hm.elim id fun z => absurd rfl z
    show ∃ t, str come q (n - come) ++ [(n, m)] = _
    cases hk : n - come with
    | zero =>
      refine ⟨[], ?_⟩
      rw [hm, hk, show come = n by omega]
      rfl
    | succ k => exact ⟨_, rfl⟩
  | cons c r =>
    have h1 := h.1
    show ∃ t, (str come q (c.1 - come) ++ _) ++ _ = _
    cases hk : c.1 - come with
    | zero => omega
    | succ k => exact ⟨_, rfl⟩
theorem mdS_len (ts : List α) : ∀ (cs : List (Cu α)) (lo come : Nat), Fits lo cs ts.length → come ≤ lo → come ≤ ts.length → ∀ {p m : Nat} {ws : List α} {r : List (Cu α)}, cs = (p, m, ws) :: r → (mdS ts come cs).length = (p - come) + ws.length + (mdS ts (p + m) r).length := by
  intro cs lo come h hl hc p m ws r e
  subst e
  have := h.2.2.le
  have h1 : lo ≤ p := h.1
  show (((ts.drop come).take (p - come) ++ ws) ++ _).length = _
  have : p + m + 1 ≤ ts.length + 1 := this
  rw [List.length_append, List.length_append, take_len (by omega)]
theorem keep_cuts (us : List α) : ∀ (cs : List (Cu α)) (lo come q : Nat) (out : List α), Fits lo cs us.length → come ≤ lo → come ≤ us.length → out.length = q →
    cutsS (out ++ mdS us come cs) (come, q) (keepRow us.length come q cs ++ [(us.length, (out ++ mdS us come cs).length)]) = cs
  | [], lo, come, q, out, h, hl, hc, hq => by
    show cutsS _ (come, q) (str come q (us.length - come) ++ [(us.length, (out ++ us.drop come).length)]) = []
    rw [cuts_over, List.length_append, List.length_drop, hq]
    show (if _ then _ else _) ++ [] = _
    rw [show come + (us.length - come) = us.length by omega, if_pos rfl]
    rfl
  | (p, m, ws) :: r, lo, come, q, out, h, hl, hc, hq => by
    obtain ⟨h1, h2, h3⟩ := h
    simp only at h1 h2 h3
    have e := h3.le
    obtain ⟨A, hA⟩ : ∃ A, A = (us.drop come).take (p - come) := ⟨_, rfl⟩
    have lA : A.length = p - come := by rw [hA]; exact take_len (by omega)
    have eT : out ++ mdS us come ((p, m, ws) :: r) = (out ++ (A ++ ws)) ++ mdS us (p + m) r := by
      show out ++ (((us.drop come).take (p - come) ++ ws) ++ mdS us (p + m) r) = _
      rw [← hA, List.append_assoc out]
    have ih := keep_cuts us r (p + m + 1) (p + m) (q + (p - come) + ws.length) (out ++ (A ++ ws)) h3 (by omega) (by omega) (by rw [List.length_append, List.length_append]; omega)
    rw [eT]
    have hT : r = [] → (out ++ (A ++ ws) ++ mdS us (p + m) r).length = (q + (p - come) + ws.length) + (us.length - (p + m)) := fun e => by
      subst e
      show (out ++ (A ++ ws) ++ us.drop (p + m)).length = _
      rw [List.length_append, List.length_append, List.length_append, List.length_drop]
      omega
    obtain ⟨t, ht⟩ := keep_head us.length (q := q + (p - come) + ws.length) (m := (out ++ (A ++ ws) ++ mdS us (p + m) r).length) h3 (Nat.le_refl _) (by omega) (by
      by_cases z : r = []
      · exact .inl (hT z)
      · exact .inr z)
    show cutsS _ (come, q) ((str come q (p - come) ++ keepRow us.length (p + m) (q + (p - come) + ws.length) r) ++ _) = _
    rw [List.append_assoc (str come q (p - come)), cuts_over, ht, show come + (p - come) = p by omega]
    rw [ht] at ih
    have ih' : cutsS (out ++ (A ++ ws) ++ mdS us (p + m) r) (p + m + 1, q + (p - come) + ws.length + 1) t = r := by
      have : cutsS (out ++ (A ++ ws) ++ mdS us (p + m) r) (p + m, q + (p - come) + ws.length) ((p + m, q + (p - come) + ws.length) :: t) = [] ++ cutsS (out ++ (A ++ ws) ++ mdS us (p + m) r) (p + m + 1, q + (p - come) + ws.length + 1) t := by
        show (if _ then _ else _) ++ _ = _
        rw [if_pos rfl]
      rw [this] at ih
      exact ih
    show (if _ then _ else [(p, p + m - p, ((out ++ (A ++ ws) ++ mdS us (p + m) r).drop (q + (p - come))).take (q + (p - come) + ws.length - (q + (p - come))))]) ++ cutsS _ (p + m + 1, q + (p - come) + ws.length + 1) t = _
    rw [ih', if_neg (fun z => by
      have z1 := congrArg Prod.fst z
      have z2 := congrArg Prod.snd z
      simp only at z1 z2
      omega), show p + m - p = m by omega, show q + (p - come) + ws.length - (q + (p - come)) = ws.length by omega]
    have tW : ((out ++ (A ++ ws) ++ mdS us (p + m) r).drop (q + (p - come))).take ws.length = ws := by
      generalize mdS us (p + m) r = R
      rw [show out ++ (A ++ ws) ++ R = (out ++ A) ++ (ws ++ R) by simp only [List.append_assoc], List.drop_append_of_le_length (by rw [List.length_append]; omega), List.drop_of_length_le (by rw [List.length_append]; omega), List.nil_append, List.take_append_of_le_length (Nat.le_refl _), List.take_length]
    rw [tW]
    rfl
end KL

/-! The row that cuts leave is the only longest one where all words are unlike. -/
namespace KL
variable {α : Type}
theorem str_pair (c i j : Nat) : (str i j c).Pairwise bh := (str_ch (M := fun _ _ => true) fun _ _ => rfl).1
theorem keep_in (us : List α) : ∀ (cs : List (Cu α)) (lo come q : Nat) (out : List α), Fits lo cs us.length → come ≤ lo → come ≤ us.length → out.length = q →
    (keepRow us.length come q cs).Pairwise bh ∧ (∀ p ∈ keepRow us.length come q cs, come ≤ p.1 ∧ q ≤ p.2 ∧ p.1 < us.length ∧ p.2 < (out ++ mdS us come cs).length ∧ us[p.1]? = (out ++ mdS us come cs)[p.2]?) ∧
    ∀ j, q ≤ j → j < (out ++ mdS us come cs).length → (∃ i, (i, j) ∈ keepRow us.length come q cs) ∨ ∃ c ∈ cs, ∃ w ∈ c.2.2, (out ++ mdS us come cs)[j]? = some w
  | [], lo, come, q, out, h, hl, hc, hq => by
    have lT : (out ++ mdS us come ([] : List (Cu α))).length = q + (us.length - come) := by
      show (out ++ us.drop come).length = _
      rw [List.length_append, List.length_drop, hq]
    refine ⟨str_pair _ _ _, fun p hp => ?_, fun j hj hj2 => .inl ⟨come + (j - q), ?_⟩⟩
    · obtain ⟨k, hk, rfl⟩ := str_mem hp
      rw [lT]
      refine ⟨by simp only; omega, by simp only; omega, by simp only; omega, by simp only; omega, ?_⟩
      show us[come + k]? = (out ++ us.drop come)[q + k]?
      rw [List.getElem?_append_right (by omega), List.getElem?_drop]
      congr 1
      omega
    · rw [lT] at hj2
      show (come + (j - q), j) ∈ str come q (us.length - come)
      have : ∀ c i j k : Nat, k < c → (i + k, j + k) ∈ str i j c := by
        intro c
        induction c with
        | zero => intro i j k h; omega
        | succ c ih =>
          intro i j k h
          cases k with
          | zero => exact List.mem_cons_self
          | succ k =>
            have := ih (i + 1) (j + 1) k (by omega)
            rw [show i + 1 + k = i + (k + 1) by omega, show j + 1 + k = j + (k + 1) by omega] at this
            exact List.mem_cons_of_mem _ this
      have := this (us.length - come) come q (j - q) (by omega)
      rw [show q + (j - q) = j by omega] at this
      exact this
  | (p, m, ws) :: r, lo, come, q, out, h, hl, hc, hq => by
    obtain ⟨h1, h2, h3⟩ := h
    simp only at h1 h2 h3
    have e := h3.le
    obtain ⟨A, hA⟩ : ∃ A, A = (us.drop come).take (p - come) := ⟨_, rfl⟩
    have lA : A.length = p - come := by rw [hA]; exact take_len (by omega)
    have eT : out ++ mdS us come ((p, m, ws) :: r) = (out ++ (A ++ ws)) ++ mdS us (p + m) r := by
      show out ++ (((us.drop come).take (p - come) ++ ws) ++ mdS us (p + m) r) = _
      rw [← hA, List.append_assoc out]
    obtain ⟨i1, i2, i3⟩ := keep_in us r (p + m + 1) (p + m) (q + (p - come) + ws.length) (out ++ (A ++ ws)) h3 (by omega) (by omega) (by rw [List.length_append, List.length_append]; omega)
    rw [eT]
    generalize hR : mdS us (p + m) r = R at i1 i2 i3 ⊢
    have lT : ((out ++ (A ++ ws)) ++ R).length = q + (p - come) + ws.length + R.length := by
      rw [List.length_append, List.length_append, List.length_append]
      omega
    show (str come q (p - come) ++ keepRow us.length (p + m) (q + (p - come) + ws.length) r).Pairwise bh ∧ (∀ x ∈ str come q (p - come) ++ keepRow us.length (p + m) (q + (p - come) + ws.length) r, _) ∧ ∀ j, q ≤ j → _ → (∃ i, (i, j) ∈ str come q (p - come) ++ keepRow us.length (p + m) (q + (p - come) + ws.length) r) ∨ _
    refine ⟨List.pairwise_append.mpr ⟨str_pair _ _ _, i1, fun a ha b hb => ?_⟩, fun x hx => ?_, fun j hj hj2 => ?_⟩
    · obtain ⟨k, hk, rfl⟩ := str_mem ha
      have := i2 b hb
      unfold bh
      simp only
      omega
    · rcases List.mem_append.mp hx with hx | hx
      · obtain ⟨k, hk, rfl⟩ := str_mem hx
        simp only
        refine ⟨by omega, by omega, by omega, by omega, ?_⟩
        rw [List.append_assoc, List.append_assoc, List.getElem?_append_right (by omega), List.getElem?_append_left (by omega), hA, List.getElem?_take, List.getElem?_drop, if_pos (by omega)]
        congr 1
        omega
      · obtain ⟨b1, b2, b3⟩ := i2 x hx
        exact ⟨by omega, by omega, b3⟩
    · by_cases c1 : j < q + (p - come)
      · refine .inl ⟨come + (j - q), List.mem_append_left _ ?_⟩
        have : ∀ c i j k : Nat, k < c → (i + k, j + k) ∈ str i j c := by
          intro c
          induction c with
          | zero => intro i j k h; omega
          | succ c ih =>
            intro i j k h
            cases k with
            | zero => exact List.mem_cons_self
            | succ k =>
              have := ih (i + 1) (j + 1) k (by omega)
              rw [show i + 1 + k = i + (k + 1) by omega, show j + 1 + k = j + (k + 1) by omega] at this
              exact List.mem_cons_of_mem _ this
        have := this (p - come) come q (j - q) (by omega)
        rw [show q + (j - q) = j by omega] at this
        exact this
      · by_cases c2 : j < q + (p - come) + ws.length
        · refine .inr ⟨_, List.mem_cons_self, ws[j - (q + (p - come))]'(by omega), List.getElem_mem _, ?_⟩
          rw [show out ++ (A ++ ws) ++ R = (out ++ A) ++ (ws ++ R) by simp only [List.append_assoc], List.getElem?_append_right (by rw [List.length_append]; omega), List.getElem?_append_left (by rw [List.length_append]; omega), List.length_append, show j - (out.length + A.length) = j - (q + (p - come)) by omega]
          exact List.getElem?_eq_getElem _
        · rcases i3 j (by omega) hj2 with ⟨i, hi⟩ | ⟨c, hc, w, hw, e⟩
          · exact .inl ⟨i, List.mem_append_right _ hi⟩
          · exact .inr ⟨c, List.mem_cons_of_mem _ hc, w, hw, e⟩
end KL

/-! What a difference is. -/
namespace K53
open PySem PySem.Spec PyProof.Rows L2 KD KL
def mkC (c : Cu Str) : PyData := .tuple [.int (c.1 : Nat), .int (c.2.1 : Nat), wsD c.2.2]
theorem made_mk {ts : List Str} : ∀ (cs : List (Cu Str)) (lo come n : Nat), Fits lo cs n → come ≤ lo → madeL (ts.map PyData.str) (come : Nat) (cs.map mkC) = (mdS ts come cs).map PyData.str
  | [], lo, come, n, h, hl => by
    show cutPD _ _ _ = (ts.drop come).map PyData.str
    rw [cut_from ts (by omega), show ((come : Int)).toNat = come by omega]
  | c :: r, lo, come, n, h, hl => by
    have h1 := h.1
    have ih := made_mk (ts := ts) r _ (c.1 + c.2.1) n h.2.2 (by omega)
    show (cutPD (ts.map PyData.str) (some (come : Int)) (some ((c.1 : Nat) : Int)) ++ c.2.2.map PyData.str) ++ madeL (ts.map PyData.str) (((c.1 : Nat) : Int) + ((c.2.1 : Nat) : Int)) (r.map mkC) = (((ts.drop come).take (c.1 - come) ++ c.2.2) ++ mdS ts (c.1 + c.2.1) r).map PyData.str
    rw [cut_lo ts (by omega) (by omega), show ((come : Int)).toNat = come by omega, show (((c.1 : Nat) : Int)).toNat = c.1 by omega, show ((c.1 : Nat) : Int) + ((c.2.1 : Nat) : Int) = ((c.1 + c.2.1 : Nat) : Int) by omega, ih, List.map_append, List.map_append]
theorem back_mk {ts : List Str} : ∀ (cs : List (Cu Str)) (lo come q n : Nat), Fits lo cs n → come ≤ lo → backL (ts.map PyData.str) ((q : Int) - (come : Int)) (cs.map mkC) = (bkS ts come q cs).map mkC
  | [], lo, come, q, n, h, hl => rfl
  | c :: r, lo, come, q, n, h, hl => by
    have h1 := h.1
    have ih := back_mk (ts := ts) r _ (c.1 + c.2.1) (q + (c.1 - come) + c.2.2.length) n h.2.2 (by omega)
    show PyData.tuple [.int (((c.1 : Nat) : Int) + ((q : Int) - (come : Int))), .int ((c.2.2.map PyData.str).length : Int), .list (cutPD (ts.map PyData.str) (some ((c.1 : Nat) : Int)) (some (((c.1 : Nat) : Int) + ((c.2.1 : Nat) : Int))))] :: backL (ts.map PyData.str) (((q : Int) - (come : Int)) + ((c.2.2.map PyData.str).length : Int) - ((c.2.1 : Nat) : Int)) (r.map mkC) = mkC (q + (c.1 - come), c.2.2.length, (ts.drop c.1).take c.2.1) :: (bkS ts (c.1 + c.2.1) (q + (c.1 - come) + c.2.2.length) r).map mkC
    rw [cut_lo ts (by omega) (by omega), List.length_map, ← ih, show (((c.1 : Nat) : Int)).toNat = c.1 by omega, show (((c.1 : Nat) : Int) + ((c.2.1 : Nat) : Int)).toNat - c.1 = c.2.1 by omega, show ((c.1 : Nat) : Int) + ((q : Int) - (come : Int)) = ((q + (c.1 - come) : Nat) : Int) by omega, show ((q : Int) - (come : Int)) + ((c.2.2.length : Nat) : Int) - ((c.2.1 : Nat) : Int) = ((q + (c.1 - come) + c.2.2.length : Nat) : Int) - ((c.1 + c.2.1 : Nat) : Int) by omega]
    rfl
theorem backs_eq (ts : List PyData) : ∀ (cs : List PyData) (s : Int), backsL ts s cs = backL ts s cs
  | [], s => rfl
  | c :: r, s => by
    unfold backsL backL
    rw [backs_eq ts r]
theorem cuts_mk {vs : List Str} : ∀ (rs : List Pr) (f : Pr), rs.Pairwise bh → (∀ p ∈ rs, f.1 ≤ p.1 ∧ f.2 ≤ p.2) → cutsL (vs.map PyData.str) f rs = (cutsS vs f rs).map mkC
  | [], f, _, _ => rfl
  | p :: r, f, hp, hb => by
    have b := hb p List.mem_cons_self
    have first := (List.pairwise_cons.mp hp).1
    have ih := cuts_mk (vs := vs) r (p.1 + 1, p.2 + 1) (List.pairwise_cons.mp hp).2 fun z hz => first z hz
    show (if p = f then [] else [cutD (vs.map PyData.str) f p]) ++ cutsL (vs.map PyData.str) (p.1 + 1, p.2 + 1) r = ((if p = f then [] else [(f.1, p.1 - f.1, (vs.drop f.2).take (p.2 - f.2))]) ++ cutsS vs (p.1 + 1, p.2 + 1) r).map mkC
    rw [ih, List.map_append]
    congr 1
    by_cases e : p = f
    · rw [if_pos e, if_pos e]
      rfl
    · rw [if_neg e, if_neg e]
      show [PyData.tuple [.int (f.1 : Nat), .int ((p.1 : Int) - (f.1 : Int)), .list (cutPD (vs.map PyData.str) (some ((f.2 : Nat) : Int)) (some ((p.2 : Nat) : Int)))]] = [PyData.tuple [.int (f.1 : Nat), .int ((p.1 - f.1 : Nat) : Int), .list (((vs.drop f.2).take (p.2 - f.2)).map PyData.str)]]
      rw [cut_lo vs (by omega) (by omega), show (((f.2 : Nat) : Int)).toNat = f.2 by omega, show (((p.2 : Nat) : Int)).toNat = p.2 by omega, show (p.1 : Int) - (f.1 : Int) = ((p.1 - f.1 : Nat) : Int) by omega]
/-! ### words -/
def Wd (s : Str) : Prop := isWordsD (.str s) = true ∧ PyData.strOk s = true
theorem Wd.pre {s : Str} (h : Wd s) : wordsPre (.str s) := by
  have h := h.1
  simp only [isWordsD, Bool.and_eq_true, decide_eq_true_eq] at h
  show s.length ≤ 1000000
  omega
theorem ff_all : ∀ {ds : List PyData} {i : Nat}, (∀ z ∈ ds, isWordsD z = true) → ffD i (ds.map fun z => .bool (isWordsD z)) = .none
  | [], _, _ => rfl
  | d :: r, i, h => by
    rw [List.map_cons, h d List.mem_cons_self, ff_true]
    exact ff_all fun z hz => h z (List.mem_cons_of_mem _ hz)
theorem wrong_none {d : PyData} {ws : List Str} (hs : isSeq d = true) (hi : itemsD d = ws.map PyData.str) (h : ∀ s ∈ ws, Wd s) : isNone (wrongD d) = true := by
  unfold wrongD
  rw [if_pos hs, hi, ff_all fun z hz => by
    obtain ⟨s, hs, rfl⟩ := List.mem_map.mp hz
    exact (h s hs).1]
  rfl
theorem words_all {d : PyData} {ws : List Str} (hi : itemsD d = ws.map PyData.str) (h : ∀ s ∈ ws, Wd s) (hl : ws.length ≤ 100000) : wordsAll d := fun _ => ⟨by rw [hi, List.length_map]; exact hl, fun z hz => by
  rw [hi] at hz
  obtain ⟨s, hs, rfl⟩ := List.mem_map.mp hz
  exact (h s hs).pre⟩
theorem goD_mk : ∀ (cs : List (Cu Str)) (lo n : Nat), Fits lo cs n → goD ((lo : Int) - 1) (cs.map mkC) n = true
  | [], lo, n, h => by
    have h : lo ≤ n + 1 := h
    show decide ((lo : Int) - 1 ≤ (n : Int)) = true
    exact decide_eq_true (by omega)
  | c :: r, lo, n, h => by
    have h1 := h.1
    have ih := goD_mk r (c.1 + c.2.1 + 1) n h.2.2
    show (if ((c.1 : Nat) : Int) ≤ (lo : Int) - 1 then false else goD (((c.1 : Nat) : Int) + ((c.2.1 : Nat) : Int)) (r.map mkC) n) = true
    rw [if_neg (by omega), show ((c.1 : Nat) : Int) + ((c.2.1 : Nat) : Int) = ((c.1 + c.2.1 + 1 : Nat) : Int) - 1 by omega]
    exact ih
theorem cut_mk {c : Cu Str} (h : 0 < c.2.1 ∨ 0 < c.2.2.length) (hw : ∀ s ∈ c.2.2, Wd s) : isCutD (mkC c) = true := by
  have e : isNone (wrongD (wsD c.2.2)) = true := wrong_none (ws := c.2.2) rfl rfl hw
  show (true && (true && (decide ((0 : Int) ≤ ((c.1 : Nat) : Int)) && decide ((0 : Int) ≤ ((c.2.1 : Nat) : Int)))) && (isNone (wrongD (wsD c.2.2)) && (decide ((0 : Int) < ((c.2.1 : Nat) : Int)) || decide (0 < lenD (wsD c.2.2))))) = true
  rw [e, decide_eq_true (p := (0 : Int) ≤ ((c.1 : Nat) : Int)) (by omega), decide_eq_true (p := (0 : Int) ≤ ((c.2.1 : Nat) : Int)) (by omega)]
  rcases h with h | h
  · rw [decide_eq_true (p := (0 : Int) < ((c.2.1 : Nat) : Int)) (by omega)]
    rfl
  · rw [decide_eq_true (p := 0 < lenD (wsD c.2.2)) (by rw [lenD_seq rfl]; show 0 < (c.2.2.map PyData.str).length; rw [List.length_map]; exact h), Bool.or_true]
    rfl
theorem Fits.each : ∀ {cs : List (Cu Str)} {lo n : Nat}, Fits lo cs n → ∀ c ∈ cs, 0 < c.2.1 ∨ 0 < c.2.2.length
  | [], _, _, _, c, hc => by cases hc
  | a :: r, _, _, h, c, hc => by
    rcases List.mem_cons.mp hc with rfl | hc
    · exact h.2.1
    · exact Fits.each h.2.2 c hc
theorem diff_mk {d : PyData} {cs : List (Cu Str)} (h : Fits 0 cs (lenD d)) (hw : ∀ c ∈ cs, ∀ s ∈ c.2.2, Wd s) : isDiffD d (.list (cs.map mkC)) = true := by
  show (true && (cs.map mkC).all isCutD && goD (-1) (cs.map mkC) (lenD d)) = true
  have e := goD_mk cs 0 (lenD d) h
  rw [show ((0 : Nat) : Int) - 1 = -1 by omega] at e
  rw [e, show (cs.map mkC).all isCutD = true from List.all_eq_true.mpr fun z hz => by
    obtain ⟨c, hc, rfl⟩ := List.mem_map.mp hz
    exact cut_mk (Fits.each h c hc) (hw c hc)]
  rfl
/-! ### the difference -/
noncomputable def difS (ws vs : List Str) : List (Cu Str) := cutsS vs (0, 0) (keptR ws vs ++ [(ws.length, vs.length)])
theorem at_eq {ws vs : List Str} {i j : Nat} (hi : i < ws.length) (hj : j < vs.length) : Mw ws vs i j = true ↔ ws[i]? = vs[j]? := by
  unfold Mw wAt
  rw [decide_eq_true_iff, List.getD_eq_getElem?_getD, List.getD_eq_getElem?_getD, List.getElem?_eq_getElem hi, List.getElem?_eq_getElem hj]
  show vs[j] = ws[i] ↔ _
  rw [Option.some.injEq]
  exact eq_comm
theorem dif_is (ws vs : List Str) : mdS ws 0 (difS ws vs) = vs ∧ Fits 0 (difS ws vs) ws.length ∧ wtS (difS ws vs) + 2 * L (Mw ws vs) ws.length vs.length = ws.length + vs.length := by
  obtain ⟨k1, k2, k3, _⟩ := (keptR_is ws vs).best
  have h := cutsS_is ws vs (keptR ws vs) (0, 0) k1.1 (fun p hp => ⟨Nat.zero_le _, Nat.zero_le _, (k2 p hp).1, (k2 p hp).2, (at_eq (k2 p hp).1 (k2 p hp).2).mp (k1.2 p hp)⟩) (Nat.zero_le _) (Nat.zero_le _)
  rw [k3] at h
  exact h
theorem difL_is {a b : PyData} {ws vs : List Str} (T1 : Txt a ws) (T2 : Txt b vs) : difL a b = (difS ws vs).map mkC := by
  unfold difL
  rw [T1.of, T2.of, T2.its]
  exact cuts_mk _ _ rs_bh fun p _ => ⟨Nat.zero_le _, Nat.zero_le _⟩
theorem dif_len (ws vs : List Str) : (difS ws vs).length = cuts ws.length vs.length 0 0 (keptR ws vs) := by
  obtain ⟨k1, k2, _⟩ := (keptR_is ws vs).best
  have h := cutsL_len (n := ws.length) (m := vs.length) (vs.map PyData.str) (keptR ws vs) 0 0 (Nat.zero_le _) (Nat.zero_le _) k1.1 fun p hp => ⟨Nat.zero_le _, Nat.zero_le _, (k2 p hp).1, (k2 p hp).2⟩
  rw [cuts_mk _ _ rs_bh fun p _ => ⟨Nat.zero_le _, Nat.zero_le _⟩, List.length_map] at h
  exact h
theorem cutsS_mem {vs : List Str} : ∀ (rs : List Pr) (f : Pr), ∀ c ∈ cutsS vs f rs, (∀ s ∈ c.2.2, s ∈ vs) ∧ c.2.2.length ≤ vs.length
  | [], f, c, hc => by cases hc
  | p :: r, f, c, hc => by
    rcases List.mem_append.mp (show c ∈ (if p = f then [] else [(f.1, p.1 - f.1, (vs.drop f.2).take (p.2 - f.2))]) ++ cutsS vs (p.1 + 1, p.2 + 1) r from hc) with h | h
    · by_cases e : p = f
      · rw [if_pos e] at h
        cases h
      · rw [if_neg e, List.mem_singleton] at h
        subst h
        exact ⟨fun s hs => List.mem_of_mem_drop (List.mem_of_mem_take hs), by rw [List.length_take, List.length_drop]; omega⟩
    · exact cutsS_mem r _ c h
theorem dif_mem {ws vs : List Str} : ∀ c ∈ difS ws vs, (∀ s ∈ c.2.2, s ∈ vs) ∧ c.2.2.length ≤ vs.length := cutsS_mem _ _
theorem weight_mk (cs : List (Cu Str)) : weightD (cs.map mkC) = (wtS cs : Int) := by
  unfold weightD wtS
  induction cs with
  | nil => rfl
  | cons c r ih =>
    simp only [List.map_cons, List.sum_cons] at ih ⊢
    rw [ih]
    show (((c.2.1 : Nat) : Int) + ((c.2.2.map PyData.str).length : Int)) + _ = _
    rw [List.length_map]
    omega
theorem bk_mem {ts : List Str} : ∀ (cs : List (Cu Str)) (come q : Nat), ∀ c ∈ bkS ts come q cs, (∀ s ∈ c.2.2, s ∈ ts) ∧ c.2.2.length ≤ ts.length
  | [], _, _, c, hc => by cases hc
  | a :: r, come, q, c, hc => by
    rcases List.mem_cons.mp (show c ∈ _ :: bkS ts (a.1 + a.2.1) (q + (a.1 - come) + a.2.2.length) r from hc) with rfl | h
    · exact ⟨fun s hs => List.mem_of_mem_drop (List.mem_of_mem_take hs), by simp only; rw [List.length_take, List.length_drop]; omega⟩
    · exact bk_mem r _ _ c h
theorem bk_len {ts : List Str} : ∀ (cs : List (Cu Str)) (come q : Nat), (bkS ts come q cs).length = cs.length
  | [], _, _ => rfl
  | a :: r, come, q => by
    show (bkS ts (a.1 + a.2.1) (q + (a.1 - come) + a.2.2.length) r).length + 1 = _
    rw [bk_len r, List.length_cons]
end K53

/-! What is drawn: texts, differences. -/
namespace K53
open PySem PySem.Spec PyProof.Rows L2 KD
variable {P : Program} {w : World} {K : PySem.W.Frag} {mg : Str → Option Value} {base : Heap}
theorem c_mixed {X : Addr → Prop} {st cl : Addr} {n : Nat} {H : Hp} {σ : L2.St} {ts tm : TE} {E : XK} {ds : List PyData} {Q : VK} (S : Sg X st cl n H) (hv : GV ts σ H (.ref st)) (hm : G X tm σ H (.list ds)) (hn : n + ds.length ≤ 1000000000) (h1 : ds.length < 1000000)
    (k : ∀ w es H', es.Perm ds → Sg X st cl (n + ds.length) H' → KpS st cl H H' → DX X H' w (.list es) → Q w H') : tCall spMixed [] E (tCons ts (tCons tm tNil)) σ H Q :=
  hv H (Same.refl H) _ (hm H (Same.refl H) _ fun v H1 s1 r => ⟨X, st, cl, n, v, ds, rfl, S.same s1, hn, r, h1, fun w es H' hp S2 kk dw _ => k w es H' hp S2 ((KpS.of s1).trans kk) dw⟩)
theorem k_sl {te : TE} {to th : TO} {rs : V → Option Int → Option Int → Hp → VK → Prop} {σ : L2.St} {H : Hp} {Q : VK} (h : te σ H fun x H1 => to σ H1 fun l H2 => th σ H2 fun u H3 => rs x l u H3 Q) : tSl rs te to th σ H Q := h
theorem cutP_to (ds : List PyData) {q : Int} (hq : 0 ≤ q) : cutPD ds none (some q) = ds.take q.toNat := by
  show (ds.drop (HT.sIx ds.length 0 none)).take (HT.sIx ds.length ds.length (some q) - HT.sIx ds.length 0 none) = _
  rw [sIx_nn hq]
  show (ds.drop 0).take (min q.toNat ds.length - 0) = _
  rw [List.drop_zero, Nat.sub_zero]
  by_cases h : q.toNat ≤ ds.length
  · rw [Nat.min_eq_left h]
  · rw [Nat.min_eq_right (by omega), List.take_length, List.take_of_length_le (by omega)]
def mW : List Str := ["x", "y", "z", "", "a b", "0"]
def dW : List Str := ["x", "y", "z", "", "a b", " ", "line a.0 x", "0", "x"]
abbrev s__law_m_text : Stmt := topS 23
abbrev n__law_m_text : List Str := ["_law_stream", "_law_most", "_law_some", "_law_k"]
theorem sc__law_m_text : FnScope n__law_m_text ["_law_stream", "_law_most"] (defScope s__law_m_text) := ⟨rfl, rfl, rfl, by decide +kernel, rfl, by decide +kernel, by decide +kernel⟩
def spMText : Sp := fun vs H Q _ => ∃ (X : Addr → Prop) (st cl : Addr) (n m : Nat), vs = [.ref st, .int (m : Int)] ∧ Sg X st cl n H ∧ n + 100 ≤ 1000000000 ∧ m ≤ 20 ∧ ∀ w ws H', ws.length ≤ m → (∀ z ∈ ws, z ∈ mW) → Sg X st cl (n + 40) H' → KpS st cl H H' → DX X H' w (wsD ws) → Q w H'
theorem ok_m_text {f : Addr} {fd : FuncData} (F : Fun K "_law_m_text" "_law_m_text" s__law_m_text f fd) (T : Bl mg) (O__law_draw : Own P w K mg base CX0 1 "_law_draw" ["_law_stream", "_law_many"] spDraw) (O__law_pick : Own P w K mg base CX0 2 "_law_pick" ["_law_stream", "_law_some"] spPick) (O__law_mixed : Own P w K mg base CX0 2 "_law_mixed" ["_law_stream", "_law_some"] spMixed) :
    FnOk P w K mg base CX0 3 f fd ["_law_stream", "_law_most"] spMText := by
  refine F.ok sc__law_m_text (fun vs H Q E h => ?_) (fun cdv A outer s H vs Q E hr h => ?_)
  · obtain ⟨X, st, cl, n, m, rfl, _⟩ := h
    rfl
  · obtain ⟨X, st, cl, n, m, rfl, S, hn, hm, k⟩ := h
    refine ⟨_, (pss_cons (ps_set (i := 2) sc__law_m_text.nd rfl (by first | exact Or.inl rfl | exact Or.inr rfl) (pe_slice sl_list (pe_own O__law_mixed hr (by decide) (by rfl) (pa_cons (pv 0) (pa_cons (pe_lst (pa_cons pe_str (pa_cons pe_str (pa_cons pe_str (pa_cons pe_str (pa_cons pe_str (pa_cons pe_str pa_nil))))))) pa_nil))) po_none (po_some (pe_op op_addA pe_int (pe_own O__law_draw hr (by decide) (by rfl) (pa_cons (pv 0) (pa_cons pe_int pa_nil)))))))
    (pss_one (ps_ret (pe_lc (own := [("_law_k", 3)]) (g := (gName 3)) (tt := tYes) rfl sc__law_m_text.nd (pi_range1 (by rfl) T.b_range (pa_cons (pe_own O__law_draw hr (by decide) (by rfl) (pa_cons (pv 0) (pa_cons (pe_op op_addA (pv 1) pe_int) pa_nil))) pa_nil)) (blkOk_by (N := n__law_m_text) (sc := defScope s__law_m_text) (by decide +kernel)) (fun _ _ _ _ _ => (pg_name (i := 3) sc__law_m_text.nd rfl (by first | exact Or.inl rfl | exact Or.inr rfl))) (fun _ _ _ _ _ => pts_nil) (fun _ _ _ _ _ => (pe_own O__law_pick hr (by decide) (by rfl) (pa_cons (pv 0) (pa_cons (pv 2) pa_nil)))))))), ?_⟩
    have En : EnvOk X H (L2.start n__law_m_text [.ref st, .int (m : Int)]) (pad n__law_m_text [.val (.ref st), .dat (.int (m : Int))]) := env_s1 ⟨_, rfl, .int _⟩ (by decide)
    refine k_set (k_sl (c_mixed (ds := mW.map PyData.str) S (gv_var (i := 0) En rfl) (g_lst S.t (ga_strs mW) (by decide)) (by show n + 6 ≤ _; omega) (by decide) fun w1 es H1 hp S1 k1 d1 => ?_))
    have E1 := En.kps S k1
    refine k_op (c_draw (m := 3) S1 (gv_var (i := 0) E1 rfl) g_int (by show n + 6 ≤ _; omega) (by decide) (by decide) fun j H2 j0 j1 S2 k2 => ?_)
    have E2 := E1.kps S1 k2
    refine .inl ⟨2, j, rfl, rfl, ?_⟩
    obtain ⟨a, us, rfl, na, ea, ra⟩ := (d1.mono (S1.kp k2)).lst_inv
    refine ⟨2 + j, rfl, a, us, rfl, SqL.of ea, fun p hp2 => ?_⟩
    have s3 : Same H2 (upd H2 p (.lst (cutV us none (some (2 + j))))) := Same.upd hp2
    have les : es.length = 6 := hp.length_eq
    have d3 : DX X (upd H2 p (.lst (cutV us none (some (2 + j))))) (.ref p) (.list (es.take (2 + j).toNat)) := by
      have := DX.newL S2.t (ra.cut none (some (2 + j))) hp2
      rw [cutP_to es (by omega)] at this
      exact this
    have S3 := S2.same s3
    have E3 := (E2.same s3).set (i := 2) d3
    refine k_ret ?_
    refine c_draw (m := (m : Int) + 1) S3 (gv_var (i := 0) E3 rfl) (g_addI S3.t (g_var (i := 1) E3 rfl) g_int) (by show n + 6 + 1 ≤ _; omega) (by omega) (by omega) fun i H4 i0 i1 S4 k4 => ?_
    have E4 := E3.kps S3 k4
    refine ⟨i, rfl, by omega, by omega, ?_⟩
    refine lc_draws (X := X) (cl := cl) (i := 3) (m := i.toNat) (fun d => d ∈ mW.map PyData.str) S4 E4 (by omega) (fun X' H5 σ2 jj Q1 hj E5 S5 q1 => ?_) fun w ds H6 hl hd S6 k6 dw nw => ?_
    · refine c_pick (ds := es.take (2 + j).toNat) S5 (gv_var (i := 0) E5 rfl) (g_var (i := 2) E5 rfl) (by show n + 6 + 1 + 1 + jj ≤ _; omega) (by rw [List.length_take]; omega) (by rw [List.length_take]; omega) fun w d H7 hd S7 k7 dw => q1 w d H7 (hp.mem_iff.mp (List.mem_of_mem_take hd)) S7 k7 dw
    · obtain ⟨ws, rfl, hw⟩ := strs_of hd
      rw [List.length_map] at hl
      exact k w ws H6 (by omega) hw (S6.le (by show n + 6 + 1 + 1 + i.toNat ≤ _; omega)) (((k1.trans k2).trans ((KpS.of s3).trans k4)).trans k6) dw
abbrev s__law_m_passed : Stmt := topS 29
abbrev n__law_m_passed : List Str := ["_law_stream", "_law_text"]
theorem sc__law_m_passed : FnScope n__law_m_passed ["_law_stream", "_law_text"] (defScope s__law_m_passed) := ⟨rfl, rfl, rfl, by decide +kernel, rfl, by decide +kernel, by decide +kernel⟩
theorem g_tupOf {X : Addr → Prop} {σ : L2.St} {H : Hp} {te : TE} {ds : List PyData} (t : Trk X H) (h : G X te σ H (.list ds)) : G X (tCB (fun xs H Q => ∃ p ys, xs = [V.ref p] ∧ ((SqL K H p ys ∧ ∀ l, H l = none → Q (.ref l) (upd H l (.tup ys))) ∨ (SqT K H p ys ∧ Q (.ref p) H))) (tCons te tNil)) σ H (.tuple ds) :=
  g_cb t (ga_cons h ga_nil) (rf_tuple (K := K) (d := .list ds) rfl)
def spMPassed : Sp := fun vs H Q _ => ∃ (X : Addr → Prop) (st cl : Addr) (n : Nat) (v1 : V) (ds : List PyData), vs = [.ref st, v1] ∧ Sg X st cl n H ∧ n ≤ 1000000000 ∧ DX X H v1 (.list ds) ∧ ds.length ≤ 1000 ∧ ∀ w d H', (d = .list ds ∨ d = .tuple ds) → Sg X st cl (n + 1) H' → KpS st cl H H' → DX X H' w d → Q w H'
theorem ok_m_passed {f : Addr} {fd : FuncData} (F : Fun K "_law_m_passed" "_law_m_passed" s__law_m_passed f fd) (T : Bl mg) (O__law_pick : Own P w K mg base CX0 2 "_law_pick" ["_law_stream", "_law_some"] spPick) : FnOk P w K mg base CX0 3 f fd ["_law_stream", "_law_text"] spMPassed := by
  refine F.ok sc__law_m_passed (fun vs H Q E h => ?_) (fun cdv A outer s H vs Q E hr h => ?_)
  · obtain ⟨X, st, cl, n, v1, ds, rfl, _⟩ := h
    rfl
  · obtain ⟨X, st, cl, n, v1, ds, rfl, S, hn, d1, hl, k⟩ := h
    refine ⟨_, (pss_one (ps_ret (pe_own O__law_pick hr (by decide) (by rfl) (pa_cons (pv 0) (pa_cons (pe_lst (pa_cons (pe_callTy call_list_of (by rfl) T.b_list boot_list (pa_cons (pv 1) pa_nil)) (pa_cons (pe_callTy call_tuple_of (by rfl) T.b_tuple boot_tuple (pa_cons (pv 1) pa_nil)) pa_nil))) pa_nil))))), ?_⟩
    have En : EnvOk X H (L2.start n__law_m_passed [.ref st, v1]) (pad n__law_m_passed [.val (.ref st), .dat (.list ds)]) := env_s1 ⟨_, rfl, d1⟩ (by decide)
    refine k_ret (c_pick (ds := [.list ds, .tuple ds]) S (gv_var (i := 0) En rfl) (g_lst S.t (ga_cons (g_is (g_listOf S.t (g_var (i := 1) (d := .list ds) En rfl) rfl) rfl) (ga_cons (g_tupOf S.t (g_var (i := 1) (d := .list ds) En rfl)) ga_nil)) (by simp)) hn (by simp) (by simp) fun w d H' hd S' k' dw => k w d H' (by simpa using hd) S' k' dw)
end K53

/-! Words for the law. -/
namespace K53
open PySem PySem.Spec PyProof.Rows L2 KD KL
structure Tx (ws : List Str) : Prop where
  few : ws.length ≤ 60
  wd : ∀ s ∈ ws, Wd s
structure Cs (ws : List Str) (cs : List (Cu Str)) : Prop where
  fits : Fits 0 cs ws.length
  few : cs.length ≤ 100
  wd : ∀ c ∈ cs, ∀ s ∈ c.2.2, Wd s
  short : ∀ c ∈ cs, c.2.2.length ≤ 60
theorem Tx.txt {ws : List Str} (h : Tx ws) : Txt (wsD ws) ws := ⟨rfl, rfl, h.few, fun z hz => (h.wd z hz).2⟩
theorem Tx.txtT {ws : List Str} (h : Tx ws) : Txt (.tuple (ws.map PyData.str)) ws := ⟨rfl, rfl, h.few, fun z hz => (h.wd z hz).2⟩
theorem Tx.pre {ws vs : List Str} {a b : PyData} (h : Tx ws) (k : Tx vs) (T1 : Txt a ws) (T2 : Txt b vs) : dfrPre a b := ⟨ws, vs, T1, T2, wrong_none T1.seq T1.its h.wd, wrong_none T2.seq T2.its k.wd, words_all T1.its h.wd (by have := h.few; omega), words_all T2.its k.wd (by have := k.few; omega)⟩
theorem mkC_pre {c : Cu Str} (h : ∀ s ∈ c.2.2, Wd s) (hl : c.2.2.length ≤ 60) : chPre (mkC c) := fun _ => ⟨by show 3 ≤ 100000; omega, fun z hz => by
  rcases List.mem_cons.mp (show z ∈ [PyData.int (c.1 : Nat), .int (c.2.1 : Nat), wsD c.2.2] from hz) with rfl | hz
  · exact fun e => by cases e
  rcases List.mem_cons.mp hz with rfl | hz
  · exact fun e => by cases e
  rw [List.mem_singleton.mp hz]
  exact words_all rfl h (by omega)⟩
theorem Cs.pre {ws : List Str} {cs : List (Cu Str)} (h : Cs ws cs) : difPre (.list (cs.map mkC)) := fun _ => ⟨by show (cs.map mkC).length ≤ _; rw [List.length_map]; have := h.few; omega, fun z hz => by
  obtain ⟨c, hc, rfl⟩ := List.mem_map.mp (show z ∈ cs.map mkC from hz)
  exact mkC_pre (h.wd c hc) (h.short c hc)⟩
theorem Cs.pre2 {ws : List Str} {cs : List (Cu Str)} (t : Tx ws) (h : Cs ws cs) : difPre2 (wsD ws) (.list (cs.map mkC)) := ⟨words_all rfl t.wd (by have := t.few; omega), h.pre⟩
theorem Cs.diff {ws : List Str} {cs : List (Cu Str)} (h : Cs ws cs) : isDiffD (wsD ws) (.list (cs.map mkC)) = true := diff_mk (d := wsD ws) (by rw [lenD_seq rfl]; show Fits 0 cs (ws.map PyData.str).length; rw [List.length_map]; exact h.fits) h.wd
theorem Cs.pre3 {ws : List Str} {cs : List (Cu Str)} (t : Tx ws) (h : Cs ws cs) : cutPre2 (wsD ws) (.list (cs.map mkC)) := ⟨h.pre2 t, fun _ _ => ⟨⟨_, rfl, by rw [List.length_map]; have := t.few; omega⟩, by show (cs.map mkC).length ≤ 100; rw [List.length_map]; exact h.few, fun z hz => by
  obtain ⟨c, hc, rfl⟩ := List.mem_map.mp (show z ∈ cs.map mkC from hz)
  show (c.2.2.map PyData.str).length ≤ 1000
  rw [List.length_map]
  have := h.short c hc
  omega⟩⟩
theorem two_val {C1 C2 : Addr} {g : PyData → PyData → PyData} {ws : List Str} {cs : List (Cu Str)} (t : Tx ws) (h : Cs ws cs) : twoOut C1 C2 g (wsD ws) (.list (cs.map mkC)) = .val (g (wsD ws) (.list (cs.map mkC))) := by
  unfold twoOut
  rw [wrong_none (d := wsD ws) rfl rfl t.wd, h.diff]
  rfl
theorem Cs.back {ws : List Str} {cs : List (Cu Str)} (t : Tx ws) (h : Cs ws cs) (hl : (mdS ws 0 cs).length ≤ 60) : mdS (mdS ws 0 cs) 0 (bkS ws 0 0 cs) = ws ∧ bkS (mdS ws 0 cs) 0 0 (bkS ws 0 0 cs) = cs ∧ Cs (mdS ws 0 cs) (bkS ws 0 0 cs) := by
  obtain ⟨h1, h2, h3⟩ := back_is ws cs 0 0 0 [] h.fits (Nat.le_refl _) (Nat.zero_le _) rfl
  exact ⟨h1, h2, h3, by rw [bk_len]; exact h.few, fun c hc s hs => t.wd s ((bk_mem cs 0 0 c hc).1 s hs), fun c hc => Nat.le_trans (bk_mem cs 0 0 c hc).2 t.few⟩
theorem md_mem {ws : List Str} : ∀ (cs : List (Cu Str)) (come : Nat), ∀ s ∈ mdS ws come cs, s ∈ ws ∨ ∃ c ∈ cs, s ∈ c.2.2
  | [], come, s, hs => .inl (List.mem_of_mem_drop hs)
  | c :: r, come, s, hs => by
    rcases List.mem_append.mp (show s ∈ ((ws.drop come).take (c.1 - come) ++ c.2.2) ++ mdS ws (c.1 + c.2.1) r from hs) with h | h
    · rcases List.mem_append.mp h with h | h
      · exact .inl (List.mem_of_mem_drop (List.mem_of_mem_take h))
      · exact .inr ⟨c, List.mem_cons_self, h⟩
    · rcases md_mem r _ s h with h | ⟨d, hd, h⟩
      · exact .inl h
      · exact .inr ⟨d, List.mem_cons_of_mem _ hd, h⟩
theorem Cs.made {ws : List Str} {cs : List (Cu Str)} (t : Tx ws) (h : Cs ws cs) (hl : (mdS ws 0 cs).length ≤ 60) : Tx (mdS ws 0 cs) := ⟨hl, fun s hs => by
  rcases md_mem cs 0 s hs with h1 | ⟨c, hc, h1⟩
  · exact t.wd s h1
  · exact h.wd c hc s h1⟩
theorem cuts_few {vs : List Str} : ∀ (rs : List Pr) (f : Pr), (cutsS vs f rs).length ≤ rs.length
  | [], _ => Nat.le_refl _
  | p :: r, f => by
    show ((if p = f then [] else [(f.1, p.1 - f.1, (vs.drop f.2).take (p.2 - f.2))]) ++ cutsS vs (p.1 + 1, p.2 + 1) r).length ≤ r.length + 1
    have := cuts_few (vs := vs) r (p.1 + 1, p.2 + 1)
    rw [List.length_append]
    split <;> simp <;> omega
theorem Tx.dif {ws vs : List Str} (h : Tx ws) (k : Tx vs) : Cs ws (difS ws vs) := ⟨(dif_is ws vs).2.1, by
  have h1 := cuts_few (vs := vs) (keptR ws vs ++ [(ws.length, vs.length)]) (0, 0)
  have h2 := len_fst (keptR_is ws vs).best.1 (lo := 0) (hi := ws.length) fun p hp => ⟨Nat.zero_le _, ((keptR_is ws vs).best.2.1 p hp).1⟩
  have h3 := h.few
  rw [List.length_append, List.length_singleton] at h1
  show (cutsS vs (0, 0) (keptR ws vs ++ [(ws.length, vs.length)])).length ≤ 100
  omega, fun c hc s hs => k.wd s ((dif_mem c hc).1 s hs), fun c hc => Nat.le_trans (dif_mem c hc).2 k.few⟩
section
variable {X : Addr → Prop} {σ : L2.St} {H : Hp} {ta tb : TE} {E : XK} {ws vs : List Str} {cs : List (Cu Str)} {C C2 : Addr}
abbrev spDif : Sp := spX2 dfrPre fun a b => .val (.list (difL a b))
abbrev spIsDif (C : Addr) : Sp := spX2 difPre2 fun a b => if isNone (wrongD a) then .val (.bool (isDiffD a b)) else .err C "index" (wrongD a)
abbrev spCut (C C2 : Addr) : Sp := spX2 cutPre2 (twoOut C C2 fun a b => .list (madeL (tsOf a) 0 (itemsD b)))
abbrev spTurn (C C2 : Addr) : Sp := spX2 cutPre2 (twoOut C C2 fun a b => .list (backL (tsOf a) 0 (itemsD b)))
theorem gn_dif {a b : PyData} (t : Trk X H) (h : Tx ws) (k : Tx vs) (T1 : Txt a ws) (T2 : Txt b vs) (ha : G X ta σ H a) (hb : G X tb σ H b) : GN X (tCall spDif [] E (tCons ta (tCons tb tNil))) σ H (.list ((difS ws vs).map mkC)) := by
  have e := difL_is T1 T2
  have := gn_X2 (E := E) (pre := dfrPre) (f := fun a b => .val (.list (difL a b))) t ha hb (h.pre k T1 T2) rfl
  rw [e] at this
  exact this
theorem gn_isdif (t : Trk X H) (h : Tx ws) (k : Cs ws cs) (ha : G X ta σ H (wsD ws)) (hb : G X tb σ H (.list (cs.map mkC))) : GN X (tCall (spIsDif C) [] E (tCons ta (tCons tb tNil))) σ H (.bool true) := gn_X2 t ha hb (k.pre2 h) (by rw [wrong_none (d := wsD ws) rfl rfl h.wd, k.diff]; rfl)
theorem gn_cut (t : Trk X H) (h : Tx ws) (k : Cs ws cs) (ha : G X ta σ H (wsD ws)) (hb : G X tb σ H (.list (cs.map mkC))) : GN X (tCall (spCut C C2) [] E (tCons ta (tCons tb tNil))) σ H (wsD (mdS ws 0 cs)) := by
  have := gn_X2 (E := E) (pre := cutPre2) (f := twoOut C C2 fun a b => .list (madeL (tsOf a) 0 (itemsD b))) t ha hb (k.pre3 h) (two_val h k)
  have e : madeL (tsOf (wsD ws)) 0 (itemsD (.list (cs.map mkC))) = (mdS ws 0 cs).map PyData.str := made_mk (ts := ws) cs 0 0 ws.length k.fits (Nat.le_refl _)
  rw [e] at this
  exact this
theorem gn_turn (t : Trk X H) (h : Tx ws) (k : Cs ws cs) (ha : G X ta σ H (wsD ws)) (hb : G X tb σ H (.list (cs.map mkC))) : GN X (tCall (spTurn C C2) [] E (tCons ta (tCons tb tNil))) σ H (.list ((bkS ws 0 0 cs).map mkC)) := by
  have := gn_X2 (E := E) (pre := cutPre2) (f := twoOut C C2 fun a b => .list (backL (tsOf a) 0 (itemsD b))) t ha hb (k.pre3 h) (two_val h k)
  have e : backL (tsOf (wsD ws)) 0 (itemsD (.list (cs.map mkC))) = (bkS ws 0 0 cs).map mkC := back_mk (ts := ws) cs 0 0 0 ws.length k.fits (Nat.le_refl _)
  rw [e] at this
  exact this
theorem g_ofN {te : TE} {d : PyData} (h : GN X te σ H d) : G X te σ H d := fun H1 s Q q => h H1 s Q fun w H2 s2 dw _ => q w H2 s2 dw
theorem cs_cut3 (k : Cs ws cs) : ∀ z ∈ cs.map mkC, Cut3 z := fun z hz => by
  obtain ⟨c, hc, rfl⟩ := List.mem_map.mp hz
  exact ⟨_, _, _, rfl, by rw [List.length_map]; have := k.short c hc; omega⟩
theorem g_weight (t : Trk X H) (k : Cs ws cs) (ha : G X ta σ H (.list (cs.map mkC))) : G X (tCall (sp1 cuts3 fun d => .int (weightD (itemsD d))) [] E (tCons ta tNil)) σ H (.int (wtS cs : Int)) := by
  have := g_call1 (E := E) (pre := cuts3) (f := fun d => .int (weightD (itemsD d))) t ha ⟨_, rfl, by rw [List.length_map]; have := k.few; omega, cs_cut3 k⟩
  have e : weightD (itemsD (.list (cs.map mkC))) = (wtS cs : Int) := weight_mk cs
  rw [e] at this
  exact this
theorem g_back (t : Trk X H) (h : Tx ws) (k : Cs ws cs) (ha : G X ta σ H (wsD ws)) (hb : G X tb σ H (.list (cs.map mkC))) : G X (tCall (sp2 back2 fun a b => .list (backsL (itemsD a) 0 (itemsD b))) [] E (tCons ta (tCons tb tNil))) σ H (.list ((bkS ws 0 0 cs).map mkC)) := by
  have := g_call2 (E := E) (pre := back2) (f := fun a b => .list (backsL (itemsD a) 0 (itemsD b))) t ha hb ⟨_, _, rfl, rfl, by rw [List.length_map]; have := h.few; omega, by rw [List.length_map]; have := k.few; omega, cs_cut3 k⟩
  have e : backsL (itemsD (wsD ws)) 0 (itemsD (.list (cs.map mkC))) = (bkS ws 0 0 cs).map mkC := by rw [backs_eq]; exact back_mk (ts := ws) cs 0 0 0 ws.length k.fits (Nat.le_refl _)
  rw [e] at this
  exact this
end
/-! ### looked at for sameness -/
theorem cs_sm (cs : List (Cu Str)) (h : cs.length ≤ 100) (hs : ∀ c ∈ cs, c.2.2.length ≤ 60) (hw : ∀ c ∈ cs, ∀ s ∈ c.2.2, Wd s) : sm 3 (.list (cs.map mkC)) := ⟨by rw [List.length_map]; omega, fun z hz => by
  obtain ⟨c, hc, rfl⟩ := List.mem_map.mp hz
  refine ⟨by show 3 ≤ 100000; omega, fun y hy => ?_⟩
  rcases List.mem_cons.mp (show y ∈ [PyData.int (c.1 : Nat), .int (c.2.1 : Nat), wsD c.2.2] from hy) with rfl | hy
  · rfl
  rcases List.mem_cons.mp hy with rfl | hy
  · rfl
  rw [List.mem_singleton.mp hy]
  refine ⟨by rw [List.length_map]; have := hs c hc; omega, fun x hx => ?_⟩
  obtain ⟨s, hs, rfl⟩ := List.mem_map.mp hx
  show leaf (.str s) = true
  simp [leaf, (hw c hc s hs).2]⟩
theorem ws_sm {ws : List Str} (h : Tx ws) : sm 3 (wsD ws) := ⟨by rw [List.length_map]; have := h.few; omega, fun x hx => by
  obtain ⟨s, hs, rfl⟩ := List.mem_map.mp hx
  show leaf (.str s) = true
  simp [leaf, (h.wd s hs).2]⟩
theorem ws_sh {ws : List Str} (h : Tx ws) : noDict (wsD ws) = true ∧ SeqAt.shaped (wsD ws) = true := ⟨nd_all fun z hz => by
  obtain ⟨s, _, rfl⟩ := List.mem_map.mp hz
  rfl, shaped_strs fun s hs => (h.wd s hs).2⟩
theorem ws_eqv (ws vs : List Str) : PyData.eqv (wsD ws) (wsD vs) = decide (ws = vs) := eqv_strs ws vs
end K53

/-! Texts of unlike words. -/
namespace K53
open PySem PySem.Spec PyProof.Rows L2 KD KL
def tS (i : Nat) : Str := (toString ((i : Nat) : Int) : String)
def ww (i : Nat) : Str := ("w" : Str) ++ tS i
def nn (p k : Nat) : Str := ((("n" : Str) ++ tS p) ++ (("." : Str))) ++ tS k
theorem ww_wd : ∀ i, i < 41 → isWordsD (.str (ww i)) = true ∧ PyData.strOk (ww i) = true := by decide +kernel
theorem ww_ne : ∀ i, i < 41 → ∀ j, j < 41 → ww i = ww j → i = j := by decide +kernel
theorem nn_wd : ∀ p, p < 41 → ∀ k, k < 3 → isWordsD (.str (nn p k)) = true ∧ PyData.strOk (nn p k) = true := by decide +kernel
theorem ww_1 : ∀ i, i < 41 → (ww i).cps[0]? = some 119 := by decide +kernel
theorem nn_1 : ∀ p, p < 41 → ∀ k, k < 3 → (nn p k).cps[0]? = some 110 := by decide +kernel
theorem tS_short : ∀ i, i < 60 → (tS i).length ≤ 3 ∧ ((i : Nat) : Int).natAbs.log2 < 1920 := by decide +kernel
def one (n : Nat) : List Str := (List.range n).map ww
theorem one_len (n : Nat) : (one n).length = n := by unfold one; rw [List.length_map, List.length_range]
theorem one_at {n i : Nat} (h : i < n) : (one n)[i]? = some (ww i) := by
  unfold one
  rw [List.getElem?_map, List.getElem?_range h]
  rfl
theorem tx_one {n : Nat} (h : n ≤ 40) : Tx (one n) := ⟨by rw [one_len]; omega, fun s hs => by
  unfold one at hs
  obtain ⟨i, hi, rfl⟩ := List.mem_map.mp hs
  have := List.mem_range.mp hi
  exact ww_wd i (by omega)⟩
/-- a text of unlike words, cut: the difference is the one that made it -/
theorem dif_one {n : Nat} {cs : List (Cu Str)} (hn : n ≤ 40) (h : Fits 0 cs n) (hw : ∀ c ∈ cs, ∀ s ∈ c.2.2, s.cps[0]? = some 110) : difS (one n) (mdS (one n) 0 cs) = cs := by
  have hf : Fits 0 cs (one n).length := by rw [one_len]; exact h
  obtain ⟨k1, k2, k3⟩ := keep_in (one n) cs 0 0 0 [] hf (Nat.le_refl _) (Nat.zero_le _) rfl
  have kc := keep_cuts (one n) cs 0 0 0 [] hf (Nat.le_refl _) (Nat.zero_le _) rfl
  rw [List.nil_append] at k2 k3 kc
  obtain ⟨r1, r2, r3, _⟩ := (keptR_is (one n) (mdS (one n) 0 cs)).best
  unfold difS
  generalize hvs : mdS (one n) 0 cs = vs at *
  generalize hK : keepRow (one n).length 0 0 cs = Kr at *
  have hr : keptR (one n) vs = Kr := by
    refine row_alone (M := Mw (one n) vs) ⟨k1, fun p hp => (at_eq (k2 p hp).2.2.1 (k2 p hp).2.2.2.1).mpr (k2 p hp).2.2.2.2⟩ (fun p hp => ⟨(k2 p hp).2.2.1, (k2 p hp).2.2.2.1⟩) (fun i j hi hj hm => ?_) r1 r2 r3
    have e := (at_eq hi hj).mp hm
    have hi' : i < n := by rw [one_len] at hi; exact hi
    rcases k3 j (Nat.zero_le _) hj with ⟨i', hi2⟩ | ⟨c, hc, w, hwc, e2⟩
    · have b := k2 _ hi2
      have hi3 : i' < n := by have := b.2.2.1; rw [one_len] at this; exact this
      have e3 : (one n)[i']? = vs[j]? := b.2.2.2.2
      rw [← e, one_at hi', one_at hi3, Option.some.injEq] at e3
      rw [ww_ne i (by omega) i' (by omega) e3.symm]
      exact hi2
    · rw [e2, one_at hi', Option.some.injEq] at e
      have h1 := hw c hc w hwc
      rw [← e, ww_1 i (by omega)] at h1
      cases h1
  rw [hr]
  exact kc
def shC (cs : List (Cu Str)) : List Int := cs.map fun c => (c.2.2.length : Int) - (c.2.1 : Int)
theorem md_len (ts : List Str) : ∀ (cs : List (Cu Str)) (lo come : Nat), Fits lo cs ts.length → come ≤ lo → come ≤ ts.length → ((mdS ts come cs).length : Int) = (ts.length : Int) - (come : Int) + (shC cs).sum
  | [], lo, come, h, hl, hc => by
    show ((ts.drop come).length : Int) = _ + 0
    rw [List.length_drop]
    omega
  | (p, m, ws) :: r, lo, come, h, hl, hc => by
    have e := mdS_len ts _ lo come h hl hc (p := p) (m := m) (ws := ws) (r := r) rfl
    have h1 : lo ≤ p := h.1
    have h2 : p + m + 1 ≤ ts.length + 1 := h.2.2.le
    have ih := md_len ts r (p + m + 1) (p + m) h.2.2 (by omega) (by omega)
    rw [e]
    show _ = _ + (((ws.length : Int) - (m : Int)) + (shC r).sum)
    omega
end K53

/-! Texts of like words. -/
namespace K53
open PySem PySem.Spec PyProof.Rows L2 KD KL
-- RAISES check_texts is_difference check_difference cut_text turned_round difference _law_long_right _law_like_right
variable {P : Program} {w : World} {K : PySem.W.Frag} {mg : Str → Option Value} {base : Heap}
def xs (n : Nat) : List Str := List.replicate n ("x" : Str)
def xmx (n : Nat) : List Str := (xs n ++ [("m" : Str)]) ++ xs n
theorem wd_x : Wd "x" := ⟨by decide +kernel, by decide +kernel⟩
theorem wd_m : Wd "m" := ⟨by decide +kernel, by decide +kernel⟩
theorem tx_xs {n : Nat} (h : n ≤ 60) : Tx (xs n) := ⟨by unfold xs; rw [List.length_replicate]; exact h, fun s hs => by rw [(List.mem_replicate.mp hs).2]; exact wd_x⟩
theorem xmx_len (n : Nat) : (xmx n).length = 2 * n + 1 := by
  unfold xmx xs
  rw [List.length_append, List.length_append, List.length_replicate]
  show n + 1 + n = _
  omega
theorem tx_xmx {n : Nat} (h : n ≤ 20) : Tx (xmx n) := ⟨by rw [xmx_len]; omega, fun s hs => by
  rcases List.mem_append.mp hs with h | h
  · rcases List.mem_append.mp h with h | h
    · rw [(List.mem_replicate.mp h).2]; exact wd_x
    · rw [List.mem_singleton.mp h]; exact wd_m
  · rw [(List.mem_replicate.mp h).2]; exact wd_x⟩
theorem xmx_at {n i : Nat} (h : i < 2 * n + 1) : wAt (xmx n) i = if i = n then "m" else "x" := by
  unfold wAt xmx xs
  rw [List.getD_eq_getElem?_getD]
  by_cases h1 : i < n
  · rw [if_neg (by omega), List.append_assoc, List.getElem?_append_left (by rw [List.length_replicate]; exact h1), List.getElem?_replicate, if_pos h1]
    rfl
  · by_cases h2 : i = n
    · subst h2
      rw [if_pos rfl, List.append_assoc, List.getElem?_append_right (by rw [List.length_replicate]; omega), List.length_replicate, Nat.sub_self]
      rfl
    · rw [if_neg h2, List.getElem?_append_right (by rw [List.length_append, List.length_replicate]; show n + 1 ≤ i; omega), List.getElem?_replicate, if_pos (by rw [List.length_append, List.length_replicate]; show i - (n + 1) < n; omega)]
      rfl
theorem xs_at {n i : Nat} (h : i < n) : wAt (xs n) i = "x" := by
  unfold wAt xs
  rw [List.getD_eq_getElem?_getD, List.getElem?_replicate, if_pos h]
  rfl
theorem like_told {a b : Nat} (h : b < a) : wtS (difS (xmx a) (xmx b)) + 2 * b = 2 * a ∧ (difS (xmx a) (xmx b)).length = 2 := by
  obtain ⟨k1, k2, k3, k4⟩ := (keptR_is (xmx a) (xmx b)).best
  have d := (dif_is (xmx a) (xmx b)).2.2
  have e := dif_len (xmx a) (xmx b)
  rw [xmx_len, xmx_len] at *
  obtain ⟨e1, e2⟩ := like_two (M := Mw (xmx a) (xmx b)) h (fun i j hi hj => by
    unfold Mw
    rw [xmx_at hi, xmx_at hj]
    by_cases c1 : i = a <;> by_cases c2 : j = b <;> simp [c1, c2] <;> decide) k1 k2 k3 k4
  exact ⟨by omega, by omega⟩
theorem like_alone {b : Nat} (h0 : 0 < b) (h : b < 30) : wtS (difS (xs 30) (xs b)) + b = 30 ∧ (difS (xs 30) (xs b)).length = 1 := by
  obtain ⟨k1, k2, k3, k4⟩ := (keptR_is (xs 30) (xs b)).best
  have d := (dif_is (xs 30) (xs b)).2.2
  have e := dif_len (xs 30) (xs b)
  have l : ∀ n, (xs n).length = n := fun n => List.length_replicate
  rw [l, l] at *
  obtain ⟨e1, e2⟩ := like_one (M := Mw (xs 30) (xs b)) (fun i j hi hj => by
    unfold Mw
    rw [xs_at hi, xs_at hj]
    rfl) h0 h k1 k2 k3 k4
  exact ⟨by omega, by omega⟩
theorem g_xs {X : Addr → Prop} {σ : L2.St} {H : Hp} {tb : TE} {n : Nat} (t : Trk X H) (hn : n ≤ 1000) (h : G X tb σ H (.int (n : Int))) : G X (tOp rMulA (tLst (tCons (tC (.str "x")) tNil)) tb) σ H (wsD (xs n)) := by
  refine g_is (g_op t (g_lst t (ga_cons g_str ga_nil) (by simp)) h (RD.or2 (rd_rep (by omega) (by omega) (by simp; omega)))) ?_
  show PyData.list (List.replicate ((n : Int)).toNat [PyData.str "x"]).flatten = PyData.list ((List.replicate n ("x" : Str)).map PyData.str)
  rw [show ((n : Int)).toNat = n by omega, List.map_replicate]
  congr 1
  clear h hn t
  induction n with
  | zero => rfl
  | succ n ih =>
    rw [List.replicate_succ, List.flatten_cons, ih, List.replicate_succ]
    rfl
theorem g_m {X : Addr → Prop} {σ : L2.St} {H : Hp} (t : Trk X H) : G X (tLst (tCons (tC (.str "m")) tNil)) σ H (wsD ["m"]) := g_lst t (ga_cons g_str ga_nil) (by simp)
def spLike : Sp := fun us H Q _ => ∃ (X : Addr → Prop) (st cl : Addr) (n : Nat), us = [.ref st] ∧ Sg X st cl n H ∧ n + 1000 ≤ 1000000000 ∧ ∀ H', Sg X st cl (n + 1000) H' → KpS st cl H H' → Q (.bl true) H'
abbrev s__law_like_right : Stmt := topS 38
abbrev n__law_like_right : List Str := ["_law_stream", "_law_many", "_law_few", "_law_one", "_law_other", "_law_told", "_law_alone", "_law_found"]
theorem sc__law_like_right : FnScope n__law_like_right ["_law_stream"] (defScope s__law_like_right) := ⟨rfl, rfl, rfl, by decide +kernel, rfl, by decide +kernel, by decide +kernel⟩
theorem ok_like {f C C2 : Addr} {fd : FuncData} (F : Fun K "_law_like_right" "_law_like_right" s__law_like_right f fd) (T : Bl mg) (O__law_draw : Own P w K mg base CX0 1 "_law_draw" ["_law_stream", "_law_many"] spDraw)
    (O__law_weight : Own P w K mg base CX0 1 "_law_weight" ["_law_cuts"] (sp1 cuts3 fun d => .int (weightD (itemsD d)))) (O_difference : Own P w K mg base (L2.CX P w) 4 "difference" ["one", "other"] spDif) (O_is_difference : Own P w K mg base (L2.CX P w) 4 "is_difference" ["text", "thing"] (spIsDif C))
    (O_cut_text : Own P w K mg base (L2.CX P w) 6 "cut_text" ["text", "cuts"] (spCut C C2)) : FnOk P w K mg base (L2.CX P w) 7 f fd ["_law_stream"] spLike := by
  refine F.okX sc__law_like_right (fun vs H Q E h => ?_) (fun cdv A outer s H vs Q E hr h => ?_)
  · obtain ⟨X, st, cl, n, rfl, _⟩ := h
    rfl
  · obtain ⟨X, st, cl, n, rfl, S, hn, q⟩ := h
    refine ⟨_, (pss_cons (ps_par (i := 1) (j := 2) (by rfl) sc__law_like_right.nd rfl rfl (by decide) rfl rfl (pa_cons (pe_op op_addA pe_int (pe_own O__law_draw hr (by decide) (by rfl) (pa_cons (pv 0) (pa_cons pe_int pa_nil)))) (pa_cons (pe_op op_addA pe_int (pe_own O__law_draw hr (by decide) (by rfl) (pa_cons (pv 0) (pa_cons pe_int pa_nil)))) pa_nil)) (by rfl))
    (pss_cons (ps_par (i := 3) (j := 4) (by rfl) sc__law_like_right.nd rfl rfl (by decide) rfl rfl (pa_cons (pe_op op_addA (pe_op op_addA (pe_op op_mulA (pe_lst (pa_cons pe_str pa_nil)) (pv 1)) (pe_lst (pa_cons pe_str pa_nil))) (pe_op op_mulA (pe_lst (pa_cons pe_str pa_nil)) (pv 1))) (pa_cons (pe_op op_addA (pe_op op_addA (pe_op op_mulA (pe_lst (pa_cons pe_str pa_nil)) (pv 2)) (pe_lst (pa_cons pe_str pa_nil))) (pe_op op_mulA (pe_lst (pa_cons pe_str pa_nil)) (pv 2))) pa_nil)) (by rfl))
    (pss_cons (ps_par (i := 5) (j := 6) (by rfl) sc__law_like_right.nd rfl rfl (by decide) rfl rfl (pa_cons (pe_ownX O_difference hr (by decide) (takes_of rfl rfl rfl rfl) (by rfl) (pa_cons (pv 3) (pa_cons (pv 4) pa_nil))) (pa_cons (pe_ownX O_difference hr (by decide) (takes_of rfl rfl rfl rfl) (by rfl) (pa_cons (pe_op op_mulA (pe_lst (pa_cons pe_str pa_nil)) pe_int) (pa_cons (pe_op op_mulA (pe_lst (pa_cons pe_str pa_nil)) (pv 2)) pa_nil))) pa_nil)) (by rfl))
    (pss_cons (ps_if (PW.pt (pw_or (pt_cmpR op_notBl (pe_ownX O_is_difference hr (by decide) (takes_of rfl rfl rfl rfl) (by rfl) (pa_cons (pv 3) (pa_cons (pv 5) pa_nil))) pe_bl (nomark _)) (pw_or1 (pt_cmpR op_notBl (pe_ownX O_is_difference hr (by decide) (takes_of rfl rfl rfl rfl) (by rfl) (pa_cons (pe_op op_mulA (pe_lst (pa_cons pe_str pa_nil)) pe_int) (pa_cons (pv 6) pa_nil))) pe_bl (nomark _)))))
    (pss_one (ps_ret pe_bl)) pss_nil)
    (pss_cons (ps_set (i := 7) sc__law_like_right.nd rfl (by first | exact Or.inl rfl | exact Or.inr rfl) (pe_lst (pa_cons (pe_own O__law_weight hr (by decide) (by rfl) (pa_cons (pv 5) pa_nil)) (pa_cons (pe_callB call_len (by rfl) T.b_len boot_len (pa_cons (pv 5) pa_nil)) (pa_cons (pe_own O__law_weight hr (by decide) (by rfl) (pa_cons (pv 6) pa_nil)) (pa_cons (pe_callB call_len (by rfl) T.b_len boot_len (pa_cons (pv 6) pa_nil)) pa_nil))))))
    (pss_cons (ps_if (pt_cmpR (op_neD hr.units) (pv 7) (pe_lst (pa_cons (pe_op op_mulA pe_int (pe_op op_sub (pv 1) (pv 2))) (pa_cons pe_int (pa_cons (pe_op op_sub pe_int (pv 2)) (pa_cons pe_int pa_nil))))) (nomark _))
    (pss_one (ps_ret pe_bl)) pss_nil)
    (pss_one (ps_ret (pe_and (pe_cmpR (op_eqD hr.units) (pe_ownX O_cut_text hr (by decide) (takes_of rfl rfl rfl rfl) (by rfl) (pa_cons (pv 3) (pa_cons (pv 5) pa_nil))) (pv 4) (nomark _)) (pe_one (pe_cmpR (op_eqD hr.units) (pe_ownX O_cut_text hr (by decide) (takes_of rfl rfl rfl rfl) (by rfl) (pa_cons (pe_op op_mulA (pe_lst (pa_cons pe_str pa_nil)) pe_int) (pa_cons (pv 6) pa_nil))) (pe_op op_mulA (pe_lst (pa_cons pe_str pa_nil)) (pv 2)) (nomark _)))))))))))), ?_⟩
    have En : EnvOk X H (L2.start n__law_like_right [.ref st]) [.val (.ref st), .un, .un, .un, .un, .un, .un, .un] := ⟨rfl, fun i s e => by
      match i, e with
      | 0, e => cases e; rfl
      | 1, e => cases e; trivial
      | 2, e => cases e; trivial
      | 3, e => cases e; trivial
      | 4, e => cases e; trivial
      | 5, e => cases e; trivial
      | 6, e => cases e; trivial
      | 7, e => cases e; trivial
      | _ + 8, e => cases e⟩
    refine k_par (k_op (c_draw (m := 3) S (gv_var (i := 0) En rfl) g_int (by omega) (by decide) (by decide) fun i1 H1 a0 a1 S1 k1 => .inl ⟨11, i1, rfl, rfl, ?_⟩))
    have E1 := En.kps S k1
    refine k_op (c_draw (m := 9) S1 (gv_var (i := 0) E1 rfl) g_int (by omega) (by decide) (by decide) fun i2 H2 b0 b1 S2 k2 => .inl ⟨2, i2, rfl, rfl, _, _, rfl, ?_⟩)
    obtain ⟨a, ha⟩ : ∃ a : Nat, (11 + i1 : Int) = (a : Int) := ⟨(11 + i1).toNat, by omega⟩
    obtain ⟨b, hb⟩ : ∃ b : Nat, (2 + i2 : Int) = (b : Int) := ⟨(2 + i2).toNat, by omega⟩
    have la : a ≤ 13 ∧ 11 ≤ a := by omega
    have lb : b ≤ 10 ∧ 2 ≤ b := by omega
    have E2 : EnvOk X H2 _ [.val (.ref st), .dat (.int (a : Int)), .dat (.int (b : Int)), .un, .un, .un, .un, .un] := ((E1.kps S1 k2).set (i := 1) (v := .int (11 + i1)) (d := .int (a : Int)) (by rw [ha]; exact .int _)).set (i := 2) (v := .int (2 + i2)) (d := .int (b : Int)) (by rw [hb]; exact .int _)
    have t2 := S2.t
    have xm : ∀ {H σ tb} {n : Nat}, Trk X H → n ≤ 20 → G X tb σ H (.int (n : Int)) → G X (tOp rAddA (tOp rAddA (tOp rMulA (tLst (tCons (tC (.str "x")) tNil)) tb) (tLst (tCons (tC (.str "m")) tNil))) (tOp rMulA (tLst (tCons (tC (.str "x")) tNil)) tb)) σ H (wsD (xmx n)) := fun {H σ tb n} t hn h => cat_ws t (cat_ws t (g_xs t (by omega) h) (g_m t) (by unfold xs; rw [List.length_replicate]; show n + 1 ≤ _; omega)) (g_xs t (by omega) h) (by unfold xs; rw [List.length_append, List.length_replicate]; show n + 1 + n ≤ _; omega)
    have TA : Tx (xmx a) := tx_xmx (by omega)
    have TB : Tx (xmx b) := tx_xmx (by omega)
    have T3 : Tx (xs 30) := tx_xs (by omega)
    have Tb : Tx (xs b) := tx_xs (by omega)
    refine k_par ((xm t2 (by omega) (g_var (i := 1) E2 rfl)) H2 (Same.refl _) _ fun v3 H3 s3 r3 => (xm (t2.mono s3) (by omega) (g_var (i := 2) (E2.same s3) rfl)) H3 (Same.refl _) _ fun v4 H4 s4 r4 => ⟨_, _, rfl, ?_⟩)
    have s24 := s3.trans s4
    have E4 := ((E2.same s24).set (i := 3) (r3.mono (Kp.of s4))).set (i := 4) r4
    have t4 := t2.mono s24
    have g30 : ∀ {H σ}, Trk X H → G X (tOp rMulA (tLst (tCons (tC (.str "x")) tNil)) (tC (.int 30))) σ H (wsD (xs 30)) := fun t => g_xs (n := 30) t (by omega) g_int
    refine k_par ((g_ofN (gn_dif t4 TA TB TA.txt TB.txt (g_var (i := 3) E4 rfl) (g_var (i := 4) E4 rfl))) H4 (Same.refl _) _ fun v5 H5 s5 r5 => (g_ofN (gn_dif (t4.mono s5) T3 Tb T3.txt Tb.txt (g30 (t4.mono s5)) (g_xs (t4.mono s5) (by omega) (g_var (i := 2) (E4.same s5) rfl)))) H5 (Same.refl _) _ fun v6 H6 s6 r6 => ⟨_, _, rfl, ?_⟩)
    have s46 := s5.trans s6
    have E6 := ((E4.same s46).set (i := 5) (r5.mono (Kp.of s6))).set (i := 6) r6
    have t6 := t4.mono s46
    have CA := TA.dif TB
    have CB := T3.dif Tb
    obtain ⟨m1, m2⟩ := like_told (a := a) (b := b) (by omega)
    obtain ⟨m3, m4⟩ := like_alone (b := b) (by omega) (by omega)
    have mA := (dif_is (xmx a) (xmx b)).1
    have mB := (dif_is (xs 30) (xs b)).1
    generalize difS (xmx a) (xmx b) = ca at *
    generalize difS (xs 30) (xs b) = cb at *
    refine q_if (b := false) (gt_is (gt_or (a := false) (gt_is (gt_op t6 (g_ofN (gn_isdif t6 TA CA (g_var (i := 3) E6 rfl) (g_var (i := 5) E6 rfl))) g_bl rb_notB) rfl) fun _ => gt_is (gt_op t6 (g_ofN (gn_isdif t6 T3 CB (g30 t6) (g_var (i := 6) E6 rfl))) g_bl rb_notB) rfl) rfl) (fun h => by cases h) fun _ H7 s7 => ?_
    have E7 := E6.same s7
    have t7 := t6.mono s7
    refine q_set (i := 7) E7 (g_lst t7 (ga_cons (g_weight t7 CA (g_var (i := 5) E7 rfl)) (ga_cons (g_is (g_len t7 (g_var (i := 5) E7 rfl) rfl) (by show PyData.int ((ca.map mkC).length : Int) = .int 2; rw [List.length_map, m2]; rfl)) (ga_cons (g_weight t7 CB (g_var (i := 6) E7 rfl)) (ga_cons (g_is (g_len t7 (g_var (i := 6) E7 rfl) rfl) (by show PyData.int ((cb.map mkC).length : Int) = .int 1; rw [List.length_map, m4]; rfl)) ga_nil)))) (by simp)) fun H8 v8 s8 E8 => ?_
    have t8 := t7.mono s8
    refine q_if (b := false) (gt_is (gt_neD (K := K) t8 (g_var (i := 7) E8 rfl) (g_lst t8 (ga_cons (g_is (e := .int (wtS ca : Int)) (g_op t8 g_int (g_sub t8 (g_var (i := 1) E8 rfl) (g_var (i := 2) E8 rfl)) (RD.or1 (rd_I (C := CMul) (g := fun i j => i * j) (by unfold CMul; omega)))) (by congr 1; omega)) (ga_cons g_int (ga_cons (g_is (e := .int (wtS cb : Int)) (g_sub t8 g_int (g_var (i := 2) E8 rfl)) (by congr 1; omega)) (ga_cons g_int ga_nil)))) (by simp)) (by rfl) (by rfl) (shaped_mk (by simp [PyData.canLay0, PyData.canLayAll0]) (by simp [PyData.depth, PyData.depthAll])) (shaped_mk (by simp [PyData.canLay0, PyData.canLayAll0]) (by simp [PyData.depth, PyData.depthAll]))) (by
      simp [PyData.eqv, PyData.eqvAll])) (fun h => by cases h) fun _ H9 s9 => ?_
    have E9 := E8.same s9
    have t9 := t8.mono s9
    refine s_ret (X := X) (d := .bool true) (g_is (g_and (a := true) (b := true) (g_is (g_eqD (K := K) t9 (g_ofN (gn_cut t9 TA CA (g_var (i := 3) E9 rfl) (g_var (i := 5) E9 rfl))) (g_var (i := 4) E9 rfl) (by rw [mA]; exact (ws_sh TB).1) (ws_sh TB).1 (by rw [mA]; exact (ws_sh TB).2) (ws_sh TB).2) (by rw [ws_eqv, mA, decide_eq_true rfl])) fun _ => g_is (g_eqD (K := K) t9 (g_ofN (gn_cut t9 T3 CB (g30 t9) (g_var (i := 6) E9 rfl))) (g_xs t9 (by omega) (g_var (i := 2) E9 rfl)) (by rw [mB]; exact (ws_sh Tb).1) (ws_sh Tb).1 (by rw [mB]; exact (ws_sh Tb).2) (ws_sh Tb).2) (by rw [ws_eqv, mB, decide_eq_true rfl])) rfl) fun w H10 s10 dw => ?_
    rw [dw.bl_inv]
    have sL := (((((s24.trans s46).trans s7).trans s8).trans s9).trans s10)
    exact q H10 ((S2.same sL).le (by omega)) ((k1.trans k2).trans (KpS.of sL))
end K53

/-! The difference of long texts. -/
namespace K53
open PySem PySem.Spec PyProof.Rows L2 KD KL
-- RAISES check_texts is_difference check_difference cut_text turned_round difference _law_long_right _law_like_right
-- HINT _law_long_right ix (ix_seqK (K := K) rfl)
-- HINT _law_long_right lcte#3 (tOp (rI0 fun i j => V.int (i - j)) (tCB (fun xs H Q => ∃ x n, xs = [x] ∧ LenV K x H n ∧ Q (V.int n) H) (tCons (tOp (rIx K) (tVar 9) (tC (.int 2))) tNil)) (tOp (rIx K) (tVar 9) (tC (.int 1))))
variable {P : Program} {w : World} {K : PySem.W.Frag} {mg : Str → Option Value} {base : Heap}
theorem ix_seqK {X : Cx} (h : X.K = K) : IxR X (rIx K) := h ▸ ix_seq
theorem g_intB {X : Addr → Prop} {te : TE} {σ : L2.St} {H : Hp} {b : Bool} (h : G X te σ H (.bool b)) : G X (tCB (fun xs H Q => (∃ i, xs = [V.int i] ∧ Q (.int i) H) ∨ ∃ k, xs = [V.bl k] ∧ Q (.int (if k then 1 else 0)) H) (tCons te tNil)) σ H (.int (if b then 1 else 0)) := fun H1 s Q q =>
  h H1 s _ fun v H2 s2 r => .inr ⟨b, by rw [r.bl_inv], q _ H2 s2 (.int _)⟩
theorem g_eqI {X : Addr → Prop} {ta tb : TE} {σ : L2.St} {H : Hp} {i j : Int} (t : Trk X H) (ha : G X ta σ H (.int i)) (hb : G X tb σ H (.int j)) : G X (tOp (rEqD K) ta tb) σ H (.bool (PyData.eqv (.int i) (.int j))) :=
  g_op t ha hb fun H u v t ru rv Q q => rb_eqD (K := K) rfl rfl (shaped_int _) (shaped_int _) H u v t ru rv _ (q _ H (Same.refl H) (.bl _))
theorem g_lenOwn {X : Addr → Prop} {σ : L2.St} {H : Hp} {Γ : List Sv} {i : Nat} {L : Addr} {xs : List V} (En : EnvOk X H σ Γ) (hi : Γ[i]? = some (.val (.ref L))) (hL : H L = some (.lst xs)) : G X (tCB (fun xs H Q => ∃ x n, xs = [x] ∧ LenV K x H n ∧ Q (V.int n) H) (tCons (tVar i) tNil)) σ H (.int (xs.length : Int)) := fun H1 s Q q =>
  ⟨.ref L, (En.same s).get i _ hi, .ref L, _, rfl, .inl ⟨_, SqL.of (s _ _ hL), rfl⟩, q _ H1 (Same.refl _) (.int _)⟩
theorem g_strI {X : Addr → Prop} {te : TE} {σ : L2.St} {H : Hp} {i : Nat} (hi : i < 60) (h : G X te σ H (.int (i : Int))) : G X (tCB (fun xs H Q => ∃ i, xs = [V.int i] ∧ i.natAbs.log2 < 1920 ∧ Q (.str (toString i : String)) H) (tCons te tNil)) σ H (.str (tS i)) := fun H1 s Q q =>
  h H1 s _ fun v H2 s2 r => ⟨(i : Int), by rw [r.int_inv], (tS_short i hi).2, q _ H2 s2 (.str _)⟩
theorem g_addS {X : Addr → Prop} {ta tb : TE} {σ : L2.St} {H : Hp} {a b : Str} (t : Trk X H) (ha : G X ta σ H (.str a)) (hb : G X tb σ H (.str b)) (hl : a.length + b.length ≤ 1000000) : G X (tOp rAddA ta tb) σ H (.str (a ++ b)) := g_op t ha hb (RD.or2 (RD.or2 (rd_addS hl)))
theorem g_same {X : Addr → Prop} {ta tb : TE} {σ : L2.St} {H : Hp} {n : Nat} {d : PyData} {E : XK} (t : Trk X H) (ha : G X ta σ H d) (hb : G X tb σ H d) (hs : sm n d) : G X (tCall (spSame n) [] E (tCons ta (tCons tb tNil))) σ H (.bool true) := fun H1 s Q q =>
  ha H1 s _ fun v1 H2 s2 r1 => hb H2 (s.trans s2) _ fun v2 H3 s3 r2 => ⟨X, v1, v2, d, rfl, ((t.mono s).mono s2).mono s3, r1.mono (Kp.of s3), r2, hs, fun H' s' => q _ H' ((s2.trans s3).trans s') (.bl _)⟩
theorem nn_len : ∀ p, p < 41 → ∀ k, k < 3 → (tS p).length ≤ 3 ∧ (("n" : Str) ++ tS p).length ≤ 10 ∧ ((("n" : Str) ++ tS p) ++ (("." : Str))).length ≤ 10 ∧ (nn p k).length ≤ 20 := by decide +kernel
theorem g_nn {X : Addr → Prop} {ta tb : TE} {σ : L2.St} {H : Hp} {p k : Nat} (t : Trk X H) (hp : p < 41) (hk : k < 3) (ha : G X ta σ H (.int (p : Int))) (hb : G X tb σ H (.int (k : Int))) :
    G X (tOp rAddA (tOp rAddA (tOp rAddA (tC (.str "n")) (tCB (fun xs H Q => ∃ i, xs = [V.int i] ∧ i.natAbs.log2 < 1920 ∧ Q (.str (toString i : String)) H) (tCons ta tNil))) (tC (.str "."))) (tCB (fun xs H Q => ∃ i, xs = [V.int i] ∧ i.natAbs.log2 < 1920 ∧ Q (.str (toString i : String)) H) (tCons tb tNil))) σ H (.str (nn p k)) := by
  have l := nn_len p hp k hk
  have lk := (tS_short k (by omega)).1
  exact g_addS t (g_addS t (g_addS t g_str (g_strI (by omega) ha) (by have : ("n" : Str).length = 1 := by decide +kernel
                                                                      omega)) g_str (by have : ("." : Str).length = 1 := by decide +kernel
                                                                                        omega)) (g_strI (by omega) hb) (by omega)
def IsNn (s : Str) : Prop := Wd s ∧ s.cps[0]? = some 110
theorem nn_is {p k : Nat} (hp : p < 41) (hk : k < 3) : IsNn (nn p k) := ⟨nn_wd p hp k hk, nn_1 p hp k hk⟩
theorem strs_nn : ∀ {ds : List PyData}, (∀ d ∈ ds, ∃ s, d = .str s ∧ IsNn s) → ∃ ws : List Str, ds = ws.map PyData.str ∧ ∀ s ∈ ws, IsNn s
  | [], _ => ⟨[], rfl, fun s h => by cases h⟩
  | d :: r, h => by
    obtain ⟨s, rfl, hs⟩ := h d List.mem_cons_self
    obtain ⟨ws, rfl, hw⟩ := strs_nn fun z hz => h z (List.mem_cons_of_mem _ hz)
    exact ⟨s :: ws, rfl, fun z hz => by
      rcases List.mem_cons.mp hz with rfl | hz
      · exact hs
      · exact hw z hz⟩
def Short (cs : List (Cu Str)) : Prop := ∀ c ∈ cs, c.2.2.length ≤ 3 ∧ ∀ s ∈ c.2.2, IsNn s
theorem md_few (ts : List Str) : ∀ (cs : List (Cu Str)) (lo come : Nat), Fits lo cs ts.length → come ≤ lo → come ≤ ts.length → Short cs → (mdS ts come cs).length ≤ (ts.length - come) + 3 * cs.length
  | [], lo, come, h, hl, hc, hs => by
    show (ts.drop come).length ≤ _
    rw [List.length_drop]
    omega
  | (p, m, ws) :: r, lo, come, h, hl, hc, hs => by
    have e := mdS_len ts _ lo come h hl hc (p := p) (m := m) (ws := ws) (r := r) rfl
    have h1 : lo ≤ p := h.1
    have h2 : p + m + 1 ≤ ts.length + 1 := h.2.2.le
    have ih := md_few ts r (p + m + 1) (p + m) h.2.2 (by omega) (by omega) fun c hc => hs c (List.mem_cons_of_mem _ hc)
    have h3 := (hs _ List.mem_cons_self).1
    simp only at h3
    rw [e, List.length_cons]
    omega
theorem k_tup {tl : TA} {σ : L2.St} {H : Hp} {Q : VK} (h : tl σ H fun vs H1 => vs.length ≤ sizeLine ∧ ∀ p, H1 p = none → Q (.ref p) (upd H1 p (.tup vs))) : tTup tl σ H Q := h
theorem cs_sm4 (cs : List (Cu Str)) (h : cs.length ≤ 100) (hs : ∀ c ∈ cs, c.2.2.length ≤ 60) (hw : ∀ c ∈ cs, ∀ s ∈ c.2.2, Wd s) : sm 4 (.list (cs.map mkC)) := ⟨by rw [List.length_map]; omega, fun z hz => by
  obtain ⟨c, hc, rfl⟩ := List.mem_map.mp hz
  refine ⟨by show 3 ≤ 100000; omega, fun y hy => ?_⟩
  rcases List.mem_cons.mp (show y ∈ [PyData.int (c.1 : Nat), .int (c.2.1 : Nat), wsD c.2.2] from hy) with rfl | hy
  · rfl
  rcases List.mem_cons.mp hy with rfl | hy
  · rfl
  rw [List.mem_singleton.mp hy]
  refine ⟨by rw [List.length_map]; have := hs c hc; omega, fun x hx => ?_⟩
  obtain ⟨s, hs, rfl⟩ := List.mem_map.mp hx
  show leaf (.str s) = true
  simp [leaf, (hw c hc s hs).2]⟩
def spLong : Sp := spLike
abbrev s__law_long_right : Stmt := topS 37
abbrev n__law_long_right : List Str := ["_law_stream", "_law_many", "_law_one", "_law_due", "_law_place", "_law_size", "_law_words", "_law_other", "_law_k", "_law_cut"]
theorem sc__law_long_right : FnScope n__law_long_right ["_law_stream"] (defScope s__law_long_right) := ⟨rfl, rfl, rfl, by decide +kernel, rfl, by decide +kernel, by decide +kernel⟩
theorem ok_long {f C C2 : Addr} {fd : FuncData} (F : Fun K "_law_long_right" "_law_long_right" s__law_long_right f fd) (T : Bl mg) (b_sum : mg "sum" = none) (O__law_draw : Own P w K mg base CX0 1 "_law_draw" ["_law_stream", "_law_many"] spDraw) (O__law_same : Own P w K mg base CX0 6 "_law_same" ["_law_found", "_law_due"] (spSame 4))
    (O__law_back : Own P w K mg base CX0 1 "_law_back" ["_law_one", "_law_cuts"] (sp2 back2 fun a b => .list (backsL (itemsD a) 0 (itemsD b)))) (O_difference : Own P w K mg base (L2.CX P w) 4 "difference" ["one", "other"] spDif)
    (O_cut_text : Own P w K mg base (L2.CX P w) 6 "cut_text" ["text", "cuts"] (spCut C C2)) (O_turned_round : Own P w K mg base (L2.CX P w) 6 "turned_round" ["text", "cuts"] (spTurn C C2)) : FnOk P w K mg base (L2.CX P w) 7 f fd ["_law_stream"] spLong := by
  refine F.okX sc__law_long_right (fun vs H Q E h => ?_) (fun cdv A outer s H vs Q E hr h => ?_)
  · obtain ⟨X, st, cl, n, rfl, _⟩ := h
    rfl
  · obtain ⟨X, st, cl, n0, rfl, S, hn, q⟩ := h
    refine ⟨_, (pss_cons (ps_set (i := 1) sc__law_long_right.nd rfl (by first | exact Or.inl rfl | exact Or.inr rfl) (pe_op op_addA pe_int (pe_own O__law_draw hr (by decide) (by rfl) (pa_cons (pv 0) (pa_cons pe_int pa_nil)))))
    (pss_cons (ps_asg (pe_tup (pa_cons (pe_lc (own := [("_law_k", 8)]) (g := (gName 8)) (tt := tYes) rfl sc__law_long_right.nd (pi_range1 (by rfl) T.b_range (pa_cons (pv 1) pa_nil)) (blkOk_by (N := n__law_long_right) (sc := defScope s__law_long_right) (by decide +kernel)) (fun _ _ _ _ _ => (pg_name (i := 8) sc__law_long_right.nd rfl (by first | exact Or.inl rfl | exact Or.inr rfl))) (fun _ _ _ _ _ => pts_nil) (fun _ _ _ _ _ => (pe_op op_addA pe_str (pe_callTy call_str_int (by rfl) T.b_str boot_str (pa_cons (pv 8) pa_nil))))) (pa_cons (pe_lst pa_nil) (pa_cons (pe_own O__law_draw hr (by decide) (by rfl) (pa_cons (pv 0) (pa_cons pe_int pa_nil))) pa_nil)))) (pg_tup (n := 3) rfl (pgs_cons (pg_name (i := 2) sc__law_long_right.nd rfl (by first | exact Or.inl rfl | exact Or.inr rfl)) (pgs_cons (pg_name (i := 3) sc__law_long_right.nd rfl (by first | exact Or.inl rfl | exact Or.inr rfl)) (pgs_cons (pg_name (i := 4) sc__law_long_right.nd rfl (by first | exact Or.inl rfl | exact Or.inr rfl)) pgs_nil)))))
    (Evl.pss_cut (ps_while (passes_of rfl) (PW.pt (pw_and (pt_cmpR op_lt (pv 4) (pv 1) (nomark _)) (pw_and1 (pt_cmpR op_lt (pe_callB call_len (by rfl) T.b_len boot_len (pa_cons (pv 3) pa_nil)) pe_int (nomark _)))))
    (pss_cons (ps_set (i := 5) sc__law_long_right.nd rfl (by first | exact Or.inl rfl | exact Or.inr rfl) (pe_own O__law_draw hr (by decide) (by rfl) (pa_cons (pv 0) (pa_cons pe_int pa_nil))))
    (pss_cons (ps_setLc (i := 6) (own := [("_law_k", 8)]) (g := (gName 8)) (tt := tYes) rfl sc__law_long_right.nd rfl rfl (sw_true rfl rfl rfl (by decide +kernel)) (pi_range1 (by rfl) T.b_range (pa_cons (pe_op op_addA (pe_own O__law_draw hr (by decide) (by rfl) (pa_cons (pv 0) (pa_cons pe_int pa_nil))) (pe_callTy call_int1 (by rfl) T.b_int boot_int (pa_cons (pe_cmpR (op_eqD hr.units) (pv 5) pe_int (nomark _)) pa_nil))) pa_nil)) (blkOk_by (N := n__law_long_right) (sc := defScope s__law_long_right) (by decide +kernel)) (fun _ _ _ _ _ => (pg_name (i := 8) sc__law_long_right.nd rfl (by first | exact Or.inl rfl | exact Or.inr rfl))) (fun _ _ _ _ _ => pts_nil) (fun _ _ _ _ _ => (pe_op op_addA (pe_op op_addA (pe_op op_addA pe_str (pe_callTy call_str_int (by rfl) T.b_str boot_str (pa_cons (pv 4) pa_nil))) pe_str) (pe_callTy call_str_int (by rfl) T.b_str boot_str (pa_cons (pv 8) pa_nil)))))
    (pss_cons (ps_if (pt_cmpR op_le (pe_op op_addA (pv 4) (pv 5)) (pv 1) (nomark _))
    (pss_one (ps_expr (pe_bm PySem.F.plainAttrs_list PySem.F.slot_list_append PySem.F.type_list_append mt_append (pv 3) (pa_cons (pe_tup (pa_cons (pv 4) (pa_cons (pv 5) (pa_cons (pv 6) pa_nil)))) pa_nil)))) pss_nil)
    (pss_one (ps_set (i := 4) sc__law_long_right.nd rfl (by first | exact Or.inl rfl | exact Or.inr rfl) (pe_op op_addA (pe_op op_addA (pe_op op_addA (pv 4) (pv 5)) pe_int) (pe_own O__law_draw hr (by decide) (by rfl) (pa_cons (pv 0) (pa_cons pe_int pa_nil))))))))))
    (pss_cons (ps_set (i := 7) sc__law_long_right.nd rfl (by first | exact Or.inl rfl | exact Or.inr rfl) (pe_ownX O_cut_text hr (by decide) (takes_of rfl rfl rfl rfl) (by rfl) (pa_cons (pv 2) (pa_cons (pv 3) pa_nil))))
    (pss_cons (ps_if (PW.pt (pw_or (pt_not (pt_val (pe_own O__law_same hr (by decide) (by rfl) (pa_cons (pe_ownX O_difference hr (by decide) (takes_of rfl rfl rfl rfl) (by rfl) (pa_cons (pv 2) (pa_cons (pv 7) pa_nil))) (pa_cons (pv 3) pa_nil))))) (pw_or1 (pt_cmpR (op_neD hr.units) (pe_callB call_len (by rfl) T.b_len boot_len (pa_cons (pv 7) pa_nil)) (pe_op op_addA (pv 1) (pe_callB (cr_sum rfl) (by rfl) b_sum boot_sum (pa_cons (pe_lc (own := [("_law_cut", 9)]) (g := (gName 9)) (tt := tYes) (te := (tOp (rI0 fun i j => V.int (i - j)) (tCB (fun xs H Q => ∃ x n, xs = [x] ∧ LenV K x H n ∧ Q (V.int n) H) (tCons (tOp (rIx K) (tVar 9) (tC (.int 2))) tNil)) (tOp (rIx K) (tVar 9) (tC (.int 1))))) rfl sc__law_long_right.nd (pi_list (pv 3)) (blkOk_by (N := n__law_long_right) (sc := defScope s__law_long_right) (by decide +kernel)) (fun _ _ _ _ _ => (pg_name (i := 9) sc__law_long_right.nd rfl (by first | exact Or.inl rfl | exact Or.inr rfl))) (fun _ _ _ _ _ => pts_nil) (fun _ _ _ _ _ => (pe_op op_sub (pe_callB call_len (by rfl) T.b_len boot_len (pa_cons (pe_ix (ix_seqK (K := K) rfl) (pv 9) pe_int (fun _ _ => rfl)) pa_nil)) (pe_ix (ix_seqK (K := K) rfl) (pv 9) pe_int (fun _ _ => rfl))))) pa_nil))) (nomark _)))))
    (pss_one (ps_ret pe_bl)) pss_nil)
    (pss_one (ps_ret (pe_and (pe_own O__law_same hr (by decide) (by rfl) (pa_cons (pe_ownX O_turned_round hr (by decide) (takes_of rfl rfl rfl rfl) (by rfl) (pa_cons (pv 2) (pa_cons (pv 3) pa_nil))) (pa_cons (pe_own O__law_back hr (by decide) (by rfl) (pa_cons (pv 2) (pa_cons (pv 3) pa_nil))) pa_nil))) (pe_one (pe_cmpR (op_eqD hr.units) (pe_ownX O_cut_text hr (by decide) (takes_of rfl rfl rfl rfl) (by rfl) (pa_cons (pv 7) (pa_cons (pe_ownX O_turned_round hr (by decide) (takes_of rfl rfl rfl rfl) (by rfl) (pa_cons (pv 2) (pa_cons (pv 3) pa_nil))) pa_nil))) (pv 2) (nomark _))))))))))), ?_⟩
    have En : EnvOk X H (L2.start n__law_long_right [.ref st]) [.val (.ref st), .un, .un, .un, .un, .un, .un, .un, .un, .un] := ⟨rfl, fun i s e => by
      match i, e with
      | 0, e => cases e; rfl
      | 1, e => cases e; trivial
      | 2, e => cases e; trivial
      | 3, e => cases e; trivial
      | 4, e => cases e; trivial
      | 5, e => cases e; trivial
      | 6, e => cases e; trivial
      | 7, e => cases e; trivial
      | 8, e => cases e; trivial
      | 9, e => cases e; trivial
      | _ + 10, e => cases e⟩
    refine k_set (k_op (c_draw (m := 21) S (gv_var (i := 0) En rfl) g_int (by omega) (by decide) (by decide) fun i1 H1 a0 a1 S1 k1 => .inl ⟨20, i1, rfl, rfl, ?_⟩))
    obtain ⟨n, hn1⟩ : ∃ n : Nat, (20 + i1 : Int) = (n : Int) := ⟨(20 + i1).toNat, by omega⟩
    have hn40 : n ≤ 40 := by omega
    have E1 := (En.kps S k1).set (i := 1) (v := .int (20 + i1)) (d := .int (n : Int)) (by rw [hn1]; exact .int _)
    -- one, due, place
    have T1 := tx_one hn40
    refine k_asg (k_tup (k_cons ?_))
    refine (g_is (g_lc1 (ds := rangeD 0 ((n : Int)).toNat) (Γ2 := fun d => ([.val (.ref st), .dat (.int (n : Int)), .un, .un, .un, .un, .un, .un, .un, .un].set 8 .un).set 8 (.dat d)) (fun d => .str (ww (match d with | .int i => i.toNat | _ => 0))) S1.t (gi_range1 (g_var (i := 1) (d := .int (n : Int)) E1 rfl) (by omega) (by omega)) (by rw [rangeD_len]; omega) (fun H3 s3 z hm => tgt_name (E1.same s3)) (fun X2 H3 σ2 z hm t3 E3 => ?_)) (e := wsD (one n)) ?_) H1 (Same.refl _) _ fun v2 H2 s2 r2 => ?_
    · obtain ⟨k, hk, rfl⟩ := List.mem_map.mp hm
      have hk := List.mem_range.mp hk
      rw [show (0 : Int) + (k : Int) = (k : Nat) from by omega] at E3 ⊢
      show G X2 _ σ2 H3 (.str (ww ((k : Nat) : Int).toNat))
      rw [show ((k : Nat) : Int).toNat = k from by omega]
      refine g_addS t3 g_str (g_strI (by omega) (g_var (i := 8) (d := .int (k : Int)) E3 rfl)) ?_
      have := (tS_short k (by omega)).1
      have : ("w" : Str).length = 1 := by decide +kernel
      omega
    · show PyData.list ((rangeD 0 ((n : Int)).toNat).map _) = PyData.list ((one n).map PyData.str)
      unfold rangeD one
      rw [List.map_map, List.map_map, show ((n : Int)).toNat = n by omega]
      congr 1
      refine List.map_congr_left fun k hk => ?_
      show PyData.str (ww ((0 : Int) + (k : Int)).toNat) = PyData.str (ww k)
      rw [show ((0 : Int) + (k : Int)).toNat = k by omega]
    have S2 := S1.same s2
    have E2 := E1.same s2
    refine k_cons (k_lst (k_nil ⟨by show 0 ≤ sizeLine; omega, fun L hL => ?_⟩))
    have s3 : Same H2 (upd H2 L (.lst [])) := Same.upd hL
    have nX : ¬ X L := S2.t.new hL
    have nL1 := S2.ne1 hL
    have nL2 := S2.ne2 hL
    have hLn : H L = none := by
      cases e : H L with
      | none => rfl
      | some o => exact absurd (s2 _ _ (k1 _ _ nL1 nL2 e)) (by rw [hL]; simp)
    let X' : Addr → Prop := fun b => X b ∨ b = L
    have S3 : Sg X' st cl (n0 + 1) (upd H2 L (.lst [])) := ⟨S2.ok.same s3, .inl S2.x1, .inl S2.x2, S2.t.one hL⟩
    have E3 := (E2.more (More.one hL)).same s3
    refine k_cons (c_draw (m := 3) S3 (gv_var (i := 0) E3 rfl) g_int (by omega) (by decide) (by decide) fun p0 H4 p00 p01 S4 k4 => k_nil ⟨by show 3 ≤ sizeLine; decide, fun y hy => ⟨y, _, rfl, SqT.of upd_same, rfl, _, _, rfl, _, _, rfl, _, _, rfl, rfl, ?_⟩⟩)
    have s5 : Same H4 (upd H4 y (.tup [v2, .ref L, .int p0])) := Same.upd hy
    obtain ⟨pl0, rfl⟩ := Int.eq_ofNat_of_zero_le p00
    have hL4 : H4 L = some (.lst []) := k4 _ _ nL1 nL2 upd_same
    have S5 := S4.same s5
    have k5 : KpS st cl H (upd H4 y (.tup [v2, .ref L, .int (pl0 : Int)])) := ((k1.trans (KpS.of (s2.trans s3))).trans k4).trans (KpS.of s5)
    have hL5 := s5 _ _ hL4
    let Γ (pl : Nat) (x z : Sv) : List Sv := [.val (.ref st), .dat (.int (n : Int)), .dat (wsD (one n)), .val (.ref L), .dat (.int (pl : Int)), x, z, .un, .un, .un]
    have r2' : DX X' (upd H4 y (.tup [v2, .ref L, .int (pl0 : Int)])) v2 (wsD (one n)) := (((r2.more (More.one hL)).mono (Kp.of s3)).mono (S3.kp k4)).mono (Kp.of s5)
    have E5 : EnvOk X' (upd H4 y (.tup [v2, .ref L, .int (pl0 : Int)])) _ (Γ pl0 .un .un) := (((((E3.kps S3 k4).same s5).set (i := 2) r2').setV (i := 3) (v := .ref L))).set (i := 4) (v := .int (pl0 : Int)) (d := .int (pl0 : Int)) (.int _)
    generalize upd H4 y (.tup [v2, .ref L, .int (pl0 : Int)]) = H5 at *
    let I (pl : Nat) (cs : List (Cu Str)) (cnt : Nat) (x z : Sv) : L2.St → Hp → Prop := fun σ' H' => Short cs ∧ Sg X' st cl cnt H' ∧ KpS st cl H H' ∧ (∃ xs, H' L = some (.lst xs) ∧ DXs X' H' xs (cs.map mkC)) ∧ EnvOk X' H' σ' (Γ pl x z)
    let B (pl : Nat) : L2.St → Hp → Prop := fun σ' H' => ∃ (e : Nat) (cs : List (Cu Str)), pl ≤ n + 11 ∧ e ≤ pl ∧ e ≤ n + 1 ∧ (∀ r, Fits e r n → Fits 0 (cs ++ r) n) ∧ cs.length ≤ 6 ∧ I pl cs (n0 + 2 + 8 * pl) .un .un σ' H'
    let J : Nat → L2.St → Hp → Prop := fun l σ' H' => ∃ pl, l = n + 20 - pl ∧ B pl σ' H'
    refine ⟨fun σ' H' => ∃ pl, B pl σ' H', ⟨J, ⟨_, pl0, rfl, 0, [], by omega, Nat.zero_le _, Nat.zero_le _, fun r h => h, by simp, (fun c h => by cases h), S5.le (by omega), k5, ⟨[], hL5, .nil⟩, E5⟩, ?_⟩, ?_⟩
    · rintro l σ' H6 ⟨pl, rfl, e, cs, b1, b2, b3, b4, b5, b6, S6, b7, ⟨xs6, b8, b9⟩, E6⟩
      have lx : xs6.length = cs.length := by rw [b9.length, List.length_map]
      refine gt_and (gt_cmpI S6.t (g := fun i j => decide (i < j)) (g_var (i := 4) (d := .int (pl : Int)) E6 rfl) (g_var (i := 1) (d := .int (n : Int)) E6 rfl)) (fun _ => gt_cmpI S6.t (g := fun i j => decide (i < j)) (g_lenOwn E6 rfl b8) g_int) H6 (Same.refl _) _ fun H7 s7 => ?_
      have S7 := S6.same s7
      have E7 := E6.same s7
      have c7 := b7.trans (KpS.of s7)
      have c8 := s7 _ _ b8
      have c9 := b9.mono (Kp.of s7)
      clear S6 E6 b7 b8 b9 s7
      by_cases hb : pl < n ∧ cs.length < 6
      rotate_left
      · rw [show (decide ((pl : Int) < (n : Int)) && decide ((xs6.length : Int) < 6)) = false from by
          by_cases h1 : pl < n
          · rw [decide_eq_false (p := (xs6.length : Int) < 6) (by omega), Bool.and_false]
          · rw [decide_eq_false (p := (pl : Int) < (n : Int)) (by omega), Bool.false_and]]
        rw [if_neg (by simp)]
        exact ⟨pl, e, cs, b1, b2, b3, b4, b5, b6, S7, c7, ⟨xs6, c8, c9⟩, E7⟩
      obtain ⟨lp, lc⟩ := hb
      rw [decide_eq_true (p := (pl : Int) < (n : Int)) (by omega), decide_eq_true (p := (xs6.length : Int) < 6) (by omega)]
      show (if (true : Bool) = true then _ else _)
      rw [if_pos rfl]
      refine ⟨fun σ' H' => ∃ l', l' < n + 20 - pl ∧ J l' σ' H', fun σ' H' h => h, ?_⟩
      -- size
      refine k_set (c_draw (m := 3) S7 (gv_var (i := 0) E7 rfl) g_int (by omega) (by decide) (by decide) fun j H8 j0 j1 S8 k8 => ?_)
      obtain ⟨m, rfl⟩ := Int.eq_ofNat_of_zero_le j0
      have E8 := (E7.kps S7 k8).set (i := 5) (v := .int (m : Int)) (d := .int (m : Int)) (.int _)
      have d7 := c7.trans k8
      have d8 := k8 _ _ nL1 nL2 c8
      have d9 := c9.mono (S7.kp k8)
      clear S7 E7 c7 c8 c9 k8
      -- words
      refine k_set (k_lcR (k_cons (k_op (c_draw (m := 3) S8 (gv_var (i := 0) E8 rfl) g_int (by omega) (by decide) (by decide) fun i H9 i0 i1 S9 k9 => ?_))))
      have E9 := E8.kps S8 k9
      refine g_intB (g_eqI (K := K) S9.t (g_var (i := 5) (d := .int (m : Int)) E9 rfl) g_int) H9 (Same.refl _) _ fun v H10 s10 r10 => ?_
      have r10' := r10.int_inv
      subst r10'
      refine .inl ⟨i, _, rfl, rfl, ?_⟩
      rw [eqv_int]
      generalize hz : (if decide ((m : Int) = 0) = true then (1 : Int) else 0) = z
      have hz0 : 0 ≤ z ∧ z ≤ 1 ∧ (m = 0 → z = 1) := by
        by_cases h : m = 0
        · rw [decide_eq_true (by omega), if_pos rfl] at hz
          omega
        · rw [decide_eq_false (by omega), if_neg (by simp)] at hz
          omega
      have S10 := S9.same s10
      have E10 := E9.same s10
      have k10 := k9.trans (KpS.of s10)
      have e8 := k10 _ _ nL1 nL2 d8
      have e9 := d9.mono (S8.kp k10)
      have e7 := d7.trans k10
      clear S8 E8 d7 d8 d9 k9 S9 E9 s10 r10 hz
      refine ⟨i + z, rfl, by omega, by omega, ?_⟩
      refine lc_draws (X := X') (cl := cl) (i := 8) (m := (i + z).toNat) (fun d => ∃ s, d = .str s ∧ IsNn s) S10 E10 (by omega) (fun Xa Ha σ2 jj Q1 hj E S q1 => g_nn S.t (p := pl) (k := jj) (by omega) (by omega) (g_var (i := 4) (d := .int (pl : Int)) E rfl) (g_var (i := 8) (d := .int (jj : Int)) E rfl) Ha (Same.refl _) _ fun w H11 s11 dw => q1 w _ H11 ⟨_, rfl, nn_is (by omega) (by omega)⟩ ((S.same s11).le (by omega)) (KpS.of s11) dw) fun w ds H11 hl11 hd11 S11 k11 dw nw => ?_
      obtain ⟨ws, rfl, hw⟩ := strs_nn hd11
      rw [List.length_map] at hl11
      have E11 : EnvOk X' H11 _ (Γ pl (.dat (.int (m : Int))) (.dat (wsD ws))) := (E10.kps S10 k11).set (i := 6) dw
      have f8 := k11 _ _ nL1 nL2 e8
      have f9 := e9.mono (S10.kp k11)
      have f7 := e7.trans k11
      clear S10 E10 e7 e8 e9 k10 hd11 nw k11
      have hcnt : n0 + 2 + 8 * pl + 1 + 1 + (i + z).toNat + 1 ≤ n0 + 2 + 8 * (pl + 1) := by omega
      refine q_ifJ (b := decide ((pl : Int) + (m : Int) ≤ (n : Int))) (gt_cmpI S11.t (g := fun i j => decide (i ≤ j)) (g_addI S11.t (g_var (i := 4) (d := .int (pl : Int)) E11 rfl) (g_var (i := 5) (d := .int (m : Int)) E11 rfl)) (g_var (i := 1) (d := .int (n : Int)) E11 rfl)) (fun σ2 H2 => ∃ (e' : Nat) (cs' : List (Cu Str)), e' ≤ pl + m + 1 ∧ e' ≤ n + 1 ∧ (∀ r, Fits e' r n → Fits 0 (cs' ++ r) n) ∧ cs'.length ≤ 6 ∧ I pl cs' (n0 + 2 + 8 * pl + 1 + 1 + (i + z).toNat) (.dat (.int (m : Int))) (.dat (wsD ws)) σ2 H2) (fun σ12 H12 pJ => ?_) (fun h1 hJ H12 s12 => ?_) fun h0 H12 s12 => ?_
      · obtain ⟨e', cs', g1, g2, g3, g4, g5, S12, g7, ⟨xs12, g8, g9⟩, E12⟩ := pJ
        refine k_set1 (k_op (g_addI S12.t (g_addI S12.t (g_var (i := 4) (d := .int (pl : Int)) E12 rfl) (g_var (i := 5) (d := .int (m : Int)) E12 rfl)) g_int H12 (Same.refl _) _ fun v H13 s13 r13 => ?_))
        have r13' := r13.int_inv
        subst r13'
        have S13 := S12.same s13
        refine c_draw (m := 8) S13 (gv_var (i := 0) (E12.same s13) rfl) g_int (by omega) (by decide) (by decide) fun dd H14 dd0 dd1 S14 k14 => ?_
        refine .inl ⟨_, _, rfl, rfl, ?_⟩
        obtain ⟨q8, rfl⟩ := Int.eq_ofNat_of_zero_le dd0
        have k15 := (KpS.of s13).trans k14
        refine ⟨_, ?_, pl + m + 1 + q8, rfl, e', cs', by omega, by omega, g2, g3, g4, g5, S14.le (by omega), g7.trans k15, ⟨xs12, k15 _ _ nL1 nL2 g8, g9.mono (S12.kp k15)⟩, ?_⟩
        · omega
        · exact envUn' (envUn' ((E12.kps S12 k15).set (i := 4) (v := .int ((pl : Int) + (m : Int) + 1 + (q8 : Int))) (d := .int ((pl + m + 1 + q8 : Nat) : Int)) (by rw [show ((pl + m + 1 + q8 : Nat) : Int) = (pl : Int) + (m : Int) + 1 + (q8 : Int) by omega]; exact .int _)) 5) 6
      · have hle := of_decide_eq_true h1
        have E12 := E11.same s12
        have S12 := S11.same s12
        refine k_drop1 (q_append (i := 3) (L := L) (d := mkC (pl, m, ws)) E12 rfl (.inr rfl) S12.t (s12 _ _ f8) (f9.mono (Kp.of s12)) (g_tup S12.t (ga_cons (g_var (i := 4) (d := .int (pl : Int)) E12 rfl) (ga_cons (g_var (i := 5) (d := .int (m : Int)) E12 rfl) (ga_cons (g_var (i := 6) (d := wsD ws) E12 rfl) ga_nil))) (by simp)) (by rw [List.length_map]; omega) fun H13 ys h13 x13 E13 t13 k13 => hJ _ _ ?_)
        have kk : KpS st cl H H13 := fun a o n1 n2 e => k13 a o (fun z => by rw [z, hLn] at e; cases e) (s12 _ _ (f7 a o n1 n2 e))
        have S13 : Sg X' st cl (n0 + 2 + 8 * pl + 1 + 1 + (i + z).toNat) H13 := by
          obtain ⟨ms, a, b, c, SS, hb⟩ := S12.ok
          exact ⟨⟨ms, a, b, c, ⟨k13 _ _ (Ne.symm nL1) SS.hs, k13 _ _ (Ne.symm nL2) SS.hc, SS.ne, SS.a0, SS.b0, SS.c0, SS.c1, SS.ml⟩, hb⟩, S12.x1, S12.x2, t13⟩
        refine ⟨pl + m + 1, cs ++ [(pl, m, ws)], Nat.le_refl _, by omega, fun r h => ?_, by rw [List.length_append, List.length_singleton]; omega, fun c hc => ?_, S13, kk, ⟨ys, h13, by rw [List.map_append]; exact x13⟩, E13⟩
        · rw [List.append_assoc]
          exact b4 _ ⟨b2, by show 0 < m ∨ 0 < ws.length; omega, h⟩
        · rcases List.mem_append.mp hc with h | h
          · exact b6 c h
          · rw [List.mem_singleton.mp h]
            exact ⟨by show ws.length ≤ 3; omega, hw⟩
      · exact ⟨e, cs, by omega, b3, b4, b5, b6, S11.same s12, f7.trans (KpS.of s12), ⟨xs6, s12 _ _ f8, f9.mono (Kp.of s12)⟩, E11.same s12⟩
    rintro σ' H6 ⟨pl, e, cs, b1, b2, b3, b4, b5, b6, S6, b7, ⟨xs6, b8, b9⟩, E6⟩
    have hF := b4 [] b3
    rw [List.append_nil] at hF
    have E7 : EnvOk X H6 σ' [.val (.ref st), .dat (.int (n : Int)), .dat (wsD (one n)), .dat (.list (cs.map mkC)), .dat (.int (pl : Int)), .un, .un, .un, .un, .un] := EnvOk.give (i := 3) E6 rfl nX b8 b9
    have S7 : Sg X st cl (n0 + 2 + 8 * pl) H6 := ⟨S6.ok, S.x1, S.x2, fun a h => S6.t a (.inl h)⟩
    have CS : Cs (one n) cs := ⟨by rw [one_len]; exact hF, by omega, fun c hc s hs => ((b6 c hc).2 s hs).1, fun c hc => by have := (b6 c hc).1; omega⟩
    have lv : (mdS (one n) 0 cs).length ≤ 60 := by
      have := md_few (one n) cs 0 0 CS.fits (Nat.le_refl _) (Nat.zero_le _) b6
      rw [one_len] at this
      omega
    have TV := CS.made T1 lv
    obtain ⟨h1, h2, h3⟩ := CS.back T1 lv
    have hd := dif_one hn40 hF fun c hc s hs => ((b6 c hc).2 s hs).2
    have ml := md_len (one n) cs 0 0 CS.fits (Nat.le_refl _) (Nat.zero_le _)
    rw [one_len] at ml
    have t7 := S7.t
    generalize hvs : mdS (one n) 0 cs = vs at *
    generalize hbk : bkS (one n) 0 0 cs = bk at *
    refine q_set (i := 7) (d := wsD vs) E7 (g_is (g_ofN (gn_cut t7 T1 CS (g_var (i := 2) E7 rfl) (g_var (i := 3) E7 rfl))) (by rw [hvs])) fun H8 v8 s8 E8 => ?_
    have t8 := t7.mono s8
    have gdif : ∀ {H'}, Same H6 H' → EnvOk X H' (σ'.set 7 (some v8)) [.val (.ref st), .dat (.int (n : Int)), .dat (wsD (one n)), .dat (.list (cs.map mkC)), .dat (.int (pl : Int)), .un, .un, .dat (wsD vs), .un, .un] → G X (tCall spDif [] E (tCons (tVar 2) (tCons (tVar 7) tNil))) (σ'.set 7 (some v8)) H' (.list (cs.map mkC)) := fun s' E' => by
      have := g_ofN (gn_dif (E := E) (t7.mono s') T1 TV T1.txt TV.txt (g_var (i := 2) E' rfl) (g_var (i := 7) E' rfl))
      rw [hd] at this
      exact this
    refine q_if (b := false) (gt_is (gt_or (a := false) (gt_is (gt_not (gt_B (g_same t8 (gdif s8 E8) (g_var (i := 3) (d := .list (cs.map mkC)) E8 rfl) (cs_sm4 cs CS.few CS.short CS.wd)))) rfl) fun _ => gt_is (gt_neI (K := K) t8 (g_is (e := .int (vs.length : Int)) (g_len t8 (g_var (i := 7) (d := wsD vs) E8 rfl) rfl) (by show PyData.int ((vs.map PyData.str).length : Int) = _; rw [List.length_map])) (g_addI t8 (g_var (i := 1) (d := .int (n : Int)) E8 rfl) (g_sum (ns := shC cs) t8 (g_is (g_lc1 (ds := cs.map mkC) (Γ2 := fun d => ([.val (.ref st), .dat (.int (n : Int)), .dat (wsD (one n)), .dat (.list (cs.map mkC)), .dat (.int (pl : Int)), .un, .un, .dat (wsD vs), .un, .un].set 9 .un).set 9 (.dat d)) (fun z => .int (((itemsD (it z 2)).length : Int) - intOf (it z 1))) t8 (gi_list (g_var (i := 3) (d := .list (cs.map mkC)) E8 rfl)) (by rw [List.length_map]; omega) (fun H3 s3 z hm => tgt_name (E8.same s3)) (fun X2 H3 σ2 z hm t3 E3 => ?_)) ?_)))) ?_) rfl) (fun h => by cases h) fun _ H9 s9 => ?_
    · obtain ⟨c, hc, rfl⟩ := List.mem_map.mp hm
      refine g_sub t3 (g_is (g_len t3 (g_ixT t3 (g_var (i := 9) (d := mkC c) E3 rfl) g_int rfl) rfl) ?_) (g_ixT t3 (g_var (i := 9) (d := mkC c) E3 rfl) g_int rfl)
      rfl
    · show PyData.list ((cs.map mkC).map _) = PyData.list ((shC cs).map PyData.int)
      unfold shC
      rw [List.map_map, List.map_map]
      congr 1
      refine List.map_congr_left fun c hc => ?_
      show PyData.int (((c.2.2.map PyData.str).length : Int) - ((c.2.1 : Nat) : Int)) = _
      rw [List.length_map]
      rfl
    · rw [ml, decide_eq_true (by omega)]
      rfl
    have E9 := E8.same s9
    have t9 := t8.mono s9
    refine s_ret (X := X) (d := .bool true) (g_is (g_and (a := true) (b := true) (g_same t9 (g_ofN (gn_turn t9 T1 CS (g_var (i := 2) E9 rfl) (g_var (i := 3) E9 rfl))) (g_back t9 T1 CS (g_var (i := 2) E9 rfl) (g_var (i := 3) E9 rfl)) (by rw [hbk]; exact cs_sm4 bk h3.few h3.short h3.wd)) fun _ => g_is (g_eqD (K := K) t9 (g_ofN (gn_cut t9 TV h3 (g_var (i := 7) (d := wsD vs) E9 rfl) (g_is (g_ofN (gn_turn t9 T1 CS (g_var (i := 2) E9 rfl) (g_var (i := 3) E9 rfl))) (by rw [hbk])))) (g_var (i := 2) E9 rfl) (by rw [h1]; exact (ws_sh T1).1) (ws_sh T1).1 (by rw [h1]; exact (ws_sh T1).2) (ws_sh T1).2) (by rw [ws_eqv, h1, decide_eq_true rfl])) rfl) fun w H10 s10 dw => ?_
    rw [dw.bl_inv]
    have sL := ((s8.trans s9).trans s10)
    exact q H10 ((S7.same sL).le (by omega)) (b7.trans (KpS.of sL))
end K53

/-! More words for the law. -/
namespace K53
open PySem PySem.Spec PyProof.Rows L2 KD KL
/-! ### shapes -/
theorem lay_ws {ws : List Str} (h : ∀ s ∈ ws, Wd s) : (wsD ws).canLay0 = true := by
  show PyData.canLay0 (.list (ws.map PyData.str)) = true
  simp only [PyData.canLay0]
  refine lay_all fun z hz => ?_
  obtain ⟨s, hs, rfl⟩ := List.mem_map.mp hz
  simp [PyData.canLay0, (h s hs).2]
theorem dep_ws {ws : List Str} : (wsD ws).depth ≤ 2 := by
  have : PyData.depthAll (ws.map PyData.str) ≤ 1 := dep_all fun z hz => by
    obtain ⟨s, hs, rfl⟩ := List.mem_map.mp hz
    simp [PyData.depth]
  show PyData.depth (.list (ws.map PyData.str)) ≤ 2
  simp only [PyData.depth]
  omega
theorem nd_ws {ws : List Str} : noDict (wsD ws) = true := nd_all fun z hz => by
  obtain ⟨s, _, rfl⟩ := List.mem_map.mp hz
  rfl
theorem mkC_shape {c : Cu Str} (h : ∀ s ∈ c.2.2, Wd s) : noDict (mkC c) = true ∧ (mkC c).canLay0 = true ∧ (mkC c).depth ≤ 4 := by
  have l := lay_ws h
  have d := dep_ws (ws := c.2.2)
  have n := nd_ws (ws := c.2.2)
  unfold mkC
  refine ⟨?_, ?_, ?_⟩
  · simp [noDict, noDicts, n]
  · simp [PyData.canLay0, PyData.canLayAll0, l]
  · simp only [PyData.depth, PyData.depthAll]
    omega
theorem cs_shape {cs : List (Cu Str)} (h : ∀ c ∈ cs, ∀ s ∈ c.2.2, Wd s) : noDict (.list (cs.map mkC)) = true ∧ (PyData.list (cs.map mkC)).canLay0 = true ∧ (PyData.list (cs.map mkC)).depth ≤ 6 := by
  refine ⟨nd_all fun z hz => ?_, ?_, ?_⟩
  · obtain ⟨c, hc, rfl⟩ := List.mem_map.mp hz
    exact (mkC_shape (h c hc)).1
  · simp only [PyData.canLay0]
    refine lay_all fun z hz => ?_
    obtain ⟨c, hc, rfl⟩ := List.mem_map.mp hz
    exact (mkC_shape (h c hc)).2.1
  · have : PyData.depthAll (cs.map mkC) ≤ 4 := dep_all fun z hz => by
      obtain ⟨c, hc, rfl⟩ := List.mem_map.mp hz
      exact (mkC_shape (h c hc)).2.2
    simp only [PyData.depth]
    omega
theorem css_shape {css : List (List (Cu Str))} (h : ∀ cs ∈ css, ∀ c ∈ cs, ∀ s ∈ c.2.2, Wd s) : noDict (.list (css.map fun cs => PyData.list (cs.map mkC))) = true ∧ SeqAt.shaped (.list (css.map fun cs => PyData.list (cs.map mkC))) = true := by
  refine ⟨nd_all fun z hz => ?_, shaped_mk ?_ ?_⟩
  · obtain ⟨cs, hc, rfl⟩ := List.mem_map.mp hz
    exact (cs_shape (h cs hc)).1
  · simp only [PyData.canLay0]
    refine lay_all fun z hz => ?_
    obtain ⟨cs, hc, rfl⟩ := List.mem_map.mp hz
    exact (cs_shape (h cs hc)).2.1
  · have : PyData.depthAll (css.map fun cs => PyData.list (cs.map mkC)) ≤ 6 := dep_all fun z hz => by
      obtain ⟨cs, hc, rfl⟩ := List.mem_map.mp hz
      exact (cs_shape (h cs hc)).2.2
    simp only [PyData.depth]
    omega
theorem eqvAll_self : ∀ {ds : List PyData}, (∀ d ∈ ds, PyData.eqv d d = true) → PyData.eqvAll ds ds = true
  | [], _ => by simp [PyData.eqvAll]
  | d :: r, h => by simp [PyData.eqvAll, h d List.mem_cons_self, eqvAll_self fun z hz => h z (List.mem_cons_of_mem _ hz)]
theorem cs_self (cs : List (Cu Str)) : PyData.eqv (.list (cs.map mkC)) (.list (cs.map mkC)) = true := by
  simp only [PyData.eqv]
  refine eqvAll_self fun z hz => ?_
  obtain ⟨c, hc, rfl⟩ := List.mem_map.mp hz
  have e1 : PyData.eqv (.int (c.1 : Nat)) (.int (c.1 : Nat)) = true := by rw [eqv_int]; exact decide_eq_true rfl
  have e2 : PyData.eqv (.int (c.2.1 : Nat)) (.int (c.2.1 : Nat)) = true := by rw [eqv_int]; exact decide_eq_true rfl
  have e3 : PyData.eqv (wsD c.2.2) (wsD c.2.2) = true := by rw [ws_eqv]; exact decide_eq_true rfl
  show PyData.eqvAll [_, _, _] [_, _, _] = true
  refine eqvAll_self fun y hy => ?_
  rcases List.mem_cons.mp hy with rfl | hy
  · exact e1
  rcases List.mem_cons.mp hy with rfl | hy
  · exact e2
  rw [List.mem_singleton.mp hy]
  exact e3
/-! ### all rows -/
def rowCuts (ws vs : List Str) (r : List Pr) : List (Cu Str) := cutsS vs (0, 0) (r ++ [(ws.length, vs.length)])
theorem row_all {ws vs : List Str} {r : List Pr} : r ∈ longestL ws vs ↔ Ch (Mw ws vs) r ∧ Bd ws.length vs.length r ∧ r.length = L (Mw ws vs) ws.length vs.length := by
  have hps : ∀ p : Pr, p ∈ matchL ws vs ↔ (p.1 < ws.length ∧ p.2 < vs.length ∧ Mw ws vs p.1 p.2 = true) := psL_mem
  exact ⟨fun h => rows_sound hps _ _ h, fun h => rows_full hps _ _ h.1 h.2.1 h.2.2⟩
theorem row_mem (ws vs : List Str) : keptR ws vs ∈ longestL ws vs := by
  obtain ⟨k1, k2, k3, _⟩ := (keptR_is ws vs).best
  exact row_all.mpr ⟨k1, k2, k3⟩
theorem row_bh {ws vs : List Str} {r : List Pr} (h : r ∈ longestL ws vs) : (r ++ [(ws.length, vs.length)]).Pairwise bh := by
  obtain ⟨h1, h2, h3⟩ := row_all.mp h
  exact List.pairwise_append.mpr ⟨h1.1, List.pairwise_singleton _ _, fun a ha b hb => by rw [List.mem_singleton.mp hb]; exact h2 a ha⟩
theorem row_cuts {ws vs : List Str} {r : List Pr} (h : r ∈ longestL ws vs) : cutsL (vs.map PyData.str) (0, 0) (r ++ [((ws.map PyData.str).length, (vs.map PyData.str).length)]) = (rowCuts ws vs r).map mkC := by
  rw [List.length_map, List.length_map]
  exact cuts_mk _ _ (row_bh h) fun p _ => ⟨Nat.zero_le _, Nat.zero_le _⟩
theorem row_least {ws vs : List Str} {r : List Pr} (h : r ∈ longestL ws vs) : (difS ws vs).length ≤ (rowCuts ws vs r).length := by
  obtain ⟨h1, h2, h3⟩ := row_all.mp h
  have e := cutsL_len (n := ws.length) (m := vs.length) (vs.map PyData.str) r 0 0 (Nat.zero_le _) (Nat.zero_le _) h1.1 fun p hp => ⟨Nat.zero_le _, Nat.zero_le _, (h2 p hp).1, (h2 p hp).2⟩
  rw [cuts_mk _ _ (row_bh h) fun p _ => ⟨Nat.zero_le _, Nat.zero_le _⟩, List.length_map] at e
  show _ ≤ (cutsS vs (0, 0) (r ++ [(ws.length, vs.length)])).length
  rw [e, dif_len]
  exact (keptR_is ws vs).best.2.2.2 r h1 h2 h3
theorem row_short {ws vs : List Str} {r : List Pr} (hw : ws.length ≤ 7) (h : r ∈ longestL ws vs) : r.length ≤ 7 := by
  obtain ⟨h1, h2, h3⟩ := row_all.mp h
  have := len_fst h1 (lo := 0) (hi := ws.length) fun p hp => ⟨Nat.zero_le _, (h2 p hp).1⟩
  omega
theorem rows_most {ws vs : List Str} (h1 : ws.length ≤ 7) (h2 : vs.length ≤ 7) : (longestL ws vs).length ≤ 3432 := by
  have h := rows_many (M := Mw ws vs) (n := ws.length) (m := vs.length) (L (Mw ws vs) ws.length vs.length)
  have h3 := S_left ws.length vs.length 7 7 h1 h2
  rw [S_seven] at h3
  show (rowsOf (psL (Mw ws vs) ws.length vs.length) _).length ≤ 3432
  omega
section
variable {X : Addr → Prop} {σ : L2.St} {H : Hp} {ta tb tc te : TE} {E : XK} {ws vs : List Str} {K : PySem.W.Frag}
theorem g_cuts {r : List Pr} (t : Trk X H) (ha : G X ta σ H (wsD ws)) (hb : G X tb σ H (wsD vs)) (hc : G X tc σ H (rowD r)) (h1 : ws.length ≤ 7) (h2 : vs.length ≤ 7) (h : r ∈ longestL ws vs) : G X (tCall spCuts [] E (tCons ta (tCons tb (tCons tc tNil)))) σ H (.list ((rowCuts ws vs r).map mkC)) := by
  refine g_call (ga_cons ha (ga_cons hb (ga_cons hc ga_nil))) fun us H1 s rs Q q => ?_
  cases rs with
  | cons r1 rs =>
    cases rs with
    | cons r2 rs =>
      cases rs with
      | cons r3 rs =>
        cases rs
        refine ⟨X, _, _, _, ws.map PyData.str, vs.map PyData.str, r, rfl, t.mono s, r1, r2, r3, by rw [List.length_map]; omega, by rw [List.length_map]; omega, by have := row_short h1 h; omega, fun w H' s' dw => q w H' s' ?_⟩
        rw [row_cuts h] at dw
        exact dw
theorem g_min {ns : List Int} {m : Int} (t : Trk X H) (h : G X te σ H (.list (ns.map PyData.int))) (h0 : 0 < ns.length) (hm : m ∈ ns) (hl : ∀ y ∈ ns, m ≤ y) : G X (tCB (rMin K) (tCons te tNil)) σ H (.int m) := g_cb t (ga_cons h ga_nil) (rf_min h0 hm hl)
theorem gt_notIn {d : PyData} {ds : List PyData} (t : Trk X H) (ha : G X ta σ H d) (hb : G X tb σ H (.list ds)) (n1 : noDict d = true) (n2 : noDict (.list ds) = true) (s1 : SeqAt.shaped d = true) (s2 : SeqAt.shaped (.list ds) = true) : GT (tTest (tOp (rNotInD K) ta tb)) σ H (!ds.any fun z => PyData.eqv z d) :=
  gt_op t ha hb fun H u v _ ru rv Q q => ⟨d, ds, ru.dp n1, rv.dp n2, s1, s2, q⟩
theorem c_passed {st cl : Addr} {n : Nat} {ds : List PyData} {Q : VK} (S : Sg X st cl n H) (hv : GV ta σ H (.ref st)) (hm : G X tb σ H (.list ds)) (hn : n ≤ 1000000000) (h1 : ds.length ≤ 1000)
    (k : ∀ w d H', (d = .list ds ∨ d = .tuple ds) → Sg X st cl (n + 1) H' → KpS st cl H H' → DX X H' w d → Q w H') : tCall spMPassed [] E (tCons ta (tCons tb tNil)) σ H Q :=
  hv H (Same.refl H) _ (hm H (Same.refl H) _ fun v H1 s1 r => ⟨X, st, cl, n, v, ds, rfl, S.same s1, hn, r, h1, fun w d H' h1 S2 kk dw => k w d H' h1 S2 ((KpS.of s1).trans kk) dw⟩)
theorem c_two {pre : PyData → PyData → Prop} {f : PyData → PyData → Out} {Q : VK} (h : ta σ H fun v1 H1 => tb σ H1 fun v2 H2 => spX2 pre f [v1, v2] H2 Q E) : tCall (spX2 pre f) [] E (tCons ta (tCons tb tNil)) σ H Q := h
theorem k_orN {tu : TT} {Qb : Bool → Hp → Prop} (h : te σ H fun x H1 => ∃ c, x = V.bl c ∧ (if (!c) = true then Qb true H1 else tu σ H1 Qb)) : tOr (tNot (tB te)) tu σ H Qb := h
theorem k_if {tt : TT} {tu tz : TS} {D : Ends} (h : tt σ H fun b H1 => if b = true then tu { D with nx := tz D } σ H1 else tz D σ H1) : tSeq (tIfS tt tu tNext) tz D σ H := h
end
/-! ### words that are drawn -/
theorem nW_wd : ∀ s ∈ nW, isWordsD (.str s) = true ∧ PyData.strOk s = true := by decide +kernel
theorem mW_nW : ∀ s ∈ mW, s ∈ nW := by decide +kernel
theorem tx_nW {ws : List Str} (h : ws.length ≤ 7) (hw : ∀ z ∈ ws, z ∈ nW) : Tx ws := ⟨by omega, fun s hs => nW_wd s (hw s hs)⟩
theorem ws_sm4 {ws : List Str} (h : Tx ws) : sm 4 (wsD ws) := ⟨by rw [List.length_map]; have := h.few; omega, fun x hx => by
  obtain ⟨s, hs, rfl⟩ := List.mem_map.mp hx
  show leaf (.str s) = true
  simp [leaf, (h.wd s hs).2]⟩
def rowOf (z : PyData) : List Pr := (itemsD z).map prOf
theorem rowOf_rowD (r : List Pr) : rowOf (rowD r) = r := by
  show (r.map prD).map prOf = r
  rw [List.map_map]
  exact (List.map_congr_left fun p _ => by rfl).trans (List.map_id r)
theorem tx_ok {ws : List Str} (h : Tx ws) : WsOk ws := ⟨by have := h.few; omega, fun z hz => (h.wd z hz).2⟩
end K53

/-! The law. -/
namespace K53
open PySem PySem.Spec PyProof.Rows L2 KD KL
-- RAISES check_texts is_difference check_difference cut_text turned_round difference _law_long_right _law_like_right
-- HINT law in (op_notInD (Nat.lt_of_le_of_lt (Nat.add_le_add_left (by decide : 65 ≤ 16 * 8 + 200) _) (Nat.add_assoc _ _ _ ▸ hr.un)))
-- HINT law lcte#1 (tCB (fun xs H Q => ∃ x n, xs = [x] ∧ LenV K x H n ∧ Q (V.int n) H) (tCons (tCall spCuts [] E0 (tCons (tVar 3) (tCons (tVar 4) (tCons (tVar 9) tNil)))) tNil))
section
variable {P : Program} {w : World} {K : PySem.W.Frag} {mg : Str → Option Value} {base : Heap}
abbrev s_law : Stmt := topS 39
abbrev n_law : List Str := ["_law_script", "_law_stream", "_law_turn", "_law_one", "_law_other", "_law_rows", "_law_told", "_law_few", "_law_back_here", "_law_row"]
theorem sc_law : FnScope n_law ["_law_script"] (defScope s_law) := ⟨rfl, rfl, rfl, by decide +kernel, rfl, by decide +kernel, by decide +kernel⟩
/-- what the law's text leans on -/
structure Lib (P : Program) (w : World) (K : PySem.W.Frag) (mg : Str → Option Value) (base : Heap) (C C2 : Addr) : Prop where
  T : Bl mg
  start : Own P w K mg base CX0 1 "_law_start" ["_law_script"] (spStart K)
  pick : Own P w K mg base CX0 2 "_law_pick" ["_law_stream", "_law_some"] spPick
  text : Own P w K mg base CX0 3 "_law_m_text" ["_law_stream", "_law_most"] spMText
  near : Own P w K mg base CX0 3 "_law_m_near" ["_law_stream", "_law_text", "_law_most"] spNear
  passed : Own P w K mg base CX0 3 "_law_m_passed" ["_law_stream", "_law_text"] spMPassed
  longest : Own P w K mg base CX0 2 "_law_m_longest" ["_law_one", "_law_other"] (sp2 ws7 fun a b => rowsD (longestL (wsOf a) (wsOf b)))
  cuts : Own P w K mg base CX0 1 "_law_m_cuts" ["_law_one", "_law_other", "_law_row"] spCuts
  same : Own P w K mg base CX0 6 "_law_same" ["_law_found", "_law_due"] (spSame 4)
  weight : Own P w K mg base CX0 1 "_law_weight" ["_law_cuts"] (sp1 cuts3 fun d => .int (weightD (itemsD d)))
  back : Own P w K mg base CX0 1 "_law_back" ["_law_one", "_law_cuts"] (sp2 back2 fun a b => .list (backsL (itemsD a) 0 (itemsD b)))
  long : Own P w K mg base (L2.CX P w) 7 "_law_long_right" ["_law_stream"] spLong
  like : Own P w K mg base (L2.CX P w) 7 "_law_like_right" ["_law_stream"] spLike
  dif : Own P w K mg base (L2.CX P w) 4 "difference" ["one", "other"] spDif
  isd : Own P w K mg base (L2.CX P w) 4 "is_difference" ["text", "thing"] (spIsDif C)
  ct : Own P w K mg base (L2.CX P w) 6 "cut_text" ["text", "cuts"] (spCut C C2)
  tr : Own P w K mg base (L2.CX P w) 6 "turned_round" ["text", "cuts"] (spTurn C C2)
def Gm0 (st : Addr) : List Sv := [.un, .val (.ref st), .un, .un, .un, .un, .un, .un, .un, .un]
theorem law_reads {C C2 : Addr} {f a : Addr} {cdv : Value} {s : Shared} {H : Hp} {E : XK} {ns : List Int} (L : Lib P w K mg base C C2) (hr : Room 8 (callerA.deeper (envOfC "law" (defScope s_law) s.heap.objs.size f cdv))) (hS : SqL K H a (ns.map V.int)) (hl : ns.length ≤ 63) :
    ∃ t, PSs (cxOf CX0 P w K mg base n_law "law" (defScope s_law) f cdv callerA [] s H E).nox (defBody s_law) t ∧ t { nx := fun _ _ => V.non = V.bl true, rt := fun v _ => v = V.bl true } (L2.start n_law [.ref a]) H := by
  obtain ⟨T, O__law_start, O__law_pick, O__law_m_text, O__law_m_near, O__law_m_passed, O__law_m_longest, O__law_m_cuts, O__law_same, O__law_weight, O__law_back, O__law_long_right, O__law_like_right, O_difference, O_is_difference, O_cut_text, O_turned_round⟩ := L
  have hrr := hr
  refine ⟨_, (pss_cons (ps_set (i := 1) sc_law.nd rfl (by first | exact Or.inl rfl | exact Or.inr rfl) (pe_own O__law_start hr (by decide) (by rfl) (pa_cons (pv 0) pa_nil)))
    (pss_cons (ps_if (PW.pt (pw_or (pt_not (pt_val (pe_ownX O__law_long_right hr (by decide) LamX.takes0 (by rfl) (pa_cons (pv 1) pa_nil)))) (pw_or1 (pt_not (pt_val (pe_ownX O__law_like_right hr (by decide) LamX.takes0 (by rfl) (pa_cons (pv 1) pa_nil)))))))
    (pss_one (ps_ret pe_bl)) pss_nil)
    (pss_cons (ps_for PassesOwn.never rfl (pi_range1 (by rfl) T.b_range (pa_cons pe_int pa_nil)) (pg_name (i := 2) sc_law.nd rfl (by first | exact Or.inl rfl | exact Or.inr rfl))
    (pss_cons (ps_set (i := 3) sc_law.nd rfl (by first | exact Or.inl rfl | exact Or.inr rfl) (pe_own O__law_m_text hr (by decide) (by rfl) (pa_cons (pv 1) (pa_cons pe_int pa_nil))))
    (pss_cons (ps_set (i := 4) sc_law.nd rfl (by first | exact Or.inl rfl | exact Or.inr rfl) (pe_own O__law_pick hr (by decide) (by rfl) (pa_cons (pv 1) (pa_cons (pe_lst (pa_cons (pe_own O__law_m_near hr (by decide) (by rfl) (pa_cons (pv 1) (pa_cons (pv 3) (pa_cons pe_int pa_nil)))) (pa_cons (pe_own O__law_m_text hr (by decide) (by rfl) (pa_cons (pv 1) (pa_cons pe_int pa_nil))) pa_nil))) pa_nil))))
    (pss_cons (ps_set (i := 5) sc_law.nd rfl (by first | exact Or.inl rfl | exact Or.inr rfl) (pe_own O__law_m_longest hr (by decide) (by rfl) (pa_cons (pv 3) (pa_cons (pv 4) pa_nil))))
    (pss_cons (ps_set (i := 6) sc_law.nd rfl (by first | exact Or.inl rfl | exact Or.inr rfl) (pe_ownX O_difference hr (by decide) LamX.takes0 (by rfl) (pa_cons (pe_own O__law_m_passed hr (by decide) (by rfl) (pa_cons (pv 1) (pa_cons (pv 3) pa_nil))) (pa_cons (pe_own O__law_m_passed hr (by decide) (by rfl) (pa_cons (pv 1) (pa_cons (pv 4) pa_nil))) pa_nil))))
    (pss_cons (ps_if (PW.pt (pw_or (pt_cmpR op_notBl (pe_ownX O_is_difference hr (by decide) LamX.takes0 (by rfl) (pa_cons (pv 3) (pa_cons (pv 6) pa_nil))) pe_bl (nomark _)) (pw_or1 (pt_not (pt_val (pe_own O__law_same hr (by decide) (by rfl) (pa_cons (pe_ownX O_cut_text hr (by decide) LamX.takes0 (by rfl) (pa_cons (pv 3) (pa_cons (pv 6) pa_nil))) (pa_cons (pv 4) pa_nil))))))))
    (pss_one (ps_ret pe_bl)) pss_nil)
    (pss_cons (ps_set (i := 7) sc_law.nd rfl (by first | exact Or.inl rfl | exact Or.inr rfl) (pe_callB (cr_min rfl) (by rfl) T.b_min boot_min (pa_cons (pe_lc (own := [("_law_row", 9)]) (g := (gName 9)) (tt := tYes) (te := (tCB (fun xs H Q => ∃ x n, xs = [x] ∧ LenV K x H n ∧ Q (V.int n) H) (tCons (tCall spCuts [] E0 (tCons (tVar 3) (tCons (tVar 4) (tCons (tVar 9) tNil)))) tNil))) rfl sc_law.nd (pi_list (pv 5)) (blkOk_by (N := n_law) (sc := defScope s_law) (by decide +kernel)) (fun _ _ _ _ _ => (pg_name (i := 9) sc_law.nd rfl (by first | exact Or.inl rfl | exact Or.inr rfl))) (fun _ _ _ _ _ => pts_nil) (fun _ _ _ _ _ => (pe_callB call_len (by rfl) T.b_len boot_len (pa_cons (pe_own O__law_m_cuts hr (by decide) (by rfl) (pa_cons (pv 3) (pa_cons (pv 4) (pa_cons (pv 9) pa_nil)))) pa_nil)))) pa_nil)))
    (pss_cons (ps_if (PW.pt (pw_or (pt_cmpR (op_neD hr.units) (pe_own O__law_weight hr (by decide) (by rfl) (pa_cons (pv 6) pa_nil)) (pe_op op_sub (pe_op op_addA (pe_callB call_len (by rfl) T.b_len boot_len (pa_cons (pv 3) pa_nil)) (pe_callB call_len (by rfl) T.b_len boot_len (pa_cons (pv 4) pa_nil))) (pe_op op_mulA pe_int (pe_callB call_len (by rfl) T.b_len boot_len (pa_cons (pe_ix ix_seq (pv 5) pe_int (fun _ _ => rfl)) pa_nil)))) (nomark _)) (pw_or1 (pt_cmpR (op_neD hr.units) (pe_callB call_len (by rfl) T.b_len boot_len (pa_cons (pv 6) pa_nil)) (pv 7) (nomark _)))))
    (pss_one (ps_ret pe_bl)) pss_nil)
    (pss_cons (ps_if (pt_cmpR (op_notInD (Nat.lt_of_le_of_lt (Nat.add_le_add_left (by decide : 65 ≤ 16 * 8 + 200) _) (Nat.add_assoc _ _ _ ▸ hr.un))) (pv 6) (pe_lc (own := [("_law_row", 9)]) (g := (gName 9)) (tt := tYes) rfl sc_law.nd (pi_list (pv 5)) (blkOk_by (N := n_law) (sc := defScope s_law) (by decide +kernel)) (fun _ _ _ _ _ => (pg_name (i := 9) sc_law.nd rfl (by first | exact Or.inl rfl | exact Or.inr rfl))) (fun _ _ _ _ _ => pts_nil) (fun _ _ _ _ _ => (pe_own O__law_m_cuts hr (by decide) (by rfl) (pa_cons (pv 3) (pa_cons (pv 4) (pa_cons (pv 9) pa_nil)))))) (by rfl))
    (pss_one (ps_ret pe_bl)) pss_nil)
    (pss_cons (ps_set (i := 8) sc_law.nd rfl (by first | exact Or.inl rfl | exact Or.inr rfl) (pe_ownX O_turned_round hr (by decide) LamX.takes0 (by rfl) (pa_cons (pv 3) (pa_cons (pv 6) pa_nil))))
    (pss_cons (ps_if (pt_not (pt_val (pe_own O__law_same hr (by decide) (by rfl) (pa_cons (pv 8) (pa_cons (pe_own O__law_back hr (by decide) (by rfl) (pa_cons (pv 3) (pa_cons (pv 6) pa_nil))) pa_nil)))))
    (pss_one (ps_ret pe_bl)) pss_nil)
    (pss_cons (ps_if (PW.pt (pw_or (pt_not (pt_val (pe_own O__law_same hr (by decide) (by rfl) (pa_cons (pe_ownX O_cut_text hr (by decide) LamX.takes0 (by rfl) (pa_cons (pv 4) (pa_cons (pv 8) pa_nil))) (pa_cons (pv 3) pa_nil))))) (pw_or1 (pt_not (pt_val (pe_own O__law_same hr (by decide) (by rfl) (pa_cons (pe_ownX O_turned_round hr (by decide) LamX.takes0 (by rfl) (pa_cons (pv 4) (pa_cons (pv 8) pa_nil))) (pa_cons (pv 6) pa_nil))))))))
    (pss_one (ps_ret pe_bl)) pss_nil)
    (pss_one (ps_if (pt_not (pt_val (pe_own O__law_same hr (by decide) (by rfl) (pa_cons (pe_ownX O_difference hr (by decide) LamX.takes0 (by rfl) (pa_cons (pe_callTy call_tuple_of (by rfl) T.b_tuple boot_tuple (pa_cons (pv 3) pa_nil)) (pa_cons (pv 4) pa_nil))) (pa_cons (pv 6) pa_nil)))))
    (pss_one (ps_ret pe_bl)) pss_nil))))))))))))))
    (pss_one (ps_ret (pe_cmpR (op_eqD hr.units) (pe_ownX O_difference hr (by decide) LamX.takes0 (by rfl) (pa_cons (pe_lst pa_nil) (pa_cons (pe_lst pa_nil) pa_nil))) (pe_lst pa_nil) (nomark _))))))), ?_⟩
  clear hrr
  -- the spring
  refine k_set ?_
  refine ⟨.ref a, rfl, a, ns, rfl, hS, hl, fun st cl H1 s1 h1 h2 so => ?_⟩
  have hst : ∃ ms x y z, SpAt st cl ms x y z H1 := by
    obtain ⟨ms, x, y, z, S, _⟩ := so
    exact ⟨ms, x, y, z, S⟩
  let X : Addr → Prop := fun b => b = st ∨ b = cl
  have Z1 : Sg X st cl 0 H1 := ⟨so, .inl rfl, .inr rfl, fun b hb => by
    obtain ⟨ms, x, y, z, S⟩ := hst
    rcases hb with rfl | rfl
    · exact ⟨_, S.hs⟩
    · exact ⟨_, S.hc⟩⟩
  have E1 : EnvOk X H1 ((L2.start n_law [.ref a]).set 1 (some (.ref st))) (Gm0 st) := ⟨rfl, fun i s e => by
    rcases i with _ | _ | _ | _ | _ | _ | _ | _ | _ | _ | i
    all_goals first | (cases e; first | rfl | trivial) | cases e⟩
  clear hst so h1 h2 s1
  -- long texts, like texts
  refine k_if (k_orN ?_)
  refine ⟨.ref st, E1.get 1 _ rfl, X, st, cl, 0, rfl, Z1, by omega, fun HA SA kA => ⟨true, rfl, ?_⟩⟩
  have EA := E1.kps Z1 kA
  rw [if_neg (by decide)]
  refine k_nB ?_
  refine ⟨.ref st, EA.get 1 _ rfl, X, st, cl, 0 + 1000, rfl, SA, by omega, fun HB SB kB => ⟨true, rfl, ?_⟩⟩
  have EB := EA.kps SA kB
  rw [if_neg (by decide)]
  clear E1 EA Z1 SA kA kB
  refine ⟨5, rfl, by decide, by decide, ?_⟩
  refine for_it walk_range (fun i σ H' => Sg X st cl (2000 + i * 1000) H' ∧ EnvOk X H' σ (Gm0 st)) ⟨SB, EB⟩ (fun _ _ _ _ _ => trivial) (fun i x σ H2 H3 hi p y => ?_) (fun σ H2 p => ?_)
  rotate_left
  · obtain ⟨Z, E⟩ := p
    have T0 : Tx [] := ⟨by simp, fun s h => by cases h⟩
    have g0 : ∀ {H σ}, Trk X H → G X (tLst tNil) σ H (wsD []) := fun t => g_lst t ga_nil (by simp)
    have d0 : difS [] [] = [] := by
      have h := dif_len [] []
      have h2 := (dif_is [] []).2.2
      have h3 := (keptR_is [] []).best
      have e : (difS [] []).length ≤ 0 := by
        rw [h]
        have e2 : (keptR [] []) = [] := by
          have := len_fst h3.1 (lo := 0) (hi := 0) fun p hp => absurd (h3.2.1 p hp).1 (by simp)
          exact List.length_eq_zero_iff.mp (by omega)
        rw [e2]
        decide
      exact List.length_eq_zero_iff.mp (by omega)
    refine s_ret (X := X) (d := .bool true) (g_is (g_eqD (K := K) Z.t (g_ofN (gn_dif Z.t T0 T0 T0.txt T0.txt (g0 Z.t) (g0 Z.t))) (g_lst Z.t ga_nil (by simp)) (by rw [d0]; rfl) rfl (by rw [d0]; rfl) rfl) (by rw [d0]; rfl)) fun w H9 s9 dw => dw.bl_inv
  obtain ⟨rfl, rfl⟩ := y
  obtain ⟨Z2, E2⟩ := p
  have hi5 : i < 5 := hi
  refine k_name ?_
  have E3 := E2.setV (i := 2) (v := .int (0 + (i : Int)))
  clear E2 EB SB H1
  -- one
  refine k_set ?_
  refine ⟨.ref st, E3.get 1 _ rfl, X, st, cl, 2000 + i * 1000, 7, rfl, Z2, by omega, by decide, fun w3 ws H4 lw hw S4 k4 d4 => ?_⟩
  have E4 := (E3.kps Z2 k4).set (i := 3) d4
  clear E3 Z2 k4 d4
  -- other
  refine k_set ?_
  refine ⟨.ref st, E4.get 1 _ rfl, ?_⟩
  refine k_cons (k_lst (k_cons ?_))
  refine ⟨.ref st, E4.get 1 _ rfl, ?_⟩
  refine k_cons (g_var (i := 3) (d := wsD ws) E4 rfl H4 (Same.refl _) _ fun v5 H5 s5 r5 => ?_)
  have S5 := S4.same s5
  refine ⟨X, st, cl, _, 7, v5, ws.map PyData.str, rfl, S5, by omega, r5, by rw [List.length_map]; omega, fun d hd => ?_, by decide, fun w6 es H6 les nes S6 k6 d6 => ?_⟩
  · obtain ⟨s, hs, rfl⟩ := List.mem_map.mp hd
    exact List.mem_map.mpr ⟨s, mW_nW s (hw s hs), rfl⟩
  have E6 := (E4.same s5).kps S5 k6
  refine k_cons ?_
  refine ⟨.ref st, E6.get 1 _ rfl, X, st, cl, _, 7, rfl, S6, by omega, by decide, fun w7 vs7 H7 l7 h7 S7 k7 d7 => ?_⟩
  refine k_nil ⟨by show 2 ≤ sizeLine; decide, fun p hp => ?_⟩
  have s8 : Same H7 (upd H7 p (.lst [w6, w7])) := Same.upd hp
  refine ⟨X, st, cl, _, .ref p, [.list es, wsD vs7], rfl, S7.same s8, by omega, DX.newL S7.t (.cons (d6.mono (S6.kp k7)) (.cons d7 .nil)) hp, by simp, by simp, fun w8 d8 H8 hd8 S8 k8 r8 => ?_⟩
  obtain ⟨vs, rfl, lv, hv⟩ : ∃ vs : List Str, d8 = wsD vs ∧ vs.length ≤ 7 ∧ ∀ z ∈ vs, z ∈ nW := by
    rcases List.mem_cons.mp hd8 with rfl | h
    · obtain ⟨us, e, hu⟩ := strs_of nes
      subst e
      exact ⟨us, rfl, by rw [List.length_map] at les; exact les, hu⟩
    · rw [List.mem_singleton.mp h]
      exact ⟨vs7, rfl, l7, fun z hz => mW_nW z (h7 z hz)⟩
  have E8 := (((E6.kps S6 k7).same s8).kps (S7.same s8) k8).set (i := 4) r8
  have S8 := S8.le (m := 2000 + i * 1000 + 200) (by omega)
  clear E4 S4 s5 r5 S5 S6 k6 d6 E6 S7 k7 d7 s8 k8 r8 hd8 nes les h7 l7 hp
  have T1 : Tx ws := tx_nW lw fun z hz => mW_nW z (hw z hz)
  have T2 : Tx vs := tx_nW lv hv
  -- all rows
  refine q_set (i := 5) (d := rowsD (longestL ws vs)) E8 (g_is (g_call2 S8.t (g_var (i := 3) (d := wsD ws) E8 rfl) (g_var (i := 4) (d := wsD vs) E8 rfl) ⟨ws, vs, rfl, rfl, lw, lv, tx_ok T1, tx_ok T2⟩) (by rw [wsOf_wsD, wsOf_wsD])) fun H9 v9 s9 E9 => ?_
  have S9 := S8.same s9
  -- the difference
  refine k_set (c_two (c_passed (ds := ws.map PyData.str) S9 (gv_var (i := 1) E9 rfl) (g_var (i := 3) (d := wsD ws) E9 rfl) (by omega) (by rw [List.length_map]; omega) fun w10 d10 H10 hd10 S10 k10 r10 => ?_))
  have E10 := E9.kps S9 k10
  refine c_passed (ds := vs.map PyData.str) S10 (gv_var (i := 1) E10 rfl) (g_var (i := 4) (d := wsD vs) E10 rfl) (by omega) (by rw [List.length_map]; omega) fun w11 d11 H11 hd11 S11 k11 r11 => ?_
  have TA : Txt d10 ws := hd10.elim (fun e => e ▸ T1.txt) fun e => e ▸ T1.txtT
  have TB : Txt d11 vs := hd11.elim (fun e => e ▸ T2.txt) fun e => e ▸ T2.txtT
  refine ⟨X, w10, w11, d10, d11, rfl, S11.t, r10.mono (S10.kp k11), r11, T1.pre T2 TA TB, ⟨fun r e w12 H12 s12 d12 _ => ?_, fun C fl r e => by cases e⟩⟩
  cases e
  rw [difL_is TA TB] at d12
  have E11 := ((E10.kps S10 k11).same s12).set (i := 6) d12
  have S12 := (S11.same s12).le (m := 2000 + i * 1000 + 300) (by omega)
  have CS := T1.dif T2
  obtain ⟨mA, _, wt⟩ := dif_is ws vs
  have least := fun r h => row_least (ws := ws) (vs := vs) (r := r) h
  have hmem : difS ws vs ∈ (longestL ws vs).map (rowCuts ws vs) := List.mem_map.mpr ⟨_, row_mem ws vs, rfl⟩
  clear E8 S8 s9 E9 S9 k10 r10 E10 S10 k11 r11 TA TB hd10 hd11 S11 s12 d12
  generalize hcs : difS ws vs = cs at *
  have tw := CS.back T1 (by rw [mA]; omega)
  rw [mA] at tw
  obtain ⟨b1, b2, b3⟩ := tw
  have t12 := S12.t
  let Γ (x y : Sv) : List Sv := [.un, .val (.ref st), .val (.int (0 + (i : Int))), .dat (wsD ws), .dat (wsD vs), .dat (rowsD (longestL ws vs)), .dat (.list (cs.map mkC)), x, y, .un]
  have E12 : EnvOk X H12 _ (Γ .un .un) := E11
  clear E11
  refine q_if (b := false) (gt_is (gt_or (a := false) (gt_is (gt_op t12 (g_ofN (gn_isdif t12 T1 CS (g_var (i := 3) (d := wsD ws) E12 rfl) (g_var (i := 6) (d := .list (cs.map mkC)) E12 rfl))) g_bl rb_notB) rfl) fun _ => gt_is (gt_not (gt_B (g_same t12 (g_is (g_ofN (gn_cut t12 T1 CS (g_var (i := 3) (d := wsD ws) E12 rfl) (g_var (i := 6) (d := .list (cs.map mkC)) E12 rfl))) (by rw [mA])) (g_var (i := 4) (d := wsD vs) E12 rfl) (ws_sm4 T2)))) rfl) rfl) (fun h => by cases h) fun _ H13 s13 => ?_
  have E13 := E12.same s13
  have t13 := t12.mono s13
  -- the fewest cuts
  obtain ⟨nl, hnl⟩ : ∃ nl : List Int, nl = (longestL ws vs).map fun r => ((rowCuts ws vs r).length : Int) := ⟨_, rfl⟩
  refine q_set (i := 7) (d := .int (cs.length : Int)) E13 (g_min (ns := nl) t13 (g_is (g_lc1 (ds := (longestL ws vs).map rowD) (Γ2 := fun d => ((Γ .un .un).set 9 .un).set 9 (.dat d)) (fun z => .int ((rowCuts ws vs (rowOf z)).length : Int)) t13 (gi_list (g_var (i := 5) (d := rowsD (longestL ws vs)) E13 rfl)) (by rw [List.length_map]; have := rows_most lw lv; omega) (fun H3 s3 z hm => tgt_name (E13.same s3)) (fun X2 H3 σ2 z hm t3 E3 => ?_)) ?_) ?_ ?_ ?_) fun H14 v14 s14 E14 => ?_
  · obtain ⟨r, hr, rfl⟩ := List.mem_map.mp hm
    rw [rowOf_rowD]
    refine g_is (g_len t3 (g_cuts t3 (g_var (i := 3) (d := wsD ws) E3 rfl) (g_var (i := 4) (d := wsD vs) E3 rfl) (g_var (i := 9) (d := rowD r) E3 rfl) lw lv hr) rfl) ?_
    show PyData.int (((rowCuts ws vs r).map mkC).length : Int) = _
    rw [List.length_map]
  · show PyData.list (((longestL ws vs).map rowD).map _) = PyData.list (nl.map PyData.int)
    rw [hnl, List.map_map, List.map_map]
    congr 1
    exact List.map_congr_left fun r _ => by
      show PyData.int ((rowCuts ws vs (rowOf (rowD r))).length : Int) = PyData.int ((rowCuts ws vs r).length : Int)
      rw [rowOf_rowD]
  · rw [hnl, List.length_map]
    exact List.length_pos_of_mem (row_mem ws vs)
  · rw [hnl]
    obtain ⟨r, hr, e⟩ := List.mem_map.mp hmem
    exact List.mem_map.mpr ⟨r, hr, by rw [e]⟩
  · intro y hy
    rw [hnl] at hy
    obtain ⟨r, hr, rfl⟩ := List.mem_map.mp hy
    have := least r hr
    omega
  have t14 := t13.mono s14
  have E14 : EnvOk X H14 _ (Γ (.dat (.int (cs.length : Int))) .un) := E14
  -- weight, number
  obtain ⟨r0, hr0, at0⟩ : ∃ r0, r0 ∈ longestL ws vs ∧ atI ((longestL ws vs).map rowD) 0 = some (rowD r0) := by
    have := row_mem ws vs
    cases h : longestL ws vs with
    | nil => rw [h] at this; cases this
    | cons r0 rs => exact ⟨r0, List.mem_cons_self, atI_nat (xs := List.map rowD (r0 :: rs)) (j := 0) rfl⟩
  have l0 : r0.length = KL.L (Mw ws vs) ws.length vs.length := (row_all.mp hr0).2.2
  refine q_if (b := false) (gt_is (gt_or (a := false) (gt_is (gt_neI (K := K) t14 (g_weight t14 CS (g_var (i := 6) (d := .list (cs.map mkC)) E14 rfl)) (g_sub t14 (g_addI t14 (len_ws t14 (g_var (i := 3) (d := wsD ws) E14 rfl)) (len_ws t14 (g_var (i := 4) (d := wsD vs) E14 rfl))) (g_op t14 g_int (g_is (e := .int (r0.length : Int)) (g_len t14 (g_ixL t14 (g_var (i := 5) (d := rowsD (longestL ws vs)) E14 rfl) g_int at0) rfl) (by show PyData.int ((r0.map prD).length : Int) = _; rw [List.length_map])) (RD.or1 (rd_I (C := CMul) (g := fun i j => i * j) (by have := row_short lw hr0; unfold CMul; omega)))))) (by rw [decide_eq_true (by omega)]; rfl)) fun _ => gt_is (gt_neI (K := K) t14 (g_is (e := .int (cs.length : Int)) (g_len t14 (g_var (i := 6) (d := .list (cs.map mkC)) E14 rfl) rfl) (by show PyData.int ((cs.map mkC).length : Int) = _; rw [List.length_map])) (g_var (i := 7) (d := .int (cs.length : Int)) E14 rfl)) (by rw [decide_eq_true rfl]; rfl)) rfl) (fun h => by cases h) fun _ H15 s15 => ?_
  have E15 := E14.same s15
  have t15 := t14.mono s15
  -- one of them
  have wdR : ∀ c' ∈ (longestL ws vs).map (rowCuts ws vs), ∀ c ∈ c', ∀ s ∈ c.2.2, Wd s := fun c' hc' c hc s hs => by
    obtain ⟨r, _, rfl⟩ := List.mem_map.mp hc'
    exact T2.wd s ((cutsS_mem _ _ c hc).1 s hs)
  obtain ⟨nd1, sh1⟩ := css_shape wdR
  obtain ⟨nd2, ly2, dp2⟩ := cs_shape CS.wd
  refine q_if (b := false) (gt_is (gt_notIn (K := K) t15 (g_var (i := 6) (d := .list (cs.map mkC)) E15 rfl) (g_is (e := .list (((longestL ws vs).map (rowCuts ws vs)).map fun c' => PyData.list (c'.map mkC))) (g_lc1 (ds := (longestL ws vs).map rowD) (Γ2 := fun d => ((Γ (.dat (.int (cs.length : Int))) .un).set 9 .un).set 9 (.dat d)) (fun z => .list ((rowCuts ws vs (rowOf z)).map mkC)) t15 (gi_list (g_var (i := 5) (d := rowsD (longestL ws vs)) E15 rfl)) (by rw [List.length_map]; have := rows_most lw lv; omega) (fun H3 s3 z hm => tgt_name (E15.same s3)) (fun X2 H3 σ2 z hm t3 E3 => ?_)) ?_) nd2 nd1 (shaped_mk ly2 (by omega)) sh1) ?_) (fun h => by cases h) fun _ H16 s16 => ?_
  · obtain ⟨r, hr, rfl⟩ := List.mem_map.mp hm
    rw [rowOf_rowD]
    exact g_cuts t3 (g_var (i := 3) (d := wsD ws) E3 rfl) (g_var (i := 4) (d := wsD vs) E3 rfl) (g_var (i := 9) (d := rowD r) E3 rfl) lw lv hr
  · rw [List.map_map, List.map_map]
    congr 1
    exact List.map_congr_left fun r _ => by
      show PyData.list ((rowCuts ws vs (rowOf (rowD r))).map mkC) = PyData.list ((rowCuts ws vs r).map mkC)
      rw [rowOf_rowD]
  · rw [show ((((longestL ws vs).map (rowCuts ws vs)).map fun c' => PyData.list (c'.map mkC)).any fun z => PyData.eqv z (.list (cs.map mkC))) = true from List.any_eq_true.mpr ⟨_, List.mem_map.mpr ⟨cs, hmem, rfl⟩, cs_self cs⟩]
    rfl
  have E16 := E15.same s16
  have t16 := t15.mono s16
  -- what leads back
  generalize hbk : bkS ws 0 0 cs = bk at *
  refine q_set (i := 8) (d := .list (bk.map mkC)) E16 (g_is (g_ofN (gn_turn t16 T1 CS (g_var (i := 3) (d := wsD ws) E16 rfl) (g_var (i := 6) (d := .list (cs.map mkC)) E16 rfl))) (by rw [hbk])) fun H17 v17 s17 E17 => ?_
  have t17 := t16.mono s17
  refine q_if (b := false) (gt_is (gt_not (gt_B (g_same t17 (g_var (i := 8) (d := .list (bk.map mkC)) E17 rfl) (g_is (g_back t17 T1 CS (g_var (i := 3) (d := wsD ws) E17 rfl) (g_var (i := 6) (d := .list (cs.map mkC)) E17 rfl)) (by rw [hbk])) (cs_sm4 bk b3.few b3.short b3.wd)))) rfl) (fun h => by cases h) fun _ H18 s18 => ?_
  have E18 := E17.same s18
  have t18 := t17.mono s18
  refine q_if (b := false) (gt_is (gt_or (a := false) (gt_is (gt_not (gt_B (g_same t18 (g_is (g_ofN (gn_cut t18 T2 b3 (g_var (i := 4) (d := wsD vs) E18 rfl) (g_var (i := 8) (d := .list (bk.map mkC)) E18 rfl))) (by rw [b1])) (g_var (i := 3) (d := wsD ws) E18 rfl) (ws_sm4 T1)))) rfl) fun _ => gt_is (gt_not (gt_B (g_same t18 (g_is (g_ofN (gn_turn t18 T2 b3 (g_var (i := 4) (d := wsD vs) E18 rfl) (g_var (i := 8) (d := .list (bk.map mkC)) E18 rfl))) (by rw [b2])) (g_var (i := 6) (d := .list (cs.map mkC)) E18 rfl) (cs_sm4 cs CS.few CS.short CS.wd)))) rfl) rfl) (fun h => by cases h) fun _ H19 s19 => ?_
  have E19 := E18.same s19
  have t19 := t18.mono s19
  refine s_if (b := false) (gt_is (gt_not (gt_B (g_same (d := .list (cs.map mkC)) t19 (g_is (g_ofN (gn_dif t19 T1 T2 T1.txtT T2.txt (g_tupOf (K := K) t19 (g_var (i := 3) (d := wsD ws) E19 rfl)) (g_var (i := 4) (d := wsD vs) E19 rfl))) (by rw [hcs])) (g_var (i := 6) (d := .list (cs.map mkC)) E19 rfl) (cs_sm4 cs CS.few CS.short CS.wd)))) rfl) (fun h => by cases h) fun _ H20 s20 => ?_
  have sL := ((((((s13.trans s14).trans s15).trans s16).trans s17).trans s18).trans s19).trans s20
  exact ⟨(S12.same sL).le (by omega), envUn' (envUn' (envUn' (envUn' (envUn' (envUn' (envUn' (E19.same s20) 2) 3) 4) 5) 6) 7) 8⟩
end
end K53

/-! The end of a law whose def is known for the caller of claims alone (its guards are empty). -/
namespace KD
open PySem PySem.Spec PyProof.Rows L2 LamX
/-- a def's promise, called from A -/
def FnAt (P : Program) (w : World) (K : PySem.W.Frag) (mg : Str → Option Value) (base : Heap) (CX : CXT) (A : Around) (f : Addr) (fd : FuncData) (x : Str) (sp : Sp) : Prop :=
  ∀ (s : Shared) (H : Hp) (u : Value) (v : V) (Q : VK) (E : XK), Env0 P w K mg base A [] s H → BindsTo s fd ⟨[u], []⟩ [(x, u)] → RelV v u → sp [v] H Q E → codeAny (model P w) A (.call (.ref f) ⟨[u], []⟩) (CR CX [] P w H s Q E) s
/-- where the law begins: the script as it is passed, tables without code -/
def beginH (K : PySem.W.Frag) (T : List Addr) (a : Addr) (o : Obj) (ns : List Int) : Hp := fun b => if b ∈ T then some (.tbl #[]) else if b = a ∧ K.lookup a = none then some (.frz o (.lst (ns.map V.int))) else none
section
variable {K : PySem.W.Frag} {T : List Addr} {a b : Addr} {o : Obj} {ns : List Int}
theorem beginH_tab (h : b ∈ T) : beginH K T a o ns b = some (.tbl #[]) := if_pos h
theorem beginH_arg (h : a ∉ T) (k : K.lookup a = none) : beginH K T a o ns a = some (.frz o (.lst (ns.map V.int))) := (if_neg h).trans (if_pos ⟨rfl, k⟩)
theorem beginH_none (h : b ∉ T) (k : b = a → K.lookup a ≠ none) : beginH K T a o ns b = none := (if_neg h).trans (if_neg fun z => k z.1 z.2)
theorem beginH_some {u : HO} (h : beginH K T a o ns b = some u) : (b ∈ T ∧ u = .tbl #[]) ∨ (b ∉ T ∧ b = a ∧ K.lookup a = none ∧ u = .frz o (.lst (ns.map V.int))) := by
  unfold beginH at h
  by_cases h1 : b ∈ T
  · rw [if_pos h1] at h
    exact .inl ⟨h1, (Option.some.inj h).symm⟩
  · rw [if_neg h1] at h
    by_cases h2 : b = a ∧ K.lookup a = none
    · rw [if_pos h2] at h
      exact .inr ⟨h1, h2.1, h2.2, (Option.some.inj h).symm⟩
    · rw [if_neg h2] at h
      cases h
end
theorem law_callG {P : Program} {w : World} {K : PySem.W.Frag} {mg mb : Str → Option Value} {CX : CXT} {fa a : Addr} {cs : List (Addr × Addr)} {fd : FuncData} {x : Str} {sp : Sp} {s : Shared} {vs : List Value} {ns : List Int}
    (kin : K.In s.heap) (glob : s.heap.Ns mainGlobals mg) (blt : s.heap.Ns builtinsNs mb) (boot : ∀ y : Str, y ≠ "__name__" → mb y = bootBuiltins y) (nolim : s.heap.NoLimit) (gens : s.gens = #[])
    (tabs : ∀ p ∈ cs, s.heap.get? p.2 = some { cls := .none, data := .fields #[] }) (tabK : ∀ p ∈ cs, K.lookup p.2 = none) (codes : ∀ p ∈ cs, PySem.W.CodeHd s.heap p.1 p.2)
    (bmod : ∃ bm ob, mg "__builtins__" = some (.ref bm) ∧ bm ≠ builtinsNs ∧ s.heap.get? bm = some ob ∧ ob.cls = .type "module" ∧ ob.dict = some builtinsNs ∧ ob.data = .plain)
    (arg : s.heap.get? a = some { cls := .type "list", data := .seq vs.toArray }) (intsA : IntsAre vs ns) (few : ns.length ≤ sizeLine)
    (F : ∀ base : Heap, K.In base → base.Ns mainGlobals mg → (∀ p ∈ cs, TabB base mg p.1 p.2) → FnAt P w K mg base CX callerA fa fd x sp) (bind : ∀ (s : Shared) (u : Value), BindsTo s fd ⟨[u], []⟩ [(x, u)])
    (begin_ : ∀ H : Hp, (∀ p ∈ cs, H p.2 = some (.tbl #[])) → SqL K H a (ns.map V.int) → sp [.ref a] H (fun v _ => v = .bl true) fun _ _ _ => False) (noerr : ∀ H e s', CX [] H s (fun _ _ _ => False) e s' → False) :
    codeAny (model P w) callerA (.call (.ref fa) ⟨[.ref a], []⟩) (fun r s' => r = .ok (.ret (.bool true)) ∧ OldK s.heap s'.heap ∧ s'.os = s.os ∧ AllBare s'.gens) s := by
  have vals := vals_ints intsA
  have many := intsA.length
  let T : List Addr := cs.map (·.2)
  let ao : Obj := { cls := .type "list", data := .seq vs.toArray }
  let H : Hp := beginH K T a ao ns
  have inT : ∀ {b : Addr}, b ∈ T → ∃ p ∈ cs, p.2 = b := fun hb => List.mem_map.mp hb
  have emp : ∀ {b : Addr}, b ∈ T → s.heap.get? b = some { cls := .none, data := .fields #[] } := fun hb => by
    obtain ⟨p, hp, rfl⟩ := inT hb
    exact tabs p hp
  have toT : ∀ {p : Addr × Addr}, p ∈ cs → p.2 ∈ T := fun hp => List.mem_map.mpr ⟨_, hp, rfl⟩
  have aT : a ∉ T := fun hb => by
    have e := (emp hb).symm.trans arg
    cases e
  have HT : ∀ p ∈ cs, H p.2 = some (.tbl #[]) := fun p hp => beginH_tab (toT hp)
  have script : SqL K H a (ns.map V.int) := by
    cases k : K.lookup a with
    | none => exact .inl (.inr ⟨ao, beginH_arg aT k⟩)
    | some o =>
      have same := (kin a o k).symm.trans arg
      cases same
      exact .inr ⟨_, vs.toArray, _, k, rfl, rfl, rfl, by rw [List.size_toArray, many]; exact few, by simpa using vals⟩
  have ok : HOk P w H s.heap := fun b u e => by
    rcases beginH_some e with ⟨hb, rfl⟩ | ⟨_, rfl, _, rfl⟩
    · exact emp hb
    · exact ⟨arg, by rw [List.length_map]; exact few, vs, _, vals, arg⟩
  -- what is neither a list nor an empty table is not of H
  have other : ∀ {b : Addr} {o : Obj}, s.heap.get? b = some o → (∀ q n, o.data ≠ .seq q n) → o.data ≠ .fields #[] → H b = none := fun {b o} e h1 h2 => by
    cases q : H b with
    | none => rfl
    | some u =>
      rcases beginH_some q with ⟨hb, _⟩ | ⟨_, rfl, _, _⟩
      · rw [emp hb] at e
        cases e
        exact absurd rfl h2
      · rw [arg] at e
        cases e
        exact absurd rfl (h1 _ _)
  have hid : ∀ {b : Addr} {o : Obj}, s.heap.get? b = some o → (∀ q n, o.data ≠ .seq q n) → o.data ≠ .fields #[] → (hidT s.heap H).get? b = some o := fun e h1 h2 => hidT_get e (other e h1 h2)
  have names : ∀ {b : Addr} {m : Str → Option Value}, s.heap.Ns b m → (hidT s.heap H).Ns b m := fun {b m} z => by
    obtain ⟨o, es, ep, e, hd, r⟩ := z
    refine ⟨o, es, ep, hid e (fun _ _ q => ?_) (fun q => ?_), hd, r⟩ <;> (rw [hd] at q; cases q)
  have kin2 : K.In (hidT s.heap H) := fun b o e => hidT_get (kin b o e) (by
    cases q : H b with
    | none => rfl
    | some u =>
      rcases beginH_some q with ⟨hb, _⟩ | ⟨_, rfl, k, _⟩
      · obtain ⟨p, hp, rfl⟩ := inT hb
        rw [tabK p hp] at e
        cases e
      · rw [k] at e
        cases e)
  have glob2 := names glob
  have notGlob : ∀ {b : Addr} {o : Obj}, s.heap.get? b = some o → (∀ es ep, o.data ≠ .dict es ep) → b ≠ mainGlobals := fun {b o} e h q => by
    obtain ⟨o2, es, ep, e2, hd, _⟩ := glob
    rw [q, e2] at e
    cases e
    exact h _ _ hd
  have tabB : ∀ p ∈ cs, TabB (hidT s.heap H) mg p.1 p.2 := fun p hp => by
    refine ⟨?_, ?_, fun q => notGlob (tabs p hp) (fun _ _ z => by cases z) q.symm⟩
    · obtain ⟨o, us, file, tf, flags, tg, inF, text, tt, e1, r1, r2, r3, r4, r5, r6, r7, r8, r9⟩ := codes p hp
      refine ⟨o, us, file, tf, flags, tg, inF, text, tt, hid e1 (fun _ _ q => ?_) (fun q => ?_), r1, r2, r3, r4, r5, r6, r7, r8, r9⟩
      · rw [r2] at q
        cases q
      · rw [r2] at q
        cases q
        simp at r3
    · obtain ⟨bm, ob, b1, b2, b3, b4, b5, b6⟩ := bmod
      have n1 : bm ≠ mainGlobals := notGlob b3 fun _ _ q => by rw [b6] at q; cases q
      have n2 : bm ≠ p.2 := fun q => by
        rw [q, tabs p hp] at b3
        cases b3
        cases b6
      refine ⟨bm, ob, b1, b2, n1, n2, hid b3 (fun _ _ q => ?_) (fun q => ?_), b4, b5, b6⟩ <;> (rw [b6] at q; cases q)
  have md : L2.Mod K mg (hidT s.heap H) := by
    obtain ⟨mc, h1, h2⟩ := nolim
    exact ⟨kin2, glob2, ⟨mb, names blt, boot⟩, ⟨mc, names h1, h2⟩⟩
  have env : Env0 P w K mg (hidT s.heap H) callerA [] s H := ⟨rfl, md, fun _ _ e => of_hidT e, Nat.le_of_eq (hidT_size _ _), trivial, fun _ hb => (nomatch hb), ok, .of_eq gens⟩
  have run := F _ kin2 glob2 tabB s H (.ref a) (.ref a) _ _ env (bind s (.ref a)) rfl (begin_ H HT script)
  refine codeAny_mono run fun r s' hr => ?_
  match r, hr with
  | .error e, hr => exact (noerr H e s' hr).elim
  | .ok .next, hr => exact hr.elim
  | .ok .brk, hr => exact hr.elim
  | .ok .cont, hr => exact hr.elim
  | .ok (.ret u), hr =>
    obtain ⟨v, H2, os, bare, un, ok2, rel, hv⟩ := hr
    have hv : v = V.bl true := hv
    subst hv
    obtain rfl : u = Value.bool true := rel
    have still : ∀ {b : Addr} {o : Obj}, b ∉ T → s.heap.get? b = some o → s'.heap.get? b = some o := fun {b o} nb e => by
      cases q : H b with
      | none => exact un.keep b o e q (by intro z; exact (nomatch (show b ∈ ([] : List Addr) from z))) (by simp)
      | some u =>
        rcases beginH_some q with ⟨hb, _⟩ | ⟨_, rfl, k, rfl⟩
        · exact absurd hb nb
        · have q2 := un.frzs b _ _ q
          have e2 : s'.heap.get? b = some ao := (ok2 b _ q2).1
          rw [arg] at e
          cases e
          exact e2
    have more : ∀ {b : Addr}, b ∈ T → ∃ m : Array Value, s'.heap.get? b = some { cls := .none, data := .fields m } := fun {b} hb => by
      obtain ⟨m, z⟩ := un.tbls b #[] (beginH_tab hb)
      exact ⟨_, ok2 b _ z⟩
    refine ⟨rfl, ⟨fun b o e => ?_, fun b o e => ?_⟩, os, bare⟩
    · by_cases hb : b ∈ T
      · obtain ⟨m, hm⟩ := more hb
        obtain ⟨p, hp, rfl⟩ := inT hb
        rw [tabs p hp] at e
        cases e
        exact .inr (.inl ⟨((codes p hp).tab (tabs p hp)).isCodeTable, rfl, #[], m, rfl, by rw [Array.empty_append]; exact hm⟩)
      · exact .inl (still hb e)
    · by_cases hb : b ∈ T
      · obtain ⟨m, hm⟩ := more hb
        exact ⟨_, hm⟩
      · exact ⟨o, still hb e⟩
/-- what is known of the law at the head's heap -/
def LawG (l : PySem.W.OpenLaw) (w : World) (K : PySem.W.Frag) (CX : CXT) (n : Nat) (x : Str) (mg : Str → Option Value) (fa : Addr) (h : Heap) : Prop :=
  ∃ (fd : FuncData) (cs : List (Addr × Addr)) (sp : Sp), (∀ p ∈ cs, h.get? p.2 = some { cls := .none, data := .fields #[] }) ∧ (∀ p ∈ cs, K.lookup p.2 = none) ∧ (∀ p ∈ cs, PySem.W.CodeHd h p.1 p.2) ∧ (∀ s u, BindsTo s fd ⟨[u], []⟩ [(x, u)]) ∧
    (∀ (H : Hp) (a : Addr) (ns : List Int), ns.length ≤ n → (∀ z ∈ ns, Builtin.Int.intBits z ≤ 1048576) → (∀ p ∈ cs, H p.2 = some (.tbl #[])) → SqL K H a (ns.map V.int) → sp [.ref a] H (fun v _ => v = .bl true) fun _ _ _ => False) ∧
    ∀ base : Heap, K.In base → base.Ns mainGlobals mg → (∀ p ∈ cs, TabB base mg p.1 p.2) → FnAt l.prog w K mg base CX callerA fa fd x sp
theorem walk_ofG {l : PySem.W.OpenLaw} {n : Nat} {q : Program} {loose : List Str} {XP : (Str → Option Value) → Heap → Prop} {YP : World → Heap → Prop} {d : DefRec} {K : Params → PySem.W.Frag} {CX : World → CXT} {x : Str}
    (hn : l.most = some n) (few : n ≤ sizeLine) (nodef : d.params.defaults = []) (kin : ∀ w h, YP w h → (K w.params).In h)
    (F : ∀ w mg fa h, YP w h → (K w.params).In h → h.Ns mainGlobals mg → mg d.name = some (.ref fa) → LawG l w (K w.params) (CX w) n x mg fa h) (noerr : ∀ w H s e s', CX w [] H s (fun _ _ _ => False) e s' → False) :
    PySem.W.WalkO q loose XP YP l.row.toRowW d [] (fun f vs => PySem.call f vs) :=
  Att.attach_callB hn nodef fun w s0 s1 mg mb fa o pm cd doc a vs ns G Y _ _ _ hmg hobj hints hlen hbits hg => by
    obtain ⟨fd, cs, sp, h1, h2, h3, h4, h5, h6⟩ := F w mg fa _ Y (kin w _ Y) G.T.g hmg
    exact law_callG (kin w _ Y) G.T.g G.T.b G.T.builtins G.T.nolimit hg h1 h2 h3 G.T.bmain hobj hints (Nat.le_trans hlen few) h6 h4 (fun H a1 a2 => h5 H a ns hlen hbits a1 a2) fun H e s' => noerr w H s1 e s'
end KD

/-! What the top has written; the law's own head. -/
namespace K53
open PySem PySem.Spec PyProof.Rows L2 KD KL LamX
def inC : Stmt → Stmt
  | .ClassDef _ _ _ b _ _ _ _ _ _ _ => b.getD 0 (.Pass ⟨0, 0, 0, 0⟩)
  | s => s
/-- a def of the text -/
def DefA (K : PySem.W.Frag) (x : Str) (st : Stmt) : Prop := ∃ (f : Addr) (fd : FuncData), PySem.W.nsIn K mainGlobals x = some (some (.ref f)) ∧ PySem.W.keepIn K (.ref f) = true ∧ Fun K x x st f fd
theorem da {K : PySem.W.Frag} {x : Str} {st : Stmt} {f : Addr} {oc kV dc pm cd ct : Value} {od an : Option Addr} {sl : Array (Option Value)} (a : PySem.W.nsIn K mainGlobals x = some (some (.ref f)))
    (l : K.lookup f = some ⟨oc, od, .func (PySem.W.fnOf x x (defArgs st) (defBody st) (defScope st) .none kV dc pm an cd ct), sl⟩) (c : PySem.W.codeIn K cd x = true) (k : PySem.W.keepIn K (.ref f) = true) : DefA K x st := ⟨f, _, a, k, fun_mk l c k⟩
/-- a class of errors of the text -/
structure ClsA (K : PySem.W.Frag) (x qual f : Str) (st : Stmt) (C : Addr) : Prop where
  a : PySem.W.nsIn K mainGlobals x = some (some (.ref C))
  T : OexC K C
  xf : XfC K C
  no : PySem.W.findIn K (.ref C) f = some none
  ini : ∃ (fI : Addr) (fd : FuncData), PySem.W.findIn K (.ref C) "__init__" = some (some (.ref fI)) ∧ PySem.W.typeIn K (.ref fI) = some (.type "function") ∧ Fun K "__init__" qual (inC st) fI fd
theorem ca {K : PySem.W.Frag} {x qual f : Str} {st : Stmt} {C f1 N : Addr} {nm q : Str} {bs bm : List Value} {sn : List Str} {sub : List Value} {ab : Bool} {col : Option Bool} {dd : Option Addr} {m0 m1 m2 m3 m5 : Option Value} {oc kV dc pm cd ct : Value} {od an : Option Addr} {sl : Array (Option Value)}
    (a : PySem.W.nsIn K mainGlobals x = some (some (.ref C))) (xL : K.lookup C = some (excClassObj nm q C N bs bm true sn sub ab col dd m0 m1 m2 m3 m5 "ValueError.__new__")) (rv : PySem.HandSPX.refsVE bm = true)
    (sa : PySem.W.findIn K (.ref C) "__setattr__" = some (some (.builtin "object.__setattr__"))) (ga : PySem.W.findIn K (.ref C) "__getattribute__" = some (some (.builtin "BaseException.__getattribute__"))) (gg : PySem.W.findIn K (.ref C) "__getattr__" = some none)
    (no : PySem.W.findIn K (.ref C) f = some none) (a1 : PySem.W.findIn K (.ref C) "__init__" = some (some (.ref f1))) (t1 : PySem.W.typeIn K (.ref f1) = some (.type "function"))
    (l1 : K.lookup f1 = some ⟨oc, od, .func (PySem.W.fnOf "__init__" qual (defArgs (inC st)) (defBody (inC st)) (defScope (inC st)) .none kV dc pm an cd ct), sl⟩) (c1 : PySem.W.codeIn K cd qual = true) (k1 : PySem.W.keepIn K (.ref f1) = true)
    (kC : PySem.W.keepIn K (.ref C) = true) (eC : PySem.W.subIn K (.ref C) (.type "BaseException") = some true) (tC : PySem.W.typeIn K (.ref C) = some (.type "type")) (hC : PySem.W.hasDictIn K C = true) : ClsA K x qual f st C :=
  ⟨a, ⟨⟨nm, q, N, bs, bm, sn, sub, ab, col, dd, m0, m1, m2, m3, m5, xL, rv⟩, sa, eC, tC, kC⟩, ⟨ga, gg, eC, hC⟩, no, ⟨f1, _, a1, t1, fun_mk l1 c1 k1⟩⟩
theorem exm_of {K : PySem.W.Frag} {A B : Addr} {b : Bool} (h1 : PySem.W.subIn K (.ref B) (.type "BaseException") = some true) (h2 : PySem.W.isClsIn K B = true) (h3 : PySem.W.typeIn K (.ref B) = some (.type "type")) (h4 : PySem.W.subIn K (.ref A) (.ref B) = some b) : PySem.W.exmOne K (.ref A) (.ref B) = some b := by
  have i : (PySem.W.clsIn K B).isSome = true := h2
  show (if (PySem.W.subIn K (.ref B) (.type "BaseException") == some true) = true then (if ((PySem.W.clsIn K B).isSome && PySem.W.typeIn K (.ref B) == some (.type "type")) = true then PySem.W.subIn K (.ref A) (.ref B) else none) else none) = some b
  rw [h1, i, h3, if_pos (by rfl), if_pos (by rfl), h4]
/-- the law's own def -/
def LawA (K : PySem.W.Frag) (c : Addr) : Prop := ∃ (f : Addr) (oc kV dc pm ct : Value) (od an : Option Addr) (sl : Array (Option Value)), PySem.W.nsIn K mainGlobals "law" = some (some (.ref f)) ∧
  K.lookup f = some ⟨oc, od, .func (PySem.W.fnOf "law" "law" (defArgs s_law) (defBody s_law) (defScope s_law) .none kV dc pm an (.ref c) ct), sl⟩ ∧ PySem.W.codeIn K (.ref c) "law" = true
theorem la {K : PySem.W.Frag} {f c : Addr} {oc kV dc pm ct : Value} {od an : Option Addr} {sl : Array (Option Value)} (a : PySem.W.nsIn K mainGlobals "law" = some (some (.ref f)))
    (l : K.lookup f = some ⟨oc, od, .func (PySem.W.fnOf "law" "law" (defArgs s_law) (defBody s_law) (defScope s_law) .none kV dc pm an (.ref c) ct), sl⟩) (cc : PySem.W.codeIn K (.ref c) "law" = true) : LawA K c := ⟨f, oc, kV, dc, pm, ct, od, an, sl, a, l, cc⟩
def spLaw (K : PySem.W.Frag) : Sp := fun vs H Q _ => ∃ (a : Addr) (ns : List Int), vs = [.ref a] ∧ SqL K H a (ns.map V.int) ∧ ns.length ≤ 63 ∧ Q = fun v _ => v = V.bl true
section
variable {P : Program} {w : World} {K : PySem.W.Frag} {mg : Str → Option Value} {base h : Heap}
abbrev s_BadDifference : Stmt := topS 2
theorem ec_BadDifference {C : Addr} (X : K.In h) (G : h.Ns mainGlobals mg) (A : ClsA K "BadDifference" "BadDifference.__init__" "thing" s_BadDifference C) : Ec P w K mg base "BadDifference" "thing" C := by
  obtain ⟨fI, fd, h1, h2, F⟩ := A.ini
  have S : FnScope ["self", "thing"] ["self", "thing"] (defScope (inC s_BadDifference)) := ⟨rfl, rfl, rfl, by decide +kernel, rfl, by decide +kernel, by decide +kernel⟩
  exact ⟨PySem.W.mg_of X G A.a, A.T, A.xf, A.no, fI, fd, h1, h2, ok_initF F S A.T A.no rfl rfl rfl (by decide) (by decide) (fun _ => rfl), F.binds (ps := ["self", "thing"]) fun _ _ _ _ _ _ us hl => match us, hl with | [_, _], _ => rfl⟩
abbrev s_NoText : Stmt := topS 3
theorem ec_NoText {C : Addr} (X : K.In h) (G : h.Ns mainGlobals mg) (A : ClsA K "NoText" "NoText.__init__" "index" s_NoText C) : Ec P w K mg base "NoText" "index" C := by
  obtain ⟨fI, fd, h1, h2, F⟩ := A.ini
  have S : FnScope ["self", "index"] ["self", "index"] (defScope (inC s_NoText)) := ⟨rfl, rfl, rfl, by decide +kernel, rfl, by decide +kernel, by decide +kernel⟩
  exact ⟨PySem.W.mg_of X G A.a, A.T, A.xf, A.no, fI, fd, h1, h2, ok_initF F S A.T A.no rfl rfl rfl (by decide) (by decide) (fun _ => rfl), F.binds (ps := ["self", "index"]) fun _ _ _ _ _ _ us hl => match us, hl with | [_, _], _ => rfl⟩
theorem own_of {CX : CXT} {k : Nat} {x : Str} {st : Stmt} {ps : List Str} {sp : Sp} (X : K.In h) (G : h.Ns mainGlobals mg) (D : DefA K x st) (b : ∀ (kV doc pm : Value) (an : Option Addr) (cdv ct : Value) (us : List Value), us.length = ps.length → bindArgs (PySem.W.fnOf x x (defArgs st) (defBody st) (defScope st) .none kV doc pm an cdv ct) ⟨us, []⟩ = pure (ps.zip us))
    (F : ∀ f fd, mg x = some (.ref f) → PySem.W.keepIn K (.ref f) = true → Binds K fd ps [] → Fun K x x st f fd → FnOk P w K mg base CX k f fd ps sp) : Own P w K mg base CX k x ps sp := by
  obtain ⟨f, fd, a, kp, Fn⟩ := D
  exact ⟨f, fd, PySem.W.mg_of X G a, kp, Fn.binds b, F f fd (PySem.W.mg_of X G a) kp (Fn.binds b) Fn⟩
end
theorem all_mk {l : PySem.W.OpenLaw} {w : World} {K : PySem.W.Frag} {h : Heap} {mg : Str → Option Value} {fa C1 C2 c : Addr} (X : K.In h) (G : h.Ns mainGlobals mg) (hfa : mg "law" = some (.ref fa))
    (lw : LawA K c)
    (c1 : ClsA K "BadDifference" "BadDifference.__init__" "thing" s_BadDifference C1) (c2 : ClsA K "NoText" "NoText.__init__" "index" s_NoText C2)
    (d_is_list : DefA K "is_list" s_is_list)
    (d_is_integer : DefA K "is_integer" s_is_integer)
    (d_is_number : DefA K "is_number" s_is_number)
    (d_is_words : DefA K "is_words" s_is_words)
    (d_first_false : DefA K "first_false" s_first_false)
    (d_wrong_words : DefA K "wrong_words" s_wrong_words)
    (d_check_texts : DefA K "check_texts" s_check_texts)
    (d_is_cut : DefA K "is_cut" s_is_cut)
    (d_is_difference : DefA K "is_difference" s_is_difference)
    (d_check_difference : DefA K "check_difference" s_check_difference)
    (d_cut_text : DefA K "cut_text" s_cut_text)
    (d_least_costs : DefA K "least_costs" s_least_costs)
    (d_kept_row : DefA K "kept_row" s_kept_row)
    (d_difference : DefA K "difference" s_difference)
    (d_turned_round : DefA K "turned_round" s_turned_round)
    (d__law_m_text : DefA K "_law_m_text" s__law_m_text)
    (d__law_m_near : DefA K "_law_m_near" s__law_m_near)
    (d__law_m_matches : DefA K "_law_m_matches" s__law_m_matches)
    (d__law_m_behind : DefA K "_law_m_behind" s__law_m_behind)
    (d__law_m_longest : DefA K "_law_m_longest" s__law_m_longest)
    (d__law_m_cuts : DefA K "_law_m_cuts" s__law_m_cuts)
    (d__law_m_passed : DefA K "_law_m_passed" s__law_m_passed)
    (d__law_start : DefA K "_law_start" s__law_start)
    (d__law_draw : DefA K "_law_draw" s__law_draw)
    (d__law_pick : DefA K "_law_pick" s__law_pick)
    (d__law_mixed : DefA K "_law_mixed" s__law_mixed)
    (d__law_same : DefA K "_law_same" s__law_same)
    (d__law_weight : DefA K "_law_weight" s__law_weight)
    (d__law_back : DefA K "_law_back" s__law_back)
    (d__law_long_right : DefA K "_law_long_right" s__law_long_right)
    (d__law_like_right : DefA K "_law_like_right" s__law_like_right)
    (z_isinstance : PySem.W.nsIn K mainGlobals "isinstance" = some none)
    (z_len : PySem.W.nsIn K mainGlobals "len" = some none)
    (z_list : PySem.W.nsIn K mainGlobals "list" = some none)
    (z_tuple : PySem.W.nsIn K mainGlobals "tuple" = some none)
    (z_dict : PySem.W.nsIn K mainGlobals "dict" = some none)
    (z_int : PySem.W.nsIn K mainGlobals "int" = some none)
    (z_bool : PySem.W.nsIn K mainGlobals "bool" = some none)
    (z_str : PySem.W.nsIn K mainGlobals "str" = some none)
    (z_min : PySem.W.nsIn K mainGlobals "min" = some none)
    (z_all : PySem.W.nsIn K mainGlobals "all" = some none)
    (z_range : PySem.W.nsIn K mainGlobals "range" = some none)
    (z_enumerate : PySem.W.nsIn K mainGlobals "enumerate" = some none)
    (z_zip : PySem.W.nsIn K mainGlobals "zip" = some none)
    (z_repr : PySem.W.nsIn K mainGlobals "repr" = some none)
    (z_sum : PySem.W.nsIn K mainGlobals "sum" = some none)
    (z_reversed : PySem.W.nsIn K mainGlobals "reversed" = some none) :
    LawG l w K CX0 63 "_law_script" mg fa h := by
  obtain ⟨f, oc, kV, dc, pm, ct, od, an, sl, la, ll, lc⟩ := lw
  have e := hfa.symm.trans (PySem.W.mg_of X G la)
  cases e
  have T : Bl mg := ⟨PySem.W.mg_none_of X G z_isinstance, PySem.W.mg_none_of X G z_len, PySem.W.mg_none_of X G z_list, PySem.W.mg_none_of X G z_tuple, PySem.W.mg_none_of X G z_dict, PySem.W.mg_none_of X G z_int, PySem.W.mg_none_of X G z_bool, PySem.W.mg_none_of X G z_str, PySem.W.mg_none_of X G z_min, PySem.W.mg_none_of X G z_all, PySem.W.mg_none_of X G z_range, PySem.W.mg_none_of X G z_enumerate, PySem.W.mg_none_of X G z_zip, PySem.W.mg_none_of X G z_repr⟩
  refine ⟨PySem.W.fnOf "law" "law" (defArgs s_law) (defBody s_law) (defScope s_law) .none kV dc pm an (.ref c) ct, [], spLaw K, fun p hp => (by cases hp), fun p hp => (by cases hp), fun p hp => (by cases hp), fun s u => .of_eq rfl, fun H a ns hn _ hT hS => ⟨a, ns, rfl, hS, hn, rfl⟩, fun base kin glob tb => ?_⟩
  have E1 : Ec l.prog w K mg base "BadDifference" "thing" C1 := ec_BadDifference X G c1
  have E2 : Ec l.prog w K mg base "NoText" "index" C2 := ec_NoText X G c2
  have O_is_list : Own l.prog w K mg base CX0 1 "is_list" ["thing"] (sp1 (fun _ => True) fun d => .bool (isSeq d)) := own_of X G d_is_list (fun _ _ _ _ _ _ us hl => match us, hl with | [_], _ => rfl) fun f fd m k b F => ok_is_list F T
  have O_is_integer : Own l.prog w K mg base CX0 1 "is_integer" ["thing"] (sp1 (fun _ => True) fun d => .bool (isIntD d)) := own_of X G d_is_integer (fun _ _ _ _ _ _ us hl => match us, hl with | [_], _ => rfl) fun f fd m k b F => ok_is_integer F T
  have O_is_number : Own l.prog w K mg base CX0 2 "is_number" ["thing"] (sp1 (fun _ => True) fun d => .bool (isNumD d)) := own_of X G d_is_number (fun _ _ _ _ _ _ us hl => match us, hl with | [_], _ => rfl) fun f fd m k b F => ok_is_number F T O_is_integer
  have O_is_words : Own l.prog w K mg base CX0 1 "is_words" ["thing"] (sp1 wordsPre fun d => .bool (isWordsD d)) := own_of X G d_is_words (fun _ _ _ _ _ _ us hl => match us, hl with | [_], _ => rfl) fun f fd m k b F => ok_is_words F T
  have O_first_false : Own l.prog w K mg base CX0 1 "first_false" ["tests"] (sp1 Bools fun d => ffD 0 (itemsD d)) := own_of X G d_first_false (fun _ _ _ _ _ _ us hl => match us, hl with | [_], _ => rfl) fun f fd m k b F => ok_first_false F T
  have O_wrong_words : Own l.prog w K mg base CX0 2 "wrong_words" ["things"] (sp1 wordsAll wrongD) := own_of X G d_wrong_words (fun _ _ _ _ _ _ us hl => match us, hl with | [_], _ => rfl) fun f fd m k b F => ok_wrong_words F T O_is_list O_is_words O_first_false
  have O_check_texts : Own l.prog w K mg base (L2.CX l.prog w) 3 "check_texts" ["texts"] (spX1 (fun D => ∃ d, D = .list [d] ∧ wordsAll d) (textsOut C2)) := own_of X G d_check_texts (fun _ _ _ _ _ _ us hl => match us, hl with | [_], _ => rfl) fun f fd m k b F => ok_check_texts F T O_wrong_words E2
  have N_check_texts : Own l.prog w K mg base (L2.CX l.prog w) 3 "check_texts" ["texts"] (spX1 (fun D => ∃ ds, D = .list ds ∧ ∀ d ∈ ds, wordsAll d) fun D => textsOutN C2 (itemsD D)) := own_of X G d_check_texts (fun _ _ _ _ _ _ us hl => match us, hl with | [_], _ => rfl) fun f fd m k b F => ok_check_textsN F T O_wrong_words E2
  have O_is_cut : Own l.prog w K mg base CX0 3 "is_cut" ["thing"] (sp1 chPre fun d => .bool (isCutD d)) := own_of X G d_is_cut (fun _ _ _ _ _ _ us hl => match us, hl with | [_], _ => rfl) fun f fd m k b F => ok_is_cut F T O_is_list O_is_number O_wrong_words
  have O_is_difference : Own l.prog w K mg base (L2.CX l.prog w) 4 "is_difference" ["text", "thing"] (spIsDif C2) := own_of X G d_is_difference (fun _ _ _ _ _ _ us hl => match us, hl with | [_, _], _ => rfl) fun f fd m k b F => ok_is_difference F T O_is_list O_is_cut O_check_texts
  have O_check_difference : Own l.prog w K mg base (L2.CX l.prog w) 5 "check_difference" ["text", "cuts"] (spX2 difPre2 (chkOut C2 C1 .none)) := own_of X G d_check_difference (fun _ _ _ _ _ _ us hl => match us, hl with | [_, _], _ => rfl) fun f fd m k b F => ok_check_difference F T O_is_difference E1
  have O_cut_text : Own l.prog w K mg base (L2.CX l.prog w) 6 "cut_text" ["text", "cuts"] (spCut C2 C1) := own_of X G d_cut_text (fun _ _ _ _ _ _ us hl => match us, hl with | [_, _], _ => rfl) fun f fd m k b F => ok_cut_text F T O_check_difference
  have O_turned_round : Own l.prog w K mg base (L2.CX l.prog w) 6 "turned_round" ["text", "cuts"] (spTurn C2 C1) := own_of X G d_turned_round (fun _ _ _ _ _ _ us hl => match us, hl with | [_, _], _ => rfl) fun f fd m k b F => ok_turned_round F T O_check_difference
  have O_least_costs : Own l.prog w K mg base CX0 1 "least_costs" ["one", "other"] spCosts := own_of X G d_least_costs (fun _ _ _ _ _ _ us hl => match us, hl with | [_, _], _ => rfl) fun f fd m k b F => ok_least_costs F T (PySem.W.mg_none_of X G z_reversed)
  have O_kept_row : Own l.prog w K mg base CX0 2 "kept_row" ["one", "other"] spKept := own_of X G d_kept_row (fun _ _ _ _ _ _ us hl => match us, hl with | [_, _], _ => rfl) fun f fd m k b F => ok_kept_row F T O_least_costs
  have O_difference : Own l.prog w K mg base (L2.CX l.prog w) 4 "difference" ["one", "other"] spDif := own_of X G d_difference (fun _ _ _ _ _ _ us hl => match us, hl with | [_, _], _ => rfl) fun f fd m k b F => ok_difference F T N_check_texts O_kept_row
  have O__law_start : Own l.prog w K mg base CX0 1 "_law_start" ["_law_script"] (spStart K) := own_of X G d__law_start (fun _ _ _ _ _ _ us hl => match us, hl with | [_], _ => rfl) fun f fd m k b F => ok_start F T
  have O__law_draw : Own l.prog w K mg base CX0 1 "_law_draw" ["_law_stream", "_law_many"] spDraw := own_of X G d__law_draw (fun _ _ _ _ _ _ us hl => match us, hl with | [_, _], _ => rfl) fun f fd m k b F => ok_draw F T
  have O__law_pick : Own l.prog w K mg base CX0 2 "_law_pick" ["_law_stream", "_law_some"] spPick := own_of X G d__law_pick (fun _ _ _ _ _ _ us hl => match us, hl with | [_, _], _ => rfl) fun f fd m k b F => ok_pick F T O__law_draw
  have O__law_mixed : Own l.prog w K mg base CX0 2 "_law_mixed" ["_law_stream", "_law_some"] spMixed := own_of X G d__law_mixed (fun _ _ _ _ _ _ us hl => match us, hl with | [_, _], _ => rfl) fun f fd m k b F => ok_mixed F T O__law_draw
  have O__law_m_text : Own l.prog w K mg base CX0 3 "_law_m_text" ["_law_stream", "_law_most"] spMText := own_of X G d__law_m_text (fun _ _ _ _ _ _ us hl => match us, hl with | [_, _], _ => rfl) fun f fd m k b F => ok_m_text F T O__law_draw O__law_pick O__law_mixed
  have O__law_m_near : Own l.prog w K mg base CX0 3 "_law_m_near" ["_law_stream", "_law_text", "_law_most"] spNear := own_of X G d__law_m_near (fun _ _ _ _ _ _ us hl => match us, hl with | [_, _, _], _ => rfl) fun f fd m k b F => ok_m_near F T O__law_draw O__law_pick
  have O__law_m_matches : Own l.prog w K mg base CX0 1 "_law_m_matches" ["_law_one", "_law_other"] (sp2 ws2 fun a b => rowD (matchL (wsOf a) (wsOf b))) := own_of X G d__law_m_matches (fun _ _ _ _ _ _ us hl => match us, hl with | [_, _], _ => rfl) fun f fd m k b F => ok_matches F T
  have O__law_m_behind : Own l.prog w K mg base CX0 1 "_law_m_behind" ["_law_pair", "_law_near"] (sp2 pr2 fun a b => .bool (bhB (prOf b) (prOf a))) := own_of X G d__law_m_behind (fun _ _ _ _ _ _ us hl => match us, hl with | [_, _], _ => rfl) fun f fd m k b F => ok_behind F T
  have O__law_m_longest : Own l.prog w K mg base CX0 2 "_law_m_longest" ["_law_one", "_law_other"] (sp2 ws7 fun a b => rowsD (longestL (wsOf a) (wsOf b))) := own_of X G d__law_m_longest (fun _ _ _ _ _ _ us hl => match us, hl with | [_, _], _ => rfl) fun f fd m k b F => ok_longest F T O__law_m_matches O__law_m_behind
  have O__law_m_cuts : Own l.prog w K mg base CX0 1 "_law_m_cuts" ["_law_one", "_law_other", "_law_row"] spCuts := own_of X G d__law_m_cuts (fun _ _ _ _ _ _ us hl => match us, hl with | [_, _, _], _ => rfl) fun f fd m k b F => ok_m_cuts F T
  have O__law_m_passed : Own l.prog w K mg base CX0 3 "_law_m_passed" ["_law_stream", "_law_text"] spMPassed := own_of X G d__law_m_passed (fun _ _ _ _ _ _ us hl => match us, hl with | [_, _], _ => rfl) fun f fd m k b F => ok_m_passed F T O__law_pick
  have O__law_same : Own l.prog w K mg base CX0 6 "_law_same" ["_law_found", "_law_due"] (spSame 4) := own_of X G d__law_same (fun _ _ _ _ _ _ us hl => match us, hl with | [_, _], _ => rfl) fun f fd m k b F => ok_same F T m k b 4
  have O__law_weight : Own l.prog w K mg base CX0 1 "_law_weight" ["_law_cuts"] (sp1 cuts3 fun d => .int (weightD (itemsD d))) := own_of X G d__law_weight (fun _ _ _ _ _ _ us hl => match us, hl with | [_], _ => rfl) fun f fd m k b F => ok_weight F T (PySem.W.mg_none_of X G z_sum)
  have O__law_back : Own l.prog w K mg base CX0 1 "_law_back" ["_law_one", "_law_cuts"] (sp2 back2 fun a b => .list (backsL (itemsD a) 0 (itemsD b))) := own_of X G d__law_back (fun _ _ _ _ _ _ us hl => match us, hl with | [_, _], _ => rfl) fun f fd m k b F => ok_back F T
  have O__law_long_right : Own l.prog w K mg base (L2.CX l.prog w) 7 "_law_long_right" ["_law_stream"] spLong := own_of X G d__law_long_right (fun _ _ _ _ _ _ us hl => match us, hl with | [_], _ => rfl) fun f fd m k b F => ok_long F T (PySem.W.mg_none_of X G z_sum) O__law_draw O__law_same O__law_back O_difference O_cut_text O_turned_round
  have O__law_like_right : Own l.prog w K mg base (L2.CX l.prog w) 7 "_law_like_right" ["_law_stream"] spLike := own_of X G d__law_like_right (fun _ _ _ _ _ _ us hl => match us, hl with | [_], _ => rfl) fun f fd m k b F => ok_like F T O__law_draw O__law_weight O_difference O_is_difference O_cut_text
  have Lb : Lib l.prog w K mg base C2 C1 := ⟨T, O__law_start, O__law_pick, O__law_m_text, O__law_m_near, O__law_m_passed, O__law_m_longest, O__law_m_cuts, O__law_same, O__law_weight, O__law_back, O__law_long_right, O__law_like_right, O_difference, O_is_difference, O_cut_text, O_turned_round⟩
  intro s H u v Q E env bind rel sp
  obtain ⟨a, ns, hv, hS, hn, rfl⟩ := sp
  refine run_ofS (k := 8) (N := n_law) (ps := ["_law_script"]) (us := [u]) (vs := [v]) ll lc sc_law ⟨rfl, by decide, by decide⟩ env bind (.cons rel .nil) rfl fun hr => ?_
  obtain ⟨t, h1, h2⟩ := law_reads Lb hr hS hn
  cases hv
  exact ⟨t, h1.nox, h2⟩
end K53
open PySem PySem.W PyProof.Rows
set_option maxRecDepth 100000 in
set_option maxHeartbeats 0 in
theorem PySem.Challenge.cw_patchlots_k53_whole_differences_holds : PySem.Challenge.rw_patchlots_k53_whole_differences.Holds := by
  w_on; o_law; k_head; (case hw => w_witness2)
  k_fill
  refine KD.walk_ofG (l := PySem.Challenge.rw_patchlots_k53_whole_differences) (n := 63) (x := "_law_script") (CX := fun _ => L2.CX0) rfl (by decide) rfl (fun w h Y => PySem.W.kIn_of Y) ?F (fun _ _ _ _ _ z => z)
  case F =>
    intro w mg fa h Y KX G hmg
    refine' K53.all_mk KX G hmg ?lw ?c1 ?c2 ?d_is_list ?d_is_integer ?d_is_number ?d_is_words ?d_first_false ?d_wrong_words ?d_check_texts ?d_is_cut ?d_is_difference ?d_check_difference ?d_cut_text ?d_least_costs ?d_kept_row ?d_difference ?d_turned_round ?d__law_m_text ?d__law_m_near ?d__law_m_matches ?d__law_m_behind ?d__law_m_longest ?d__law_m_cuts ?d__law_m_passed ?d__law_start ?d__law_draw ?d__law_pick ?d__law_mixed ?d__law_same ?d__law_weight ?d__law_back ?d__law_long_right ?d__law_like_right ?z_isinstance ?z_len ?z_list ?z_tuple ?z_dict ?z_int ?z_bool ?z_str ?z_min ?z_all ?z_range ?z_enumerate ?z_zip ?z_repr ?z_sum ?z_reversed
    (case d_is_list => (refine' K53.da ?a ?l ?c ?k; (case a => k_is); (case l => k_is); (case c => k_is); (case k => k_is)))
    (case d_is_integer => (refine' K53.da ?a ?l ?c ?k; (case a => k_is); (case l => k_is); (case c => k_is); (case k => k_is)))
    (case d_is_number => (refine' K53.da ?a ?l ?c ?k; (case a => k_is); (case l => k_is); (case c => k_is); (case k => k_is)))
    (case d_is_words => (refine' K53.da ?a ?l ?c ?k; (case a => k_is); (case l => k_is); (case c => k_is); (case k => k_is)))
    (case d_first_false => (refine' K53.da ?a ?l ?c ?k; (case a => k_is); (case l => k_is); (case c => k_is); (case k => k_is)))
    (case d_wrong_words => (refine' K53.da ?a ?l ?c ?k; (case a => k_is); (case l => k_is); (case c => k_is); (case k => k_is)))
    (case d_check_texts => (refine' K53.da ?a ?l ?c ?k; (case a => k_is); (case l => k_is); (case c => k_is); (case k => k_is)))
    (case d_is_cut => (refine' K53.da ?a ?l ?c ?k; (case a => k_is); (case l => k_is); (case c => k_is); (case k => k_is)))
    (case d_is_difference => (refine' K53.da ?a ?l ?c ?k; (case a => k_is); (case l => k_is); (case c => k_is); (case k => k_is)))
    (case d_check_difference => (refine' K53.da ?a ?l ?c ?k; (case a => k_is); (case l => k_is); (case c => k_is); (case k => k_is)))
    (case d_cut_text => (refine' K53.da ?a ?l ?c ?k; (case a => k_is); (case l => k_is); (case c => k_is); (case k => k_is)))
    (case d_least_costs => (refine' K53.da ?a ?l ?c ?k; (case a => k_is); (case l => k_is); (case c => k_is); (case k => k_is)))
    (case d_kept_row => (refine' K53.da ?a ?l ?c ?k; (case a => k_is); (case l => k_is); (case c => k_is); (case k => k_is)))
    (case d_difference => (refine' K53.da ?a ?l ?c ?k; (case a => k_is); (case l => k_is); (case c => k_is); (case k => k_is)))
    (case d_turned_round => (refine' K53.da ?a ?l ?c ?k; (case a => k_is); (case l => k_is); (case c => k_is); (case k => k_is)))
    (case d__law_m_text => (refine' K53.da ?a ?l ?c ?k; (case a => k_is); (case l => k_is); (case c => k_is); (case k => k_is)))
    (case d__law_m_near => (refine' K53.da ?a ?l ?c ?k; (case a => k_is); (case l => k_is); (case c => k_is); (case k => k_is)))
    (case d__law_m_matches => (refine' K53.da ?a ?l ?c ?k; (case a => k_is); (case l => k_is); (case c => k_is); (case k => k_is)))
    (case d__law_m_behind => (refine' K53.da ?a ?l ?c ?k; (case a => k_is); (case l => k_is); (case c => k_is); (case k => k_is)))
    (case d__law_m_longest => (refine' K53.da ?a ?l ?c ?k; (case a => k_is); (case l => k_is); (case c => k_is); (case k => k_is)))
    (case d__law_m_cuts => (refine' K53.da ?a ?l ?c ?k; (case a => k_is); (case l => k_is); (case c => k_is); (case k => k_is)))
    (case d__law_m_passed => (refine' K53.da ?a ?l ?c ?k; (case a => k_is); (case l => k_is); (case c => k_is); (case k => k_is)))
    (case d__law_start => (refine' K53.da ?a ?l ?c ?k; (case a => k_is); (case l => k_is); (case c => k_is); (case k => k_is)))
    (case d__law_draw => (refine' K53.da ?a ?l ?c ?k; (case a => k_is); (case l => k_is); (case c => k_is); (case k => k_is)))
    (case d__law_pick => (refine' K53.da ?a ?l ?c ?k; (case a => k_is); (case l => k_is); (case c => k_is); (case k => k_is)))
    (case d__law_mixed => (refine' K53.da ?a ?l ?c ?k; (case a => k_is); (case l => k_is); (case c => k_is); (case k => k_is)))
    (case d__law_same => (refine' K53.da ?a ?l ?c ?k; (case a => k_is); (case l => k_is); (case c => k_is); (case k => k_is)))
    (case d__law_weight => (refine' K53.da ?a ?l ?c ?k; (case a => k_is); (case l => k_is); (case c => k_is); (case k => k_is)))
    (case d__law_back => (refine' K53.da ?a ?l ?c ?k; (case a => k_is); (case l => k_is); (case c => k_is); (case k => k_is)))
    (case d__law_long_right => (refine' K53.da ?a ?l ?c ?k; (case a => k_is); (case l => k_is); (case c => k_is); (case k => k_is)))
    (case d__law_like_right => (refine' K53.da ?a ?l ?c ?k; (case a => k_is); (case l => k_is); (case c => k_is); (case k => k_is)))
    (case lw => (refine' K53.la ?a ?l ?c; (case a => k_is); (case l => k_is); (case c => k_is)))
    (case c1 => (refine' K53.ca ?a ?xL ?rv ?sa ?ga ?gg ?no ?a1 ?t1 ?l1 ?c1 ?k1 ?kC ?eC ?tC ?hC; (case a => k_is); (case xL => k_is); (case rv => decide +kernel); (case sa => k_is); (case ga => k_is); (case gg => k_is); (case no => k_is); (case a1 => k_is); (case t1 => k_is); (case l1 => k_is); (case c1 => k_is); (case k1 => k_is); (case kC => k_is); (case eC => k_is); (case tC => k_is); (case hC => k_is)))
    (case c2 => (refine' K53.ca ?a ?xL ?rv ?sa ?ga ?gg ?no ?a1 ?t1 ?l1 ?c1 ?k1 ?kC ?eC ?tC ?hC; (case a => k_is); (case xL => k_is); (case rv => decide +kernel); (case sa => k_is); (case ga => k_is); (case gg => k_is); (case no => k_is); (case a1 => k_is); (case t1 => k_is); (case l1 => k_is); (case c1 => k_is); (case k1 => k_is); (case kC => k_is); (case eC => k_is); (case tC => k_is); (case hC => k_is)))
    (case z_isinstance => k_is)
    (case z_len => k_is)
    (case z_list => k_is)
    (case z_tuple => k_is)
    (case z_dict => k_is)
    (case z_int => k_is)
    (case z_bool => k_is)
    (case z_str => k_is)
    (case z_min => k_is)
    (case z_all => k_is)
    (case z_range => k_is)
    (case z_enumerate => k_is)
    (case z_zip => k_is)
    (case z_repr => k_is)
    (case z_sum => k_is)
    (case z_reversed => k_is)

