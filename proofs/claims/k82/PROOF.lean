import PyProof.Rows.All
import Wide.All
import OpenK.AllK
import Wide.FinOn
import HandS.ForMost
import HandS.IsInst
import HandS.Style
import HandS.TupAny
import HandS.Deep
import KE.SortData
import HandS.Walk
import PySem.Challenge.RW_patchlots_k82_search_refused
import HandS.ForExc
import HandS.ExcInit
import HandS.ExcField
import HandS.Evl
import HandS.Zip
import HandS.Set
import HandS.Strs
import KE.GoesMore
import PyProof.EnumMake
import PyProof.Draws
import KE.KBits
import HandS.Text
import HandS.Iter
import HandS.Steps
import HandS.List
import HandS.NoneIn
import HandS.Defaults
import HandS.WordsExc
import HandS.EndTab
import HandS.Lambda
import HandS.TryMany
import PyProof.ReprReads
import PyProof.ReprRoads
set_option Elab.async false
set_option linter.all false
set_option maxRecDepth 100000
set_option maxHeartbeats 4000000
/-! Data as a whole over the hand layer: DX, what evaluates to what, a def's promise over data. -/
namespace KD
open PySem L2

/-! ### data that stands apart from some addresses -/
def kd : Key → PyData
  | .inl i => .int i
  | .inr x => .str x
mutual
inductive DX (X : Addr → Prop) (H : Hp) : V → PyData → Prop
  | non : DX X H .non .none
  | bl (b : Bool) : DX X H (.bl b) (.bool b)
  | int (i : Int) : DX X H (.int i) (.int i)
  | str (x : Str) : DX X H (.str x) (.str x)
  | lst {a : Addr} {xs : List V} {ds : List PyData} : ¬ X a → H a = some (.lst xs) → DXs X H xs ds → DX X H (.ref a) (.list ds)
  | tup {a : Addr} {xs : List V} {ds : List PyData} : ¬ X a → H a = some (.tup xs) → DXs X H xs ds → DX X H (.ref a) (.tuple ds)
  | dic {a : Addr} {kvs : List (Key × V)} {ks : List (PyData × PyData)} : ¬ X a → H a = some (.dK kvs) → DXk X H kvs ks → DX X H (.ref a) (.dict ks)
inductive DXs (X : Addr → Prop) (H : Hp) : List V → List PyData → Prop
  | nil : DXs X H [] []
  | cons {v : V} {vs : List V} {d : PyData} {ds : List PyData} : DX X H v d → DXs X H vs ds → DXs X H (v :: vs) (d :: ds)
inductive DXk (X : Addr → Prop) (H : Hp) : List (Key × V) → List (PyData × PyData) → Prop
  | nil : DXk X H [] []
  | cons {k : Key} {v : V} {vs : List (Key × V)} {d : PyData} {ds : List (PyData × PyData)} : DX X H v d → DXk X H vs ds → DXk X H ((k, v) :: vs) ((kd k, d) :: ds)
end
/-- what is not of X is kept -/
def Kp (X : Addr → Prop) (H H' : Hp) : Prop := ∀ a o, ¬ X a → H a = some o → H' a = some o
theorem Kp.of {X : Addr → Prop} {H H' : Hp} (h : Same H H') : Kp X H H' := fun a o _ e => h a o e
theorem Kp.refl {X : Addr → Prop} {H : Hp} : Kp X H H := fun _ _ _ e => e
theorem Kp.trans {X : Addr → Prop} {H H1 H2 : Hp} (h : Kp X H H1) (k : Kp X H1 H2) : Kp X H H2 := fun a o n e => k a o n (h a o n e)
section
variable {X : Addr → Prop} {H H' : Hp}
mutual
theorem DX.mono (k : Kp X H H') : ∀ {v : V} {d : PyData}, DX X H v d → DX X H' v d
  | _, _, .non => .non
  | _, _, .bl b => .bl b
  | _, _, .int i => .int i
  | _, _, .str x => .str x
  | _, _, .lst n h r => .lst n (k _ _ n h) (DXs.mono k r)
  | _, _, .tup n h r => .tup n (k _ _ n h) (DXs.mono k r)
  | _, _, .dic n h r => .dic n (k _ _ n h) (DXk.mono k r)
theorem DXs.mono (k : Kp X H H') : ∀ {vs : List V} {ds : List PyData}, DXs X H vs ds → DXs X H' vs ds
  | _, _, .nil => .nil
  | _, _, .cons h r => .cons (DX.mono k h) (DXs.mono k r)
theorem DXk.mono (k : Kp X H H') : ∀ {vs : List (Key × V)} {ds : List (PyData × PyData)}, DXk X H vs ds → DXk X H' vs ds
  | _, _, .nil => .nil
  | _, _, .cons h r => .cons (DX.mono k h) (DXk.mono k r)
end
theorem DXs.length : ∀ {vs : List V} {ds : List PyData}, DXs X H vs ds → vs.length = ds.length
  | _, _, .nil => rfl
  | _, _, .cons _ r => congrArg (· + 1) (DXs.length r)
theorem DXs.get : ∀ {vs : List V} {ds : List PyData} {i : Nat} {d : PyData}, DXs X H vs ds → ds[i]? = some d → ∃ v, vs[i]? = some v ∧ DX X H v d
  | _, _, _, _, .nil, e => by simp at e
  | _, _, 0, _, .cons h _, e => by simp at e; subst e; exact ⟨_, rfl, h⟩
  | _, _, i + 1, d, .cons _ r, e => by
    obtain ⟨v, h1, h2⟩ := DXs.get (i := i) (d := d) r (by simpa using e)
    exact ⟨v, by simpa using h1, h2⟩
theorem DXs.getV : ∀ {vs : List V} {ds : List PyData} {i : Nat} {v : V}, DXs X H vs ds → vs[i]? = some v → ∃ d, ds[i]? = some d ∧ DX X H v d
  | _, _, _, _, .nil, e => by simp at e
  | _, _, 0, _, .cons h _, e => by simp at e; subst e; exact ⟨_, rfl, h⟩
  | _, _, i + 1, d, .cons _ r, e => by
    obtain ⟨v, h1, h2⟩ := DXs.getV (i := i) (v := d) r (by simpa using e)
    exact ⟨v, by simpa using h1, h2⟩
theorem DXs.append : ∀ {vs ws : List V} {ds es : List PyData}, DXs X H vs ds → DXs X H ws es → DXs X H (vs ++ ws) (ds ++ es)
  | _, _, _, _, .nil, s => s
  | _, _, _, _, .cons h r, s => .cons h (DXs.append r s)
theorem DXs.take : ∀ {vs : List V} {ds : List PyData} (n : Nat), DXs X H vs ds → DXs X H (vs.take n) (ds.take n)
  | _, _, 0, _ => .nil
  | _, _, _ + 1, .nil => .nil
  | _, _, n + 1, .cons h r => .cons h (DXs.take n r)
theorem DXs.drop : ∀ {vs : List V} {ds : List PyData} (n : Nat), DXs X H vs ds → DXs X H (vs.drop n) (ds.drop n)
  | _, _, 0, r => r
  | _, _, _ + 1, .nil => .nil
  | _, _, n + 1, .cons _ r => DXs.drop n r
theorem DXs.erase : ∀ {vs : List V} {ds : List PyData} (n : Nat), DXs X H vs ds → DXs X H (vs.eraseIdx n) (ds.eraseIdx n)
  | _, _, _, .nil => .nil
  | _, _, 0, .cons _ r => r
  | _, _, n + 1, .cons h r => .cons h (DXs.erase n r)
theorem DXs.rep {vs : List V} {ds : List PyData} (h : DXs X H vs ds) : ∀ n : Nat, DXs X H (List.replicate n vs).flatten (List.replicate n ds).flatten
  | 0 => .nil
  | n + 1 => by
    rw [List.replicate_succ, List.replicate_succ, List.flatten_cons, List.flatten_cons]
    exact DXs.append h (DXs.rep h n)
theorem DXs.snoc {vs : List V} {ds : List PyData} {v : V} {d : PyData} (h : DXs X H vs ds) (k : DX X H v d) : DXs X H (vs ++ [v]) (ds ++ [d]) := DXs.append h (.cons k .nil)

/-! ### data without dicts is the layer's data -/
mutual
def noDict : PyData → Bool
  | .none => true
  | .bool _ => true
  | .int _ => true
  | .str _ => true
  | .list ds => noDicts ds
  | .tuple ds => noDicts ds
  | .dict _ => false
def noDicts : List PyData → Bool
  | [] => true
  | d :: ds => noDict d && noDicts ds
end
mutual
theorem DX.dp {K : PySem.W.Frag} : ∀ {v : V} {d : PyData}, DX X H v d → noDict d = true → Dp K H v d
  | _, _, .non, _ => .non
  | _, _, .bl b, _ => .bl b
  | _, _, .int i, _ => .int i
  | _, _, .str x, _ => .str x
  | _, _, .lst _ h r, n => .lst (SqL.of h) (DXs.dp r (by simpa [noDict] using n))
  | _, _, .tup _ h r, n => .tup (SqT.of h) (DXs.dp r (by simpa [noDict] using n))
  | _, _, .dic _ _ _, n => by simp [noDict] at n
theorem DXs.dp {K : PySem.W.Frag} : ∀ {vs : List V} {ds : List PyData}, DXs X H vs ds → noDicts ds = true → DpAll K H vs ds
  | _, _, .nil, _ => .nil
  | _, _, .cons (d := d) (ds := ds) h r, n => by
    have n' : noDict d = true ∧ noDicts ds = true := by simpa [noDicts] using n
    exact .cons (DX.dp h n'.1) (DXs.dp r n'.2)
end
end
/-- the addresses of X stand in the heap -/
def Trk (X : Addr → Prop) (H : Hp) : Prop := ∀ a, X a → ∃ o, H a = some o
theorem Trk.mono {X : Addr → Prop} {H H' : Hp} (t : Trk X H) (s : Same H H') : Trk X H' := fun a h => let ⟨o, e⟩ := t a h; ⟨o, s a o e⟩
theorem Trk.new {X : Addr → Prop} {H : Hp} {p : Addr} (t : Trk X H) (h : H p = none) : ¬ X p := fun x => by
  obtain ⟨o, e⟩ := t p x
  rw [h] at e
  cases e
theorem Same.upd {H : Hp} {p : Addr} {o : HO} (h : H p = none) : Same H (upd H p o) := fun b u e => by
  rw [upd_ne (ne_of_none e h)]
  exact e

/-! ### the frame's values as data -/
inductive Sv where
  | dat (d : PyData) | val (v : V) | un
def SvOk (X : Addr → Prop) (H : Hp) : Sv → Option (Option V) → Prop
  | .dat d, o => ∃ v, o = some (some v) ∧ DX X H v d
  | .val v, o => o = some (some v)
  | .un, _ => True
structure EnvOk (X : Addr → Prop) (H : Hp) (σ : St) (Γ : List Sv) : Prop where
  len : σ.length = Γ.length
  get : ∀ (i : Nat) (s : Sv), Γ[i]? = some s → SvOk X H s σ[i]?
section
variable {X : Addr → Prop} {H H' : Hp} {σ : St} {Γ : List Sv}
theorem SvOk.mono (k : Kp X H H') {s : Sv} {o : Option (Option V)} (h : SvOk X H s o) : SvOk X H' s o := by
  cases s with
  | dat d =>
    obtain ⟨v, e, r⟩ := h
    exact ⟨v, e, r.mono k⟩
  | val v => exact h
  | un => trivial
theorem EnvOk.mono (k : Kp X H H') (h : EnvOk X H σ Γ) : EnvOk X H' σ Γ := ⟨h.len, fun i s e => (h.get i s e).mono k⟩
theorem EnvOk.same (k : Same H H') (h : EnvOk X H σ Γ) : EnvOk X H' σ Γ := h.mono (Kp.of k)
theorem EnvOk.put {i : Nat} {v : V} {s : Sv} (h : EnvOk X H σ Γ) (hs : SvOk X H s (some (some v))) : EnvOk X H (σ.set i (some v)) (Γ.set i s) := by
  refine ⟨by rw [List.length_set, List.length_set]; exact h.len, fun j t e => ?_⟩
  by_cases hj : i = j
  · subst hj
    by_cases hl : i < Γ.length
    · rw [List.getElem?_set_self hl] at e
      cases e
      rw [List.getElem?_set_self (by rw [h.len]; exact hl)]
      exact hs
    · rw [List.getElem?_eq_none (by rw [List.length_set]; omega)] at e
      cases e
  · rw [List.getElem?_set_ne hj] at e
    rw [List.getElem?_set_ne hj]
    exact h.get j t e
theorem EnvOk.set {i : Nat} {v : V} {d : PyData} (h : EnvOk X H σ Γ) (hd : DX X H v d) : EnvOk X H (σ.set i (some v)) (Γ.set i (.dat d)) := h.put ⟨v, rfl, hd⟩
theorem EnvOk.setV {i : Nat} {v : V} (h : EnvOk X H σ Γ) : EnvOk X H (σ.set i (some v)) (Γ.set i (.val v)) := h.put rfl
/-- what is not asked any more -/
theorem EnvOk.wipe (h : EnvOk X H σ Γ) : ∀ vs : List Nat, EnvOk X H (wipe σ vs) (vs.foldr (fun v g => g.set v .un) Γ)
  | [] => h
  | v :: vs => by
    have ih := EnvOk.wipe h vs
    show EnvOk X H ((L2.wipe σ vs).set v none) ((vs.foldr (fun v g => g.set v .un) Γ).set v .un)
    refine ⟨by rw [List.length_set, List.length_set]; exact ih.len, fun j t e => ?_⟩
    by_cases hj : v = j
    · subst hj
      by_cases hl : v < (vs.foldr (fun v g => g.set v Sv.un) Γ).length
      · rw [List.getElem?_set_self hl] at e
        cases e
        trivial
      · rw [List.getElem?_eq_none (by rw [List.length_set]; omega)] at e
        cases e
    · rw [List.getElem?_set_ne hj] at e
      rw [List.getElem?_set_ne hj]
      exact ih.get j t e
theorem envOk_start {N : List Str} {vs : List V} {ss : List Sv} (hl : vs.length = ss.length) (hs : ∀ (i : Nat) (s : Sv), ss[i]? = some s → ∀ v, vs[i]? = some v → SvOk X H s (some (some v))) (hN : vs.length ≤ N.length) : EnvOk X H (L2.start N vs) (ss ++ List.replicate (N.length - vs.length) .un) := by
  unfold L2.start
  refine ⟨by simp [hl], fun i s e => ?_⟩
  by_cases hi : i < vs.length
  · rw [List.getElem?_append_left (by omega)] at e
    rw [List.getElem?_append_left (by simpa using hi)]
    rw [List.getElem?_map, List.getElem?_eq_getElem hi]
    exact hs i s e _ (List.getElem?_eq_getElem hi)
  · rw [List.getElem?_append_right (by omega)] at e
    have hu : s = .un := by
      have := List.mem_of_getElem? e
      exact List.eq_of_mem_replicate this
    subst hu
    trivial
end

/-! ### what evaluates to what datum, leaving all as it is -/
def G (X : Addr → Prop) (te : TE) (σ : St) (H : Hp) (d : PyData) : Prop := ∀ H1, Same H H1 → ∀ Q : VK, (∀ v H2, Same H1 H2 → DX X H2 v d → Q v H2) → te σ H1 Q
def GV (te : TE) (σ : St) (H : Hp) (v : V) : Prop := ∀ H1, Same H H1 → ∀ Q : VK, Q v H1 → te σ H1 Q
def GT (tt : TT) (σ : St) (H : Hp) (b : Bool) : Prop := ∀ H1, Same H H1 → ∀ Q : Bool → Hp → Prop, (∀ H2, Same H1 H2 → Q b H2) → tt σ H1 Q
def GA (X : Addr → Prop) (ta : TA) (σ : St) (H : Hp) (ds : List PyData) : Prop := ∀ H1, Same H H1 → ∀ Q : List V → Hp → Prop, (∀ vs H2, Same H1 H2 → DXs X H2 vs ds → Q vs H2) → ta σ H1 Q
def GO (to : TO) (σ : St) (H : Hp) (o : Option Int) : Prop := ∀ H1, Same H H1 → ∀ Q : Option Int → Hp → Prop, (∀ H2, Same H1 H2 → Q o H2) → to σ H1 Q
/-- operations on data -/
def RD (X : Addr → Prop) (r : R2) (x y z : PyData) : Prop := ∀ H u v, Trk X H → DX X H u x → DX X H v y → ∀ Q : VK, (∀ w H2, Same H H2 → DX X H2 w z → Q w H2) → r u v H Q
def RB (X : Addr → Prop) (r : R2) (x y : PyData) (b : Bool) : Prop := ∀ H u v, Trk X H → DX X H u x → DX X H v y → ∀ Q : VK, Q (.bl b) H → r u v H Q
def RF (X : Addr → Prop) (r : List V → Hp → VK → Prop) (xs : List PyData) (z : PyData) : Prop := ∀ H us, Trk X H → DXs X H us xs → ∀ Q : VK, (∀ w H2, Same H H2 → DX X H2 w z → Q w H2) → r us H Q
section
variable {X : Addr → Prop} {σ : St} {H H' : Hp} {te ta tb tc : TE} {tt tu : TT} {x y z d e : PyData} {Γ : List Sv} {K : PySem.W.Frag} {r : R2}
theorem DX.int_inv {v : V} {i : Int} (h : DX X H v (.int i)) : v = .int i := by cases h; rfl
theorem DX.bl_inv {v : V} {b : Bool} (h : DX X H v (.bool b)) : v = .bl b := by cases h; rfl
theorem DX.str_inv {v : V} {s : Str} (h : DX X H v (.str s)) : v = .str s := by cases h; rfl
theorem DX.non_inv {v : V} (h : DX X H v .none) : v = .non := by cases h; rfl
theorem DX.lst_inv {v : V} {ds : List PyData} (h : DX X H v (.list ds)) : ∃ a xs, v = .ref a ∧ ¬ X a ∧ H a = some (.lst xs) ∧ DXs X H xs ds := by
  cases h with | lst n e r => exact ⟨_, _, rfl, n, e, r⟩
theorem DX.tup_inv {v : V} {ds : List PyData} (h : DX X H v (.tuple ds)) : ∃ a xs, v = .ref a ∧ ¬ X a ∧ H a = some (.tup xs) ∧ DXs X H xs ds := by
  cases h with | tup n e r => exact ⟨_, _, rfl, n, e, r⟩
theorem DX.newL {xs : List V} {ds : List PyData} (t : Trk X H) (h : DXs X H xs ds) {p : Addr} (hp : H p = none) : DX X (upd H p (.lst xs)) (.ref p) (.list ds) := .lst (t.new hp) upd_same (h.mono (Kp.of (Same.upd hp)))
theorem DX.newT {xs : List V} {ds : List PyData} (t : Trk X H) (h : DXs X H xs ds) {p : Addr} (hp : H p = none) : DX X (upd H p (.tup xs)) (.ref p) (.tuple ds) := .tup (t.new hp) upd_same (h.mono (Kp.of (Same.upd hp)))
theorem DX.isa_bool {v : V} {b : Bool} (h : DX X H v d) (e : v = .bl b) : d = .bool b := by subst e; cases h; rfl

theorem G.mono (s : Same H H') (h : G X te σ H d) : G X te σ H' d := fun H1 k Q q => h H1 (s.trans k) Q q
theorem GT.mono {b : Bool} (s : Same H H') (h : GT tt σ H b) : GT tt σ H' b := fun H1 k Q q => h H1 (s.trans k) Q q
theorem g_var {i : Nat} (E : EnvOk X H σ Γ) (h : Γ[i]? = some (.dat d)) : G X (tVar i) σ H d := fun H1 s Q q => by
  obtain ⟨v, e, r⟩ := E.get i _ h
  exact ⟨v, e, q v H1 (Same.refl H1) (r.mono (Kp.of s))⟩
theorem gv_var {i : Nat} {v : V} (E : EnvOk X H σ Γ) (h : Γ[i]? = some (.val v)) : GV (tVar i) σ H v := fun H1 s Q q => ⟨v, E.get i _ h, q⟩
theorem g_int {i : Int} : G X (tC (.int i)) σ H (.int i) := fun H1 _ Q q => q _ H1 (Same.refl H1) (.int i)
theorem g_bl {b : Bool} : G X (tC (.bl b)) σ H (.bool b) := fun H1 _ Q q => q _ H1 (Same.refl H1) (.bl b)
theorem g_str {s : Str} : G X (tC (.str s)) σ H (.str s) := fun H1 _ Q q => q _ H1 (Same.refl H1) (.str s)
theorem g_non : G X (tC .non) σ H .none := fun H1 _ Q q => q _ H1 (Same.refl H1) .non
theorem ga_nil : GA X tNil σ H [] := fun H1 _ Q q => q [] H1 (Same.refl H1) .nil
theorem ga_cons {ta : TE} {tr : TA} {ds : List PyData} (h : G X ta σ H d) (k : GA X tr σ H ds) : GA X (tCons ta tr) σ H (d :: ds) := fun H1 s Q q =>
  h H1 s _ fun v H2 s2 r => k H2 (s.trans s2) _ fun vs H3 s3 rs => q _ H3 (s2.trans s3) (.cons (r.mono (Kp.of s3)) rs)
theorem g_lst {ta : TA} {ds : List PyData} (t : Trk X H) (h : GA X ta σ H ds) (hl : ds.length ≤ 1000000) : G X (tLst ta) σ H (.list ds) := fun H1 s Q q =>
  h H1 s _ fun vs H2 s2 rs => ⟨by rw [rs.length, sizeLine_eq]; omega, fun p hp => q _ _ (s2.trans (Same.upd hp)) (DX.newL ((t.mono s).mono s2) rs hp)⟩
theorem g_tup {ta : TA} {ds : List PyData} (t : Trk X H) (h : GA X ta σ H ds) (hl : ds.length ≤ 1000000) : G X (tTup ta) σ H (.tuple ds) := fun H1 s Q q =>
  h H1 s _ fun vs H2 s2 rs => ⟨by rw [rs.length, sizeLine_eq]; omega, fun p hp => q _ _ (s2.trans (Same.upd hp)) (DX.newT ((t.mono s).mono s2) rs hp)⟩
theorem g_op (t : Trk X H) (ha : G X ta σ H x) (hb : G X tb σ H y) (hr : RD X r x y z) : G X (tOp r ta tb) σ H z := fun H1 s Q q =>
  ha H1 s _ fun u H2 s2 ru => hb H2 (s.trans s2) _ fun v H3 s3 rv => hr H3 u v (((t.mono s).mono s2).mono s3) (ru.mono (Kp.of s3)) rv Q fun w H4 s4 rw_ => q w H4 ((s2.trans s3).trans s4) rw_
theorem gt_op {b : Bool} (t : Trk X H) (ha : G X ta σ H x) (hb : G X tb σ H y) (hr : RB X r x y b) : GT (tTest (tOp r ta tb)) σ H b := fun H1 s Q q =>
  ha H1 s _ fun u H2 s2 ru => hb H2 (s.trans s2) _ fun v H3 s3 rv => hr H3 u v (((t.mono s).mono s2).mono s3) (ru.mono (Kp.of s3)) rv _ ⟨b, rfl, q H3 (s2.trans s3)⟩
theorem RB.rd {b : Bool} (h : RB X r x y b) : RD X r x y (.bool b) := fun H u v t ru rv Q q => h H u v t ru rv Q (q _ H (Same.refl H) (.bl b))
theorem RD.or1 {r r' : R2} (h : RD X r x y z) : RD X (fun x y H Q => r x y H Q ∨ r' x y H Q) x y z := fun H u v t ru rv Q q => .inl (h H u v t ru rv Q q)
theorem RD.or2 {r r' : R2} (h : RD X r' x y z) : RD X (fun x y H Q => r x y H Q ∨ r' x y H Q) x y z := fun H u v t ru rv Q q => .inr (h H u v t ru rv Q q)
/-- a test that is a bool's -/
theorem gt_B {b : Bool} (h : G X te σ H (.bool b)) : GT (tB te) σ H b := fun H1 s Q q => h H1 s _ fun v H2 s2 r => ⟨b, r.bl_inv, q H2 s2⟩
theorem gt_test {b : Bool} (h : G X te σ H (.bool b)) : GT (tTest te) σ H b := fun H1 s Q q => h H1 s _ fun v H2 s2 r => ⟨b, r.bl_inv, q H2 s2⟩
theorem gt_not {b : Bool} (h : GT tt σ H b) : GT (tNot tt) σ H (!b) := fun H1 s Q q => h H1 s _ fun H2 s2 => q H2 s2
theorem gt_and {a b : Bool} (h : GT tt σ H a) (k : a = true → GT tu σ H b) : GT (tAnd tt tu) σ H (a && b) := fun H1 s Q q => h H1 s _ fun H2 s2 => by
  cases a with
  | true =>
    show tu σ H2 Q
    exact k rfl H2 (s.trans s2) Q fun H3 s3 => q H3 (s2.trans s3)
  | false =>
    show Q false H2
    exact q H2 s2
theorem gt_or {a b : Bool} (h : GT tt σ H a) (k : a = false → GT tu σ H b) : GT (tOr tt tu) σ H (a || b) := fun H1 s Q q => h H1 s _ fun H2 s2 => by
  cases a with
  | true =>
    show Q true H2
    exact q H2 s2
  | false =>
    show tu σ H2 Q
    exact k rfl H2 (s.trans s2) Q fun H3 s3 => q H3 (s2.trans s3)
theorem gt_is {a b : Bool} (h : GT tt σ H a) (e : a = b) : GT tt σ H b := e ▸ h
theorem g_is (h : G X te σ H d) (e' : d = e) : G X te σ H e := e' ▸ h
theorem g_and {a b : Bool} (h : G X ta σ H (.bool a)) (k : a = true → G X tb σ H (.bool b)) : G X (tAndV ta tb) σ H (.bool (a && b)) := fun H1 s Q q => h H1 s _ fun v H2 s2 r => ⟨a, r.bl_inv, by
  cases a with
  | true =>
    show tb σ H2 Q
    exact k rfl H2 (s.trans s2) Q fun v H3 s3 r3 => q v H3 (s2.trans s3) r3
  | false =>
    show Q (.bl false) H2
    exact q _ H2 s2 (.bl false)⟩
theorem g_or {a b : Bool} (h : G X ta σ H (.bool a)) (k : a = false → G X tb σ H (.bool b)) : G X (tOrV ta tb) σ H (.bool (a || b)) := fun H1 s Q q => h H1 s _ fun v H2 s2 r => ⟨a, r.bl_inv, by
  cases a with
  | true =>
    show Q (.bl true) H2
    exact q _ H2 s2 (.bl true)
  | false =>
    show tb σ H2 Q
    exact k rfl H2 (s.trans s2) Q fun v H3 s3 r3 => q v H3 (s2.trans s3) r3⟩
theorem g_not {a : Bool} (h : G X ta σ H (.bool a)) : G X (tNotV ta) σ H (.bool (!a)) := fun H1 s Q q => h H1 s _ fun v H2 s2 r => ⟨a, r.bl_inv, q _ H2 s2 (.bl _)⟩
theorem g_if {b : Bool} (h : GT tt σ H b) (h1 : b = true → G X ta σ H d) (h2 : b = false → G X tb σ H d) : G X (tIf tt ta tb) σ H d := fun H1 s Q q => h H1 s _ fun H2 s2 => by
  cases b with
  | true =>
    show ta σ H2 Q
    exact h1 rfl H2 (s.trans s2) Q fun v H3 s3 r3 => q v H3 (s2.trans s3) r3
  | false =>
    show tb σ H2 Q
    exact h2 rfl H2 (s.trans s2) Q fun v H3 s3 r3 => q v H3 (s2.trans s3) r3
theorem g_call {sp : Sp} {E : XK} {ta : TA} {ds : List PyData} (h : GA X ta σ H ds) (k : ∀ vs H1, Same H H1 → DXs X H1 vs ds → ∀ Q : VK, (∀ v H2, Same H1 H2 → DX X H2 v d → Q v H2) → sp vs H1 Q E) : G X (tCall sp [] E ta) σ H d := fun H1 s Q q =>
  h H1 s _ fun vs H2 s2 rs => by
    rw [List.append_nil]
    exact k vs H2 (s.trans s2) rs Q fun v H3 s3 r3 => q v H3 (s2.trans s3) r3
theorem g_cb {rr : List V → Hp → VK → Prop} {ta : TA} {ds : List PyData} (t : Trk X H) (h : GA X ta σ H ds) (k : RF X rr ds d) : G X (tCB rr ta) σ H d := fun H1 s Q q =>
  h H1 s _ fun vs H2 s2 rs => k H2 vs ((t.mono s).mono s2) rs Q fun w H3 s3 r3 => q w H3 (s2.trans s3) r3
theorem go_none : GO tNoPart σ H none := fun H1 _ Q q => q H1 (Same.refl H1)
theorem go_some {i : Int} (h : G X te σ H (.int i)) : GO (tPart te) σ H (some i) := fun H1 s Q q => h H1 s _ fun v H2 s2 r => ⟨i, r.int_inv, q H2 s2⟩

/-! ### the operations -/
theorem rd_I0 {g : Int → Int → Int} {i j : Int} : RD X (rI0 fun i j => .int (g i j)) (.int i) (.int j) (.int (g i j)) := fun H u v _ ru rv Q q => ⟨i, j, ru.int_inv, rv.int_inv, q _ H (Same.refl H) (.int _)⟩
theorem rd_I {C : Int → Int → Prop} {g : Int → Int → Int} {i j : Int} (c : C i j) : RD X (rI C fun i j => .int (g i j)) (.int i) (.int j) (.int (g i j)) := fun H u v _ ru rv Q q => ⟨i, j, ru.int_inv, rv.int_inv, c, q _ H (Same.refl H) (.int _)⟩
theorem rb_I0 {g : Int → Int → Bool} {i j : Int} : RB X (rI0 fun i j => .bl (g i j)) (.int i) (.int j) (g i j) := fun H u v _ ru rv Q q => ⟨i, j, ru.int_inv, rv.int_inv, q⟩
theorem rd_cat {xs ys : List PyData} (hl : xs.length + ys.length ≤ 1000000) : RD X rCat (.list xs) (.list ys) (.list (xs ++ ys)) := fun H u v t ru rv Q q => by
  obtain ⟨a, us, rfl, _, ha, rs⟩ := ru.lst_inv
  obtain ⟨b, ws, rfl, _, hb, rt⟩ := rv.lst_inv
  exact ⟨a, b, us, ws, rfl, rfl, ha, hb, by rw [rs.length, rt.length, sizeLine_eq]; omega, fun p hp => q _ _ (Same.upd hp) (DX.newL t (rs.append rt) hp)⟩
theorem rd_rep {xs : List PyData} {k : Int} (h1 : -(2 ^ 63) ≤ k) (h2 : k < 2 ^ 63) (hl : xs.length * k.toNat ≤ 1000000) : RD X rRep (.list xs) (.int k) (.list (List.replicate k.toNat xs).flatten) := fun H u v t ru rv Q q => by
  obtain ⟨a, us, rfl, _, ha, rs⟩ := ru.lst_inv
  exact ⟨a, k, us, rfl, rv.int_inv, ha, h1, h2, by rw [rs.length, sizeLine_eq]; omega, fun p hp => q _ _ (Same.upd hp) (DX.newL t (rs.rep k.toNat) hp)⟩
theorem rd_addS {a b : Str} (hl : a.length + b.length ≤ 1000000) : RD X (fun x y H Q => ∃ i j, x = V.str i ∧ y = V.str j ∧ i.length + j.length ≤ sizeLine ∧ Q (V.str (i ++ j)) H) (.str a) (.str b) (.str (a ++ b)) := fun H u v _ ru rv Q q => ⟨a, b, ru.str_inv, rv.str_inv, by rw [sizeLine_eq]; omega, q _ H (Same.refl H) (.str _)⟩
theorem rb_eqD (hd : noDict x = true) (he : noDict y = true) (hs : SeqAt.shaped x = true) (ht : SeqAt.shaped y = true) : RB X (rEqD K) x y (PyData.eqv x y) := fun H u v _ ru rv Q q => ⟨x, y, ru.dp hd, rv.dp he, hs, ht, q⟩
theorem rb_neD (hd : noDict x = true) (he : noDict y = true) (hs : SeqAt.shaped x = true) (ht : SeqAt.shaped y = true) : RB X (rNeD K) x y (!PyData.eqv x y) := fun H u v _ ru rv Q q => ⟨x, y, ru.dp hd, rv.dp he, hs, ht, q⟩
def isNone : PyData → Bool
  | .none => true
  | _ => false
theorem dx_none {v : V} (h : DX X H v d) : decide (v = .non) = isNone d := by cases h <;> simp [isNone]
theorem rb_isN : RB X (fun x y H Q => y = .non ∧ Q (.bl (decide (x = .non))) H) x .none (isNone x) := fun H u v _ ru rv Q q => ⟨rv.non_inv, by rw [dx_none ru]; exact q⟩
theorem rb_notN : RB X (fun x y H Q => y = .non ∧ Q (.bl (!decide (x = .non))) H) x .none (!isNone x) := fun H u v _ ru rv Q q => ⟨rv.non_inv, by rw [dx_none ru]; exact q⟩
theorem rb_isB {a b : Bool} : RB X rIsB (.bool a) (.bool b) (decide (a = b)) := fun H u v _ ru rv Q q => ⟨a, b, ru.bl_inv, rv.bl_inv, q⟩
theorem rb_notB {a b : Bool} : RB X rNotB (.bool a) (.bool b) (!decide (a = b)) := fun H u v _ ru rv Q q => ⟨a, b, ru.bl_inv, rv.bl_inv, q⟩
/-- an item -/
theorem rd_ixL {ds : List PyData} {i : Int} (h : atI ds i = some z) : RD X (rIx K) (.list ds) (.int i) z := fun H u v _ ru rv Q q => by
  obtain ⟨a, us, rfl, _, ha, rs⟩ := ru.lst_inv
  unfold atI at h
  cases hx : ixN ds.length i with
  | none => rw [hx] at h; cases h
  | some j =>
    rw [hx] at h
    obtain ⟨w, hw, rz⟩ := rs.get (i := j) (show ds[j]? = some z from h)
    exact .inl ⟨a, us, i, w, rfl, rv.int_inv, SqL.of ha, by unfold atI; rw [rs.length, hx]; exact hw, q w H (Same.refl H) rz⟩
theorem rd_ixT {ds : List PyData} {i : Int} (h : atI ds i = some z) : RD X (rIx K) (.tuple ds) (.int i) z := fun H u v _ ru rv Q q => by
  obtain ⟨a, us, rfl, _, ha, rs⟩ := ru.tup_inv
  unfold atI at h
  cases hx : ixN ds.length i with
  | none => rw [hx] at h; cases h
  | some j =>
    rw [hx] at h
    obtain ⟨w, hw, rz⟩ := rs.get (i := j) (show ds[j]? = some z from h)
    exact .inr (.inl ⟨a, us, i, w, rfl, rv.int_inv, SqT.of ha, by unfold atI; rw [rs.length, hx]; exact hw, q w H (Same.refl H) rz⟩)
/-- a slice of a list -/
def cutPD (xs : List PyData) (lo hi : Option Int) : List PyData := (xs.drop (HT.sIx xs.length 0 lo)).take (HT.sIx xs.length xs.length hi - HT.sIx xs.length 0 lo)
theorem DXs.cut {vs : List V} {ds : List PyData} (h : DXs X H vs ds) (lo hi : Option Int) : DXs X H (cutV vs lo hi) (cutPD ds lo hi) := by
  unfold cutV cutPD
  rw [h.length]
  exact (h.drop _).take _
theorem g_sl {tl th : TO} {ds : List PyData} {lo hi : Option Int} (t : Trk X H) (h : G X te σ H (.list ds)) (hl : GO tl σ H lo) (hh : GO th σ H hi) : G X (tSl (rSlL K) te tl th) σ H (.list (cutPD ds lo hi)) := fun H1 s Q q =>
  h H1 s _ fun v H2 s2 r2 => hl H2 (s.trans s2) _ fun H3 s3 => hh H3 ((s.trans s2).trans s3) _ fun H4 s4 => by
    obtain ⟨a, us, rfl, _, ha, rs⟩ := (r2.mono (Kp.of (s3.trans s4))).lst_inv
    exact ⟨a, us, rfl, SqL.of ha, fun p hp => q _ _ (((s2.trans s3).trans s4).trans (Same.upd hp)) (DX.newL (((t.mono s).mono s2).mono (s3.trans s4)) (rs.cut lo hi) hp)⟩

/-! ### functions of the language -/
def lenD : PyData → Nat
  | .str s => s.length
  | .list ds => ds.length
  | .tuple ds => ds.length
  | _ => 0
def hasLen : PyData → Bool
  | .str s => decide (s.length ≤ 1000000)
  | .list _ => true
  | .tuple _ => true
  | _ => false
theorem rf_len (h : hasLen d = true) : RF X (fun xs H Q => ∃ x n, xs = [x] ∧ LenV K x H n ∧ Q (.int n) H) [d] (.int (lenD d : Int)) := fun H us _ rs Q q => by
  cases rs with
  | cons r r2 =>
    cases r2
    cases r with
    | str s => exact ⟨_, s.length, rfl, ⟨by have := of_decide_eq_true (show decide (s.length ≤ 1000000) = true from h); rw [sizeLine_eq]; omega, rfl⟩, q _ H (Same.refl H) (.int _)⟩
    | lst n e r => exact ⟨_, _, rfl, .inl ⟨_, SqL.of e, rfl⟩, q _ H (Same.refl H) (by rw [r.length]; exact .int _)⟩
    | tup n e r => exact ⟨_, _, rfl, .inr ⟨_, SqT.of e, rfl⟩, q _ H (Same.refl H) (by rw [r.length]; exact .int _)⟩
    | _ => exact absurd h (by simp [hasLen])
/-- the items of a list or tuple -/
def itemsD : PyData → List PyData
  | .list ds => ds
  | .tuple ds => ds
  | _ => []
def isSeq : PyData → Bool
  | .list _ => true
  | .tuple _ => true
  | _ => false
theorem rf_list (h : isSeq d = true) : RF X (fun xs H Q => ∃ p ys, xs = [V.ref p] ∧ (SqL K H p ys ∨ SqT K H p ys) ∧ ∀ l, H l = none → Q (.ref l) (upd H l (.lst ys))) [d] (.list (itemsD d)) := fun H us t rs Q q => by
  cases rs with
  | cons r r2 =>
    cases r2
    cases r with
    | lst n e r => exact ⟨_, _, rfl, .inl (SqL.of e), fun l hl => q _ _ (Same.upd hl) (DX.newL t r hl)⟩
    | tup n e r => exact ⟨_, _, rfl, .inr (SqT.of e), fun l hl => q _ _ (Same.upd hl) (DX.newL t r hl)⟩
    | _ => exact absurd h (by simp [isSeq])
theorem rf_tuple (h : isSeq d = true) : RF X (fun xs H Q => ∃ p ys, xs = [V.ref p] ∧ ((SqL K H p ys ∧ ∀ l, H l = none → Q (.ref l) (upd H l (.tup ys))) ∨ (SqT K H p ys ∧ Q (.ref p) H))) [d] (.tuple (itemsD d)) := fun H us t rs Q q => by
  cases rs with
  | cons r r2 =>
    cases r2
    cases r with
    | lst n e r => exact ⟨_, _, rfl, .inl ⟨SqL.of e, fun l hl => q _ _ (Same.upd hl) (DX.newT t r hl)⟩⟩
    | tup n e r => exact ⟨_, _, rfl, .inr ⟨SqT.of e, q _ H (Same.refl H) (.tup n e r)⟩⟩
    | _ => exact absurd h (by simp [isSeq])
theorem DXs.ints : ∀ {vs : List V} {ns : List Int}, DXs X H vs (ns.map PyData.int) → vs = ns.map V.int
  | _, [], .nil => rfl
  | _, n :: ns, .cons h r => by rw [h.int_inv, DXs.ints r]; rfl
theorem DXs.bls : ∀ {vs : List V} {ns : List Bool}, DXs X H vs (ns.map PyData.bool) → vs = ns.map V.bl
  | _, [], .nil => rfl
  | _, n :: ns, .cons h r => by rw [h.bl_inv, DXs.bls r]; rfl
theorem DXs.strs : ∀ {vs : List V} {ns : List Str}, DXs X H vs (ns.map PyData.str) → vs = ns.map V.str
  | _, [], .nil => rfl
  | _, n :: ns, .cons h r => by rw [h.str_inv, DXs.strs r]; rfl
theorem DX.ofInts {p : Addr} {ns : List Int} (n : ¬ X p) (h : H p = some (.lst (ns.map V.int))) : DX X H (.ref p) (.list (ns.map PyData.int)) := by
  refine .lst n h ?_
  clear h
  induction ns with
  | nil => exact .nil
  | cons a r ih => exact .cons (.int a) ih
theorem rf_min {ns : List Int} {m : Int} (h0 : 0 < ns.length) (hm : m ∈ ns) (hl : ∀ y ∈ ns, m ≤ y) : RF X (rMin K) [.list (ns.map PyData.int)] (.int m) := fun H us _ rs Q q => by
  cases rs with
  | cons r r2 =>
    cases r2
    obtain ⟨a, vs, rfl, _, ha, rv⟩ := r.lst_inv
    refine ⟨a, ns, rfl, SqL.of (by rw [← rv.ints]; exact ha), h0, fun m' h1 h2 => ?_⟩
    have e : m' = m := Int.le_antisymm (h2 m hm) (hl m' h1)
    subst e
    exact q _ H (Same.refl H) (.int _)
theorem rf_all {bs : List Bool} : RF X (rAll K) [.list (bs.map PyData.bool)] (.bool (bs.all id)) := fun H us _ rs Q q => by
  cases rs with
  | cons r r2 =>
    cases r2
    obtain ⟨a, vs, rfl, _, ha, rv⟩ := r.lst_inv
    exact ⟨a, bs, rfl, SqL.of (by rw [← rv.bls]; exact ha), q _ H (Same.refl H) (.bl _)⟩
theorem rf_any {bs : List Bool} : RF X (rAny K) [.list (bs.map PyData.bool)] (.bool (bs.any id)) := fun H us _ rs Q q => by
  cases rs with
  | cons r r2 =>
    cases r2
    obtain ⟨a, vs, rfl, _, ha, rv⟩ := r.lst_inv
    exact ⟨a, bs, rfl, SqL.of (by rw [← rv.bls]; exact ha), q _ H (Same.refl H) (.bl _)⟩
theorem rf_int {i : Int} : RF X (fun xs H Q => (∃ i, xs = [V.int i] ∧ Q (.int i) H) ∨ ∃ k, xs = [V.bl k] ∧ Q (.int (if k = true then 1 else 0)) H) [.int i] (.int i) := fun H us _ rs Q q => by
  cases rs with
  | cons r r2 =>
    cases r2
    rw [r.int_inv]
    exact .inl ⟨i, rfl, q _ H (Same.refl H) (.int _)⟩
/-- isinstance -/
def tyD : PyData → String
  | .none => "NoneType"
  | .bool _ => "bool"
  | .int _ => "int"
  | .str _ => "str"
  | .list _ => "list"
  | .tuple _ => "tuple"
  | .dict _ => "dict"
theorem DX.ty {v : V} (h : DX X H v d) : TyX K H v (.type (tyD d)) := by
  cases h with
  | non => exact .base .non
  | bl b => exact .base (.bl b)
  | int i => exact .base (.int i)
  | str s => exact .base (.str s)
  | lst n e r => exact .base (.lst e)
  | tup n e r => exact .base (.tup e)
  | dic n e r => exact .base (.dK e)
def isD (n : String) (d : PyData) : Bool := (kitB (tyD d) n).getD false
theorem kit_d {n : String} (h : (kitB (tyD d) n).isSome = true) : PySem.W.kitOne K (.type (tyD d)) (.type n) = some (isD n d) := by
  unfold isD
  cases e : kitB (tyD d) n with
  | none => rw [e] at h; cases h
  | some b => exact kit_ty e
theorem g_isi {n : String} (h : G X te σ H d) (hk : (kitB (tyD d) n).isSome = true) : G X (tCB (rIsi K) (tCons te (tCons (tC (.ty n)) tNil))) σ H (.bool (isD n d)) := fun H1 s Q q =>
  h H1 s _ fun v H2 s2 r => ⟨v, .ty n, _, _, _, rfl, .ty n, r.ty, kit_d hk, q _ H2 s2 (.bl _)⟩
def isDs (ns : List String) (d : PyData) : Bool := ns.any fun n => isD n d
theorem kit_ds : ∀ {ns : List String}, (∀ n ∈ ns, (kitB (tyD d) n).isSome = true) → PySem.W.kitAny K (.type (tyD d)) (ns.map Value.type) = some (isDs ns d)
  | [], _ => by unfold PySem.W.kitAny; rfl
  | n :: ns, h => by
    have h1 := kit_d (K := K) (h n List.mem_cons_self)
    have h2 := kit_ds (ns := ns) fun m hm => h m (List.mem_cons_of_mem _ hm)
    refine kitAny_cons h1 (fun e => ?_) (fun e => ?_)
    · rw [h2]
      unfold isDs
      rw [List.any_cons, e, Bool.false_or]
    · unfold isDs
      rw [List.any_cons, e, Bool.true_or]
def tyArgs : List String → TA
  | [] => tNil
  | n :: ns => tCons (tC (.ty n)) (tyArgs ns)
theorem tyArgs_run : ∀ (ns : List String) (σ : St) (H : Hp) (Q : List V → Hp → Prop), Q (ns.map V.ty) H → tyArgs ns σ H Q
  | [], _, _, _, q => q
  | n :: ns, σ, H, Q, q => tyArgs_run ns σ H _ q
theorem clsV_all : ∀ ns : List String, Paired ClsV (ns.map V.ty) (ns.map Value.type)
  | [] => .nil
  | n :: ns => .cons (.ty n) (clsV_all ns)
theorem g_isiT {ns : List String} {t2 : TA} (h : G X te σ H d) (e2 : t2 = tyArgs ns) (hl : ns.length ≤ 1000) (hk : ∀ n ∈ ns, (kitB (tyD d) n).isSome = true) : G X (tCB (rIsiT K) (tCons te (tCons (tTup t2) tNil))) σ H (.bool (isDs ns d)) := fun H1 s Q q =>
  h H1 s _ fun v H2 s2 r => by
    subst e2
    refine tyArgs_run ns σ H2 _ ⟨by rw [List.length_map, sizeLine_eq]; omega, fun p hp => ?_⟩
    exact ⟨v, p, ns.map V.ty, _, ns.map Value.type, _, rfl, upd_same, clsV_all ns, (r.mono (Kp.of (Same.upd hp))).ty, kit_ds hk, q _ _ (s2.trans (Same.upd hp)) (.bl _)⟩
end
theorem kb_NoneType_int : kitB "NoneType" "int" = some false := by decide +kernel
theorem kb_bool_int : kitB "bool" "int" = some true := by decide +kernel
theorem kb_int_int : kitB "int" "int" = some true := by decide +kernel
theorem kb_str_int : kitB "str" "int" = some false := by decide +kernel
theorem kb_list_int : kitB "list" "int" = some false := by decide +kernel
theorem kb_tuple_int : kitB "tuple" "int" = some false := by decide +kernel
theorem kb_dict_int : kitB "dict" "int" = some false := by decide +kernel
theorem kb_NoneType_bool : kitB "NoneType" "bool" = some false := by decide +kernel
theorem kb_bool_bool : kitB "bool" "bool" = some true := by decide +kernel
theorem kb_int_bool : kitB "int" "bool" = some false := by decide +kernel
theorem kb_str_bool : kitB "str" "bool" = some false := by decide +kernel
theorem kb_list_bool : kitB "list" "bool" = some false := by decide +kernel
theorem kb_tuple_bool : kitB "tuple" "bool" = some false := by decide +kernel
theorem kb_dict_bool : kitB "dict" "bool" = some false := by decide +kernel
theorem kb_NoneType_str : kitB "NoneType" "str" = some false := by decide +kernel
theorem kb_bool_str : kitB "bool" "str" = some false := by decide +kernel
theorem kb_int_str : kitB "int" "str" = some false := by decide +kernel
theorem kb_str_str : kitB "str" "str" = some true := by decide +kernel
theorem kb_list_str : kitB "list" "str" = some false := by decide +kernel
theorem kb_tuple_str : kitB "tuple" "str" = some false := by decide +kernel
theorem kb_dict_str : kitB "dict" "str" = some false := by decide +kernel
theorem kb_NoneType_list : kitB "NoneType" "list" = some false := by decide +kernel
theorem kb_bool_list : kitB "bool" "list" = some false := by decide +kernel
theorem kb_int_list : kitB "int" "list" = some false := by decide +kernel
theorem kb_str_list : kitB "str" "list" = some false := by decide +kernel
theorem kb_list_list : kitB "list" "list" = some true := by decide +kernel
theorem kb_tuple_list : kitB "tuple" "list" = some false := by decide +kernel
theorem kb_dict_list : kitB "dict" "list" = some false := by decide +kernel
theorem kb_NoneType_tuple : kitB "NoneType" "tuple" = some false := by decide +kernel
theorem kb_bool_tuple : kitB "bool" "tuple" = some false := by decide +kernel
theorem kb_int_tuple : kitB "int" "tuple" = some false := by decide +kernel
theorem kb_str_tuple : kitB "str" "tuple" = some false := by decide +kernel
theorem kb_list_tuple : kitB "list" "tuple" = some false := by decide +kernel
theorem kb_tuple_tuple : kitB "tuple" "tuple" = some true := by decide +kernel
theorem kb_dict_tuple : kitB "dict" "tuple" = some false := by decide +kernel
theorem kb_NoneType_dict : kitB "NoneType" "dict" = some false := by decide +kernel
theorem kb_bool_dict : kitB "bool" "dict" = some false := by decide +kernel
theorem kb_int_dict : kitB "int" "dict" = some false := by decide +kernel
theorem kb_str_dict : kitB "str" "dict" = some false := by decide +kernel
theorem kb_list_dict : kitB "list" "dict" = some false := by decide +kernel
theorem kb_tuple_dict : kitB "tuple" "dict" = some false := by decide +kernel
theorem kb_dict_dict : kitB "dict" "dict" = some true := by decide +kernel
def isa_int : PyData → Bool
  | .bool _ => true
  | .int _ => true
  | _ => false
theorem kis_int (d : PyData) : kitB (tyD d) "int" = some (isa_int d) := by
  cases d
  · exact kb_NoneType_int
  · exact kb_bool_int
  · exact kb_int_int
  · exact kb_str_int
  · exact kb_list_int
  · exact kb_tuple_int
  · exact kb_dict_int
theorem isD_int (d : PyData) : isD "int" d = isa_int d := by unfold isD; rw [kis_int]; rfl
theorem ksm_int (d : PyData) : (kitB (tyD d) "int").isSome = true := by rw [kis_int]; rfl
def isa_bool : PyData → Bool
  | .bool _ => true
  | _ => false
theorem kis_bool (d : PyData) : kitB (tyD d) "bool" = some (isa_bool d) := by
  cases d
  · exact kb_NoneType_bool
  · exact kb_bool_bool
  · exact kb_int_bool
  · exact kb_str_bool
  · exact kb_list_bool
  · exact kb_tuple_bool
  · exact kb_dict_bool
theorem isD_bool (d : PyData) : isD "bool" d = isa_bool d := by unfold isD; rw [kis_bool]; rfl
theorem ksm_bool (d : PyData) : (kitB (tyD d) "bool").isSome = true := by rw [kis_bool]; rfl
def isa_str : PyData → Bool
  | .str _ => true
  | _ => false
theorem kis_str (d : PyData) : kitB (tyD d) "str" = some (isa_str d) := by
  cases d
  · exact kb_NoneType_str
  · exact kb_bool_str
  · exact kb_int_str
  · exact kb_str_str
  · exact kb_list_str
  · exact kb_tuple_str
  · exact kb_dict_str
theorem isD_str (d : PyData) : isD "str" d = isa_str d := by unfold isD; rw [kis_str]; rfl
theorem ksm_str (d : PyData) : (kitB (tyD d) "str").isSome = true := by rw [kis_str]; rfl
def isa_list : PyData → Bool
  | .list _ => true
  | _ => false
theorem kis_list (d : PyData) : kitB (tyD d) "list" = some (isa_list d) := by
  cases d
  · exact kb_NoneType_list
  · exact kb_bool_list
  · exact kb_int_list
  · exact kb_str_list
  · exact kb_list_list
  · exact kb_tuple_list
  · exact kb_dict_list
theorem isD_list (d : PyData) : isD "list" d = isa_list d := by unfold isD; rw [kis_list]; rfl
theorem ksm_list (d : PyData) : (kitB (tyD d) "list").isSome = true := by rw [kis_list]; rfl
def isa_tuple : PyData → Bool
  | .tuple _ => true
  | _ => false
theorem kis_tuple (d : PyData) : kitB (tyD d) "tuple" = some (isa_tuple d) := by
  cases d
  · exact kb_NoneType_tuple
  · exact kb_bool_tuple
  · exact kb_int_tuple
  · exact kb_str_tuple
  · exact kb_list_tuple
  · exact kb_tuple_tuple
  · exact kb_dict_tuple
theorem isD_tuple (d : PyData) : isD "tuple" d = isa_tuple d := by unfold isD; rw [kis_tuple]; rfl
theorem ksm_tuple (d : PyData) : (kitB (tyD d) "tuple").isSome = true := by rw [kis_tuple]; rfl
def isa_dict : PyData → Bool
  | .dict _ => true
  | _ => false
theorem kis_dict (d : PyData) : kitB (tyD d) "dict" = some (isa_dict d) := by
  cases d
  · exact kb_NoneType_dict
  · exact kb_bool_dict
  · exact kb_int_dict
  · exact kb_str_dict
  · exact kb_list_dict
  · exact kb_tuple_dict
  · exact kb_dict_dict
theorem isD_dict (d : PyData) : isD "dict" d = isa_dict d := by unfold isD; rw [kis_dict]; rfl
theorem ksm_dict (d : PyData) : (kitB (tyD d) "dict").isSome = true := by rw [kis_dict]; rfl
end KD

namespace KD
open PySem L2
/-! ### more addresses that stand apart -/
def More (X X' : Addr → Prop) (H : Hp) : Prop := (∀ a, X a → X' a) ∧ ∀ a, X' a → X a ∨ H a = none
section
variable {X X' : Addr → Prop} {H H' : Hp} {σ : St} {Γ : List Sv}
theorem More.refl : More X X H := ⟨fun _ h => h, fun _ h => .inl h⟩
theorem More.one {p : Addr} (h : H p = none) : More X (fun a => X a ∨ a = p) H := ⟨fun _ h => .inl h, fun a k => k.elim .inl fun e => .inr (by rw [e]; exact h)⟩
theorem More.back (s : Same H H') (m : More X X' H') : More X X' H := ⟨m.1, fun a h => (m.2 a h).elim .inl fun e => .inr (s.free e)⟩
mutual
theorem DX.more (m : More X X' H) : ∀ {v : V} {d : PyData}, DX X H v d → DX X' H v d
  | _, _, .non => .non
  | _, _, .bl b => .bl b
  | _, _, .int i => .int i
  | _, _, .str x => .str x
  | _, _, .lst n h r => .lst (fun k => (m.2 _ k).elim n fun e => by rw [h] at e; cases e) h (DXs.more m r)
  | _, _, .tup n h r => .tup (fun k => (m.2 _ k).elim n fun e => by rw [h] at e; cases e) h (DXs.more m r)
  | _, _, .dic n h r => .dic (fun k => (m.2 _ k).elim n fun e => by rw [h] at e; cases e) h (DXk.more m r)
theorem DXs.more (m : More X X' H) : ∀ {vs : List V} {ds : List PyData}, DXs X H vs ds → DXs X' H vs ds
  | _, _, .nil => .nil
  | _, _, .cons h r => .cons (DX.more m h) (DXs.more m r)
theorem DXk.more (m : More X X' H) : ∀ {vs : List (Key × V)} {ds : List (PyData × PyData)}, DXk X H vs ds → DXk X' H vs ds
  | _, _, .nil => .nil
  | _, _, .cons h r => .cons (DX.more m h) (DXk.more m r)
end
mutual
theorem DX.less (m : ∀ a, X a → X' a) : ∀ {v : V} {d : PyData}, DX X' H v d → DX X H v d
  | _, _, .non => .non
  | _, _, .bl b => .bl b
  | _, _, .int i => .int i
  | _, _, .str x => .str x
  | _, _, .lst n h r => .lst (fun k => n (m _ k)) h (DXs.less m r)
  | _, _, .tup n h r => .tup (fun k => n (m _ k)) h (DXs.less m r)
  | _, _, .dic n h r => .dic (fun k => n (m _ k)) h (DXk.less m r)
theorem DXs.less (m : ∀ a, X a → X' a) : ∀ {vs : List V} {ds : List PyData}, DXs X' H vs ds → DXs X H vs ds
  | _, _, .nil => .nil
  | _, _, .cons h r => .cons (DX.less m h) (DXs.less m r)
theorem DXk.less (m : ∀ a, X a → X' a) : ∀ {vs : List (Key × V)} {ds : List (PyData × PyData)}, DXk X' H vs ds → DXk X H vs ds
  | _, _, .nil => .nil
  | _, _, .cons h r => .cons (DX.less m h) (DXk.less m r)
end
theorem EnvOk.more (m : More X X' H) (E : EnvOk X H σ Γ) : EnvOk X' H σ Γ := ⟨E.len, fun i s e => by
  have h := E.get i s e
  cases s with
  | dat d =>
    obtain ⟨v, e1, r⟩ := h
    exact ⟨v, e1, r.more m⟩
  | val v => exact h
  | un => trivial⟩
theorem Trk.one {p : Addr} {o : HO} (t : Trk X H) (h : H p = none) : Trk (fun a => X a ∨ a = p) (upd H p o) := fun a k => k.elim (fun x => (t.mono (Same.upd h)) a x) fun e => by
  subst e
  exact ⟨o, upd_same⟩
theorem Trk.put {p : Addr} {o : HO} (t : Trk X H) : Trk X (upd H p o) := fun a x => by
  by_cases e : a = p
  · subst e
    exact ⟨o, upd_same⟩
  · obtain ⟨u, k⟩ := t a x
    exact ⟨u, by rw [upd_ne e]; exact k⟩
theorem Kp.put {p : Addr} {o : HO} (h : X p) : Kp X H (upd H p o) := fun a u n e => by
  rw [upd_ne (fun z => n (by rw [z]; exact h))]
  exact e
/-- a new object that was changed behind -/
theorem Same.mut {p : Addr} {o : HO} (s : Same H H') (h : H p = none) : Same H (L2.upd H' p o) := fun a u e => by
  rw [upd_ne (ne_of_none e h)]
  exact s a u e
end

/-! ### what is walked, as data -/
def WalkD (X : Addr → Prop) (J : It) (H : Hp) (ds : List PyData) : Prop := ∃ (Gd : Hp → Prop) (Y : Nat → Hp → V → Hp → Prop), Walk J ds.length Gd Y ∧
  ∀ X', (∀ a, X' a → X a ∨ H a = none) → ∀ H3, Kp X' H H3 → Trk X' H3 → Gd H3 ∧ ∀ i x H4, Y i H3 x H4 → Same H3 H4 ∧ ∃ d, ds[i]? = some d ∧ DX X' H4 x d
def GI (X : Addr → Prop) (wi : TI) (σ : St) (H : Hp) (ds : List PyData) : Prop := ∀ H1, Same H H1 → ∀ R : It → Hp → Prop, (∀ J H2, Same H1 H2 → WalkD X J H2 ds → R J H2) → wi σ H1 R
section
variable {X : Addr → Prop} {H H' : Hp} {σ : St} {Γ : List Sv} {te : TE} {K : PySem.W.Frag} {ds es : List PyData}
theorem DX.grow {X' : Addr → Prop} (m : ∀ a, X' a → X a ∨ H a = none) {v : V} {d : PyData} (h : DX X H v d) : DX X' H v d :=
  (h.more (X' := fun a => X a ∨ X' a) ⟨fun _ => .inl, fun a k => k.elim .inl (m a)⟩).less fun _ => .inr
theorem DXs.grow {X' : Addr → Prop} (m : ∀ a, X' a → X a ∨ H a = none) {vs : List V} {ds : List PyData} (h : DXs X H vs ds) : DXs X' H vs ds :=
  (h.more (X' := fun a => X a ∨ X' a) ⟨fun _ => .inl, fun a k => k.elim .inl (m a)⟩).less fun _ => .inr
theorem gi_list (h : G X te σ H (.list ds)) : GI X (iList K te) σ H ds := fun H1 s R r => h H1 s _ fun v H2 s2 rv => by
  obtain ⟨a, xs, rfl, n, e, rx⟩ := rv.lst_inv
  refine ⟨a, rfl, ⟨xs, SqL.of e⟩, r _ H2 s2 ⟨_, _, by rw [← rx.length]; exact walk_list, fun X' m H3 k t => ?_⟩⟩
  have n' : ¬ X' a := fun z => (m a z).elim n fun q => by rw [e] at q; cases q
  refine ⟨SqL.of (k a _ n' e), fun i x H4 y => ?_⟩
  obtain ⟨rfl, hx⟩ := y
  obtain ⟨d, h1, h2⟩ := rx.getV hx
  exact ⟨Same.refl _, d, h1, (h2.grow m).mono k⟩
theorem gi_tup (h : G X te σ H (.tuple ds)) : GI X (iTup K te) σ H ds := fun H1 s R r => h H1 s _ fun v H2 s2 rv => by
  obtain ⟨a, xs, rfl, n, e, rx⟩ := rv.tup_inv
  refine ⟨a, rfl, ⟨xs, SqT.of e⟩, r _ H2 s2 ⟨_, _, by rw [← rx.length]; exact walk_tup, fun X' m H3 k t => ?_⟩⟩
  have n' : ¬ X' a := fun z => (m a z).elim n fun q => by rw [e] at q; cases q
  refine ⟨SqT.of (k a _ n' e), fun i x H4 y => ?_⟩
  obtain ⟨rfl, hx⟩ := y
  obtain ⟨d, h1, h2⟩ := rx.getV hx
  exact ⟨Same.refl _, d, h1, (h2.grow m).mono k⟩
def rangeD (lo : Int) (n : Nat) : List PyData := (List.range n).map fun (i : Nat) => PyData.int (lo + (i : Int))
theorem rangeD_len {lo : Int} {n : Nat} : (rangeD lo n).length = n := by simp [rangeD]
theorem rangeD_get {lo : Int} {n i : Nat} (h : i < n) : (rangeD lo n)[i]? = some (.int (lo + (i : Int))) := by
  unfold rangeD
  rw [List.getElem?_map, List.getElem?_range h]
  rfl
theorem walkD_range {lo : Int} {n : Nat} : WalkD X (Itr lo n) H (rangeD lo n) := by
  refine ⟨fun _ => True, fun i H x H' => (YFn fun i => V.int (lo + i)) i H x H' ∧ i < n, ?_, fun X' m H3 k t => ⟨trivial, fun i x H4 y => ?_⟩⟩
  · rw [rangeD_len]
    exact ⟨fun _ _ hi _ => hi, fun _ _ => Nat.le_refl _, fun _ _ _ _ hi _ y => ⟨y, hi⟩⟩
  · obtain ⟨⟨rfl, rfl⟩, hi⟩ := y
    exact ⟨Same.refl _, _, rangeD_get hi, .int _⟩
theorem gi_range1 {n : Int} (h : G X te σ H (.int n)) (hn : n ≤ 1000000) (hm : -1000000 ≤ n) : GI X (iRng1 (tCons te tNil)) σ H (rangeD 0 n.toNat) := fun H1 s R r => h H1 s _ fun v H2 s2 rv =>
  ⟨n, by rw [rv.int_inv], by omega, by omega, r _ H2 s2 walkD_range⟩
theorem gi_range2 {tb : TE} {a n : Int} (ha : G X te σ H (.int a)) (h : G X tb σ H (.int n)) (hb : -1000000 ≤ a ∧ a ≤ 1000000 ∧ -1000000 ≤ n ∧ n ≤ 1000000) : GI X (iRng2 (tCons te (tCons tb tNil))) σ H (rangeD a (n - a).toNat) := fun H1 s R r =>
  ha H1 s _ fun v H2 s2 rv => h H2 (s.trans s2) _ fun w H3 s3 rw_ => ⟨a, n, by rw [rv.int_inv, rw_.int_inv], by omega, r _ H3 (s2.trans s3) walkD_range⟩
def enumD (ds : List PyData) : List PyData := ds.zipIdx.map fun p => .tuple [.int (p.2 : Nat), p.1]
theorem enumD_len : (enumD ds).length = ds.length := by simp [enumD]
theorem enumD_get {i : Nat} {d : PyData} (h : ds[i]? = some d) : (enumD ds)[i]? = some (.tuple [.int (i : Nat), d]) := by
  unfold enumD
  rw [List.getElem?_map, List.getElem?_zipIdx, h]
  simp
theorem gi_enum (h : G X te σ H (.list ds)) : GI X (iEnum K (tCons te tNil)) σ H (enumD ds) := fun H1 s R r => h H1 s _ fun v H2 s2 rv => by
  obtain ⟨a, xs, rfl, n, e, rx⟩ := rv.lst_inv
  refine ⟨a, xs, rfl, SqL.of e, r _ H2 s2 ⟨_, _, by rw [enumD_len, ← rx.length]; exact walk_enum, fun X' m H3 k t => ?_⟩⟩
  have n' : ¬ X' a := fun z => (m a z).elim n fun q => by rw [e] at q; cases q
  refine ⟨SqL.of (k a _ n' e), fun i x H4 y => ?_⟩
  obtain ⟨T, u, w, rfl, hT, rfl, hu, hw⟩ := y
  cases hu
  obtain ⟨d, h1, h2⟩ := rx.getV hw
  exact ⟨Same.upd hT, _, enumD_get h1, DX.newT t (.cons (.int _) (.cons ((h2.grow m).mono k) .nil)) hT⟩
def zipD (ds es : List PyData) : List PyData := List.zipWith (fun d e => .tuple [d, e]) ds es
theorem gi_zip {tb : TE} (h : G X te σ H (.list ds)) (h' : G X tb σ H (.list es)) : GI X (iZip K (tCons te (tCons tb tNil))) σ H (zipD ds es) := fun H1 s R r => h H1 s _ fun v H2 s2 rv => h' H2 (s.trans s2) _ fun w H3 s3 rw_ => by
  obtain ⟨a, xs, rfl, n, e, rx⟩ := (rv.mono (Kp.of s3)).lst_inv
  obtain ⟨b, ys, rfl, n2, e2, ry⟩ := rw_.lst_inv
  refine ⟨a, b, xs, ys, rfl, SqL.of e, SqL.of e2, r _ H3 (s2.trans s3) ⟨_, _, walk_zip (xs := xs) (ys := ys) (by simp [zipD, rx.length, ry.length]), fun X' m H4 k t => ?_⟩⟩
  have n' : ¬ X' a := fun z => (m a z).elim n fun q => by rw [e] at q; cases q
  have n2' : ¬ X' b := fun z => (m b z).elim n2 fun q => by rw [e2] at q; cases q
  refine ⟨⟨SqL.of (k a _ n' e), SqL.of (k b _ n2' e2)⟩, fun i x H5 y => ?_⟩
  obtain ⟨T, u, w, rfl, hT, rfl, hu, hw⟩ := y
  obtain ⟨d, h1, h2⟩ := rx.getV hu
  obtain ⟨d', h3, h4⟩ := ry.getV hw
  refine ⟨Same.upd hT, .tuple [d, d'], ?_, DX.newT t (.cons ((h2.grow m).mono k) (.cons ((h4.grow m).mono k) .nil)) hT⟩
  unfold zipD
  rw [List.getElem?_zipWith, h1, h3]

/-! ### comprehensions -/
/-- a target takes a datum: what the frame knows behind it -/
def Tgt (X : Addr → Prop) (g : TG) (σ : St) (Γ2 : List Sv) (vs : List Nat) (d : PyData) (H : Hp) : Prop :=
  ∀ X' H3, More X X' H → Kp X' H H3 → Trk X' H3 → ∀ v, DX X' H3 v d → ∀ Ψ : St → Hp → Prop, (∀ σ2, EnvOk X' H3 σ2 Γ2 → wipe σ2 vs = wipe σ vs → Ψ σ2 H3) → g v (wipe σ vs) H3 Ψ
theorem wipe_one {i : Nat} {x : Option V} : wipe ((wipe σ [i]).set i x) [i] = wipe σ [i] := by
  show ((σ.set i none).set i x).set i none = σ.set i none
  rw [List.set_set, List.set_set]
theorem tgt_name {i : Nat} {d : PyData} (E : EnvOk X H σ Γ) : Tgt X (gName i) σ ((Γ.set i .un).set i (.dat d)) [i] d H := fun X' H3 m k t v hd Ψ q =>
  q _ (((E.more m).mono k).wipe [i] |>.set hd) wipe_one
theorem wipe_two {i j : Nat} {x y : Option V} (h : i ≠ j) : wipe (((wipe σ [i, j]).set i x).set j y) [i, j] = wipe σ [i, j] := by
  show ((((((σ.set j none).set i none).set i x).set j y).set j none).set i none) = (σ.set j none).set i none
  apply List.ext_getElem?
  intro n
  simp only [List.getElem?_set, List.length_set]
  split <;> split <;> simp_all
theorem g_pair {i j : Nat} {K : PySem.W.Frag} {v : V} {d e : PyData} (hd : DX X H v (.tuple [d, e])) {Ψ : St → Hp → Prop} (q : ∀ u w, DX X H u d → DX X H w e → Ψ ((σ.set i (some u)).set j (some w)) H) : gTup K 2 (gCons (gName i) (gCons (gName j) gNil)) v σ H Ψ := by
  obtain ⟨a, xs, rfl, n, ea, rx⟩ := hd.tup_inv
  cases rx with
  | cons h1 r1 =>
    cases r1 with
    | cons h2 r2 =>
      cases r2
      exact ⟨a, _, rfl, SqT.of ea, rfl, _, _, rfl, _, _, rfl, rfl, q _ _ h1 h2⟩
theorem g_triple {i j l : Nat} {K : PySem.W.Frag} {v : V} {d e f : PyData} (hd : DX X H v (.tuple [d, e, f])) {Ψ : St → Hp → Prop} (q : ∀ u w z, DX X H u d → DX X H w e → DX X H z f → Ψ (((σ.set i (some u)).set j (some w)).set l (some z)) H) :
    gTup K 3 (gCons (gName i) (gCons (gName j) (gCons (gName l) gNil))) v σ H Ψ := by
  obtain ⟨a, xs, rfl, n, ea, rx⟩ := hd.tup_inv
  cases rx with
  | cons h1 r1 =>
    cases r1 with
    | cons h2 r2 =>
      cases r2 with
      | cons h3 r3 =>
        cases r3
        exact ⟨a, _, rfl, SqT.of ea, rfl, _, _, rfl, _, _, rfl, _, _, rfl, rfl, q _ _ _ h1 h2 h3⟩
theorem tgt_pair {i j : Nat} {d e : PyData} (E : EnvOk X H σ Γ) (hij : i ≠ j) : Tgt X (gTup K 2 (gCons (gName i) (gCons (gName j) gNil))) σ ((((Γ.set j .un).set i .un).set i (.dat d)).set j (.dat e)) [i, j] (.tuple [d, e]) H := fun X' H3 m k t v hd Ψ q =>
  g_pair hd fun u w h1 h2 => q _ ((((E.more m).mono k).wipe [i, j] |>.set h1).set h2) (wipe_two hij)
theorem g_lc {wi : TI} {g : TG} {tt : TT} {te : TE} {vs : List Nat} {Γ2 : PyData → List Sv} (f : PyData → Bool) (h : PyData → PyData) (t : Trk X H) (hi : GI X wi σ H ds) (hl : ds.length ≤ 1000000)
    (hg : ∀ H1, Same H H1 → ∀ d ∈ ds, Tgt X g σ (Γ2 d) vs d H1)
    (ht : ∀ X' H1 σ2 d, d ∈ ds → Trk X' H1 → EnvOk X' H1 σ2 (Γ2 d) → GT tt σ2 H1 (f d))
    (he : ∀ X' H1 σ2 d, d ∈ ds → f d = true → Trk X' H1 → EnvOk X' H1 σ2 (Γ2 d) → G X' te σ2 H1 (h d)) : G X (tLc wi g tt te vs) σ H (.list ((ds.filter f).map h)) := fun H1 s Q q =>
  hi H1 s _ fun J H2 s2 w => by
    intro D hD
    obtain ⟨Gd, Y, w1, w2⟩ := w
    have s02 : Same H H2 := s.trans s2
    have t2 : Trk X H2 := t.mono s02
    let X' : Addr → Prop := fun a => X a ∨ a = D
    have m2 : More X X' H2 := More.one hD
    have key : ∀ H3, Same H2 H3 ∧ Trk X' H3 → Gd H3 := fun H3 p => (w2 X' m2.2 H3 (Kp.of p.1) p.2).1
    refine lc_it w1 (fun i H3 => Same H2 H3 ∧ Trk X' H3 ∧ ∃ acc, H3 D = some (.lst acc) ∧ DXs X' H3 acc (((ds.take i).filter f).map h)) ?_ ?_ ?_ ?_
    · exact ⟨Same.upd hD, t2.one hD, [], upd_same, .nil⟩
    · rintro i H3 _ ⟨p1, p2, _⟩
      exact key H3 ⟨p1, p2⟩
    · rintro i x H3 H4 hi' ⟨p1, p2, acc, p3, p4⟩ y
      obtain ⟨s4, d, hd, dx⟩ := (w2 X' m2.2 H3 (Kp.of p1) p2).2 i x H4 y
      have hmem : d ∈ ds := List.mem_of_getElem? hd
      have k4 : Kp X' H2 H4 := Kp.of (p1.trans s4)
      have t4 : Trk X' H4 := p2.mono s4
      refine hg H2 s02 d hmem X' H4 m2 k4 t4 x dx _ fun σ2 E2 hw => ⟨hw, ?_⟩
      have etake : ds.take (i + 1) = ds.take i ++ [d] := by rw [List.take_succ, hd]; rfl
      refine ht X' H4 σ2 d hmem t4 E2 H4 (Same.refl _) _ fun H5 s5 => ?_
      have lacc : acc.length ≤ 1000000 := by
        rw [p4.length, List.length_map]
        exact Nat.le_trans (List.length_filter_le _ _) (Nat.le_trans (List.length_take_le _ _) (by omega))
      cases hf : f d with
      | true =>
        refine iteT ?_
        refine he X' H4 σ2 d hmem hf t4 E2 H5 s5 _ fun y H6 s6 ry => ?_
        have s36 : Same H3 H6 := (s4.trans s5).trans s6
        refine ⟨acc, s36 D _ p3, by rw [sizeLine_eq]; omega, ?_, ?_, acc ++ [y], upd_same, ?_⟩
        · exact Same.mut (p1.trans s36) hD
        · exact (p2.mono s36).put
        · rw [etake, List.filter_append, List.map_append]
          have ef : List.filter f [d] = [d] := by simp [hf]
          rw [ef]
          exact ((p4.mono (Kp.of s36)).snoc ry).mono (Kp.put (.inr rfl))
      | false =>
        refine iteF ?_
        have s35 : Same H3 H5 := s4.trans s5
        refine ⟨p1.trans s35, p2.mono s35, acc, s35 D _ p3, ?_⟩
        rw [etake, List.filter_append, List.map_append]
        have ef : List.filter f [d] = [] := by simp [hf]
        rw [ef, List.map_nil, List.append_nil]
        exact p4.mono (Kp.of s35)
    · rintro H3 ⟨p1, p2, acc, p3, p4⟩
      rw [List.take_length] at p4
      have nXD : ¬ X D := t2.new hD
      -- D itself is a datum again
      exact q (.ref D) H3 (s2.trans p1) (.lst nXD p3 (p4.less fun a => .inl))
/-- without a test -/
theorem g_lc1 {wi : TI} {g : TG} {te : TE} {vs : List Nat} {Γ2 : PyData → List Sv} (h : PyData → PyData) (t : Trk X H) (hi : GI X wi σ H ds) (hl : ds.length ≤ 1000000)
    (hg : ∀ H1, Same H H1 → ∀ d ∈ ds, Tgt X g σ (Γ2 d) vs d H1)
    (he : ∀ X' H1 σ2 d, d ∈ ds → Trk X' H1 → EnvOk X' H1 σ2 (Γ2 d) → G X' te σ2 H1 (h d)) : G X (tLc wi g tYes te vs) σ H (.list (ds.map h)) := by
  have e : ds.map h = (ds.filter fun _ => true).map h := by rw [List.filter_eq_self.mpr (fun _ _ => rfl)]
  rw [e]
  exact g_lc (fun _ => true) h t hi hl hg (fun X' H2 σ2 z _ _ _ H3 s3 Q3 q3 => q3 H3 (Same.refl _)) fun X' H1 σ2 d m _ t2 E2 => he X' H1 σ2 d m t2 E2
end
end KD

namespace KD
open PySem PySem.Spec PyProof.Rows L2
/-! ### defs of the text that are called by their names -/
structure Own (P : Program) (w : World) (K : PySem.W.Frag) (mg : Str → Option Value) (base : Heap) (CX : CXT) (k : Nat) (x : Str) (ps : List Str) (sp : Sp) : Prop where
  ex : ∃ (f : Addr) (fd : FuncData), mg x = some (.ref f) ∧ PySem.W.keepIn K (.ref f) = true ∧ Binds K fd ps [] ∧ FnOk P w K mg base CX k f fd ps sp
section
variable {X : Cx} {k j : Nat} {x : Str} {ps : List Str} {sp : Sp} {e : Expr} {es : List Expr} {p pos : Pos} {ta : TA}
theorem pe_own (O : Own X.prog X.w X.K X.mg X.base CX0 k x ps sp) (hr : Room j X.A) (hk : k ≤ j) (hg : Gl X x) (ha : PA X (e :: es) ta) (hdb : (x == ("__debug__" : Str)) = false := by decide)
    (he : starEach (e :: es) X.env = (false, eval e X.env) :: starEach es X.env := by rfl) (hpl : (backTo pos (starEach es X.env)).any (·.1) = false := by rfl) : PE X (.Call (.Name x p) (e :: es) [] pos) (tCall sp [] E0 ta) := by
  obtain ⟨f, fd, h1, h2, h3, h4⟩ := O.ex
  exact pe_call h4 (hr.mono hk) hg h1 h2 h3 .nil pass0 ha hdb he hpl
end
/-! ### promises over data -/
def sp1 (pre : PyData → Prop) (f : PyData → PyData) : Sp := fun vs H Q _ => ∃ (X : Addr → Prop) (v : V) (d : PyData), vs = [v] ∧ Trk X H ∧ DX X H v d ∧ pre d ∧ ∀ w H', Same H H' → DX X H' w (f d) → Q w H'
def sp2 (pre : PyData → PyData → Prop) (f : PyData → PyData → PyData) : Sp := fun vs H Q _ => ∃ (X : Addr → Prop) (v1 v2 : V) (d1 d2 : PyData), vs = [v1, v2] ∧ Trk X H ∧ DX X H v1 d1 ∧ DX X H v2 d2 ∧ pre d1 d2 ∧ ∀ w H', Same H H' → DX X H' w (f d1 d2) → Q w H'
def sp3 (pre : PyData → PyData → PyData → Prop) (f : PyData → PyData → PyData → PyData) : Sp := fun vs H Q _ => ∃ (X : Addr → Prop) (v1 v2 v3 : V) (d1 d2 d3 : PyData), vs = [v1, v2, v3] ∧ Trk X H ∧ DX X H v1 d1 ∧ DX X H v2 d2 ∧ DX X H v3 d3 ∧ pre d1 d2 d3 ∧ ∀ w H', Same H H' → DX X H' w (f d1 d2 d3) → Q w H'
section
variable {X : Addr → Prop} {σ : L2.St} {H : Hp} {ta tb tc : TE} {d d1 d2 d3 : PyData} {E : XK}
theorem g_call1 {pre : PyData → Prop} {f : PyData → PyData} (t : Trk X H) (h : G X ta σ H d) (hp : pre d) : G X (tCall (sp1 pre f) [] E (tCons ta tNil)) σ H (f d) :=
  g_call (ga_cons h ga_nil) fun vs H1 s rs Q q => by
    cases rs with
    | cons r1 r2 =>
      cases r2
      exact ⟨X, _, d, rfl, t.mono s, r1, hp, q⟩
theorem g_call2 {pre : PyData → PyData → Prop} {f : PyData → PyData → PyData} (t : Trk X H) (h1 : G X ta σ H d1) (h2 : G X tb σ H d2) (hp : pre d1 d2) : G X (tCall (sp2 pre f) [] E (tCons ta (tCons tb tNil))) σ H (f d1 d2) :=
  g_call (ga_cons h1 (ga_cons h2 ga_nil)) fun vs H1 s rs Q q => by
    cases rs with
    | cons r1 r2 =>
      cases r2 with
      | cons r2 r3 =>
        cases r3
        exact ⟨X, _, _, d1, d2, rfl, t.mono s, r1, r2, hp, q⟩
theorem g_call3 {pre : PyData → PyData → PyData → Prop} {f : PyData → PyData → PyData → PyData} (t : Trk X H) (h1 : G X ta σ H d1) (h2 : G X tb σ H d2) (h3 : G X tc σ H d3) (hp : pre d1 d2 d3) : G X (tCall (sp3 pre f) [] E (tCons ta (tCons tb (tCons tc tNil)))) σ H (f d1 d2 d3) :=
  g_call (ga_cons h1 (ga_cons h2 (ga_cons h3 ga_nil))) fun vs H1 s rs Q q => by
    cases rs with
    | cons r1 r2 =>
      cases r2 with
      | cons r2 r3 =>
        cases r3 with
        | cons r3 r4 =>
          cases r4
          exact ⟨X, _, _, _, d1, d2, d3, rfl, t.mono s, r1, r2, r3, hp, q⟩
end
/-! ### a def's body -/
section
variable {P : Program} {w : World} {K : PySem.W.Frag} {mg : Str → Option Value} {base : Heap} {x qual : Str} {st : Stmt} {f : Addr} {fd : FuncData} {N : List Str} {k : Nat} {a b c : Str}
def pad (N : List Str) (ss : List Sv) : List Sv := ss ++ List.replicate (N.length - ss.length) .un
theorem env1 {X : Addr → Prop} {H : Hp} {v : V} {d : PyData} (h : DX X H v d) (hN : 1 ≤ N.length) : EnvOk X H (L2.start N [v]) (pad N [.dat d]) :=
  envOk_start rfl (fun i s e u e2 => by
    match i, e, e2 with
    | 0, e, e2 => cases e; cases e2; exact ⟨_, rfl, h⟩) hN
theorem env2 {X : Addr → Prop} {H : Hp} {v1 v2 : V} {d1 d2 : PyData} (h1 : DX X H v1 d1) (h2 : DX X H v2 d2) (hN : 2 ≤ N.length) : EnvOk X H (L2.start N [v1, v2]) (pad N [.dat d1, .dat d2]) :=
  envOk_start rfl (fun i s e u e2 => by
    match i, e, e2 with
    | 0, e, e2 => cases e; cases e2; exact ⟨_, rfl, h1⟩
    | 1, e, e2 => cases e; cases e2; exact ⟨_, rfl, h2⟩) hN
theorem env3 {X : Addr → Prop} {H : Hp} {v1 v2 v3 : V} {d1 d2 d3 : PyData} (h1 : DX X H v1 d1) (h2 : DX X H v2 d2) (h3 : DX X H v3 d3) (hN : 3 ≤ N.length) : EnvOk X H (L2.start N [v1, v2, v3]) (pad N [.dat d1, .dat d2, .dat d3]) :=
  envOk_start rfl (fun i s e u e2 => by
    match i, e, e2 with
    | 0, e, e2 => cases e; cases e2; exact ⟨_, rfl, h1⟩
    | 1, e, e2 => cases e; cases e2; exact ⟨_, rfl, h2⟩
    | 2, e, e2 => cases e; cases e2; exact ⟨_, rfl, h3⟩) hN
theorem ok1 {pre : PyData → Prop} {g : PyData → PyData} (F : Fun K x qual st f fd) (S : FnScope N [a] (defScope st)) (hN : 1 ≤ N.length)
    (hbody : ∀ (cdv : Value) (A : Around) (outer : List Env) (s : Shared) (H : Hp) (E : XK) (X : Addr → Prop) (d : PyData) (Q : VK), Room k (A.deeper (envOfC qual (defScope st) s.heap.objs.size f cdv)) → Trk X H → pre d → (∀ w H', Same H H' → DX X H' w (g d) → Q w H') →
      ∃ t, PSs (cxOf CX0 P w K mg base N qual (defScope st) f cdv A outer s H E).nox (defBody st) t ∧ ∀ σ, EnvOk X H σ (pad N [.dat d]) → t { nx := fun _ H' => Q .non H', rt := Q } σ H) : FnOk P w K mg base CX0 (k + 1) f fd [a] (sp1 pre g) := by
  refine F.ok S (fun vs H Q E h => ?_) (fun cdv A outer s H vs Q E hr h => ?_)
  · obtain ⟨X, v, d, rfl, _⟩ := h
    rfl
  · obtain ⟨X, v, d, rfl, t, hd, hp, q⟩ := h
    obtain ⟨tt, h1, h2⟩ := hbody cdv A outer s H E X d Q hr t hp q
    exact ⟨tt, h1, h2 _ (env1 hd hN)⟩
theorem ok2 {pre : PyData → PyData → Prop} {g : PyData → PyData → PyData} (F : Fun K x qual st f fd) (S : FnScope N [a, b] (defScope st)) (hN : 2 ≤ N.length)
    (hbody : ∀ (cdv : Value) (A : Around) (outer : List Env) (s : Shared) (H : Hp) (E : XK) (X : Addr → Prop) (d1 d2 : PyData) (Q : VK), Room k (A.deeper (envOfC qual (defScope st) s.heap.objs.size f cdv)) → Trk X H → pre d1 d2 → (∀ w H', Same H H' → DX X H' w (g d1 d2) → Q w H') →
      ∃ t, PSs (cxOf CX0 P w K mg base N qual (defScope st) f cdv A outer s H E).nox (defBody st) t ∧ ∀ σ, EnvOk X H σ (pad N [.dat d1, .dat d2]) → t { nx := fun _ H' => Q .non H', rt := Q } σ H) : FnOk P w K mg base CX0 (k + 1) f fd [a, b] (sp2 pre g) := by
  refine F.ok S (fun vs H Q E h => ?_) (fun cdv A outer s H vs Q E hr h => ?_)
  · obtain ⟨X, v1, v2, d1, d2, rfl, _⟩ := h
    rfl
  · obtain ⟨X, v1, v2, d1, d2, rfl, t, r1, r2, hp, q⟩ := h
    obtain ⟨tt, h1, h2⟩ := hbody cdv A outer s H E X d1 d2 Q hr t hp q
    exact ⟨tt, h1, h2 _ (env2 r1 r2 hN)⟩
end
/-! ### statements -/
section
variable {X : Addr → Prop} {σ : L2.St} {H : Hp} {te : TE} {tt : TT} {tu tw tz : TS} {d : PyData} {D : Ends} {Γ : List Sv} {Q : VK}
theorem s_ret (h : G X te σ H d) (q : ∀ w H', Same H H' → DX X H' w d → D.rt w H') : tRet te D σ H := h H (Same.refl H) _ q
theorem s_if {b : Bool} (h : GT tt σ H b) (h1 : b = true → ∀ H1, Same H H1 → tu D σ H1) (h2 : b = false → ∀ H1, Same H H1 → tw D σ H1) : tIfS tt tu tw D σ H := h H (Same.refl H) _ fun H1 s => by
  cases b with
  | true => exact iteT (h1 rfl H1 s)
  | false => exact iteF (h2 rfl H1 s)
theorem q_if {b : Bool} (h : GT tt σ H b) (h1 : b = true → ∀ H1, Same H H1 → tu { D with nx := tz D } σ H1) (h2 : b = false → ∀ H1, Same H H1 → tz D σ H1) : tSeq (tIfS tt tu tNext) tz D σ H := s_if (D := { D with nx := tz D }) h h1 h2
theorem q_asg {g : TG} (h : G X te σ H d) (k : ∀ H1 v, Same H H1 → DX X H1 v d → g v σ H1 (fun σ2 H2 => tz D σ2 H2)) : tSeq (tAsg te g) tz D σ H := h H (Same.refl H) _ fun v H1 s r => k H1 v s r
theorem q_set {i : Nat} (En : EnvOk X H σ Γ) (h : G X te σ H d) (k : ∀ H1 v, Same H H1 → EnvOk X H1 (σ.set i (some v)) (Γ.set i (.dat d)) → tz D (σ.set i (some v)) H1) : tSeq (tAsg te (gName i)) tz D σ H := h H (Same.refl H) _ fun v H1 s r => k H1 v s ((En.same s).set r)
end
/-- a for over data: I by the base heap, the turn, the slots, the heap -/
theorem s_forD {X : Addr → Prop} {σ : L2.St} {H : Hp} {wi : TI} {g : TG} {tb : TS} {D : Ends} {ds : List PyData} (hi : GI X wi σ H ds) (I : Hp → Nat → L2.St → Hp → Prop) (h0 : ∀ Hb, Same H Hb → I Hb 0 σ Hb)
    (hk : ∀ Hb i σ' H', I Hb i σ' H' → Kp X Hb H' ∧ Trk X H')
    (hs : ∀ Hb i x d σ' H' H'', Same H Hb → ds[i]? = some d → I Hb i σ' H' → Same H' H'' → DX X H'' x d → g x σ' H'' fun σ2 H2 => tb { D with nx := I Hb (i + 1), ct := I Hb (i + 1), bk := D.nx } σ2 H2)
    (hd : ∀ Hb σ' H', Same H Hb → I Hb ds.length σ' H' → D.nx σ' H') : tFor wi g tb D σ H := hi H (Same.refl H) _ fun J H2 s w => by
  obtain ⟨Gd, Y, w1, w2⟩ := w
  have key : ∀ i σ' H', I H2 i σ' H' → _ := fun i σ' H' p => w2 X (fun _ => .inl) H' (hk H2 i σ' H' p).1 (hk H2 i σ' H' p).2
  refine for_it w1 (I H2) (h0 H2 s) (fun i σ' H' _ p => (key i σ' H' p).1) (fun i x σ' H' H'' _ p y => ?_) (fun σ' H' p => hd H2 σ' H' s p)
  obtain ⟨s4, d, hd1, dx⟩ := (key i σ' H' p).2 i x H'' y
  exact hs H2 i x d σ' H' H'' s hd1 p s4 dx
/-! ### the language's own names; tests of kinds -/
structure Bl (mg : Str → Option Value) : Prop where
  b_isinstance : mg "isinstance" = none
  b_len : mg "len" = none
  b_list : mg "list" = none
  b_tuple : mg "tuple" = none
  b_dict : mg "dict" = none
  b_int : mg "int" = none
  b_bool : mg "bool" = none
  b_str : mg "str" = none
  b_min : mg "min" = none
  b_all : mg "all" = none
  b_range : mg "range" = none
  b_enumerate : mg "enumerate" = none
  b_zip : mg "zip" = none
  b_repr : mg "repr" = none
section
variable {X : Cx}
abbrev rAddA : R2 := fun x y H Q => (rI0 fun i j => V.int (i + j)) x y H Q ∨ (fun x y H Q => rCat x y H Q ∨ (fun x y H Q => ∃ i j, x = V.str i ∧ y = V.str j ∧ i.length + j.length ≤ sizeLine ∧ Q (V.str (i ++ j)) H) x y H Q) x y H Q
abbrev rMulA : R2 := fun x y H Q => (rI CMul fun i j => V.int (i * j)) x y H Q ∨ rRep x y H Q
theorem op_addA : OpR X (binaryOp .Add) rAddA := op_add.or (op_cat.or op_add_str)
theorem op_mulA : OpR X (binaryOp .Mult) rMulA := op_mul.or op_rep
end
section
variable {X : Addr → Prop} {te ta tb : TE} {σ : L2.St} {H : Hp} {d : PyData} {K : PySem.W.Frag}
theorem isDs_seq (d : PyData) : isDs ["list", "tuple"] d = isSeq d := by
  unfold isDs
  rw [List.any_cons, List.any_cons, List.any_nil, isD_list, isD_tuple]
  cases d <;> rfl
theorem g_isSeq (h : G X te σ H d) : G X (tCB (rIsiT K) (tCons te (tCons (tTup (tCons (tC (.ty "list")) (tCons (tC (.ty "tuple")) tNil))) tNil))) σ H (.bool (isSeq d)) := by
  rw [← isDs_seq]
  exact g_isiT (ns := ["list", "tuple"]) h rfl (by decide) fun n hn => by
    simp at hn
    rcases hn with rfl | rfl
    · exact ksm_list d
    · exact ksm_tuple d
theorem g_isInt (h : G X te σ H d) : G X (tCB (rIsi K) (tCons te (tCons (tC (.ty "int")) tNil))) σ H (.bool (isa_int d)) := by
  rw [← isD_int]; exact g_isi h (ksm_int d)
theorem g_isBool (h : G X te σ H d) : G X (tCB (rIsi K) (tCons te (tCons (tC (.ty "bool")) tNil))) σ H (.bool (isa_bool d)) := by
  rw [← isD_bool]; exact g_isi h (ksm_bool d)
theorem g_isStr (h : G X te σ H d) : G X (tCB (rIsi K) (tCons te (tCons (tC (.ty "str")) tNil))) σ H (.bool (isa_str d)) := by
  rw [← isD_str]; exact g_isi h (ksm_str d)
theorem g_isList (h : G X te σ H d) : G X (tCB (rIsi K) (tCons te (tCons (tC (.ty "list")) tNil))) σ H (.bool (isa_list d)) := by
  rw [← isD_list]; exact g_isi h (ksm_list d)
theorem g_isTuple (h : G X te σ H d) : G X (tCB (rIsi K) (tCons te (tCons (tC (.ty "tuple")) tNil))) σ H (.bool (isa_tuple d)) := by
  rw [← isD_tuple]; exact g_isi h (ksm_tuple d)
theorem g_isDict (h : G X te σ H d) : G X (tCB (rIsi K) (tCons te (tCons (tC (.ty "dict")) tNil))) σ H (.bool (isa_dict d)) := by
  rw [← isD_dict]; exact g_isi h (ksm_dict d)
theorem g_len (t : Trk X H) (h : G X te σ H d) (hl : hasLen d = true) : G X (tCB (fun xs H Q => ∃ x n, xs = [x] ∧ LenV K x H n ∧ Q (V.int n) H) (tCons te tNil)) σ H (.int (lenD d : Int)) := g_cb t (ga_cons h ga_nil) (rf_len hl)
theorem g_listOf (t : Trk X H) (h : G X te σ H d) (hl : isSeq d = true) : G X (tCB (fun xs H Q => ∃ p ys, xs = [V.ref p] ∧ (SqL K H p ys ∨ SqT K H p ys) ∧ ∀ l, H l = none → Q (V.ref l) (upd H l (.lst ys))) (tCons te tNil)) σ H (.list (itemsD d)) := g_cb t (ga_cons h ga_nil) (rf_list hl)
theorem g_addI (t : Trk X H) {i j : Int} (ha : G X ta σ H (.int i)) (hb : G X tb σ H (.int j)) : G X (tOp rAddA ta tb) σ H (.int (i + j)) := g_op t ha hb (RD.or1 (rd_I0 (g := fun i j => i + j)))
theorem g_cat (t : Trk X H) {xs ys : List PyData} (ha : G X ta σ H (.list xs)) (hb : G X tb σ H (.list ys)) (hl : xs.length + ys.length ≤ 1000000) : G X (tOp rAddA ta tb) σ H (.list (xs ++ ys)) := g_op t ha hb (RD.or2 (RD.or1 (rd_cat hl)))
theorem g_sub (t : Trk X H) {i j : Int} (ha : G X ta σ H (.int i)) (hb : G X tb σ H (.int j)) : G X (tOp (rI0 fun i j => V.int (i - j)) ta tb) σ H (.int (i - j)) := g_op t ha hb (rd_I0 (g := fun i j => i - j))
theorem g_cmpI (t : Trk X H) {g : Int → Int → Bool} {i j : Int} (ha : G X ta σ H (.int i)) (hb : G X tb σ H (.int j)) : G X (tOp (rI0 fun i j => V.bl (g i j)) ta tb) σ H (.bool (g i j)) := g_op t ha hb rb_I0.rd
theorem gt_cmpI (t : Trk X H) {g : Int → Int → Bool} {i j : Int} (ha : G X ta σ H (.int i)) (hb : G X tb σ H (.int j)) : GT (tTest (tOp (rI0 fun i j => V.bl (g i j)) ta tb)) σ H (g i j) := gt_op t ha hb rb_I0
theorem g_ixL (t : Trk X H) {ds : List PyData} {i : Int} {z : PyData} (ha : G X ta σ H (.list ds)) (hb : G X tb σ H (.int i)) (h : atI ds i = some z) : G X (tOp (rIx K) ta tb) σ H z := g_op t ha hb (rd_ixL h)
theorem g_ixT (t : Trk X H) {ds : List PyData} {i : Int} {z : PyData} (ha : G X ta σ H (.tuple ds)) (hb : G X tb σ H (.int i)) (h : atI ds i = some z) : G X (tOp (rIx K) ta tb) σ H z := g_op t ha hb (rd_ixT h)
/-- an item of a list or tuple -/
theorem g_ix (t : Trk X H) {i : Int} {z : PyData} (ha : G X ta σ H d) (hs : isSeq d = true) (hb : G X tb σ H (.int i)) (h : atI (itemsD d) i = some z) : G X (tOp (rIx K) ta tb) σ H z := by
  cases d with
  | list ds => exact g_ixL t ha hb h
  | tuple ds => exact g_ixT t ha hb h
  | _ => cases hs
theorem g_eqD (t : Trk X H) {x y : PyData} (ha : G X ta σ H x) (hb : G X tb σ H y) (hd : noDict x = true) (he : noDict y = true) (hs : SeqAt.shaped x = true) (ht : SeqAt.shaped y = true) : G X (tOp (rEqD K) ta tb) σ H (.bool (PyData.eqv x y)) := g_op t ha hb (rb_eqD hd he hs ht).rd
theorem gt_eqD (t : Trk X H) {x y : PyData} (ha : G X ta σ H x) (hb : G X tb σ H y) (hd : noDict x = true) (he : noDict y = true) (hs : SeqAt.shaped x = true) (ht : SeqAt.shaped y = true) : GT (tTest (tOp (rEqD K) ta tb)) σ H (PyData.eqv x y) := gt_op t ha hb (rb_eqD hd he hs ht)
theorem gt_neD (t : Trk X H) {x y : PyData} (ha : G X ta σ H x) (hb : G X tb σ H y) (hd : noDict x = true) (he : noDict y = true) (hs : SeqAt.shaped x = true) (ht : SeqAt.shaped y = true) : GT (tTest (tOp (rNeD K) ta tb)) σ H (!PyData.eqv x y) := gt_op t ha hb (rb_neD hd he hs ht)
end
/-! ### a list or a tuple walked -/
def iSeq (K : PySem.W.Frag) (tl : TE) : TI := fun σ H R => tl σ H fun x H1 => ∃ c, x = V.ref c ∧ (((∃ zs, SqL K H1 c zs) ∧ R (Itl K c) H1) ∨ ((∃ zs, SqT K H1 c zs) ∧ R (Itt K c) H1))
theorem pi_seq {Y : Cx} {tg l : Expr} {tl : TE} (hl : PE Y l tl) : PI Y tg l (iSeq Y.K tl) := by
  constructor
  intro pn st sl hh RR inv rd
  refine thn (hl.run pn st sl hh _ inv rd) ?_
  rintro val st1 ⟨x, hh1, inv1, rel, c, rfl, alt⟩
  cases rel
  have fresh := inv1.hok.fresh (Nat.le_refl st1.heap.objs.size)
  have fpk : ∀ b ∈ [st1.heap.objs.size], _ := fun b hb => by
    have eb := List.mem_singleton.mp hb
    exact eb ▸ inv1.fpOk (Nat.le_refl _) fresh
  rcases alt with ⟨⟨zs, sq⟩, rest⟩ | ⟨⟨zs, sq⟩, rest⟩
  · obtain ⟨us, _, pl, _⟩ := inv1.list sq
    exact wpAny_pyIter_list pl.isList
      ⟨_, _, _, _, _, rfl, inv1.kept (t' := st1.toks) (fun _ _ z => Heap.get?_push_of_some _ z), turn_list c _,
        ⟨_, Heap.get?_push_size _ rfl, rfl, rfl⟩, fpk, rest⟩
  · obtain ⟨us, _, pl, _⟩ := inv1.tuple sq
    exact wpAny_pyIter_tuple (items := us.toArray) pl
      ⟨_, _, _, _, _, rfl, inv1.kept (t' := st1.toks) (fun _ _ z => Heap.get?_push_of_some _ z), turn_tuple c _,
        ⟨_, Heap.get?_push_size _ rfl, rfl, rfl⟩, fpk, rest⟩
theorem gi_seq {X : Addr → Prop} {σ : L2.St} {H : Hp} {te : TE} {K : PySem.W.Frag} {d : PyData} (h : G X te σ H d) (hs : isSeq d = true) : GI X (iSeq K te) σ H (itemsD d) := by
  cases d with
  | list ds =>
      intro H1 s R r
      refine h H1 s _ fun v H2 s2 rv => ?_
      obtain ⟨a, xs, rfl, n, e, rx⟩ := rv.lst_inv
      obtain ⟨a', e', _, rr⟩ := gi_list (K := K) (te := fun _ H Q => Q (.ref a) H) (σ := σ) (H := H2) (X := X) (ds := ds) (fun H5 s5 Q5 q5 => q5 _ H5 (Same.refl _) (rv.mono (Kp.of s5))) H2 (Same.refl _) R (fun J H3 s3 => r J H3 (s2.trans s3))
      cases e'
      exact ⟨a, rfl, .inl ⟨⟨xs, SqL.of e⟩, rr⟩⟩
  | tuple ds =>
      intro H1 s R r
      refine h H1 s _ fun v H2 s2 rv => ?_
      obtain ⟨a, xs, rfl, n, e, rx⟩ := rv.tup_inv
      obtain ⟨a', e', _, rr⟩ := gi_tup (K := K) (te := fun _ H Q => Q (.ref a) H) (σ := σ) (H := H2) (X := X) (ds := ds) (fun H5 s5 Q5 q5 => q5 _ H5 (Same.refl _) (rv.mono (Kp.of s5))) H2 (Same.refl _) R (fun J H3 s3 => r J H3 (s2.trans s3))
      cases e'
      exact ⟨a, rfl, .inr ⟨⟨xs, SqT.of e⟩, rr⟩⟩
  | _ => cases hs
/-! ### data that may be compared: words, ints, lists of words -/
theorem shaped_int (i : Int) : SeqAt.shaped (.int i) = true := by simp [SeqAt.shaped, PyData.canLay0, PyData.depth]
theorem shaped_str {s : Str} (h : PyData.strOk s = true) : SeqAt.shaped (.str s) = true := by simp [SeqAt.shaped, PyData.canLay0, PyData.depth, h]
theorem canLay_strs : ∀ {ws : List Str}, (∀ w ∈ ws, PyData.strOk w = true) → PyData.canLayAll0 (ws.map PyData.str) = true
  | [], _ => by simp [PyData.canLayAll0]
  | w :: ws, h => by
    have h1 := h w List.mem_cons_self
    have h2 := canLay_strs (ws := ws) fun v hv => h v (List.mem_cons_of_mem _ hv)
    simp [PyData.canLayAll0, PyData.canLay0, h1, h2]
theorem depth_strs : ∀ ws : List Str, PyData.depthAll (ws.map PyData.str) ≤ 1
  | [] => by simp [PyData.depthAll]
  | w :: ws => by
    have := depth_strs ws
    simp only [List.map_cons, PyData.depthAll, PyData.depth]
    omega
theorem shaped_strs {ws : List Str} (h : ∀ w ∈ ws, PyData.strOk w = true) : SeqAt.shaped (.list (ws.map PyData.str)) = true := by
  have := depth_strs ws
  have h2 : PyData.depth (.list (ws.map PyData.str)) ≤ 64 := by
    simp only [PyData.depth]
    omega
  show ((PyData.list (ws.map PyData.str)).canLay0 && decide ((PyData.list (ws.map PyData.str)).depth ≤ 64)) = true
  rw [Bool.and_eq_true]
  exact ⟨by simp only [PyData.canLay0]; exact canLay_strs h, decide_eq_true h2⟩
theorem noDict_strs : ∀ ws : List Str, noDicts (ws.map PyData.str) = true
  | [] => by simp [noDicts]
  | w :: ws => by simp [noDicts, noDict, noDict_strs ws]
theorem eqv_strs : ∀ ws zs : List Str, PyData.eqvAll (ws.map PyData.str) (zs.map PyData.str) = decide (ws = zs)
  | [], [] => by simp [PyData.eqvAll]
  | [], z :: zs => by simp [PyData.eqvAll]
  | w :: ws, [] => by simp [PyData.eqvAll]
  | w :: ws, z :: zs => by
    simp only [List.map_cons, PyData.eqvAll, PyData.eqv, eqv_strs ws zs]
    by_cases h : w = z
    · subst h
      simp
    · have : (w == z) = false := by simpa using h
      rw [this]
      simp [h]
/-! ### what is new -/
def Nw (H : Hp) (v : V) : Prop := ∀ a, v = .ref a → H a = none
theorem Nw.back {H H1 : Hp} {v : V} (s : Same H H1) (n : Nw H1 v) : Nw H v := fun a e => s.free (n a e)
theorem Nw.of {H : Hp} {p : Addr} (h : H p = none) : Nw H (.ref p) := fun a e => by cases e; exact h
def GN (X : Addr → Prop) (te : TE) (σ : L2.St) (H : Hp) (d : PyData) : Prop := ∀ H1, Same H H1 → ∀ Q : VK, (∀ v H2, Same H1 H2 → DX X H2 v d → Nw H1 v → Q v H2) → te σ H1 Q
def sp2N (pre : PyData → PyData → Prop) (f : PyData → PyData → PyData) : Sp := fun vs H Q _ => ∃ (X : Addr → Prop) (v1 v2 : V) (d1 d2 : PyData), vs = [v1, v2] ∧ Trk X H ∧ DX X H v1 d1 ∧ DX X H v2 d2 ∧ pre d1 d2 ∧ ∀ w H', Same H H' → DX X H' w (f d1 d2) → Nw H w → Q w H'
section
variable {X : Addr → Prop} {σ : L2.St} {H : Hp} {te ta tb tc : TE} {d d1 d2 d3 : PyData} {E : XK} {K : PySem.W.Frag} {D : Ends}
theorem GN.g (h : GN X te σ H d) : G X te σ H d := fun H1 s Q q => h H1 s Q fun v H2 s2 dv _ => q v H2 s2 dv
theorem GN.is {e : PyData} (h : GN X te σ H d) (e' : d = e) : GN X te σ H e := e' ▸ h
theorem gn_lst {ta : TA} {ds : List PyData} (t : Trk X H) (h : GA X ta σ H ds) (hl : ds.length ≤ 1000000) : GN X (tLst ta) σ H (.list ds) := fun H1 s Q q =>
  h H1 s _ fun vs H2 s2 rs => ⟨by rw [rs.length, sizeLine_eq]; omega, fun p hp => q _ _ (s2.trans (Same.upd hp)) (DX.newL ((t.mono s).mono s2) rs hp) (Nw.back s2 (Nw.of hp))⟩
theorem gn_tup {ta : TA} {ds : List PyData} (t : Trk X H) (h : GA X ta σ H ds) (hl : ds.length ≤ 1000000) : GN X (tTup ta) σ H (.tuple ds) := fun H1 s Q q =>
  h H1 s _ fun vs H2 s2 rs => ⟨by rw [rs.length, sizeLine_eq]; omega, fun p hp => q _ _ (s2.trans (Same.upd hp)) (DX.newT ((t.mono s).mono s2) rs hp) (Nw.back s2 (Nw.of hp))⟩
theorem gn_listOf (t : Trk X H) (h : G X te σ H d) (hl : isSeq d = true) : GN X (tCB (fun xs H Q => ∃ p ys, xs = [V.ref p] ∧ (SqL K H p ys ∨ SqT K H p ys) ∧ ∀ l, H l = none → Q (V.ref l) (upd H l (.lst ys))) (tCons te tNil)) σ H (.list (itemsD d)) := fun H1 s Q q =>
  h H1 s _ fun v H2 s2 r => by
    cases r with
    | lst n e r => exact ⟨_, _, rfl, .inl (SqL.of e), fun l hl => q _ _ (s2.trans (Same.upd hl)) (DX.newL ((t.mono s).mono s2) r hl) (Nw.back s2 (Nw.of hl))⟩
    | tup n e r => exact ⟨_, _, rfl, .inr (SqT.of e), fun l hl => q _ _ (s2.trans (Same.upd hl)) (DX.newL ((t.mono s).mono s2) r hl) (Nw.back s2 (Nw.of hl))⟩
    | _ => exact absurd hl (by simp [isSeq])
theorem gn_cat (t : Trk X H) {xs ys : List PyData} (ha : G X ta σ H (.list xs)) (hb : G X tb σ H (.list ys)) (hl : xs.length + ys.length ≤ 1000000) : GN X (tOp rAddA ta tb) σ H (.list (xs ++ ys)) := fun H1 s Q q =>
  ha H1 s _ fun u H2 s2 ru => hb H2 (s.trans s2) _ fun v H3 s3 rv => by
    obtain ⟨a, us, rfl, _, ea, rs⟩ := (ru.mono (Kp.of s3)).lst_inv
    obtain ⟨b, ws, rfl, _, eb, rt⟩ := rv.lst_inv
    exact .inr (.inl ⟨a, b, us, ws, rfl, rfl, ea, eb, by rw [rs.length, rt.length, sizeLine_eq]; omega, fun p hp => q _ _ ((s2.trans s3).trans (Same.upd hp)) (DX.newL (((t.mono s).mono s2).mono s3) (rs.append rt) hp) (Nw.back (s2.trans s3) (Nw.of hp))⟩)
theorem gn_call2 {pre : PyData → PyData → Prop} {f : PyData → PyData → PyData} (t : Trk X H) (h1 : G X ta σ H d1) (h2 : G X tb σ H d2) (hp : pre d1 d2) : GN X (tCall (sp2N pre f) [] E (tCons ta (tCons tb tNil))) σ H (f d1 d2) := fun H1 s Q q =>
  h1 H1 s _ fun v H2 s2 r => h2 H2 (s.trans s2) _ fun v2 H3 s3 r2 => ⟨X, v, v2, d1, d2, rfl, ((t.mono s).mono s2).mono s3, r.mono (Kp.of s3), r2, hp, fun w H' s4 dw nw => q w H' ((s2.trans s3).trans s4) dw (Nw.back (s2.trans s3) nw)⟩
theorem s_retN (h : GN X te σ H d) (q : ∀ w H', Same H H' → DX X H' w d → Nw H w → D.rt w H') : tRet te D σ H := h H (Same.refl H) _ q
end
section
variable {P : Program} {w : World} {K : PySem.W.Frag} {mg : Str → Option Value} {base : Heap} {x qual : Str} {st : Stmt} {f : Addr} {fd : FuncData} {N : List Str} {k : Nat} {a b c : Str}
theorem ok2N {pre : PyData → PyData → Prop} {g : PyData → PyData → PyData} (F : Fun K x qual st f fd) (S : FnScope N [a, b] (defScope st)) (hN : 2 ≤ N.length)
    (hbody : ∀ (cdv : Value) (A : Around) (outer : List Env) (s : Shared) (H : Hp) (E : XK) (X : Addr → Prop) (d1 d2 : PyData) (Q : VK), Room k (A.deeper (envOfC qual (defScope st) s.heap.objs.size f cdv)) → Trk X H → pre d1 d2 → (∀ w H', Same H H' → DX X H' w (g d1 d2) → Nw H w → Q w H') →
      ∃ t, PSs (cxOf CX0 P w K mg base N qual (defScope st) f cdv A outer s H E).nox (defBody st) t ∧ ∀ σ, EnvOk X H σ (pad N [.dat d1, .dat d2]) → t { nx := fun _ H' => Q .non H', rt := Q } σ H) : FnOk P w K mg base CX0 (k + 1) f fd [a, b] (sp2N pre g) := by
  refine F.ok S (fun vs H Q E h => ?_) (fun cdv A outer s H vs Q E hr h => ?_)
  · obtain ⟨X, v1, v2, d1, d2, rfl, _⟩ := h
    rfl
  · obtain ⟨X, v1, v2, d1, d2, rfl, t, r1, r2, hp, q⟩ := h
    obtain ⟨tt, h1, h2⟩ := hbody cdv A outer s H E X d1 d2 Q hr t hp q
    exact ⟨tt, h1, h2 _ (env2 r1 r2 hN)⟩
end
/-! ### a new list is no part of itself -/
mutual
theorem DX.fn {X X' : Addr → Prop} {H : Hp} : ∀ {v : V} {d d' : PyData}, DX X H v d → DX X' H v d' → d = d'
  | _, _, _, .non, k => by cases k; rfl
  | _, _, _, .bl b, k => by cases k; rfl
  | _, _, _, .int i, k => by cases k; rfl
  | _, _, _, .str x, k => by cases k; rfl
  | _, _, _, .lst n e r, k => by
    cases k with
    | lst n2 e2 r2 =>
      rw [e] at e2
      cases e2
      rw [DXs.fn r r2]
    | tup n2 e2 r2 => rw [e] at e2; cases e2
    | dic n2 e2 r2 => rw [e] at e2; cases e2
  | _, _, _, .tup n e r, k => by
    cases k with
    | tup n2 e2 r2 =>
      rw [e] at e2
      cases e2
      rw [DXs.fn r r2]
    | lst n2 e2 r2 => rw [e] at e2; cases e2
    | dic n2 e2 r2 => rw [e] at e2; cases e2
  | _, _, _, .dic n e r, k => by
    cases k with
    | dic n2 e2 r2 =>
      rw [e] at e2
      cases e2
      rw [DXk.fn r r2]
    | lst n2 e2 r2 => rw [e] at e2; cases e2
    | tup n2 e2 r2 => rw [e] at e2; cases e2
theorem DXs.fn {X X' : Addr → Prop} {H : Hp} : ∀ {v : List V} {d d' : List PyData}, DXs X H v d → DXs X' H v d' → d = d'
  | _, _, _, .nil, k => by cases k; rfl
  | _, _, _, .cons h r, k => by
    cases k with
    | cons h2 r2 => rw [DX.fn h h2, DXs.fn r r2]
theorem DXk.fn {X X' : Addr → Prop} {H : Hp} : ∀ {v : List (Key × V)} {d d' : List (PyData × PyData)}, DXk X H v d → DXk X' H v d' → d = d'
  | _, _, _, .nil, k => by cases k; rfl
  | _, _, _, .cons h r, k => by
    cases k with
    | cons h2 r2 => rw [DX.fn h h2, DXk.fn r r2]
end
mutual
theorem DX.apart {X : Addr → Prop} {H : Hp} {a : Addr} {D : PyData} (hD : DX X H (.ref a) D) : ∀ {v : V} {d : PyData}, DX X H v d → sizeOf d < sizeOf D → DX (fun b => X b ∨ b = a) H v d
  | _, _, .non, _ => .non
  | _, _, .bl b, _ => .bl b
  | _, _, .int i, _ => .int i
  | _, _, .str x, _ => .str x
  | .ref b, .list ds, .lst n e r, hs => by
    refine .lst (fun x => x.elim n fun q => ?_) e (DXs.apart hD r (by simp at hs; omega))
    subst q
    have e2 := hD.fn (X' := X) (DX.lst n e r)
    rw [e2] at hs
    omega
  | .ref b, .tuple ds, .tup n e r, hs => by
    refine .tup (fun x => x.elim n fun q => ?_) e (DXs.apart hD r (by simp at hs; omega))
    subst q
    have e2 := hD.fn (X' := X) (DX.tup n e r)
    rw [e2] at hs
    omega
  | .ref b, .dict ds, .dic n e r, hs => by
    refine .dic (fun x => x.elim n fun q => ?_) e (DXk.apart hD r (by simp at hs; omega))
    subst q
    have e2 := hD.fn (X' := X) (DX.dic n e r)
    rw [e2] at hs
    omega
theorem DXs.apart {X : Addr → Prop} {H : Hp} {a : Addr} {D : PyData} (hD : DX X H (.ref a) D) : ∀ {v : List V} {d : List PyData}, DXs X H v d → sizeOf d < sizeOf D → DXs (fun b => X b ∨ b = a) H v d
  | _, _, .nil, _ => .nil
  | _, _, .cons h r, hs => .cons (DX.apart hD h (by simp at hs; omega)) (DXs.apart hD r (by simp at hs; omega))
theorem DXk.apart {X : Addr → Prop} {H : Hp} {a : Addr} {D : PyData} (hD : DX X H (.ref a) D) : ∀ {v : List (Key × V)} {d : List (PyData × PyData)}, DXk X H v d → sizeOf d < sizeOf D → DXk (fun b => X b ∨ b = a) H v d
  | _, _, .nil, _ => .nil
  | _, _, .cons h r, hs => .cons (DX.apart hD h (by simp at hs; omega)) (DXk.apart hD r (by simp at hs; omega))
end
/-- the items of a list, apart from the list itself -/
theorem DX.inner {X : Addr → Prop} {H : Hp} {v : V} {ds : List PyData} (h : DX X H v (.list ds)) : ∃ a xs, v = .ref a ∧ ¬ X a ∧ H a = some (.lst xs) ∧ DXs (fun b => X b ∨ b = a) H xs ds := by
  cases h with
  | lst n e r => exact ⟨_, _, rfl, n, e, DXs.apart (DX.lst n e r) r (by simp)⟩
end KD

namespace K82
open PySem PySem.Spec PyProof.Rows L2 KD
def topS (i : Nat) : Stmt := PySem.Challenge.pw_patchlots_k82_search_refused.main.body.getD i (.Pass ⟨0, 0, 0, 0⟩)
variable {P : Program} {w : World} {K : PySem.W.Frag} {mg : Str → Option Value} {base : Heap}

abbrev s_is_list : Stmt := topS 9
abbrev n_is_list : List Str := ["thing"]
theorem sc_is_list : FnScope n_is_list ["thing"] (defScope s_is_list) := ⟨rfl, rfl, rfl, by decide +kernel, rfl, by decide +kernel, by decide +kernel⟩
theorem ok_is_list {f : Addr} {fd : FuncData} (F : Fun K "is_list" "is_list" s_is_list f fd) (T : Bl mg) : FnOk P w K mg base CX0 1 f fd ["thing"] (sp1 (fun _ => True) fun d => .bool (isSeq d)) := by
  refine ok1 F sc_is_list (by decide) fun cdv A outer s H E X d Q hr t _ q => ⟨_, (pss_one (ps_ret (pe_callB call_isiT (by rfl) T.b_isinstance boot_isinstance (pa_cons (pv 0) (pa_cons (pe_tup (pa_cons (pe_bltn (v := .ty "list") (by rfl) T.b_list boot_list rfl) (pa_cons (pe_bltn (v := .ty "tuple") (by rfl) T.b_tuple boot_tuple rfl) pa_nil))) pa_nil))))), fun σ En => ?_⟩
  exact s_ret (g_isSeq (g_var En rfl)) q

abbrev s_is_integer : Stmt := topS 10
abbrev n_is_integer : List Str := ["thing"]
theorem sc_is_integer : FnScope n_is_integer ["thing"] (defScope s_is_integer) := ⟨rfl, rfl, rfl, by decide +kernel, rfl, by decide +kernel, by decide +kernel⟩
def isIntD (d : PyData) : Bool := isa_int d && !isa_bool d
theorem ok_is_integer {f : Addr} {fd : FuncData} (F : Fun K "is_integer" "is_integer" s_is_integer f fd) (T : Bl mg) : FnOk P w K mg base CX0 1 f fd ["thing"] (sp1 (fun _ => True) fun d => .bool (isIntD d)) := by
  refine ok1 F sc_is_integer (by decide) fun cdv A outer s H E X d Q hr t _ q => ⟨_, (pss_one (ps_ret (pe_and (pe_callB call_isi (by rfl) T.b_isinstance boot_isinstance (pa_cons (pv 0) (pa_cons (pe_bltn (v := .ty "int") (by rfl) T.b_int boot_int rfl) pa_nil))) (pe_one (pe_not (pe_callB call_isi (by rfl) T.b_isinstance boot_isinstance (pa_cons (pv 0) (pa_cons (pe_bltn (v := .ty "bool") (by rfl) T.b_bool boot_bool rfl) pa_nil)))))))), fun σ En => ?_⟩
  exact s_ret (g_and (g_isInt (g_var En rfl)) fun _ => g_not (g_isBool (g_var En rfl))) q

abbrev s_is_number : Stmt := topS 11
abbrev n_is_number : List Str := ["thing"]
theorem sc_is_number : FnScope n_is_number ["thing"] (defScope s_is_number) := ⟨rfl, rfl, rfl, by decide +kernel, rfl, by decide +kernel, by decide +kernel⟩
def isNumD : PyData → Bool
  | .int i => decide (0 ≤ i)
  | _ => false
theorem isIntD_int {d : PyData} (h : isIntD d = true) : ∃ i, d = .int i := by
  cases d <;> simp [isIntD, isa_int, isa_bool] at h ⊢
theorem isNumD_eq (d : PyData) : (∃ i, d = .int i ∧ isIntD d = true ∧ isNumD d = decide (0 ≤ i)) ∨ (isIntD d = false ∧ isNumD d = false) := by
  cases d <;> simp [isIntD, isa_int, isa_bool, isNumD]
theorem ok_is_number {f : Addr} {fd : FuncData} (F : Fun K "is_number" "is_number" s_is_number f fd) (T : Bl mg) (O_is_integer : Own P w K mg base CX0 1 "is_integer" ["thing"] (sp1 (fun _ => True) fun d => .bool (isIntD d))) : FnOk P w K mg base CX0 2 f fd ["thing"] (sp1 (fun _ => True) fun d => .bool (isNumD d)) := by
  refine ok1 F sc_is_number (by decide) fun cdv A outer s H E X d Q hr t _ q => ⟨_, (pss_one (ps_ret (pe_and (pe_own O_is_integer hr (by decide) (by rfl) (pa_cons (pv 0) pa_nil)) (pe_one (pe_cmpR op_ge (pv 0) pe_int (nomark _)))))), fun σ En => ?_⟩
  refine s_ret ?_ q
  rcases isNumD_eq d with ⟨i, rfl, h1, h2⟩ | ⟨h1, h2⟩
  · rw [h2]
    refine g_is (g_and (a := true) (b := decide (0 ≤ i)) (g_is (g_call1 t (g_var En rfl) trivial) (by rw [h1])) fun _ => ?_) rfl
    exact g_op t (g_var En rfl) g_int rb_I0.rd
  · rw [h2]
    exact g_and (a := false) (b := false) (g_is (g_call1 t (g_var En rfl) trivial) (by rw [h1])) fun z => absurd z (by decide)

-- HINT is_words in op_notIn_sign
def hasFeed (s : Str) : Bool := decide (10 ∈ s.cps.toList)
def isWordsD : PyData → Bool
  | .str s => decide (s.length ≤ 200) && !hasFeed s
  | _ => false
theorem rb_notInSign {X : Addr → Prop} {c : Nat} {s : Str} : RB X (fun x y H Q => ∃ (c : Nat) (z : Str), x = V.str ⟨#[c]⟩ ∧ y = V.str z ∧ Q (V.bl (!decide (c ∈ z.cps.toList))) H) (.str ⟨#[c]⟩) (.str s) (!decide (c ∈ s.cps.toList)) := fun H u v _ ru rv Q q => ⟨c, s, ru.str_inv, rv.str_inv, q⟩
def wordsPre : PyData → Prop
  | .str s => s.length ≤ 1000000
  | _ => True
abbrev s_first_false : Stmt := topS 15
abbrev n_first_false : List Str := ["tests", "index", "test"]
theorem sc_first_false : FnScope n_first_false ["tests"] (defScope s_first_false) := ⟨rfl, rfl, rfl, by decide +kernel, rfl, by decide +kernel, by decide +kernel⟩
def ffD : Nat → List PyData → PyData
  | _, [] => .none
  | i, .bool false :: _ => .int (i : Nat)
  | i, _ :: r => ffD (i + 1) r
def Bools (d : PyData) : Prop := ∃ bs : List Bool, d = .list (bs.map .bool) ∧ bs.length ≤ 100000
theorem ff_true (i : Nat) (r : List PyData) : ffD i (.bool true :: r) = ffD (i + 1) r := by simp [ffD]
theorem ok_first_false {f : Addr} {fd : FuncData} (F : Fun K "first_false" "first_false" s_first_false f fd) (T : Bl mg) : FnOk P w K mg base CX0 1 f fd ["tests"] (sp1 Bools fun d => ffD 0 (itemsD d)) := by
  refine ok1 F sc_first_false (by decide) fun cdv A outer s H E X d Q hr t hp q => ⟨_, (pss_cons (ps_for PassesOwn.never rfl (pi_enum (by rfl) T.b_enumerate (pa_cons (pv 0) pa_nil)) (pg_tup (n := 2) rfl (pgs_cons (pg_name (i := 1) sc_first_false.nd rfl (by first | exact Or.inl rfl | exact Or.inr rfl)) (pgs_cons (pg_name (i := 2) sc_first_false.nd rfl (by first | exact Or.inl rfl | exact Or.inr rfl)) pgs_nil)))
    (pss_one (ps_if (pt_not (pt_val (pv 2)))
    (pss_one (ps_ret (pv 1))) pss_nil)))
    (pss_one (ps_ret pe_non))), fun σ En => ?_⟩
  obtain ⟨bs, rfl, hl⟩ := hp
  have q : ∀ w H', Same H H' → DX X H' w (ffD 0 (bs.map PyData.bool)) → Q w H' := q
  refine s_forD (gi_enum (g_var En rfl)) (fun Hb i σ' H' => Same Hb H' ∧ Trk X H' ∧ EnvOk X H' σ' [.dat (.list (bs.map .bool)), .un, .un] ∧ ffD 0 (bs.map PyData.bool) = ffD i ((bs.drop i).map PyData.bool)) (fun Hb s => ⟨Same.refl _, t.mono s, En.same s, rfl⟩) (fun Hb i σ' H' p => ⟨Kp.of p.1, p.2.1⟩) ?_ ?_
  · rintro Hb i x d σ' H' H'' sb hd ⟨p1, p2, p3, p4⟩ s2 dx
    have hi : i < bs.length := by
      have := (List.getElem?_eq_some_iff.mp hd).1
      rw [enumD_len, List.length_map] at this
      exact this
    have hb : (bs.map PyData.bool)[i]? = some (.bool bs[i]) := by rw [List.getElem?_map, List.getElem?_eq_getElem hi]; rfl
    rw [enumD_get hb] at hd
    cases hd
    have edrop : bs.drop i = bs[i] :: bs.drop (i + 1) := List.drop_eq_getElem_cons hi
    refine g_pair dx fun u w h1 h2 => ?_
    have E2 := ((p3.same s2).set (i := 1) h1).set (i := 2) h2
    refine s_if (gt_not (gt_B (g_var E2 rfl))) (fun hb H1 s3 => ?_) (fun hb H1 s3 => ?_)
    · have e : bs[i] = false := by simpa using hb
      refine s_ret (g_var (E2.same s3) rfl) fun w H2 s4 dw => q w H2 ((((sb.trans p1).trans s2).trans s3).trans s4) ?_
      rw [p4, edrop, e]
      exact dw
    · have e : bs[i] = true := by simpa using hb
      refine ⟨(p1.trans s2).trans s3, (p2.mono s2).mono s3, ?_, ?_⟩
      · have E3 := (E2.same s3)
        exact ⟨E3.len, fun j sv e => by
          match j, e with
          | 0, e => exact E3.get 0 _ e
          | 1, e => cases e; trivial
          | 2, e => cases e; trivial⟩
      · rw [p4, edrop, e]
        exact ff_true i _
  · rintro Hb σ' H' sb ⟨p1, p2, p3, p4⟩
    rw [enumD_len, List.length_map, List.drop_length] at p4
    refine s_ret (σ := σ') (X := X) (D := { nx := fun _ H' => Q .non H', rt := Q }) g_non fun w H2 s4 dw => q w H2 ((sb.trans p1).trans s4) ?_
    rw [p4]
    exact dw

def wordsAll (d : PyData) : Prop := isSeq d = true → (itemsD d).length ≤ 100000 ∧ ∀ z ∈ itemsD d, wordsPre z
def wrongD (d : PyData) : PyData := if isSeq d then ffD 0 ((itemsD d).map fun z => .bool (isWordsD z)) else .int 0
-- HINT wrong_words it pi_seq
def it (d : PyData) (i : Nat) : PyData := (itemsD d).getD i .none
def ch3 (d : PyData) : Bool := isSeq d && (decide ((itemsD d).length = 3) && isNumD (it d 0))
def isChangeD (d : PyData) : Bool := ch3 d && (isNone (wrongD (it d 1)) && isNone (wrongD (it d 2))) && decide (0 < lenD (it d 1) + lenD (it d 2))
def chPre (d : PyData) : Prop := isSeq d = true → (itemsD d).length ≤ 100000 ∧ ∀ z ∈ itemsD d, wordsAll z
theorem lenD_seq {d : PyData} (h : isSeq d = true) : lenD d = (itemsD d).length := by cases d <;> first | rfl | cases h
theorem hasLen_seq {d : PyData} (h : isSeq d = true) : hasLen d = true := by cases d <;> first | rfl | cases h
theorem wrong_seq {d : PyData} (h : isNone (wrongD d) = true) : isSeq d = true := by
  cases e : isSeq d with
  | true => rfl
  | false =>
    unfold wrongD at h
    rw [e] at h
    simp [isNone] at h
theorem it_at {d : PyData} {i : Nat} {k : Int} (hk : k = (i : Int)) (h : i < (itemsD d).length) : atI (itemsD d) k = some (it d i) := by
  subst hk
  refine atI_nat ?_
  unfold it
  rw [List.getElem?_eq_getElem h, List.getD_eq_getElem?_getD, List.getElem?_eq_getElem h]
  rfl
theorem it_mem {d : PyData} {i : Nat} (h : i < (itemsD d).length) : it d i ∈ itemsD d := by
  unfold it
  rw [List.getD_eq_getElem?_getD, List.getElem?_eq_getElem h]
  exact List.getElem_mem h
theorem eqv_int (i j : Int) : PyData.eqv (.int i) (.int j) = decide (i = j) := by
  simp only [PyData.eqv]
  by_cases h : i = j
  · subst h; simp
  · rw [decide_eq_false h]; simpa using h
theorem gt_neI {X : Addr → Prop} {ta tb : TE} {σ : L2.St} {H : Hp} {K : PySem.W.Frag} {i j : Int} (t : Trk X H) (ha : G X ta σ H (.int i)) (hb : G X tb σ H (.int j)) : GT (tTest (tOp (rNeD K) ta tb)) σ H (!decide (i = j)) := by
  rw [← eqv_int]
  exact gt_neD t ha hb rfl rfl (shaped_int i) (shaped_int j)
theorem gt_eqI {X : Addr → Prop} {ta tb : TE} {σ : L2.St} {H : Hp} {K : PySem.W.Frag} {i j : Int} (t : Trk X H) (ha : G X ta σ H (.int i)) (hb : G X tb σ H (.int j)) : GT (tTest (tOp (rEqD K) ta tb)) σ H (decide (i = j)) := by
  rw [← eqv_int]
  exact gt_eqD t ha hb rfl rfl (shaped_int i) (shaped_int j)
def wsD (ws : List Str) : PyData := .list (ws.map .str)
def chD (p : Int) (os ns : List Str) : PyData := .tuple [.int p, wsD os, wsD ns]
def WsOk (ws : List Str) : Prop := ws.length ≤ 1000 ∧ ∀ z ∈ ws, PyData.strOk z = true
theorem sIx_nn {n d : Nat} {p : Int} (h : 0 ≤ p) : HT.sIx n d (some p) = min p.toNat n := by
  show (if p < 0 then (p + (n : Int)).toNat else min p.toNat n) = min p.toNat n
  rw [if_neg (by omega)]
theorem cutD_map (ws : List Str) (lo hi : Option Int) : cutPD (ws.map PyData.str) lo hi = ((ws.drop (HT.sIx ws.length 0 lo)).take (HT.sIx ws.length ws.length hi - HT.sIx ws.length 0 lo)).map PyData.str := by
  unfold cutPD
  rw [List.length_map, List.map_take, List.map_drop]
theorem cut_lo (ws : List Str) {p q : Int} (hp : 0 ≤ p) (hq : p ≤ q) : cutPD (ws.map PyData.str) (some p) (some q) = ((ws.drop p.toNat).take (q.toNat - p.toNat)).map PyData.str := by
  rw [cutD_map, sIx_nn hp, sIx_nn (by omega)]
  congr 1
  by_cases h : p.toNat ≤ ws.length
  · rw [Nat.min_eq_left h]
    apply List.ext_getElem?
    intro n
    simp only [List.getElem?_take, List.getElem?_drop]
    by_cases hn : n < q.toNat - p.toNat
    · rw [if_pos hn]
      split
      · rfl
      · exact (List.getElem?_eq_none (by omega)).symm
    · rw [if_neg hn, if_neg (by omega)]
  · rw [List.drop_eq_nil_of_le (by omega), List.drop_eq_nil_of_le (by omega), List.take_nil, List.take_nil]
theorem cut_hi (ws : List Str) {q : Int} (hq : 0 ≤ q) : cutPD (ws.map PyData.str) none (some q) = (ws.take q.toNat).map PyData.str := by
  rw [cutD_map, sIx_nn hq, HT.sIx_none, List.drop_zero, Nat.sub_zero]
  congr 1
  by_cases h : q.toNat ≤ ws.length
  · rw [Nat.min_eq_left h]
  · rw [Nat.min_eq_right (by omega), List.take_of_length_le (Nat.le_refl _), List.take_of_length_le (by omega)]
theorem cut_from (ws : List Str) {p : Int} (hp : 0 ≤ p) : cutPD (ws.map PyData.str) (some p) none = (ws.drop p.toNat).map PyData.str := by
  rw [cutD_map, sIx_nn hp, HT.sIx_none]
  congr 1
  by_cases h : p.toNat ≤ ws.length
  · rw [Nat.min_eq_left h, List.take_of_length_le (by rw [List.length_drop]; omega)]
  · rw [Nat.min_eq_right (by omega), List.drop_eq_nil_of_le (Nat.le_refl _), List.drop_eq_nil_of_le (by omega), List.take_nil]
theorem sl_from {X : Addr → Prop} {te ta : TE} {σ : L2.St} {H : Hp} {ws : List Str} {p : Int} (t : Trk X H) (h : G X te σ H (wsD ws)) (ha : G X ta σ H (.int p)) (hp : 0 ≤ p) : G X (tSl (rSlL K) te (tPart ta) tNoPart) σ H (wsD (ws.drop p.toNat)) := by
  refine g_is (g_sl t h (go_some ha) go_none) ?_
  rw [cut_from _ hp]
  rfl
theorem sl_to {X : Addr → Prop} {te ta : TE} {σ : L2.St} {H : Hp} {ws : List Str} {p : Int} (t : Trk X H) (h : G X te σ H (wsD ws)) (ha : G X ta σ H (.int p)) (hp : 0 ≤ p) : G X (tSl (rSlL K) te tNoPart (tPart ta)) σ H (wsD (ws.take p.toNat)) := by
  refine g_is (g_sl t h go_none (go_some ha)) ?_
  rw [cut_hi _ hp]
  rfl
theorem sl_mid {X : Addr → Prop} {te ta tb : TE} {σ : L2.St} {H : Hp} {ws : List Str} {p q : Int} (t : Trk X H) (h : G X te σ H (wsD ws)) (ha : G X ta σ H (.int p)) (hb : G X tb σ H (.int q)) (hp : 0 ≤ p) (hq : p ≤ q) : G X (tSl (rSlL K) te (tPart ta) (tPart tb)) σ H (wsD ((ws.drop p.toNat).take (q.toNat - p.toNat))) := by
  refine g_is (g_sl t h (go_some ha) (go_some hb)) ?_
  rw [cut_lo _ hp hq]
  rfl
theorem len_ws {X : Addr → Prop} {te : TE} {σ : L2.St} {H : Hp} {ws : List Str} (t : Trk X H) (h : G X te σ H (wsD ws)) : G X (tCB (fun xs H Q => ∃ x n, xs = [x] ∧ LenV K x H n ∧ Q (V.int n) H) (tCons te tNil)) σ H (.int (ws.length : Int)) := by
  refine g_is (g_len t h rfl) ?_
  show PyData.int (((ws.map PyData.str).length : Nat) : Int) = _
  rw [List.length_map]
theorem cat_ws {X : Addr → Prop} {ta tb : TE} {σ : L2.St} {H : Hp} {ws zs : List Str} (t : Trk X H) (ha : G X ta σ H (wsD ws)) (hb : G X tb σ H (wsD zs)) (hl : ws.length + zs.length ≤ 1000000) : G X (tOp rAddA ta tb) σ H (wsD (ws ++ zs)) := by
  refine g_is (g_cat t ha hb (by rw [List.length_map, List.length_map]; exact hl)) ?_
  rw [← List.map_append]
  rfl
theorem catn_ws {X : Addr → Prop} {ta tb : TE} {σ : L2.St} {H : Hp} {ws zs : List Str} (t : Trk X H) (ha : G X ta σ H (wsD ws)) (hb : G X tb σ H (wsD zs)) (hl : ws.length + zs.length ≤ 1000000) : GN X (tOp rAddA ta tb) σ H (wsD (ws ++ zs)) := by
  refine GN.is (gn_cat t ha hb (by rw [List.length_map, List.length_map]; exact hl)) ?_
  rw [← List.map_append]
  rfl
theorem WsOk.take {ws : List Str} (h : WsOk ws) (n : Nat) : WsOk (ws.take n) := ⟨by rw [List.length_take]; have := h.1; omega, fun z hz => h.2 z (List.mem_of_mem_take hz)⟩
theorem WsOk.drop {ws : List Str} (h : WsOk ws) (n : Nat) : WsOk (ws.drop n) := ⟨by rw [List.length_drop]; have := h.1; omega, fun z hz => h.2 z (List.mem_of_mem_drop hz)⟩

def fitsB (ws : List Str) (p : Int) (os : List Str) : Bool := decide (p ≤ ws.length) && decide ((ws.drop p.toNat).take os.length = os)
/-- a text and a told change -/
def TC (a b : PyData) : Prop := ∃ ws p os ns, a = wsD ws ∧ b = chD p os ns ∧ WsOk ws ∧ WsOk os ∧ WsOk ns ∧ 0 ≤ p
def wsOf (d : PyData) : List Str := (itemsD d).map fun z => match z with | .str s => s | _ => default
theorem wsOf_wsD (ws : List Str) : wsOf (wsD ws) = ws := by
  show (ws.map PyData.str).map _ = ws
  rw [List.map_map]
  exact (List.map_congr_left fun _ _ => rfl).trans (List.map_id ws)
def intOf : PyData → Int
  | .int i => i
  | _ => 0
end K82

namespace KD
open PySem PySem.Spec PyProof.Rows L2
/-! ### own errors with one field -/
def spInit (C : Addr) (f : Str) : Sp := fun vs H Q _ => ∃ (a : Addr) (y : V), vs = [.ref a, y] ∧ H a = some (exo a C none) ∧ ∀ d, H d = none → d ≠ a → Q .non (upd (upd H d (exd d [(f, y)])) a (exo a C (some d)))
structure Ec (P : Program) (w : World) (K : PySem.W.Frag) (mg : Str → Option Value) (base : Heap) (x f : Str) (C : Addr) : Prop where
  gC : mg x = some (.ref C)
  T : OexC K C
  xf : XfC K C
  noF : PySem.W.findIn K (.ref C) f = some none
  ini : ∃ (fI : Addr) (fd : FuncData), PySem.W.findIn K (.ref C) "__init__" = some (some (.ref fI)) ∧ PySem.W.typeIn K (.ref fI) = some (.type "function") ∧ FnOk P w K mg base CX0 1 fI fd ["self", f] (spInit C f) ∧ Binds K fd ["self", f] []
section
variable {P : Program} {w : World} {K : PySem.W.Frag} {mg : Str → Option Value} {base : Heap} {C : Addr} {x f qual : Str} {st : Stmt} {fI : Addr} {fd : FuncData}
theorem ok_initF (F : Fun K "__init__" qual st fI fd) (S : FnScope [("self" : Str), f] [("self" : Str), f] (defScope st)) (T : OexC K C) (hno : PySem.W.findIn K (.ref C) f = some none) {p1 p2 p3 p4 : Pos}
    (hb : defBody st = [.Assign [.Attribute (.Name ("self" : Str) p1) f p2] (.Name f p3) p4]) (v0 : (defScope st).names.lookup ("self" : Str) = some .local) (v1 : (defScope st).names.lookup f = some .local) (hd : (f == ("__debug__" : Str)) = false) (hcd : (f == ("__classdict__" : Str)) = false)
    (hs : ∀ env : Env, swapsWith (.Name f p3) (some (.Attribute (.Name ("self" : Str) p1) f p2)) p4.line env = pure false) : FnOk P w K mg base CX0 1 fI fd ["self", f] (spInit C f) := by
  refine F.ok S (fun vs H Q E h => ?_) (fun cdv A outer s H vs Q E hr h => ?_)
  · obtain ⟨a, y, rfl, _⟩ := h
    rfl
  · obtain ⟨a, y, rfl, ha, k⟩ := h
    refine ⟨_, by
      rw [hb]
      exact pss_one (ps_ost (pe_var (i := 0) rfl (.inl v0) (by decide) (by decide)) (pe_var (i := 1) rfl (.inl v1) hd hcd) (hs _)), ?_⟩
    exact ⟨y, rfl, .ref a, rfl, a, C, rfl, T, hno, .inl ⟨ha, fun d hd hne => k d hd hne⟩⟩
end
inductive Out where
  | val (d : PyData) | err (C : Addr) (f : Str) (d : PyData)
def EndQ (X : Addr → Prop) (H : Hp) (o : Out) (Q : VK) (E : XK) : Prop := (∀ r, o = .val r → ∀ w H', Same H H' → DX X H' w r → Nw H w → Q w H') ∧ (∀ C fl r, o = .err C fl r → ∀ a w H', Same H H' → H' a = some (.xd [(fl, w)]) → DX X H' w r → E (.ref C) (some a) H')
theorem EndQ.mono {X : Addr → Prop} {H H1 : Hp} {o : Out} {Q : VK} {E : XK} (s : Same H H1) (h : EndQ X H o Q E) : EndQ X H1 o Q E := ⟨fun r e w H' k dw nw => h.1 r e w H' (s.trans k) dw (Nw.back s nw), fun C fl r e a w H' k => h.2 C fl r e a w H' (s.trans k)⟩
def spX1 (pre : PyData → Prop) (f : PyData → Out) : Sp := fun vs H Q E => ∃ (X : Addr → Prop) (v : V) (d : PyData), vs = [v] ∧ Trk X H ∧ DX X H v d ∧ pre d ∧ EndQ X H (f d) Q E
def spX2 (pre : PyData → PyData → Prop) (f : PyData → PyData → Out) : Sp := fun vs H Q E => ∃ (X : Addr → Prop) (v1 v2 : V) (d1 d2 : PyData), vs = [v1, v2] ∧ Trk X H ∧ DX X H v1 d1 ∧ DX X H v2 d2 ∧ pre d1 d2 ∧ EndQ X H (f d1 d2) Q E
section
variable {X : Addr → Prop} {σ : L2.St} {H : Hp} {ta tb : TE} {d d1 d2 : PyData} {E : XK} {Γ : List Sv} {D : Ends} {tz : TS}
/-- the reading of «raise C(e)» -/
theorem mk_err {C : Addr} {f : Str} (h : G X ta σ H d) (q : ∀ a w H', Same H H' → H' a = some (.xd [(f, w)]) → DX X H' w d → E (.ref C) (some a) H') : tMkO C (spInit C f) [] (tCons ta tNil) σ H E :=
  h H (Same.refl H) _ fun v H1 s r => ⟨by show 1 ≤ 1000; decide, fun a ha => ⟨a, v, rfl, upd_same, fun dd hd hne => by
    have hd1 : H1 dd = none := by rw [upd_ne hne] at hd; exact hd
    refine ⟨rfl, dd, _, upd_same, by rw [upd_ne hne, upd_same], hd1, q dd v _ (fun b o e => ?_) upd_same (r.mono (Kp.of ?_))⟩
    · have e1 := s b o e
      have hb : b ≠ a := ne_of_none e1 ha
      rw [upd_ne (ne_of_none e1 hd1)]
      show (if b = a then none else _) = some o
      rw [if_neg hb, upd_ne hb, upd_ne (ne_of_none e1 hd1), upd_ne hb]
      exact e1
    · intro b o e1
      have hb : b ≠ a := ne_of_none e1 ha
      rw [upd_ne (ne_of_none e1 hd1)]
      show (if b = a then none else _) = some o
      rw [if_neg hb, upd_ne hb, upd_ne (ne_of_none e1 hd1), upd_ne hb]
      exact e1⟩⟩
/-- a call that may raise -/
theorem c_X1 {pre : PyData → Prop} {f : PyData → Out} {Q : VK} (t : Trk X H) (h : G X ta σ H d) (hp : pre d) (q : EndQ X H (f d) Q E) : tCall (spX1 pre f) [] E (tCons ta tNil) σ H Q :=
  h H (Same.refl H) _ fun v H1 s r => ⟨X, v, d, rfl, t.mono s, r, hp, q.mono s⟩
theorem c_X2 {pre : PyData → PyData → Prop} {f : PyData → PyData → Out} {Q : VK} (t : Trk X H) (h1 : G X ta σ H d1) (h2 : G X tb σ H d2) (hp : pre d1 d2) (q : EndQ X H (f d1 d2) Q E) : tCall (spX2 pre f) [] E (tCons ta (tCons tb tNil)) σ H Q :=
  h1 H (Same.refl H) _ fun v H1 s r => h2 H1 s _ fun v2 H2 s2 r2 => ⟨X, v, v2, d1, d2, rfl, (t.mono s).mono s2, r.mono (Kp.of s2), r2, hp, q.mono (s.trans s2)⟩
theorem q_setX1 {i : Nat} {pre : PyData → Prop} {f : PyData → Out} (En : EnvOk X H σ Γ) (t : Trk X H) (h : G X ta σ H d) (hp : pre d) (k : ∀ r, f d = .val r → ∀ H1 v, Same H H1 → EnvOk X H1 (σ.set i (some v)) (Γ.set i (.dat r)) → tz D (σ.set i (some v)) H1)
    (ke : ∀ C fl r, f d = .err C fl r → ∀ a w H', Same H H' → H' a = some (.xd [(fl, w)]) → DX X H' w r → E (.ref C) (some a) H') : tSeq (tAsg (tCall (spX1 pre f) [] E (tCons ta tNil)) (gName i)) tz D σ H :=
  c_X1 t h hp ⟨fun r e v H1 s dv _ => k r e H1 v s ((En.same s).set dv), ke⟩
theorem gn_X1 {pre : PyData → Prop} {f : PyData → Out} {r : PyData} (t : Trk X H) (h : G X ta σ H d) (hp : pre d) (e : f d = .val r) : GN X (tCall (spX1 pre f) [] E (tCons ta tNil)) σ H r := fun H1 s Q q =>
  c_X1 (t.mono s) (h.mono s) hp ⟨fun r' e' w H' k dw nw => by rw [e] at e'; cases e'; exact q w H' k dw nw, fun C fl r' e' => by rw [e] at e'; cases e'⟩
theorem gn_X2 {pre : PyData → PyData → Prop} {f : PyData → PyData → Out} {r : PyData} (t : Trk X H) (h1 : G X ta σ H d1) (h2 : G X tb σ H d2) (hp : pre d1 d2) (e : f d1 d2 = .val r) : GN X (tCall (spX2 pre f) [] E (tCons ta (tCons tb tNil))) σ H r := fun H1 s Q q =>
  c_X2 (t.mono s) (h1.mono s) (h2.mono s) hp ⟨fun r' e' w H' k dw nw => by rw [e] at e'; cases e'; exact q w H' k dw nw, fun C fl r' e' => by rw [e] at e'; cases e'⟩
/-- .. of which it is known that it doesn't -/
theorem g_X1 {pre : PyData → Prop} {f : PyData → Out} {r : PyData} (t : Trk X H) (h : G X ta σ H d) (hp : pre d) (e : f d = .val r) : G X (tCall (spX1 pre f) [] E (tCons ta tNil)) σ H r := fun H1 s Q q =>
  c_X1 (t.mono s) (h.mono s) hp ⟨fun r' e' w H' k dw _ => by rw [e] at e'; cases e'; exact q w H' k dw, fun C fl r' e' => by rw [e] at e'; cases e'⟩
theorem g_X2 {pre : PyData → PyData → Prop} {f : PyData → PyData → Out} {r : PyData} (t : Trk X H) (h1 : G X ta σ H d1) (h2 : G X tb σ H d2) (hp : pre d1 d2) (e : f d1 d2 = .val r) : G X (tCall (spX2 pre f) [] E (tCons ta (tCons tb tNil))) σ H r := fun H1 s Q q =>
  c_X2 (t.mono s) (h1.mono s) (h2.mono s) hp ⟨fun r' e' w H' k dw _ => by rw [e] at e'; cases e'; exact q w H' k dw, fun C fl r' e' => by rw [e] at e'; cases e'⟩
end
section
variable {P : Program} {w : World} {K : PySem.W.Frag} {mg : Str → Option Value} {base : Heap} {x qual : Str} {st : Stmt} {f : Addr} {fd : FuncData} {N : List Str} {k : Nat} {a b c : Str}
theorem okX1 {pre : PyData → Prop} {g : PyData → Out} (F : Fun K x qual st f fd) (S : FnScope N [a] (defScope st)) (hN : 1 ≤ N.length)
    (hbody : ∀ (cdv : Value) (A : Around) (outer : List Env) (s : Shared) (H : Hp) (E : XK) (X : Addr → Prop) (d : PyData) (Q : VK), Room k (A.deeper (envOfC qual (defScope st) s.heap.objs.size f cdv)) → Trk X H → pre d → EndQ X H (g d) Q E →
      ∃ t, PSs (cxOf (L2.CX P w) P w K mg base N qual (defScope st) f cdv A outer s H E) (defBody st) t ∧ ∀ σ, EnvOk X H σ (pad N [.dat d]) → t { nx := fun _ H' => Q .non H', rt := Q } σ H) : FnOk P w K mg base (L2.CX P w) (k + 1) f fd [a] (spX1 pre g) := by
  refine F.okX S (fun vs H Q E h => ?_) (fun cdv A outer s H vs Q E hr h => ?_)
  · obtain ⟨X, v, d, rfl, _⟩ := h
    rfl
  · obtain ⟨X, v, d, rfl, t, hd, hp, q⟩ := h
    obtain ⟨tt, h1, h2⟩ := hbody cdv A outer s H E X d Q hr t hp q
    exact ⟨tt, h1, h2 _ (env1 hd hN)⟩
theorem okX2 {pre : PyData → PyData → Prop} {g : PyData → PyData → Out} (F : Fun K x qual st f fd) (S : FnScope N [a, b] (defScope st)) (hN : 2 ≤ N.length)
    (hbody : ∀ (cdv : Value) (A : Around) (outer : List Env) (s : Shared) (H : Hp) (E : XK) (X : Addr → Prop) (d1 d2 : PyData) (Q : VK), Room k (A.deeper (envOfC qual (defScope st) s.heap.objs.size f cdv)) → Trk X H → pre d1 d2 → EndQ X H (g d1 d2) Q E →
      ∃ t, PSs (cxOf (L2.CX P w) P w K mg base N qual (defScope st) f cdv A outer s H E) (defBody st) t ∧ ∀ σ, EnvOk X H σ (pad N [.dat d1, .dat d2]) → t { nx := fun _ H' => Q .non H', rt := Q } σ H) : FnOk P w K mg base (L2.CX P w) (k + 1) f fd [a, b] (spX2 pre g) := by
  refine F.okX S (fun vs H Q E h => ?_) (fun cdv A outer s H vs Q E hr h => ?_)
  · obtain ⟨X, v1, v2, d1, d2, rfl, _⟩ := h
    rfl
  · obtain ⟨X, v1, v2, d1, d2, rfl, t, r1, r2, hp, q⟩ := h
    obtain ⟨tt, h1, h2⟩ := hbody cdv A outer s H E X d1 d2 Q hr t hp q
    exact ⟨tt, h1, h2 _ (env2 r1 r2 hN)⟩
end
section
variable {X : Cx} {k j : Nat} {x f : Str} {ps : List Str} {sp : Sp} {e : Expr} {es : List Expr} {p pos pos2 : Pos} {ta : TA} {E : XK} {C : Addr}
/-- a def that may raise, called within one that lets it out -/
theorem pe_ownX (O : Own X.prog X.w X.K X.mg X.base (L2.CX X.prog X.w) k x ps sp) (hr : Room j X.A) (hk : k ≤ j) (tk : Takes X (fun cls d _ H => E cls d H)) (hg : Gl X x) (ha : PA X (e :: es) ta) (hdb : (x == ("__debug__" : Str)) = false := by decide)
    (he : starEach (e :: es) X.env = (false, eval e X.env) :: starEach es X.env := by rfl) (hpl : (backTo pos (starEach es X.env)).any (·.1) = false := by rfl) : PE X (.Call (.Name x p) (e :: es) [] pos) (tCall sp [] E ta) := by
  obtain ⟨g, fd, h1, h2, h3, h4⟩ := O.ex
  exact pe_call h4 (hr.mono hk) hg h1 h2 h3 .nil (passes_call tk fun _ _ _ _ h => h) ha hdb he hpl
/-- raise C(e) -/
theorem ps_err {W : WX} (hc : X.calm = true) (T : Ec X.prog X.w X.K X.mg X.base x f C) (hr : Room j X.A) (hk : 2 ≤ j) (tk : Takes X W) (hg : Gl X x) {ta : TE} (ha : PA X [e] (tCons ta tNil)) (hdb : (x == ("__debug__" : Str)) = false := by decide)
    (he : starEach (e :: []) X.env = (false, eval e X.env) :: starEach [] X.env := by rfl) (hpl : (backTo pos (starEach [] X.env)).any (·.1) = false := by rfl) :
    PS X (.Raise (some (.Call (.Name x p) [e] [] pos)) none pos2) (fun _ σ H => tMkO C (spInit C f) [] (tCons ta tNil) σ H fun cls d H' => W cls d σ H') := by
  obtain ⟨fI, fd, h1, h2, h3, h4⟩ := T.ini
  exact ps_raise hc tk (pmk_oex T.T h1 h2 h3 (hr.mono hk) h4 .nil (pass0) hg T.gC ha hdb he hpl)
end
end KD

namespace K82
open PySem PySem.Spec PyProof.Rows L2 KD
-- RAISES change_of checked_text made_by turned_back
variable {P : Program} {w : World} {K : PySem.W.Frag} {mg : Str → Option Value} {base : Heap}
theorem ffD_none : ∀ {ds : List PyData} {i : Nat}, isNone (ffD i (ds.map fun z => .bool (isWordsD z))) = true → ∀ z ∈ ds, isWordsD z = true
  | [], _, _, z, hz => by cases hz
  | d :: ds, i, h, z, hz => by
    cases e : isWordsD d with
    | false =>
      rw [List.map_cons, e] at h
      simp [ffD, isNone] at h
    | true =>
      rw [List.map_cons, e, ff_true] at h
      rcases List.mem_cons.mp hz with rfl | hm
      · exact e
      · exact ffD_none h z hm
theorem words_str {d : PyData} (h : isWordsD d = true) : ∃ s, d = .str s := by
  cases d <;> first | exact ⟨_, rfl⟩ | cases h
theorem ws_map : ∀ {ds : List PyData}, (∀ z ∈ ds, isWordsD z = true) → ds = (ds.map fun z => match z with | .str s => s | _ => default).map PyData.str
  | [], _ => rfl
  | d :: ds, h => by
    obtain ⟨s, rfl⟩ := words_str (h d List.mem_cons_self)
    rw [List.map_cons, List.map_cons, ← ws_map fun z hz => h z (List.mem_cons_of_mem _ hz)]
theorem ws_of {d : PyData} (h : isNone (wrongD d) = true) : PyData.list (itemsD d) = wsD (wsOf d) := by
  have hs := wrong_seq h
  unfold wrongD at h
  rw [hs] at h
  show PyData.list (itemsD d) = PyData.list ((wsOf d).map PyData.str)
  congr 1
  exact ws_map (ffD_none h)

end K82

/-! The spring of draws. -/
namespace K82
open PySem PySem.Spec PyProof.Rows L2 KD
variable {P : Program} {w : World} {K : PySem.W.Frag} {mg : Str → Option Value} {base : Heap}
/-- the spring at st, its cells at cl: b draws done -/
structure SpAt (st cl : Addr) (ms : List Int) (a b c : Int) (H : Hp) : Prop where
  hs : H st = some (.lst [.ref cl, .int a, .int b, .int c])
  hc : H cl = some (.lst (ms.map V.int))
  ne : st ≠ cl
  a0 : 0 ≤ a
  b0 : 0 ≤ b
  c0 : 0 ≤ c
  c1 : c < 2147483647
  ml : ms.length ≤ 100000
def SpOk (st cl : Addr) (n : Nat) (H : Hp) : Prop := ∃ ms a b c, SpAt st cl ms a b c H ∧ b ≤ (n : Int)
/-- all but the spring stays -/
def KpS (st cl : Addr) (H H' : Hp) : Prop := ∀ a o, a ≠ st → a ≠ cl → H a = some o → H' a = some o
theorem KpS.refl {st cl : Addr} {H : Hp} : KpS st cl H H := fun _ _ _ _ e => e
theorem KpS.trans {st cl : Addr} {H H1 H2 : Hp} (h : KpS st cl H H1) (k : KpS st cl H1 H2) : KpS st cl H H2 := fun a o n m e => k a o n m (h a o n m e)
theorem KpS.of {st cl : Addr} {H H' : Hp} (h : Same H H') : KpS st cl H H' := fun a o _ _ e => h a o e
theorem KpS.kp {X : Addr → Prop} {st cl : Addr} {H H' : Hp} (h : KpS st cl H H') (x1 : X st) (x2 : X cl) : Kp X H H' := fun a o n e => h a o (fun z => n (z ▸ x1)) (fun z => n (z ▸ x2)) e
theorem SpOk.trk {X : Addr → Prop} {st cl : Addr} {n : Nat} {H H' : Hp} (h : SpOk st cl n H') (k : KpS st cl H H') (t : Trk X H) : Trk X H' := fun a x => by
  obtain ⟨ms, a', b, c, S, _⟩ := h
  by_cases h1 : a = st
  · subst h1
    exact ⟨_, S.hs⟩
  · by_cases h2 : a = cl
    · subst h2
      exact ⟨_, S.hc⟩
    · obtain ⟨o, e⟩ := t a x
      exact ⟨o, k a o h1 h2 e⟩
theorem SpAt.same {st cl : Addr} {ms : List Int} {a b c : Int} {H H' : Hp} (S : SpAt st cl ms a b c H) (s : Same H H') : SpAt st cl ms a b c H' := ⟨s _ _ S.hs, s _ _ S.hc, S.ne, S.a0, S.b0, S.c0, S.c1, S.ml⟩
theorem SpOk.same {st cl : Addr} {n : Nat} {H H' : Hp} (h : SpOk st cl n H) (s : Same H H') : SpOk st cl n H' := by
  obtain ⟨ms, a, b, c, S, hb⟩ := h
  exact ⟨ms, a, b, c, S.same s, hb⟩
theorem SpOk.le {st cl : Addr} {n m : Nat} {H : Hp} (h : SpOk st cl n H) (hm : n ≤ m) : SpOk st cl m H := by
  obtain ⟨ms, a, b, c, S, hb⟩ := h
  exact ⟨ms, a, b, c, S, by omega⟩
theorem KpS.put {st cl p : Addr} {H : Hp} {o : HO} (h : p = st ∨ p = cl) : KpS st cl H (upd H p o) := fun a u n m e => by
  rw [upd_ne (fun z => by rcases h with h | h; exact n (z.trans h); exact m (z.trans h))]
  exact e
section
variable {σ : L2.St} {H : Hp} {i : Nat} {p st cl : Addr} {xs : List V} {v : V} {k : Int} {Q : VK} {ms : List Int} {a b c : Int}
theorem ix_at (hv : σ[i]? = some (some (.ref p))) (hp : H p = some (.lst xs)) (hx : atI xs k = some v) (q : Q v H) : tOp (rIx K) (tVar i) (tC (.int k)) σ H Q := ⟨_, hv, .inl ⟨p, xs, k, v, rfl, rfl, SqL.of hp, hx, q⟩⟩
theorem set_at {R : L2.St → Hp → Prop} {j : Nat} (hv : σ[i]? = some (some (.ref p))) (hp : H p = some (.lst xs)) (hx : ixN xs.length k = some j) (q : R σ (upd H p (.lst (xs.set j v)))) : gSub (tVar i) (tC (.int k)) rSetL v σ H R := ⟨_, hv, p, xs, k, j, rfl, rfl, hp, hx, q⟩
theorem op2 {r : R2} {ta tb : TE} (h : ta σ H fun x H1 => tb σ H1 fun y H2 => r x y H2 Q) : tOp r ta tb σ H Q := h
theorem SpAt.put1 (S : SpAt st cl ms a b c H) {z : Int} (h : 0 ≤ z) : SpAt st cl ms z b c (upd H st (.lst [.ref cl, .int z, .int b, .int c])) := ⟨upd_same, by rw [upd_ne (Ne.symm S.ne)]; exact S.hc, S.ne, h, S.b0, S.c0, S.c1, S.ml⟩
theorem SpAt.put2 (S : SpAt st cl ms a b c H) {z : Int} (h : 0 ≤ z) : SpAt st cl ms a z c (upd H st (.lst [.ref cl, .int a, .int z, .int c])) := ⟨upd_same, by rw [upd_ne (Ne.symm S.ne)]; exact S.hc, S.ne, S.a0, h, S.c0, S.c1, S.ml⟩
theorem SpAt.put3 (S : SpAt st cl ms a b c H) {z : Int} (h : 0 ≤ z) (h2 : z < 2147483647) : SpAt st cl ms a b z (upd H st (.lst [.ref cl, .int a, .int b, .int z])) := ⟨upd_same, by rw [upd_ne (Ne.symm S.ne)]; exact S.hc, S.ne, S.a0, S.b0, h, h2, S.ml⟩
theorem SpAt.pop (S : SpAt st cl ms a b c H) {m : Int} {r : List Int} (e : ms = m :: r) : SpAt st cl r a b c (upd H cl (.lst (r.map V.int))) := ⟨by rw [upd_ne S.ne]; exact S.hs, upd_same, S.ne, S.a0, S.b0, S.c0, S.c1, by have := S.ml; rw [e, List.length_cons] at this; omega⟩
end
theorem dp_ints {H : Hp} : ∀ ms : List Int, DpAll K H (ms.map V.int) (ms.map PyData.int)
  | [] => .nil
  | m :: r => .cons (.int m) (dp_ints r)
theorem canLay_ints : ∀ ms : List Int, PyData.canLayAll0 (ms.map PyData.int) = true
  | [] => by simp [PyData.canLayAll0]
  | m :: r => by simp [PyData.canLayAll0, PyData.canLay0, canLay_ints r]
theorem depth_ints : ∀ ms : List Int, PyData.depthAll (ms.map PyData.int) ≤ 1
  | [] => by simp [PyData.depthAll]
  | m :: r => by
    have := depth_ints r
    simp only [List.map_cons, PyData.depthAll, PyData.depth]
    omega
theorem shaped_ints (ms : List Int) : SeqAt.shaped (.list (ms.map PyData.int)) = true := by
  have := depth_ints ms
  have h2 : PyData.depth (.list (ms.map PyData.int)) ≤ 64 := by
    simp only [PyData.depth]
    omega
  show ((PyData.list (ms.map PyData.int)).canLay0 && decide ((PyData.list (ms.map PyData.int)).depth ≤ 64)) = true
  rw [Bool.and_eq_true]
  exact ⟨by simp only [PyData.canLay0]; exact canLay_ints ms, decide_eq_true h2⟩

abbrev s__law_start : Stmt := topS 48
abbrev n__law_start : List Str := ["_law_script"]
theorem sc__law_start : FnScope n__law_start ["_law_script"] (defScope s__law_start) := ⟨rfl, rfl, rfl, by decide +kernel, rfl, by decide +kernel, by decide +kernel⟩
def spStart (K : PySem.W.Frag) : Sp := fun vs H Q _ => ∃ (a : Addr) (ns : List Int), vs = [.ref a] ∧ SqL K H a (ns.map V.int) ∧ ns.length ≤ 63 ∧ ∀ st cl H', Same H H' → H st = none → H cl = none → SpOk st cl 0 H' → Q (.ref st) H'
theorem ok_start {f : Addr} {fd : FuncData} (F : Fun K "_law_start" "_law_start" s__law_start f fd) (T : Bl mg) : FnOk P w K mg base CX0 1 f fd ["_law_script"] (spStart K) := by
  refine F.ok sc__law_start (fun vs H Q E h => ?_) (fun cdv A outer s H vs Q E hr h => ?_)
  · obtain ⟨a, ns, rfl, _⟩ := h
    rfl
  · obtain ⟨a, ns, rfl, hS, hl, k⟩ := h
    refine ⟨_, (pss_one (ps_ret (pe_lst (pa_cons (pe_callTy call_list_of (by rfl) T.b_list boot_list (pa_cons (pv 0) pa_nil)) (pa_cons pe_int (pa_cons pe_int (pa_cons pe_int pa_nil))))))), ?_⟩
    refine ⟨_, rfl, a, _, rfl, .inl hS, fun cl hcl => ⟨by show 4 ≤ sizeLine; decide, fun st hst => ?_⟩⟩
    have hst0 : H st = none := (Same.upd hcl).free hst
    have ne : st ≠ cl := fun e => by
      rw [e, upd_same] at hst
      cases hst
    refine k st cl _ ((Same.upd hcl).trans (Same.upd hst)) hst0 hcl ⟨ns, 0, 0, 11, ⟨upd_same, by rw [upd_ne (Ne.symm ne)]; exact upd_same, ne, by omega, by omega, by omega, by omega, by omega⟩, by omega⟩

abbrev s__law_draw : Stmt := topS 49
abbrev n__law_draw : List Str := ["_law_stream", "_law_many", "_law_cell", "_law_digit", "_law_mixed_here"]
theorem sc__law_draw : FnScope n__law_draw ["_law_stream", "_law_many"] (defScope s__law_draw) := ⟨rfl, rfl, rfl, by decide +kernel, rfl, by decide +kernel, by decide +kernel⟩
def spDraw : Sp := fun vs H Q _ => ∃ (st cl : Addr) (n : Nat) (m : Int), vs = [.ref st, .int m] ∧ SpOk st cl n H ∧ n ≤ 1000000000 ∧ 0 < m ∧ m < 1000000 ∧ ∀ i H', 0 ≤ i → i < m → KpS st cl H H' → SpOk st cl (n + 1) H' → Q (.int i) H'
def lenAt (cl : Addr) (H : Hp) : Nat := match H cl with
  | some (.lst xs) => xs.length
  | _ => 0
theorem ok_draw {f : Addr} {fd : FuncData} (F : Fun K "_law_draw" "_law_draw" s__law_draw f fd) (T : Bl mg) : FnOk P w K mg base CX0 1 f fd ["_law_stream", "_law_many"] spDraw := by
  refine F.ok sc__law_draw (fun vs H Q E h => ?_) (fun cdv A outer s H vs Q E hr h => ?_)
  · obtain ⟨st, cl, n, m, rfl, _⟩ := h
    rfl
  · obtain ⟨st, cl, n, m, rfl, ⟨ms, a, b, c, S, hbn⟩, hn, hm, hm2, k⟩ := h
    refine ⟨_, (pss_cons (ps_asg (pe_op op_addA (pe_ix ix_seq (pv 0) pe_int (fun _ _ => rfl)) pe_int) (pg_sub (pv 0) pe_int set_list))
    (Evl.pss_cut (ps_while PassesOwn.never (PW.pt (pw_and (pt_cmpR (op_eqD hr.units) (pe_ix ix_seq (pv 0) pe_int (fun _ _ => rfl)) pe_int (nomark _)) (pw_and1 (pt_cmpR (op_neD hr.units) (pe_ix ix_seq (pv 0) pe_int (fun _ _ => rfl)) (pe_lst pa_nil) (nomark _)))))
    (pss_cons (ps_set (i := 2) sc__law_draw.nd rfl (by first | exact Or.inl rfl | exact Or.inr rfl) (pe_bm PySem.F.plainAttrs_list PySem.F.slot_list_pop PySem.F.type_list_pop mt_popAt (pe_ix ix_seq (pv 0) pe_int (fun _ _ => rfl)) (pa_cons pe_int pa_nil)))
    (pss_cons (ps_asg (pe_op op_mod (pe_callTy call_int1 (by rfl) T.b_int boot_int (pa_cons (pe_op op_addA (pe_op op_addA (pe_op op_mulA (pe_ix ix_seq (pv 0) pe_int (fun _ _ => rfl)) pe_int) (pv 2)) pe_int) pa_nil)) pe_int) (pg_sub (pv 0) pe_int set_list))
    (pss_one (ps_asg (pe_ifExp (pt_cmpR op_ge (pv 2) (pe_op op_pow pe_int pe_int) (nomark _)) (pv 2) pe_int) (pg_sub (pv 0) pe_int set_list))))))
    (pss_cons (ps_if (pt_cmpR op_gt (pe_ix ix_seq (pv 0) pe_int (fun _ _ => rfl)) pe_int (nomark _))
    (pss_cons (ps_set (i := 3) sc__law_draw.nd rfl (by first | exact Or.inl rfl | exact Or.inr rfl) (pe_op op_mod (pe_callTy call_int1 (by rfl) T.b_int boot_int (pa_cons (pe_ix ix_seq (pv 0) pe_int (fun _ _ => rfl)) pa_nil)) (pv 1)))
    (pss_cons (ps_asg (pe_op op_fdiv (pe_ix ix_seq (pv 0) pe_int (fun _ _ => rfl)) (pv 1)) (pg_sub (pv 0) pe_int set_list))
    (pss_one (ps_ret (pv 3))))) pss_nil)
    (pss_cons (ps_set (i := 4) sc__law_draw.nd rfl (by first | exact Or.inl rfl | exact Or.inr rfl) (pe_op op_mod (pe_callTy call_int1 (by rfl) T.b_int boot_int (pa_cons (pe_op op_pow (pe_op op_addA (pe_op op_addA (pe_ix ix_seq (pv 0) pe_int (fun _ _ => rfl)) (pe_op op_mulA pe_int (pe_ix ix_seq (pv 0) pe_int (fun _ _ => rfl)))) pe_int) pe_int) pa_nil)) pe_int))
    (pss_one (ps_ret (pe_op op_mod (pe_op op_mod (pe_callTy call_int1 (by rfl) T.b_int boot_int (pa_cons (pe_op op_pow (pe_op op_addA (pe_op op_addA (pe_op op_mulA (pv 4) pe_int) (pe_op op_mulA pe_int (pe_ix ix_seq (pv 0) pe_int (fun _ _ => rfl)))) pe_int) pe_int) pa_nil)) pe_int) (pv 1)))))))), ?_⟩
    -- stream[2] = stream[2] + 1
    refine ix_at (i := 0) rfl S.hs (v := .int b) rfl ?_
    refine .inl ⟨b, 1, rfl, rfl, ?_⟩
    refine set_at (i := 0) (j := 2) rfl S.hs rfl ?_
    have S1 : SpAt st cl ms a (b + 1) c (upd H st (.lst [.ref cl, .int a, .int (b + 1), .int c])) := S.put2 (by have := S.b0; omega)
    have k1 : KpS st cl H (upd H st (.lst [.ref cl, .int a, .int (b + 1), .int c])) := KpS.put (.inl rfl)
    -- the loop
    refine ⟨fun σ H' => ∃ ms' a' c' x, σ = [some (.ref st), some (.int m), x, none, none] ∧ SpAt st cl ms' a' (b + 1) c' H' ∧ KpS st cl H H',
      ⟨fun l σ H' => ∃ ms' a' c' x, l = ms'.length ∧ σ = [some (.ref st), some (.int m), x, none, none] ∧ SpAt st cl ms' a' (b + 1) c' H' ∧ KpS st cl H H', ⟨ms.length, ms, a, c, none, rfl, rfl, S1, k1⟩, ?_⟩, ?_⟩
    · rintro l σ H1 ⟨ms1, a1, c1, x1, rfl, rfl, S2, k2⟩
      refine ix_at (i := 0) rfl S2.hs (v := .int a1) rfl ?_
      refine ⟨.int a1, .int 0, .int _, .int _, shaped_int _, shaped_int _, _, rfl, ?_⟩
      rw [eqv_int]
      by_cases ha : a1 = 0
      · rw [decide_eq_true ha]
        refine iteT ?_
        refine ix_at (i := 0) rfl S2.hs (v := .ref cl) rfl ?_
        refine ⟨by show 0 ≤ sizeLine; decide, fun p hp => ?_⟩
        have S3 := S2.same (Same.upd (o := .lst []) hp)
        refine ⟨.list (ms1.map .int), .list [], .lst (SqL.of S3.hc) (dp_ints ms1), .lst (SqL.of upd_same) .nil, shaped_ints ms1, shaped_ints [], _, rfl, ?_⟩
        have k3 : KpS st cl H (upd H1 p (.lst [])) := k2.trans (KpS.of (Same.upd hp))
        cases ms1 with
        | nil =>
          refine iteF ?_
          exact ⟨[], a1, c1, x1, rfl, S3, k3⟩
        | cons m1 r1 =>
          refine iteT ?_
          refine ⟨fun σ H' => ∃ a' c' x, σ = [some (.ref st), some (.int m), x, none, none] ∧ SpAt st cl r1 a' (b + 1) c' H' ∧ KpS st cl H H', fun σ' H' ⟨a', c', x, e, S', k'⟩ => ⟨r1.length, Nat.lt_succ_self _, r1, a', c', x, rfl, e, S', k'⟩, ?_⟩
          -- cell = stream[0].pop(0)
          refine ix_at (i := 0) rfl S3.hs (v := .ref cl) rfl ?_
          refine ⟨.inl ⟨rfl, _, SqL.of S3.hc⟩, cl, _, 0, 0, .int m1, rfl, rfl, S3.hc, by decide, by decide, (by simp [seqIndex?]), rfl, ?_⟩
          have S4 := S3.pop rfl
          have k4 := k3.trans (KpS.put (H := upd H1 p (.lst [])) (o := .lst (r1.map V.int)) (st := st) (.inr rfl))
          -- stream[3] = int(stream[3] * 8191 + cell + 3) % 2147483647
          refine ix_at (i := 0) rfl S4.hs (v := .int c1) rfl ?_
          refine .inl ⟨c1, 8191, rfl, rfl, .inr ⟨by decide, by decide⟩, ?_⟩
          refine ⟨.int m1, rfl, .inl ⟨_, _, rfl, rfl, ?_⟩⟩
          refine .inl ⟨_, _, rfl, rfl, ?_⟩
          refine .inl ⟨_, rfl, ?_⟩
          refine ⟨_, _, rfl, rfl, (by decide : (0 : Int) < 2147483647), ?_⟩
          refine set_at (i := 0) (j := 3) rfl S4.hs rfl ?_
          have S5 := S4.put3 (z := (c1 * 8191 + m1 + 3) % 2147483647) (Int.emod_nonneg _ (by decide)) (Int.emod_lt_of_pos _ (by decide))
          have k5 := k4.trans (KpS.put (H := upd (upd H1 p (.lst [])) cl (.lst (r1.map V.int))) (o := .lst [.ref cl, .int a1, .int (b + 1), .int ((c1 * 8191 + m1 + 3) % 2147483647)]) (st := st) (cl := cl) (.inl rfl))
          -- stream[1] = cell if cell >= 10 ** 18 else 0
          refine ⟨.int m1, rfl, ?_⟩
          refine ⟨10, 18, rfl, rfl, ⟨by decide, by decide, by decide⟩, ?_⟩
          refine ⟨_, _, rfl, rfl, _, rfl, ?_⟩
          by_cases hg : (10 : Int) ^ (18 : Int).toNat ≤ m1
          · rw [decide_eq_true hg]
            refine iteT ?_
            refine ⟨.int m1, rfl, ?_⟩
            refine set_at (i := 0) (j := 1) rfl S5.hs rfl ?_
            exact ⟨m1, _, _, rfl, S5.put1 (Int.le_trans (by decide) hg), k5.trans (KpS.put (.inl rfl))⟩
          · rw [decide_eq_false hg]
            refine iteF ?_
            refine set_at (i := 0) (j := 1) rfl S5.hs rfl ?_
            exact ⟨0, _, _, rfl, S5.put1 (by decide), k5.trans (KpS.put (.inl rfl))⟩
      · rw [decide_eq_false ha]
        refine iteF ?_
        refine iteF ?_
        exact ⟨ms1, a1, c1, x1, rfl, S2, k2⟩
    · rintro σ H1 ⟨ms1, a1, c1, x1, rfl, S2, k2⟩
      -- if stream[1] > 0
      refine ix_at (i := 0) rfl S2.hs (v := .int a1) rfl ?_
      refine ⟨a1, 0, rfl, rfl, _, rfl, ?_⟩
      by_cases ha : 0 < a1
      · rw [decide_eq_true ha]
        refine iteT ?_
        refine ix_at (i := 0) rfl S2.hs (v := .int a1) rfl ?_
        refine .inl ⟨a1, rfl, ?_⟩
        refine ⟨.int m, rfl, a1, m, rfl, rfl, hm, ?_⟩
        refine ix_at (i := 0) rfl S2.hs (v := .int a1) rfl ?_
        refine ⟨.int m, rfl, a1, m, rfl, rfl, ⟨hm, by omega⟩, ?_⟩
        refine set_at (i := 0) (j := 1) rfl S2.hs rfl ?_
        refine ⟨.int (a1 % m), rfl, ?_⟩
        exact k _ _ (Int.emod_nonneg _ (by omega)) (Int.emod_lt_of_pos _ hm) (k2.trans (KpS.put (.inl rfl))) ⟨ms1, _, _, _, S2.put1 (Int.ediv_nonneg (by omega) (by omega)), by omega⟩
      · rw [decide_eq_false ha]
        refine iteF ?_
        -- mixed
        refine ix_at (i := 0) rfl S2.hs (v := .int c1) rfl ?_
        refine ix_at (i := 0) rfl S2.hs (v := .int (b + 1)) rfl ?_
        refine .inl ⟨7919, b + 1, rfl, rfl, .inl ⟨by decide, by decide⟩, ?_⟩
        refine .inl ⟨_, _, rfl, rfl, ?_⟩
        refine .inl ⟨_, _, rfl, rfl, ?_⟩
        have c0 := S2.c0
        have c1' := S2.c1
        have b0 := S.b0
        refine ⟨_, 5, rfl, rfl, ⟨by decide, by decide, by omega⟩, ?_⟩
        refine .inl ⟨_, rfl, ?_⟩
        refine ⟨_, _, rfl, rfl, (by decide : (0 : Int) < 2147483629), ?_⟩
        show gName 4 (V.int ((c1 + 7919 * (b + 1) + 104729) ^ (5 : Int).toNat % 2147483629)) _ _ _
        generalize hx : (c1 + 7919 * (b + 1) + 104729) ^ (5 : Int).toNat % 2147483629 = x
        have x0 : 0 ≤ x := by rw [← hx]; exact Int.emod_nonneg _ (by decide)
        have x1' : x < 2147483629 := by rw [← hx]; exact Int.emod_lt_of_pos _ (by decide)
        refine ⟨.int x, rfl, .inl ⟨x, 48271, rfl, rfl, .inr ⟨by decide, by decide⟩, ?_⟩⟩
        refine ix_at (i := 0) rfl S2.hs (v := .int (b + 1)) rfl ?_
        refine .inl ⟨30011, b + 1, rfl, rfl, .inl ⟨by decide, by decide⟩, ?_⟩
        refine .inl ⟨_, _, rfl, rfl, ?_⟩
        refine .inl ⟨_, _, rfl, rfl, ?_⟩
        refine ⟨_, 3, rfl, rfl, ⟨by decide, by decide, by omega⟩, ?_⟩
        refine .inl ⟨_, rfl, ?_⟩
        refine ⟨_, _, rfl, rfl, (by decide : (0 : Int) < 1000000007), ?_⟩
        refine ⟨.int m, rfl, _, m, rfl, rfl, hm, ?_⟩
        exact k _ _ (Int.emod_nonneg _ (by omega)) (Int.emod_lt_of_pos _ hm) k2 ⟨ms1, _, _, _, S2, by omega⟩
end K82

/-! Draws over data. -/
namespace K82
-- HINT _law_mixed lcte tBM K "list" rPopAt (tVar 2) (tCons (tCall spDraw [] E0 (tCons (tVar 0) (tCons (tCB (fun xs H Q => ∃ x n, xs = [x] ∧ LenV K x H n ∧ Q (V.int n) H) (tCons (tVar 2) tNil)) tNil))) tNil)
open PySem PySem.Spec PyProof.Rows L2 KD
variable {P : Program} {w : World} {K : PySem.W.Frag} {mg : Str → Option Value} {base : Heap}
/-- the spring stands apart from the data -/
structure Sg (X : Addr → Prop) (st cl : Addr) (n : Nat) (H : Hp) : Prop where
  ok : SpOk st cl n H
  x1 : X st
  x2 : X cl
  t : Trk X H
section
variable {X X' : Addr → Prop} {st cl p : Addr} {n m : Nat} {H H' : Hp} {σ : L2.St} {Γ : List Sv}
theorem Sg.same (S : Sg X st cl n H) (s : Same H H') : Sg X st cl n H' := ⟨S.ok.same s, S.x1, S.x2, S.t.mono s⟩
theorem Sg.step (S : Sg X st cl n H) (k : KpS st cl H H') (o : SpOk st cl m H') : Sg X st cl m H' := ⟨o, S.x1, S.x2, o.trk k S.t⟩
theorem Sg.le (S : Sg X st cl n H) (h : n ≤ m) : Sg X st cl m H := ⟨S.ok.le h, S.x1, S.x2, S.t⟩
theorem Sg.kp (S : Sg X st cl n H) (k : KpS st cl H H') : Kp X H H' := k.kp S.x1 S.x2
theorem Sg.more (S : Sg X st cl n H) (m : More X X' H) (t : Trk X' H) : Sg X' st cl n H := ⟨S.ok, m.1 _ S.x1, m.1 _ S.x2, t⟩
theorem Sg.ne1 (S : Sg X st cl n H) (h : H p = none) : p ≠ st := fun e => S.t.new h (e ▸ S.x1)
theorem Sg.ne2 (S : Sg X st cl n H) (h : H p = none) : p ≠ cl := fun e => S.t.new h (e ▸ S.x2)
theorem SpOk.put {o : HO} (h : SpOk st cl n H) (h1 : p ≠ st) (h2 : p ≠ cl) : SpOk st cl n (upd H p o) := by
  obtain ⟨ms, a, b, c, S, hb⟩ := h
  exact ⟨ms, a, b, c, ⟨by rw [upd_ne (Ne.symm h1)]; exact S.hs, by rw [upd_ne (Ne.symm h2)]; exact S.hc, S.ne, S.a0, S.b0, S.c0, S.c1, S.ml⟩, hb⟩
theorem Sg.put {o : HO} (S : Sg X st cl n H) (h1 : p ≠ st) (h2 : p ≠ cl) : Sg X st cl n (upd H p o) := ⟨S.ok.put h1 h2, S.x1, S.x2, S.t.put⟩
theorem _root_.KD.EnvOk.kps (E : EnvOk X H σ Γ) (S : Sg X st cl n H) (k : KpS st cl H H') : EnvOk X H' σ Γ := E.mono (S.kp k)
end
section
variable {σ : L2.St} {H : Hp} {te ta tb : TE} {D : Ends} {r : R2} {Q : VK} {g : TG} {tz : TS} {tt : TT} {tl : TA}
theorem k_ret (h : te σ H D.rt) : tRet te D σ H := h
theorem k_op (h : ta σ H fun x H1 => tb σ H1 fun y H2 => r x y H2 Q) : tOp r ta tb σ H Q := h
theorem k_set {i : Nat} (h : te σ H fun v H1 => tz D (σ.set i (some v)) H1) : tSeq (tAsg te (gName i)) tz D σ H := h
theorem k_asg (h : te σ H fun v H1 => g v σ H1 fun σ2 H2 => tz D σ2 H2) : tSeq (tAsg te g) tz D σ H := h
theorem k_yes {A B : Hp → Prop} (h : A H) : tYes σ H fun b H3 => if b = true then A H3 else B H3 := by
  show (if true = true then A H else B H)
  rw [if_pos rfl]
  exact h
theorem k_lcR {ta : TA} {us : List Nat} (h : ta σ H fun vs H1 => ∃ j : Int, vs = [.int j] ∧ -(2 ^ 62) ≤ j ∧ j < 2 ^ 62 ∧ tLc (fun _ H2 R => R (Itr 0 j.toNat) H2) g tt te us σ H1 Q) : tLc (iRng1 ta) g tt te us σ H Q := h
theorem k_cb {rr : List V → Hp → VK → Prop} (h : tl σ H fun vs H1 => rr vs H1 Q) : tCB rr tl σ H Q := h
theorem k_cons {Qa : List V → Hp → Prop} (h : te σ H fun v H1 => tl σ H1 fun vs H2 => Qa (v :: vs) H2) : tCons te tl σ H Qa := h
theorem k_par {i j : Nat} (h : ta σ H fun x H1 => tb σ H1 fun y H2 => ∃ v w, [x, y] = [v, w] ∧ tz D ((σ.set i (some v)).set j (some w)) H2) : tSeq (tPar i j (tCons ta (tCons tb tNil))) tz D σ H := h
end
theorem at_nat {ds : List PyData} {i : Int} (h0 : 0 ≤ i) (hj : i.toNat < ds.length) : atI ds i = some ds[i.toNat] := by
  unfold atI
  have e : ixN ds.length i = some i.toNat := by
    have h := Evl.ixN_nat hj
    rw [show ((i.toNat : Nat) : Int) = i from by omega] at h
    exact h
  rw [e]
  show ds[i.toNat]? = some _
  rw [List.getElem?_eq_getElem hj]
theorem seqIx_nat {i : Int} {n : Nat} (h0 : 0 ≤ i) (h1 : i.toNat < n) : seqIndex? i n = some i.toNat := by
  unfold seqIndex?
  have h : ¬ i < 0 := by omega
  have h2 : (decide (0 ≤ i) && decide (i < (n : Int))) = true := by
    rw [Bool.and_eq_true]
    exact ⟨decide_eq_true h0, decide_eq_true (by omega)⟩
  simp only [if_neg h]
  rw [if_pos h2]
theorem erase_perm {α : Type} : ∀ (l : List α) (i : Nat) (h : i < l.length), (l[i] :: l.eraseIdx i).Perm l
  | a :: l, 0, _ => List.Perm.refl _
  | a :: l, i + 1, h => (List.Perm.swap _ _ _).trans ((erase_perm l i (by simpa using h)).cons a)
/-- a draw -/
theorem c_draw {X : Addr → Prop} {st cl : Addr} {n : Nat} {H : Hp} {σ : L2.St} {ts tm : TE} {E : XK} {m : Int} {Q : VK} (S : Sg X st cl n H) (hv : GV ts σ H (.ref st)) (hm : G X tm σ H (.int m)) (hn : n ≤ 1000000000) (h0 : 0 < m) (h1 : m < 1000000)
    (k : ∀ i H', 0 ≤ i → i < m → Sg X st cl (n + 1) H' → KpS st cl H H' → Q (.int i) H') : tCall spDraw [] E (tCons ts (tCons tm tNil)) σ H Q :=
  hv H (Same.refl H) _ (hm H (Same.refl H) _ fun v H1 s1 r => ⟨st, cl, n, m, by rw [r.int_inv]; rfl, S.ok.same s1, hn, h0, h1, fun i H' i0 i1 kk so => k i H' i0 i1 ((S.same s1).step kk so) ((KpS.of s1).trans kk)⟩)
abbrev s__law_pick : Stmt := topS 50
abbrev n__law_pick : List Str := ["_law_stream", "_law_some"]
theorem sc__law_pick : FnScope n__law_pick ["_law_stream", "_law_some"] (defScope s__law_pick) := ⟨rfl, rfl, rfl, by decide +kernel, rfl, by decide +kernel, by decide +kernel⟩
def spPick : Sp := fun vs H Q _ => ∃ (X : Addr → Prop) (st cl : Addr) (n : Nat) (v : V) (ds : List PyData), vs = [.ref st, v] ∧ Sg X st cl n H ∧ n ≤ 1000000000 ∧ DX X H v (.list ds) ∧ 0 < ds.length ∧ ds.length < 1000000 ∧
  ∀ w d H', d ∈ ds → Sg X st cl (n + 1) H' → KpS st cl H H' → DX X H' w d → Q w H'
theorem ok_pick {f : Addr} {fd : FuncData} (F : Fun K "_law_pick" "_law_pick" s__law_pick f fd) (T : Bl mg) (O__law_draw : Own P w K mg base CX0 1 "_law_draw" ["_law_stream", "_law_many"] spDraw) : FnOk P w K mg base CX0 2 f fd ["_law_stream", "_law_some"] spPick := by
  refine F.ok sc__law_pick (fun vs H Q E h => ?_) (fun cdv A outer s H vs Q E hr h => ?_)
  · obtain ⟨X, st, cl, n, v, ds, rfl, _⟩ := h
    rfl
  · obtain ⟨X, st, cl, n, v, ds, rfl, S, hn, hd, h0, h1, k⟩ := h
    refine ⟨_, (pss_one (ps_ret (pe_ix ix_seq (pv 1) (pe_own O__law_draw hr (by decide) (by rfl) (pa_cons (pv 0) (pa_cons (pe_callB call_len (by rfl) T.b_len boot_len (pa_cons (pv 1) pa_nil)) pa_nil))) (fun _ _ => rfl)))), ?_⟩
    have En : EnvOk X H (L2.start n__law_pick [.ref st, v]) [.val (.ref st), .dat (.list ds)] := ⟨rfl, fun i s e => by
      match i, e with
      | 0, e => cases e; rfl
      | 1, e => cases e; exact ⟨_, rfl, hd⟩⟩
    refine k_ret (k_op (g_var (i := 1) En rfl H (Same.refl H) _ fun v1 H1 s1 r1 => ?_))
    refine c_draw (S.same s1) (gv_var (En.same s1) rfl) (g_len (S.t.mono s1) (g_var (En.same s1) rfl) rfl) hn (by show 0 < (ds.length : Int); omega) (by show (ds.length : Int) < 1000000; omega) fun i H' i0 i1 S2 k2 => ?_
    have i1 : i < (ds.length : Int) := i1
    have hj : i.toNat < ds.length := by omega
    refine rd_ixL (z := ds[i.toNat]) (at_nat (by omega) hj) H' v1 (.int i) S2.t (r1.mono ((S.same s1).kp k2)) (.int i) _ fun w2 H2 s2 dw => ?_
    exact k w2 _ H2 (List.getElem_mem _) (S2.same s2) (((KpS.of s1).trans k2).trans (KpS.of s2)) dw
theorem c_pick {X : Addr → Prop} {st cl : Addr} {n : Nat} {H : Hp} {σ : L2.St} {ts tm : TE} {E : XK} {ds : List PyData} {Q : VK} (S : Sg X st cl n H) (hv : GV ts σ H (.ref st)) (hm : G X tm σ H (.list ds)) (hn : n ≤ 1000000000) (h0 : 0 < ds.length) (h1 : ds.length < 1000000)
    (k : ∀ w d H', d ∈ ds → Sg X st cl (n + 1) H' → KpS st cl H H' → DX X H' w d → Q w H') : tCall spPick [] E (tCons ts (tCons tm tNil)) σ H Q :=
  hv H (Same.refl H) _ (hm H (Same.refl H) _ fun v H1 s1 r => ⟨X, st, cl, n, v, ds, rfl, S.same s1, hn, r, h0, h1, fun w d H' hd S2 kk dw => k w d H' hd S2 ((KpS.of s1).trans kk) dw⟩)
/-- some things drawn one after the other into a new list -/
theorem lc_draws {X : Addr → Prop} {st cl : Addr} {n : Nat} {H : Hp} {σ : L2.St} {Γ : List Sv} {te : TE} {i m : Nat} {Q : VK} (pr : PyData → Prop) (S : Sg X st cl n H) (En : EnvOk X H σ Γ) (hm : m ≤ 100000)
    (he : ∀ X' H1 σ2 k Q1, k < m → EnvOk X' H1 σ2 ((Γ.set i .un).set i (.dat (.int (k : Nat)))) → Sg X' st cl (n + k) H1 → (∀ w d H', pr d → Sg X' st cl (n + k + 1) H' → KpS st cl H1 H' → DX X' H' w d → Q1 w H') → te σ2 H1 Q1)
    (q : ∀ w ds H', ds.length = m → (∀ d ∈ ds, pr d) → Sg X st cl (n + m) H' → KpS st cl H H' → DX X H' w (.list ds) → Nw H w → Q w H') : tLc (fun σ H R => R (Itr 0 m) H) (gName i) tYes te [i] σ H Q := by
  intro D hD
  have m2 : More X (fun a => X a ∨ a = D) H := More.one hD
  have d1 := S.ne1 hD
  have d2 := S.ne2 hD
  obtain ⟨Gd, Y, w1, w2⟩ := walkD_range (X := X) (H := H) (lo := 0) (n := m)
  rw [rangeD_len] at w1
  have key : ∀ H3, Kp (fun a => X a ∨ a = D) H H3 ∧ Trk (fun a => X a ∨ a = D) H3 → Gd H3 := fun H3 p => (w2 _ m2.2 H3 p.1 p.2).1
  let I : Nat → Hp → Prop := fun k H3 => KpS st cl H H3 ∧ Sg (fun a => X a ∨ a = D) st cl (n + k) H3 ∧ ∃ acc ds, H3 D = some (.lst acc) ∧ DXs (fun a => X a ∨ a = D) H3 acc ds ∧ ds.length = k ∧ ∀ d ∈ ds, pr d
  have ik : ∀ {k H3}, I k H3 → Kp (fun a => X a ∨ a = D) H H3 ∧ Trk (fun a => X a ∨ a = D) H3 := fun {k H3} p => ⟨p.1.kp (.inl S.x1) (.inl S.x2), p.2.1.t⟩
  refine lc_it w1 I ?_ (fun i H3 _ p => key H3 (ik p)) ?_ ?_
  · exact ⟨KpS.of (Same.upd hD), ⟨(S.ok).same (Same.upd hD), .inl S.x1, .inl S.x2, S.t.one hD⟩, [], [], upd_same, .nil, rfl, fun d h => by cases h⟩
  · rintro k x H3 H4 hk p y
    obtain ⟨s4, d, hd, dx⟩ := (w2 _ m2.2 H3 (ik p).1 (ik p).2).2 k x H4 y
    obtain ⟨p1, p2, acc, ds, p3, p4, p5, p6⟩ := p
    rw [rangeD_get hk] at hd
    cases hd
    have S4 := p2.same s4
    have k4 : Kp (fun a => X a ∨ a = D) H H4 := (p1.kp (.inl S.x1) (.inl S.x2)).trans (Kp.of s4)
    refine tgt_name (X := X) (i := i) En _ H4 m2 k4 S4.t x dx _ fun σ2 E2 hw => ⟨hw, ?_⟩
    refine k_yes ?_
    rw [show (0 : Int) + (k : Int) = (k : Nat) from by omega] at E2
    refine he _ H4 σ2 k _ hk E2 S4 fun w d H5 hp S5 k5 dw => ?_
    refine ⟨acc, k5 D _ d1 d2 (s4 D _ p3), by rw [p4.length, p5, sizeLine_eq]; omega, ?_, ?_, acc ++ [w], ds ++ [d], upd_same, ?_, by rw [List.length_append, p5]; rfl, fun z hz => ?_⟩
    · exact fun a o n1 n2 e => by
        have := k5 a o n1 n2 (s4 a _ (p1 a o n1 n2 e))
        rw [upd_ne (ne_of_none e hD)]
        exact this
    · exact S5.put d1 d2
    · exact (((p4.mono (Kp.of s4)).mono (S4.kp k5)).snoc dw).mono (Kp.put (.inr rfl))
    · rcases List.mem_append.mp hz with h | h
      · exact p6 z h
      · rw [List.mem_singleton.mp h]
        exact hp
  · rintro H3 ⟨p1, p2, acc, ds, p3, p4, p5, p6⟩
    have nXD : ¬ X D := S.t.new hD
    exact q (.ref D) ds H3 p5 p6 ⟨p2.ok, S.x1, S.x2, fun a h => p2.t a (.inl h)⟩ p1 (.lst nXD p3 (p4.less fun a => .inl)) (Nw.of hD)
abbrev s__law_mixed : Stmt := topS 51
abbrev n__law_mixed : List Str := ["_law_stream", "_law_some", "_law_left", "_law_k"]
theorem sc__law_mixed : FnScope n__law_mixed ["_law_stream", "_law_some"] (defScope s__law_mixed) := ⟨rfl, rfl, rfl, by decide +kernel, rfl, by decide +kernel, by decide +kernel⟩
def spMixed : Sp := fun vs H Q _ => ∃ (X : Addr → Prop) (st cl : Addr) (n : Nat) (v : V) (ds : List PyData), vs = [.ref st, v] ∧ Sg X st cl n H ∧ n + ds.length ≤ 1000000000 ∧ DX X H v (.list ds) ∧ ds.length < 1000000 ∧
  ∀ w es H', es.Perm ds → Sg X st cl (n + ds.length) H' → KpS st cl H H' → DX X H' w (.list es) → Nw H w → Q w H'
theorem ok_mixed {f : Addr} {fd : FuncData} (F : Fun K "_law_mixed" "_law_mixed" s__law_mixed f fd) (T : Bl mg) (O__law_draw : Own P w K mg base CX0 1 "_law_draw" ["_law_stream", "_law_many"] spDraw) : FnOk P w K mg base CX0 2 f fd ["_law_stream", "_law_some"] spMixed := by
  refine F.ok sc__law_mixed (fun vs H Q E h => ?_) (fun cdv A outer s H vs Q E hr h => ?_)
  · obtain ⟨X, st, cl, n, v, ds, rfl, _⟩ := h
    rfl
  · obtain ⟨X, st, cl, n, v, ds, rfl, S, hn, hd, h1, k⟩ := h
    refine ⟨_, (pss_cons (ps_set (i := 2) sc__law_mixed.nd rfl (by first | exact Or.inl rfl | exact Or.inr rfl) (pe_callTy call_list_of (by rfl) T.b_list boot_list (pa_cons (pv 1) pa_nil)))
    (pss_one (ps_ret (pe_lc (own := [("_law_k", 3)]) (g := (gName 3)) (tt := tYes) (te := tBM K "list" rPopAt (tVar 2) (tCons (tCall spDraw [] E0 (tCons (tVar 0) (tCons (tCB (fun xs H Q => ∃ x n, xs = [x] ∧ LenV K x H n ∧ Q (V.int n) H) (tCons (tVar 2) tNil)) tNil))) tNil)) rfl sc__law_mixed.nd (pi_range1 (by rfl) T.b_range (pa_cons (pe_callB call_len (by rfl) T.b_len boot_len (pa_cons (pv 2) pa_nil)) pa_nil)) (blkOk_by (N := n__law_mixed) (sc := defScope s__law_mixed) (by decide +kernel)) (fun _ _ _ _ _ => (pg_name (i := 3) sc__law_mixed.nd rfl (by first | exact Or.inl rfl | exact Or.inr rfl))) (fun _ _ _ _ _ => pts_nil) (fun _ _ _ _ _ => (pe_bm PySem.F.plainAttrs_list PySem.F.slot_list_pop PySem.F.type_list_pop mt_popAt (pv 2) (pa_cons (pe_own O__law_draw hr (by decide) (by rfl) (pa_cons (pv 0) (pa_cons (pe_callB call_len (by rfl) T.b_len boot_len (pa_cons (pv 2) pa_nil)) pa_nil))) pa_nil))))))), ?_⟩
    have En : EnvOk X H (L2.start n__law_mixed [.ref st, v]) [.val (.ref st), .dat (.list ds), .un, .un] := ⟨rfl, fun i s e => by
      match i, e with
      | 0, e => cases e; rfl
      | 1, e => cases e; exact ⟨_, rfl, hd⟩
      | 2, e => cases e; trivial
      | 3, e => cases e; trivial⟩
    -- left = list(some)
    refine k_set (gn_listOf (d := .list ds) S.t (g_var (i := 1) En rfl) rfl H (Same.refl H) _ fun v1 H1 s1 d1 nw1 => ?_)
    obtain ⟨L, us, rfl, nL, eL, rL⟩ := d1.inner
    have hL : H L = none := nw1 L rfl
    have E1 := (((En.more (More.one hL)).same s1).setV (i := 2) (v := .ref L))
    have t1 : Trk (fun b => X b ∨ b = L) H1 := fun a h => h.elim (fun x => S.t.mono s1 a x) fun e => ⟨_, e ▸ eL⟩
    have S1 : Sg (fun b => X b ∨ b = L) st cl n H1 := ⟨S.ok.same s1, .inl S.x1, .inl S.x2, t1⟩
    have n1 := S.ne1 hL
    have n2 := S.ne2 hL
    -- range(len(left))
    refine k_ret ?_
    refine ⟨_, E1.get 2 _ rfl, ?_⟩
    have xl1 : us.length = ds.length := rL.length
    refine ⟨.ref L, us.length, rfl, .inl ⟨us, SqL.of eL, rfl⟩, ?_⟩
    refine ⟨_, rfl, by omega, by omega, ?_⟩
    rw [show (us.length : Int).toNat = ds.length from by omega]
    intro D hD
    have dL : D ≠ L := fun e => by rw [e, eL] at hD; cases hD
    let X1 : Addr → Prop := fun b => X b ∨ b = L
    let X2 : Addr → Prop := fun a => X1 a ∨ a = D
    have m2 : More X1 X2 H1 := More.one hD
    have d1 := S1.ne1 hD
    have d2 := S1.ne2 hD
    obtain ⟨Gd, Y, w1, w2⟩ := walkD_range (X := X1) (H := H1) (lo := 0) (n := ds.length)
    rw [rangeD_len] at w1
    let I : Nat → Hp → Prop := fun k H3 => (∀ a o, a ≠ st → a ≠ cl → a ≠ L → H1 a = some o → H3 a = some o) ∧ Sg X2 st cl (n + k) H3 ∧ ∃ acc es left xs, H3 D = some (.lst acc) ∧ DXs X2 H3 acc es ∧ H3 L = some (.lst xs) ∧ DXs X2 H3 xs left ∧ es.length = k ∧ (es ++ left).Perm ds
    have ik : ∀ {k H3}, I k H3 → Kp X2 H1 H3 ∧ Trk X2 H3 := fun {k H3} p => ⟨fun a o n e => p.1 a o (fun z => n (z ▸ .inl (.inl S.x1))) (fun z => n (z ▸ .inl (.inl S.x2))) (fun z => n (z ▸ .inl (.inr rfl))) e, p.2.1.t⟩
    refine lc_it w1 I ?_ (fun i H3 _ p => (w2 _ m2.2 H3 (ik p).1 (ik p).2).1) ?_ ?_
    · have sD : Same H1 (upd H1 D (.lst [])) := Same.upd hD
      exact ⟨fun a o _ _ _ e => sD a o e, ⟨S1.ok.same sD, .inl (.inl S.x1), .inl (.inl S.x2), t1.one hD⟩, [], [], ds, us, upd_same, .nil, sD _ _ eL, (rL.more m2).mono (Kp.of sD), rfl, List.Perm.refl _⟩
    · rintro j x H3 H4 hj p y
      obtain ⟨s4, d, hd4, dx⟩ := (w2 _ m2.2 H3 (ik p).1 (ik p).2).2 j x H4 y
      obtain ⟨p1, p2, acc, es, left, xs, p3, p4, p5, p6, p7, p8⟩ := p
      have S4 := p2.same s4
      refine tgt_name (X := X1) (i := 3) E1 _ H4 m2 ((ik ⟨p1, p2, acc, es, left, xs, p3, p4, p5, p6, p7, p8⟩).1.trans (Kp.of s4)) S4.t x dx _ fun σ2 E2 hw => ⟨hw, ?_⟩
      refine k_yes ?_
      have hL4 : H4 L = some (.lst xs) := s4 _ _ p5
      have r4 := p6.mono (Kp.of s4)
      have q4 := p4.mono (Kp.of s4)
      have lt0 : 0 < left.length := by
        have := p8.length_eq
        rw [List.length_append] at this
        omega
      have lt1 : left.length ≤ ds.length := by
        have := p8.length_eq
        rw [List.length_append] at this
        omega
      have lx : xs.length = left.length := r4.length
      refine ⟨_, E2.get 2 _ rfl, .inl ⟨rfl, _, SqL.of hL4⟩, ?_⟩
      refine k_cons (c_draw (m := (left.length : Nat)) S4 (gv_var (i := 0) E2 rfl) ?_ (by omega) (by omega) (by omega) fun i H5 i0 i1 S5 k5 => ?_)
      · intro H5 s5 Q5 q5
        refine ⟨_, E2.get 2 _ rfl, ?_⟩
        refine ⟨.ref L, xs.length, rfl, .inl ⟨xs, SqL.of (s5 _ _ hL4), rfl⟩, ?_⟩
        rw [lx]
        exact q5 _ H5 (Same.refl _) (.int _)
      · have hL5 : H5 L = some (.lst xs) := k5 L _ n1 n2 hL4
        have r5 := r4.mono (S4.kp k5)
        have q5 := q4.mono (S4.kp k5)
        have hi : i.toNat < left.length := by omega
        have hx : i.toNat < xs.length := by omega
        obtain ⟨y, hy, ry⟩ := r5.get (i := i.toNat) (d := left[i.toNat]) (List.getElem?_eq_getElem hi)
        refine ⟨L, xs, i, i.toNat, y, rfl, rfl, hL5, by omega, by omega, ?_, hy, ?_⟩
        · exact seqIx_nat i0 hx
        · have kL : Kp X2 H5 (upd H5 L (.lst (xs.eraseIdx i.toNat))) := Kp.put (.inl (.inr rfl))
          have nD : H5 D = some (.lst acc) := k5 D _ d1 d2 (s4 D _ p3)
          refine ⟨acc, by rw [upd_ne dL]; exact nD, by rw [p4.length, p7, sizeLine_eq]; omega, ?_, ?_, acc ++ [y], es ++ [left[i.toNat]], left.eraseIdx i.toNat, xs.eraseIdx i.toNat, upd_same, ?_, by rw [upd_ne (Ne.symm dL)]; exact upd_same, ?_, by rw [List.length_append, p7]; rfl, ?_⟩
          · intro a o a1 a2 a3 e
            rw [upd_ne (ne_of_none e hD), upd_ne a3]
            exact k5 a o a1 a2 (s4 a _ (p1 a o a1 a2 a3 e))
          · exact (S5.put n1 n2).put d1 d2
          · exact ((q5.snoc ry).mono kL).mono (Kp.put (.inr rfl))
          · exact ((r5.erase i.toNat).mono kL).mono (Kp.put (.inr rfl))
          · rw [List.append_assoc]
            refine List.Perm.trans (List.Perm.append_left es ?_) p8
            exact erase_perm left i.toNat hi
    · rintro H3 ⟨p1, p2, acc, es, left, xs, p3, p4, p5, p6, p7, p8⟩
      have nXD : ¬ X D := t1.new hD ∘ .inl
      have le : left = [] := by
        have := p8.length_eq
        rw [List.length_append] at this
        exact List.eq_nil_of_length_eq_zero (by omega)
      subst le
      rw [List.append_nil] at p8
      exact k (.ref D) es H3 p8 ⟨p2.ok, S.x1, S.x2, fun a h => p2.t a (.inl (.inl h))⟩ (fun a o n3 n4 e => p1 a o n3 n4 (ne_of_none e hL) (s1 a o e)) (.lst nXD p3 (p4.less fun a h => .inl (.inl h))) (fun a e => by cases e; exact s1.free hD)
end K82

namespace K82
open PySem PySem.Spec PyProof.Rows L2 KD
variable {P : Program} {w : World} {K : PySem.W.Frag} {mg : Str → Option Value} {base : Heap}
/-! ### leaves -/
def leaf : PyData → Bool
  | .none => true
  | .bool _ => true
  | .int _ => true
  | .str s => PyData.strOk s
  | _ => false
theorem canLay_leaf : ∀ {ds : List PyData}, (∀ d ∈ ds, leaf d = true) → PyData.canLayAll0 ds = true
  | [], _ => by simp [PyData.canLayAll0]
  | d :: ds, h => by
    have h1 := h d List.mem_cons_self
    have h2 := canLay_leaf fun z hz => h z (List.mem_cons_of_mem _ hz)
    cases d <;> simp_all [PyData.canLayAll0, PyData.canLay0, leaf]
theorem depth_leaf : ∀ {ds : List PyData}, (∀ d ∈ ds, leaf d = true) → PyData.depthAll ds ≤ 1
  | [], _ => by simp [PyData.depthAll]
  | d :: ds, h => by
    have h1 := h d List.mem_cons_self
    have h2 := depth_leaf fun z hz => h z (List.mem_cons_of_mem _ hz)
    cases d <;> simp_all [PyData.depthAll, PyData.depth, leaf]
theorem shaped_leaf {d : PyData} (h : leaf d = true) : SeqAt.shaped d = true := by
  cases d <;> simp_all [SeqAt.shaped, PyData.canLay0, PyData.depth, leaf]
theorem shaped_leafs {ds : List PyData} (h : ∀ d ∈ ds, leaf d = true) : SeqAt.shaped (.list ds) = true := by
  have := depth_leaf h
  have h2 : PyData.depth (.list ds) ≤ 64 := by
    simp only [PyData.depth]
    omega
  show ((PyData.list ds).canLay0 && decide ((PyData.list ds).depth ≤ 64)) = true
  rw [Bool.and_eq_true]
  exact ⟨by simp only [PyData.canLay0]; exact canLay_leaf h, decide_eq_true h2⟩
theorem noDict_leaf {d : PyData} (h : leaf d = true) : noDict d = true := by cases d <;> first | rfl | cases h
theorem noDicts_leaf : ∀ {ds : List PyData}, (∀ d ∈ ds, leaf d = true) → noDicts ds = true
  | [], _ => by simp [noDicts]
  | d :: ds, h => by
    have h1 := noDict_leaf (h d List.mem_cons_self)
    have h2 := noDicts_leaf fun z hz => h z (List.mem_cons_of_mem _ hz)
    simp [noDicts, h1, h2]
theorem rb_inD {X : Addr → Prop} {d : PyData} {ds : List PyData} (h : leaf d = true) (hs : ∀ z ∈ ds, leaf z = true) : RB X (rInD K) d (.list ds) (ds.any fun z => PyData.eqv z d) := fun H u v _ ru rv Q q => ⟨d, ds, ru.dp (noDict_leaf h), rv.dp (by show noDicts ds = true; exact noDicts_leaf hs), shaped_leaf h, shaped_leafs hs, q⟩
def letters : List Str := ["a", "b", "c", "d e", "", "a"]
def spText : Sp := fun vs H Q _ => ∃ (X : Addr → Prop) (st cl : Addr) (n m : Nat), vs = [.ref st, .int m] ∧ Sg X st cl n H ∧ n + m ≤ 1000000000 ∧ m ≤ 1000 ∧
  ∀ w ws H', ws.length = m → (∀ z ∈ ws, z ∈ letters) → Sg X st cl (n + m) H' → KpS st cl H H' → DX X H' w (wsD ws) → Nw H w → Q w H'
theorem strs_of {L : List Str} : ∀ {ds : List PyData}, (∀ d ∈ ds, d ∈ L.map PyData.str) → ∃ ws : List Str, ds = ws.map PyData.str ∧ ∀ z ∈ ws, z ∈ L
  | [], _ => ⟨[], rfl, fun z h => by cases h⟩
  | d :: ds, h => by
    obtain ⟨s, hs, rfl⟩ := List.mem_map.mp (h d List.mem_cons_self)
    obtain ⟨ws, rfl, hw⟩ := strs_of fun z hz => h z (List.mem_cons_of_mem _ hz)
    exact ⟨s :: ws, rfl, fun z hz => (List.mem_cons.mp hz).elim (fun e => e ▸ hs) (hw z)⟩
theorem env_sv {X : Addr → Prop} {H : Hp} {N : List Str} {vs : List V} {ss : List Sv} (hl : vs.length = ss.length) (hs : ∀ (i : Nat) (s : Sv), ss[i]? = some s → ∀ v, vs[i]? = some v → SvOk X H s (some (some v))) (hN : vs.length ≤ N.length) : EnvOk X H (L2.start N vs) (pad N ss) := by
  unfold pad
  rw [← hl]
  exact envOk_start hl hs hN
theorem env_s1 {X : Addr → Prop} {H : Hp} {N : List Str} {st : Addr} {v : V} {s : Sv} (h : SvOk X H s (some (some v))) (hN : 2 ≤ N.length) : EnvOk X H (L2.start N [.ref st, v]) (pad N [.val (.ref st), s]) :=
  env_sv rfl (fun i s e u e2 => by
    match i, e, e2 with
    | 0, e, e2 => cases e; cases e2; rfl
    | 1, e, e2 => cases e; cases e2; exact h) hN
theorem env_s2 {X : Addr → Prop} {H : Hp} {N : List Str} {st : Addr} {v v2 : V} {s s2 : Sv} (h : SvOk X H s (some (some v))) (h2 : SvOk X H s2 (some (some v2))) (hN : 3 ≤ N.length) : EnvOk X H (L2.start N [.ref st, v, v2]) (pad N [.val (.ref st), s, s2]) :=
  env_sv rfl (fun i s e u e2 => by
    match i, e, e2 with
    | 0, e, e2 => cases e; cases e2; rfl
    | 1, e, e2 => cases e; cases e2; exact h
    | 2, e, e2 => cases e; cases e2; exact h2) hN
theorem ga_strs {X : Addr → Prop} {σ : L2.St} {H : Hp} : ∀ L : List Str, GA X (L.foldr (fun s t => tCons (tC (.str s)) t) tNil) σ H (L.map PyData.str)
  | [] => ga_nil
  | s :: L => ga_cons g_str (ga_strs L)
end K82

/-! Whether two things are the same. -/
namespace K82
open PySem PySem.Spec PyProof.Rows L2 KD
variable {P : Program} {w : World} {K : PySem.W.Frag} {mg : Str → Option Value} {base : Heap}
theorem walk_zipT {a b : Addr} {xs ys : List V} {n : Nat} (hn : n = min xs.length ys.length) : Walk (RZ.ItzT K a b) n (fun H => SqT K H a xs ∧ SqT K H b ys) (YPair (fun i => xs[i]?) (fun i => ys[i]?)) := by
  subst hn
  refine ⟨fun i _ hi q => ?_, fun _ q => ⟨xs, ys, q.1, q.2, by omega⟩, fun i H v H' _ q y => ?_⟩
  · have h1 : i < xs.length := by omega
    have h2 : i < ys.length := by omega
    exact ⟨xs, ys, xs[i], ys[i], q.1, q.2, by simp [h1], by simp [h2]⟩
  · obtain ⟨T, x, z, h1, h2, h3, h4, h5⟩ := y
    exact ⟨T, x, z, h1, h2, h3, h4 xs q.1, h5 ys q.2⟩
theorem gi_zipT {X : Addr → Prop} {H : Hp} {σ : L2.St} {te tb : TE} {ds es : List PyData} (h : G X te σ H (.tuple ds)) (h' : G X tb σ H (.tuple es)) : GI X (RZ.iZipA K (tCons te (tCons tb tNil))) σ H (zipD ds es) := fun H1 s R r => h H1 s _ fun v H2 s2 rv => h' H2 (s.trans s2) _ fun w H3 s3 rw_ => by
  obtain ⟨a, xs, rfl, n, e, rx⟩ := (rv.mono (Kp.of s3)).tup_inv
  obtain ⟨b, ys, rfl, n2, e2, ry⟩ := rw_.tup_inv
  refine ⟨a, b, xs, ys, rfl, .inr ⟨SqT.of e, SqT.of e2, r _ H3 (s2.trans s3) ⟨_, _, walk_zipT (xs := xs) (ys := ys) (by simp [zipD, rx.length, ry.length]), fun X' m H4 k t => ?_⟩⟩⟩
  have n' : ¬ X' a := fun z => (m a z).elim n fun q => by rw [e] at q; cases q
  have n2' : ¬ X' b := fun z => (m b z).elim n2 fun q => by rw [e2] at q; cases q
  refine ⟨⟨SqT.of (k a _ n' e), SqT.of (k b _ n2' e2)⟩, fun i x H5 y => ?_⟩
  obtain ⟨T, u, w, rfl, hT, rfl, hu, hw⟩ := y
  obtain ⟨d, h1, h2⟩ := rx.getV hu
  obtain ⟨d', h3, h4⟩ := ry.getV hw
  refine ⟨Same.upd hT, .tuple [d, d'], ?_, DX.newT t (.cons ((h2.grow m).mono k) (.cons ((h4.grow m).mono k) .nil)) hT⟩
  unfold zipD
  rw [List.getElem?_zipWith, h1, h3]
theorem gi_zipL {X : Addr → Prop} {H : Hp} {σ : L2.St} {te tb : TE} {ds es : List PyData} (h : G X te σ H (.list ds)) (h' : G X tb σ H (.list es)) : GI X (RZ.iZipA K (tCons te (tCons tb tNil))) σ H (zipD ds es) := fun H1 s R r => h H1 s _ fun v H2 s2 rv => h' H2 (s.trans s2) _ fun w H3 s3 rw_ => by
  obtain ⟨a, xs, rfl, n, e, rx⟩ := (rv.mono (Kp.of s3)).lst_inv
  obtain ⟨b, ys, rfl, n2, e2, ry⟩ := rw_.lst_inv
  refine ⟨a, b, xs, ys, rfl, .inl ⟨SqL.of e, SqL.of e2, r _ H3 (s2.trans s3) ⟨_, _, walk_zip (xs := xs) (ys := ys) (by simp [zipD, rx.length, ry.length]), fun X' m H4 k t => ?_⟩⟩⟩
  have n' : ¬ X' a := fun z => (m a z).elim n fun q => by rw [e] at q; cases q
  have n2' : ¬ X' b := fun z => (m b z).elim n2 fun q => by rw [e2] at q; cases q
  refine ⟨⟨SqL.of (k a _ n' e), SqL.of (k b _ n2' e2)⟩, fun i x H5 y => ?_⟩
  obtain ⟨T, u, w, rfl, hT, rfl, hu, hw⟩ := y
  obtain ⟨d, h1, h2⟩ := rx.getV hu
  obtain ⟨d', h3, h4⟩ := ry.getV hw
  refine ⟨Same.upd hT, .tuple [d, d'], ?_, DX.newT t (.cons ((h2.grow m).mono k) (.cons ((h4.grow m).mono k) .nil)) hT⟩
  unfold zipD
  rw [List.getElem?_zipWith, h1, h3]
/-- so deep at most, leaves below -/
def sm : Nat → PyData → Prop
  | 0, d => leaf d = true
  | n + 1, .list ds => ds.length ≤ 100000 ∧ ∀ z ∈ ds, sm n z
  | n + 1, .tuple ds => ds.length ≤ 100000 ∧ ∀ z ∈ ds, sm n z
  | _ + 1, d => leaf d = true
def spSame (n : Nat) : Sp := fun vs H Q _ => ∃ (X : Addr → Prop) (v1 v2 : V) (d : PyData), vs = [v1, v2] ∧ Trk X H ∧ DX X H v1 d ∧ DX X H v2 d ∧ sm n d ∧ ∀ H', Same H H' → Q (.bl true) H'
def spPrev : Nat → Sp
  | 0 => fun _ _ _ _ => False
  | n + 1 => spSame n
theorem eqv_leaf {d : PyData} (h : leaf d = true) : PyData.eqv d d = true := by
  cases d <;> simp_all [PyData.eqv, leaf]
-- HINT _law_same never return isinstance(_law_found, dict)
-- HINT _law_same le (Nat.le_refl _)
-- HINT _law_same zip RZ.pi_zipA
end K82

/-! Lists of one's own. -/
namespace K82
open PySem PySem.Spec PyProof.Rows L2 KD
variable {P : Program} {w : World} {K : PySem.W.Frag} {mg : Str → Option Value} {base : Heap}
/-! ### a list of one's own that is made longer -/
section
variable {X : Addr → Prop} {σ : L2.St} {H : Hp} {te : TE} {Γ : List Sv} {D : Ends} {tz : TS} {L : Addr} {xs : List V} {ds es : List PyData} {d : PyData} {i : Nat}
/-- all but L stays -/
def KpL (L : Addr) (H H' : Hp) : Prop := ∀ a o, a ≠ L → H a = some o → H' a = some o
theorem KpL.of (s : Same H H') : KpL L H H' := fun a o _ e => s a o e
theorem KpL.trans {H H1 H2 : Hp} (h : KpL L H H1) (k : KpL L H1 H2) : KpL L H H2 := fun a o n e => k a o n (h a o n e)
theorem KpL.put {o : HO} : KpL L H (upd H L o) := fun a u n e => by rw [upd_ne n]; exact e
theorem q_extend (En : EnvOk X H σ Γ) (hi : Γ[i]? = some (.val (.ref L))) (x : X L) (t : Trk X H) (hL : H L = some (.lst xs)) (hx : DXs X H xs ds) (h : G X te σ H (.list es)) (hl : ds.length + es.length ≤ 1000000)
    (k : ∀ H2 ys, H2 L = some (.lst ys) → DXs X H2 ys (ds ++ es) → EnvOk X H2 σ Γ → Trk X H2 → KpL L H H2 → tz D σ H2) : tSeq (tDrop (tBM K "list" rExtend (tVar i) (tCons te tNil))) tz D σ H := by
  refine ⟨.ref L, En.get i _ hi, .inl ⟨rfl, _, SqL.of hL⟩, ?_⟩
  refine h H (Same.refl H) _ fun v H1 s1 dv => ?_
  obtain ⟨b, zs, rfl, nb, hb, hz⟩ := dv.lst_inv
  have hL1 := s1 _ _ hL
  have e1 : xs.length = ds.length := hx.length
  have e2 : zs.length = es.length := hz.length
  refine ⟨L, b, xs, zs, rfl, rfl, hL1, hb, by rw [sizeLine_eq]; omega, ?_⟩
  have kp : Kp X H1 (upd H1 L (.lst (xs ++ zs))) := Kp.put x
  exact k _ _ upd_same (((hx.mono (Kp.of s1)).append hz).mono kp) ((En.same s1).mono kp) ((t.mono s1).put) ((KpL.of s1).trans KpL.put)
theorem q_append (En : EnvOk X H σ Γ) (hi : Γ[i]? = some (.val (.ref L))) (x : X L) (t : Trk X H) (hL : H L = some (.lst xs)) (hx : DXs X H xs ds) (h : G X te σ H d) (hl : ds.length < 1000000)
    (k : ∀ H2 ys, H2 L = some (.lst ys) → DXs X H2 ys (ds ++ [d]) → EnvOk X H2 σ Γ → Trk X H2 → KpL L H H2 → tz D σ H2) : tSeq (tDrop (tBM K "list" rAppend (tVar i) (tCons te tNil))) tz D σ H := by
  refine ⟨.ref L, En.get i _ hi, .inl ⟨rfl, _, SqL.of hL⟩, ?_⟩
  refine h H (Same.refl H) _ fun v H1 s1 dv => ?_
  have hL1 := s1 _ _ hL
  have e1 : xs.length = ds.length := hx.length
  refine ⟨L, xs, v, rfl, rfl, hL1, by rw [sizeLine_eq]; omega, ?_⟩
  have kp : Kp X H1 (upd H1 L (.lst (xs ++ [v]))) := Kp.put x
  exact k _ _ upd_same (((hx.mono (Kp.of s1)).snoc dv).mono kp) ((En.same s1).mono kp) ((t.mono s1).put) ((KpL.of s1).trans KpL.put)
/-- a new list becomes one's own -/
theorem k_own (En : EnvOk X H σ Γ) (t : Trk X H) (h : GN X te σ H (.list ds)) (k : ∀ L H1 xs, H L = none → Same H H1 → H1 L = some (.lst xs) → DXs (fun b => X b ∨ b = L) H1 xs ds → EnvOk (fun b => X b ∨ b = L) H1 (σ.set i (some (.ref L))) (Γ.set i (.val (.ref L))) → Trk (fun b => X b ∨ b = L) H1 → tz D (σ.set i (some (.ref L))) H1) :
    tSeq (tAsg te (gName i)) tz D σ H := by
  refine k_set (h H (Same.refl H) _ fun v H1 s1 dv nw => ?_)
  obtain ⟨L, xs, rfl, nL, hL, hx⟩ := dv.inner
  have h0 := nw L rfl
  exact k L H1 xs h0 s1 hL hx (((En.more (More.one h0)).same s1).setV) (fun a e => e.elim (fun z => t.mono s1 a z) fun z => ⟨_, z ▸ hL⟩)

theorem g_dict (t : Trk X H) : G X tDNewK σ H (.dict []) := fun H1 s Q q => fun p hp => q _ _ (Same.upd hp) (.dic ((t.mono s).new hp) upd_same .nil)
theorem _root_.KD.EnvOk.less {X' : Addr → Prop} (m : ∀ a, X a → X' a) (E : EnvOk X' H σ Γ) : EnvOk X H σ Γ := ⟨E.len, fun i s e => by
  have h := E.get i s e
  cases s with
  | dat d =>
    obtain ⟨v, e1, r⟩ := h
    exact ⟨v, e1, r.less m⟩
  | val v => exact h
  | un => trivial⟩
/-- one's own list is a datum again -/
theorem _root_.KD.EnvOk.give (En : EnvOk (fun b => X b ∨ b = L) H σ Γ) (hi : Γ[i]? = some (.val (.ref L))) (n : ¬ X L) (hL : H L = some (.lst xs)) (hx : DXs (fun b => X b ∨ b = L) H xs ds) : EnvOk X H σ (Γ.set i (.dat (.list ds))) := by
  have E2 : EnvOk X H σ Γ := En.less fun _ => .inl
  refine ⟨by rw [List.length_set]; exact E2.len, fun j s e => ?_⟩
  by_cases hj : i = j
  · subst hj
    have hl : i < Γ.length := (List.getElem?_eq_some_iff.mp hi).1
    rw [List.getElem?_set_self hl] at e
    cases e
    exact ⟨.ref L, En.get i _ hi, .lst n hL (hx.less fun _ => .inl)⟩
  · rw [List.getElem?_set_ne hj] at e
    exact E2.get j s e
end
end K82

/-! len(set(xs)), xs a list of texts. -/
namespace KD
open PySem PySem.Spec PyProof.Rows L2
/-- how many unlike ones are among the first -/
def cuU (xs : List Str) : Nat → Nat
  | 0 => 0
  | i + 1 => if xs.getD i Str.empty ∈ xs.take i then cuU xs i else cuU xs i + 1
theorem cuU_le (xs : List Str) : ∀ i, cuU xs i ≤ i
  | 0 => Nat.le_refl _
  | i + 1 => by
    have := cuU_le xs i
    unfold cuU
    split <;> omega
theorem cuU_all {xs : List Str} : ∀ i, i ≤ xs.length → (cuU xs i = i ↔ (xs.take i).Nodup)
  | 0, _ => by simp [cuU]
  | i + 1, h => by
    have ih := cuU_all (xs := xs) i (by omega)
    have le := cuU_le xs i
    have e : xs.take (i + 1) = xs.take i ++ [xs.getD i Str.empty] := by
      rw [List.take_add_one, List.getD_eq_getElem?_getD, List.getElem?_eq_getElem (show i < xs.length by omega)]
      rfl
    rw [e, List.nodup_append]
    unfold cuU
    by_cases m : xs.getD i Str.empty ∈ xs.take i
    · rw [if_pos m]
      constructor
      · intro z
        omega
      · rintro ⟨_, _, h3⟩
        exact absurd rfl (h3 _ m _ List.mem_cons_self)
    · rw [if_neg m]
      constructor
      · intro z
        refine ⟨ih.mp (by omega), by simp, fun a ha b hb e => ?_⟩
        rw [List.mem_singleton.mp hb] at e
        exact m (e ▸ ha)
      · rintro ⟨h1, _, _⟩
        rw [ih.mpr h1]
section
variable {P : Program} {w : World} {A : Around} {I S : Addr} {fp wr : List Addr} {G : Array GenState → Array GenState → Prop} {n : Nat} {Pv : Nat → Value → Prop} {St : Nat → Shared → Prop} {R : Result → Shared → Prop}
/-- the loop of set(..) over unlike texts -/
theorem loopV (W : WalksS P w A.in1 I fp wr G n Pv St) (nS : S ∉ fp) {xs : List Str} (ln : xs.length = n) (few : n + 1 < scanBound) (hv : ∀ i v, Pv i v → ∃ t, v = .str (xs.getD i Str.empty) t) :
    ∀ (m i : Nat) (s : Shared), i + m = n → St i s → s.heap.SetOf (PySem.strKind P w) S (fun z => decide (z ∈ xs.take i)) (cuU xs i) → (∀ s', Moved (S :: wr) G s s' → s'.heap.SetOf (PySem.strKind P w) S (fun z => decide (z ∈ xs.take n)) (cuU xs n) → R (.ok (.ret .none)) s') →
      codeAny (model P w) A (.builtin "set.update.loop" ⟨[.ref S, .ref I], []⟩) R s := by
  have nW : S ∉ wr := fun q => nS (W.sub _ q)
  have up : ∀ b ∈ wr, b ∈ S :: wr := fun b q => .tail _ q
  have kept : ∀ {s s' : Shared} {f : Str → Bool} {c : Nat}, Moved wr G s s' → s.heap.SetOf (PySem.strKind P w) S f c → s'.heap.SetOf (PySem.strKind P w) S f c := fun {s s' f c} mv so => by
    obtain ⟨o, es, ep, t, e1, e2⟩ := so
    exact ⟨o, es, ep, t, mv.heap S _ nW e1, e2⟩
  intro m
  induction m with
  | zero =>
    intro i s hi st so k
    have ei : i = n := by omega
    subst ei
    refine codeAny_builtin PyProof.Rows.F.entry_set_update_loop (?_ : wpAny _ (A.under _) _ _ _ s)
    rw [Around.under_plainId PyProof.Rows.F.plain_set_update_loop]
    exact wpAny_bind (W.done s _ _ st fun s' mv => wpAny_pure (k s' (mv.mono up) (kept mv so)))
  | succ m ih =>
    intro i s hi st so k
    have lt : i < n := by omega
    refine codeAny_builtin PyProof.Rows.F.entry_set_update_loop (?_ : wpAny _ (A.under _) _ _ _ s)
    rw [Around.under_plainId PyProof.Rows.F.plain_set_update_loop]
    refine wpAny_bind (W.item i s _ _ lt st fun v s1 pv st1 mv => ?_)
    obtain ⟨t, rfl⟩ := hv i v pv
    have li : i < xs.length := ln ▸ lt
    have ex : xs.getD i Str.empty = xs[i] := by simp [List.getD_eq_getElem?_getD, List.getElem?_eq_getElem li]
    rw [ex]
    have so1 := kept mv so
    have cle := cuU_le xs i
    show wpAny _ A.in1 (holding [Value.str xs[i] t] (setAdd S (.str xs[i] t)) >>= fun _ => _) _ _ s1
    refine wpAny_bind (wpAny_holding ((?_ : wpAny _ _ (holding _ _) _ _ _)))
    refine wpAny_holding (wpAny_bind ((PySem.strKind P w).pyHash (strKind_is _ _ _ _) ?_))
    refine wpAny_setAddHashed_of (k := xs[i]) (knd := PySem.strKind P w) (s := { s1 with toks := s1.toks + 1 }) (strKind_is _ _ _ _) rfl so1 (by omega) fun h' same so2 => ?_
    have so3 : h'.SetOf (PySem.strKind P w) S (fun z => decide (z ∈ xs.take (i + 1))) (cuU xs (i + 1)) := by
      refine PyProof.Rows.SetOf_congr so2 (fun z => ?_) (by
        show _ = (if xs.getD i Str.empty ∈ xs.take i then cuU xs i else cuU xs i + 1)
        rw [ex]
        by_cases m : xs[i] ∈ xs.take i
        · rw [if_pos m, if_pos (decide_eq_true m)]
        · rw [if_neg m, if_neg (by simpa using m)])
      rw [List.take_succ, List.getElem?_eq_getElem li, ← Bool.decide_or]
      exact decide_eq_decide.mpr (by rw [List.mem_append]; simp)
    have oth : ∀ b o, b ≠ S → s1.heap.get? b = some o → h'.get? b = some o := fun b o q e => by rw [same.2 b q]; exact e
    refine wpAny_pure ⟨plainId_quiet PyProof.Rows.F.plain_set_update_loop _, ih (i + 1) _ (by omega) (W.frame _ s1 _ _ st1 (Nat.le_succ _) fun b q o e => oth b o (fun z => nS (z ▸ q)) e) so3 fun s2 mv2 so4 => k s2 ?_ so4⟩
    exact Moved.trans W.gtrans ((mv.mono up).then_heap (Nat.le_succ _) fun b o q e => oth b o (fun z => q (z ▸ List.mem_cons_self)) e) mv2
end
section
variable {P : Program} {w : World} {A : Around} {E : Value → Shared → Prop} {s : Shared} {l : Addr} {its : Array Value} {xs : List Str} {Q : Value → Shared → Prop}
/-- set(l), l a list of unlike texts -/
theorem call_setV (hh : A.handled = none) (hl : s.heap.IsList l its) (hx : StrsAre its.toList xs) (few : xs.length + 1 < scanBound)
    (k : ∀ (h' : Heap) (tk : Nat), h'.SetOf (PySem.strKind P w) s.heap.objs.size (fun z => decide (z ∈ xs)) (cuU xs xs.length) → (∀ b o, s.heap.get? b = some o → h'.get? b = some o) → Q (.ref s.heap.objs.size) { s with heap := h', toks := tk }) :
    wpAny (model P w) A (call (.type "set") [.ref l]) Q E s := by
  have T := PySem.F.called_set
  obtain ⟨c, tl, e0⟩ := T.mro
  have e1 := T.made
  have e2 := T.sub
  have e3 := T.notType
  have e4 := T.canCreate
  have e5 := PySem.F.typeCall_set_1 (.ref l)
  refine wpAny_call (codeAny_of_tree ((?_ : wpAny _ _ (callAny (.type "set") _) _ _ _)))
  refine wpAny_pure ⟨Code.quiet_builtin _ (by decide +kernel), codeAny_builtin PySem.F.entry_type_call ?_⟩
  rw [Around.under_plain (weight_type_call_type "set" [.ref l] []) rfl]
  repeat (any_goals (first | assumption | wp_step))
  generalize hN : s.heap.objs.size = N at *
  let e : Bool → Heap := fun led => s.heap.push { cls := .type "set", dict := none, data := .set #[] 0 (.fresh 0 0 led) }
  refine codeAny_mono (code_set_new_1 (.ref l) (E := E) (Q₁ := fun v t => ∃ led : Bool, v = .ref N ∧ t = { s with heap := e led }) fun led => ⟨led, by rw [hN], rfl⟩) fun r t hr => ?_
  match r, hr with
  | .error _, hr => exact hr
  | .ok .next, hr => exact hr.elim
  | .ok .brk, hr => exact hr.elim
  | .ok .cont, hr => exact hr.elim
  | .ok (.ret v), hr =>
    obtain ⟨led, rfl, rfl⟩ := hr
    have g0 : (e led).get? N = some { cls := .type "set", dict := none, data := .set #[] 0 (.fresh 0 0 led) } := by rw [← hN]; exact Heap.get?_push_size _ rfl
    have ty : Shared.TypeIs { s with heap := e led } (.ref N) "set" := ⟨_, g0, rfl⟩
    have e6 := T.init.lookup
    have e7 := T.init.bind (.ref N)
    repeat (any_goals (first | assumption | wp_step))
    refine codeAny_mono (codeAny_call_builtin (R := wants (fun r t => r = .none ∧ ∃ h' tk, t = { s with heap := h', toks := tk } ∧ h'.SetOf (PySem.strKind P w) N (fun z => decide (z ∈ xs)) (cuU xs xs.length) ∧ ∀ b o, s.heap.get? b = some o → h'.get? b = some o) E) T.init.plain PySem.F.entry_set_init (check_set_init_1 ty ?_)) fun r t hr => ?_
    rotate_left
    · match r, hr with
      | .error _, hr => exact hr
      | .ok .next, hr => exact hr.elim
      | .ok .brk, hr => exact hr.elim
      | .ok .cont, hr => exact hr.elim
      | .ok (.ret v), hr =>
        obtain ⟨rfl, h', tk, rfl, q1, q2⟩ := hr
        repeat (any_goals (first | assumption | wp_step))
        exact k h' tk q1 q2
    · have hl1 : (e led).IsList l its := hl.push _
      obtain ⟨o, ho, hc, nl, hd⟩ := hl1
      have c1 := PySem.F.sub_list_set
      have c2 := PySem.F.sub_list_frozenset
      have c3 : (Value.type "list" == Value.type "dict") = false := by decide
      have hl2 : (e led).IsList l its := ⟨o, ho, hc, nl, hd⟩
      obtain ⟨cl, dc, dt, sl⟩ := o
      simp only at hc hd
      subst hc
      subst hd
      unfold Builtin.«set.__init__» noKeywords Builtin.Frozenset.updateFrom
      generalize hI : pyIter = it
      wp_walk
      subst hI
      refine wpAny_pyIter_list hl2 (wpAny_bind (wpAny_runValue ?_))
      have sz : (e led).objs.size = N + 1 := by rw [← hN]; exact Heap.size_push _ _
      have lN : l < N := by
        obtain ⟨o2, ho2, _⟩ := hl
        rw [← hN]
        exact Heap.lt_size ho2
      have ln : xs.length = its.size := by rw [← StrsAre.len_eq hx, Array.length_toList]
      have hh3 : A.in1.in1.in1.handled = none := hh
      refine loopV ((Walks.list hh3 (e led).objs.size l (by rw [sz]; exact Nat.ne_of_lt (Nat.lt_succ_of_lt lN)) its).toS) (S := N) (fun q => by
        rw [sz] at q
        rcases List.mem_cons.mp q with q | q
        · exact absurd q (Nat.ne_of_lt (Nat.lt_succ_self _))
        · exact absurd (List.mem_singleton.mp q) (Nat.ne_of_gt lN)) ln (by omega) (fun i v q => SS.strs_at hx i v (by rw [Array.getElem?_toList]; exact q)) its.size 0 _ (by omega) ⟨⟨_, Heap.get?_push_size _ rfl, rfl, rfl⟩, hl2.push _⟩ ?_ fun t mv so => ?_
      · have g1 : ((e led).push { cls := .type "list_iterator", data := .fields #[.ref l, .int 0 0] }).get? N = some { cls := .type "set", dict := none, data := .set #[] 0 (.fresh 0 0 led) } := Heap.get?_push_of_some _ g0
        exact PyProof.Rows.SetOf_congr ((PyProof.Rows.setObjOf_fresh (knd := PySem.strKind P w) led).setOf g1 (by unfold scanBound; omega)) (fun z => by simp) rfl
      · obtain ⟨h', gs, dr, tk, os⟩ := t
        have m1 : gs = s.gens := mv.gens
        have m2 : dr = s.drawn := mv.drawn
        have m3 : os = s.os := mv.os
        subst m1
        subst m2
        subst m3
        refine wpAny_pure (wpAny_pure ⟨rfl, h', tk, rfl, ?_, fun b o q => ?_⟩)
        · rw [← ln, List.take_length] at so
          exact so
        · have hb : b < N := by rw [← hN]; exact Heap.lt_size q
          exact mv.heap b o (fun z => by
            rw [sz] at z
            rcases List.mem_cons.mp z with z | z
            · exact absurd z (Nat.ne_of_lt hb)
            · exact absurd (List.mem_singleton.mp z) (Nat.ne_of_lt (Nat.lt_succ_of_lt hb))) (Heap.get?_push_of_some _ (Heap.get?_push_of_some _ q))
end
end KD

namespace KD
open PySem PySem.Spec PyProof.Rows L2
/-- how many unlike texts a list has (any list) -/
def tUnlikeN (K : PySem.W.Frag) (ta : TE) : TE := fun σ H Q => ta σ H fun x H1 => ∃ (l : Addr) (xs : List Str), x = .ref l ∧ SqL K H1 l (xs.map V.str) ∧ xs.length ≤ 1000 ∧ Q (.int (cuU xs xs.length)) H1
section
variable {X : Cx} {a : Expr} {ta : TE} {p p2 q pos : Pos}
theorem pe_unlikeN (hc : X.calm = true) (g1 : Gl X "len") (m1 : X.mg "len" = none) (g2 : Gl X "set") (m2 : X.mg "set" = none) (ha : PE X a ta)
    (na : starEach [a] X.env = (false, eval a X.env) :: starEach [] X.env := by rfl) : PE X (.Call (.Name "len" p) [.Call (.Name "set" p2) [a] [] q] [] pos) (tUnlikeN X.K ta) := by
  refine ⟨fun pins s σ H Q I h => Call_ (ld_blt I g1 m1 boot_len (PyProof.Rows.callWith_builtin1 (PyProof.Rows.args_cons (Call_ (ld_blt I g2 m2 boot_set ?_)) rfl) rfl rfl))⟩
  refine PyProof.Rows.callWith_type1 (PyProof.Rows.args_cons (thn (ha.run pins s σ H _ I h) fun v t w => PyProof.Rows.args_nil ?_) na) na rfl
  obtain ⟨x, H1, I1, r1, l, xs, rfl, hq, few, q1⟩ := w
  cases r1
  obtain ⟨its, r, pl, _⟩ := I1.list hq
  refine call_setV (I1.ok.hd hc) pl.isList (by simpa using strsAre_of r) (by unfold scanBound; omega) fun h' tk so kp => PyProof.Rows.args_nil ?_
  obtain ⟨o, es, ep, tb, e1, e2, e3, _, _, _, e7, e8⟩ := so
  have I2 : Inv X pins σ H1 { t with heap := h', toks := tk } := I1.kept kp
  exact call_len_set e1 e2 e3 e7 (by rw [e8] <;> (have := cuU_le xs xs.length; omega)) ⟨.int (cuU xs xs.length), H1, I2.tok _, ⟨_, by rw [e8]⟩, q1⟩
end
section
variable {X : Addr → Prop} {H : Hp} {σ : L2.St} {te : TE} {K : PySem.W.Frag} {ns : List Str}
theorem g_unlikeN (h : G X te σ H (.list (ns.map PyData.str))) (few : ns.length ≤ 1000) : G X (tUnlikeN K te) σ H (.int (cuU ns ns.length : Nat)) := fun H1 s Q q =>
  h H1 s _ fun v H2 s2 rv => by
    obtain ⟨a, xs, rfl, _, e, rx⟩ := rv.lst_inv
    exact ⟨a, ns, rfl, SqL.of (by rw [← rx.strs]; exact e), few, q _ H2 s2 (.int _)⟩
end
end KD

/-! enumerate of a tuple, and of what is a list or a tuple. -/
namespace KD
open PySem PySem.Spec PyProof.Rows L2
open AutoSeq1 (wpAny_loadPart')
theorem newT (l : Addr) (its : Array Value) (n : Nat) (dc : Option Addr) (sl : Array (Option Value)) : Meets (Builtin.«enumerate.__new__» ⟨[.type "enumerate", .ref l], []⟩) (fun _ R s =>
    s.heap.get? l = some ⟨.type "tuple", dc, .seq its n, sl⟩ ∧ R (.ok (.ret (.ref (s.heap.push ⟨.type "tuple_iterator", none, .fields #[.ref l, .int 0 0], #[]⟩).objs.size))) { s with heap := (s.heap.push ⟨.type "tuple_iterator", none, .fields #[.ref l, .int 0 0], #[]⟩).push ⟨.type "enumerate", none, .fields #[.none, .bool false, .ref s.heap.objs.size, rawInt 0, .none, .none], #[]⟩ }) :=
  .of_wp fun prog w A R s q => by
    obtain ⟨hp, g, d, tk, os⟩ := s
    obtain ⟨e, q⟩ := q
    have hs := sub_enumerate
    have T : Heap.IsTuple (Shared.heap ⟨hp, g, d, tk, os⟩) l its := ⟨_, e, rfl, n, rfl⟩
    wp_walk using wpAny_loadPart' e
    refine wpAny_stack_any fun st => wpAny_pure ?_
    split
    · rename_i c _ _ _ _ _
      cases c == Value.type "enumerate" <;> (wp_walk using wpAny_loadPart' e, wpAny_pyIter_tuple T; exact ⟨_, rfl, q⟩)
    · wp_walk using wpAny_loadPart' e, wpAny_pyIter_tuple T
      exact ⟨_, rfl, q⟩
section
variable {P : Program} {w : World} {A : Around} {E : Value → Shared → Prop} {s : Shared} {l : Addr} {its : Array Value} {Q : Value → Shared → Prop}
theorem call_enumT (T : s.heap.IsTuple l its) (k : ∀ h', IsEnum h' (s.heap.objs.size + 1) s.heap.objs.size 0 .none → h'.IsTupleIter s.heap.objs.size l 0 → (∀ b o, s.heap.get? b = some o → h'.get? b = some o) → Q (.ref (s.heap.objs.size + 1)) { s with heap := h' }) :
    wpAny (model P w) A (call (.type "enumerate") [.ref l]) Q E s := by
  obtain ⟨⟨c, dc, dt, sl⟩, e, hc, n, hd⟩ := T
  simp only at hc hd
  subst hc
  subst hd
  refine callType_new F.called_enumerate (by decide) (F.typeCall_enumerate_1 _) (F.newCall_enumerate_1 _) (fun v => F.args_object_init_2 v _) F.entry_enumerate_new (newT l its n dc sl) ⟨e, (?_ : _ ∧ _)⟩
  have sz : (s.heap.push ⟨.type "tuple_iterator", none, .fields #[.ref l, .int 0 0], #[]⟩).objs.size = s.heap.objs.size + 1 := Heap.size_push ..
  rw [sz]
  have en := Heap.get?_push_size (s.heap.push ⟨.type "tuple_iterator", none, .fields #[.ref l, .int 0 0], #[]⟩) (o := ⟨.type "enumerate", none, .fields #[.none, .bool false, .ref s.heap.objs.size, rawInt 0, .none, .none], #[]⟩) rfl
  rw [sz] at en
  exact ⟨⟨_, en, rfl⟩, k _ en ⟨_, Heap.get?_push_of_some _ (Heap.get?_push_size _ rfl), rfl, rfl⟩ fun b o q => Heap.get?_push_of_some _ (Heap.get?_push_of_some _ q)⟩
end
/-- the tuple at a, each item in a new pair with its place -/
def ItEt (K : PySem.W.Frag) (a : Addr) (n : Nat) : It where
  go := fun i H => ∃ (xs : List V) (x : V), SqT K H a xs ∧ xs.length = n ∧ xs[i]? = some x
  yld := fun i H v H' => ∃ (T : Addr) (x : V), v = .ref T ∧ H T = none ∧ H' = upd H T (.tup [.int (i : Nat), x]) ∧ ∀ xs, SqT K H a xs → xs[i]? = some x
  stop := fun i H => ∃ xs : List V, SqT K H a xs ∧ xs.length = n ∧ xs.length ≤ i
theorem turn_enumT {P : Program} {w : World} {K : PySem.W.Frag} {elts : List Expr} {kk : Nat} {tpos : Pos} (a e it : Addr) (n : Nat) :
    Turn P w K (.Tuple elts kk tpos) (ItEt K a n) [e, it] e (fun i h => (∃ old, IsEnum h e it ((i : Nat) : Int) old) ∧ h.IsTupleIter it a i ∧ e ≠ it ∧ a ≠ it ∧ i ≤ n) where
  mem := List.mem_cons_self
  obj := fun i h st b hb => by
    obtain ⟨⟨old, he⟩, ⟨o, ho, hc, hd⟩, _⟩ := st
    rcases List.mem_cons.mp hb with z | z
    · subst z
      exact ⟨_, he, fun v q => nomatch q⟩
    · rw [List.mem_singleton.mp z]
      exact ⟨o, ho, fun v q => by rw [hd] at q; cases q⟩
  keep := fun i h h' st k => by
    obtain ⟨⟨old, he⟩, hi, h2, h3⟩ := st
    exact ⟨⟨old, k e List.mem_cons_self _ he⟩, hi.at fun o q => k it (.tail _ List.mem_cons_self) o q, h2, h3⟩
  item := by
    intro X hP hw hK hc i pins s σ H E I hf st hg
    subst hP hw hK
    obtain ⟨⟨old, he⟩, hit, hne, hne2, hle⟩ := st
    obtain ⟨xs, x, hq, hn, hx⟩ := hg
    obtain ⟨its, rv, p, hz⟩ := I.tuple hq
    obtain ⟨u, hu, ru⟩ := rv.get hx
    have hel : e < s.heap.objs.size := Heap.lt_size he
    have hil : it < s.heap.objs.size := by
      obtain ⟨_, q, _⟩ := hit
      exact Heap.lt_size q
    have nea : e ∉ [it, a] := fun q => by
      rcases List.mem_cons.mp q with q | q
      · exact hne q
      · obtain ⟨o, e1, e2, _⟩ := p
        rw [← List.mem_singleton.mp q, he] at e1
        cases e1
        exact absurd (show Value.type "enumerate" = Value.type "tuple" from e2) (by decide)
    have hlt : i < its.toArray.size := by
      rw [List.size_toArray]
      exact (List.getElem?_eq_some_iff.mp hu).1
    have D : Draws X.prog X.w X.A.in1 it [it, a] its.toArray.size _ _ := Draws.tuple (A := X.A.in1) (I.ok.hd hc) it a hne2 its.toArray
    refine wpAny_pyNext_enum_itemD D he ⟨hit, p⟩ hlt hne nea fun y h1 tk hy ho st1 hT hsz hk => ?_
    have ey : y = u := by
      rw [List.getElem?_toArray, hu] at hy
      exact (Option.some.inj hy).symm
    subst ey
    refine ⟨_, rfl, wpAny_letOwnedTupleGo_enum (s := { s with heap := h1, toks := tk + 1 }) ho fun h2 he' sb => ?_⟩
    have hT2 : h2.get? s.heap.objs.size = some { cls := .type "tuple", data := .seq #[.int i tk, y] } := (sb.2 _ (Nat.ne_of_gt hel)).trans hT
    have new : ObjOk X.prog X.w (upd H s.heap.objs.size (.tup [.int (i : Nat), x])) h2 s.heap.objs.size (.tup [.int (i : Nat), x]) := ⟨by show 2 ≤ sizeLine; decide, [.int i tk, y], .cons ⟨_, rfl⟩ (.cons ru .nil), ⟨_, hT2, rfl, _, rfl⟩⟩
    have no : ∀ b, b ∉ [e, it] → b ≠ e ∧ b ≠ it := fun b q => ⟨fun z => q (z ▸ List.mem_cons_self), fun z => q (z ▸ .tail _ List.mem_cons_self)⟩
    have I1 := I.turnedNew (t' := tk + 1) (ch := [e, it]) (fun b ob hb q => (sb.2 b (no b hb).1).trans (hk b ob (no b hb).1 (no b hb).2 q)) hf (Nat.le_refl _) new
    refine ⟨.ref s.heap.objs.size, _, I1, rfl, ⟨_, x, rfl, I.hok.fresh (Nat.le_refl _), rfl, fun ys hy => by rw [I.tuple_inj hy hq]; exact hx⟩, ⟨⟨y, ?_⟩, st1.1.at fun o q => (sb.2 it (Ne.symm hne)).trans q, hne, hne2, by
      have := (List.getElem?_eq_some_iff.mp hx).1
      omega⟩, fun b hb => ?_⟩
    · rw [show ((i + 1 : Nat) : Int) = (i : Int) + 1 by omega]
      exact he'
    · have lt : b < s.heap.objs.size := by
        rcases List.mem_cons.mp hb with z | z
        · rw [z]
          exact hel
        · rw [List.mem_singleton.mp z]
          exact hil
      rw [upd_ne (Nat.ne_of_lt lt)]
      exact (hf b hb).1
  done := by
    intro X hP hw hK hc i pins s σ H E I hf st hg
    subst hP hw hK
    obtain ⟨⟨old, he⟩, hit, hne, hne2, hle⟩ := st
    obtain ⟨xs, hq, hn, hx⟩ := hg
    obtain ⟨its, rv, p, hz⟩ := I.tuple hq
    obtain ⟨f0, f1, f2, f3, f4, f5⟩ := hf it (.tail _ List.mem_cons_self)
    have hl := rv.length
    have nea : e ∉ [it, a] := fun q => by
      rcases List.mem_cons.mp q with q | q
      · exact hne q
      · obtain ⟨o, e1, e2, _⟩ := p
        rw [← List.mem_singleton.mp q, he] at e1
        cases e1
        exact absurd (show Value.type "enumerate" = Value.type "tuple" from e2) (by decide)
    have ei : i = its.toArray.size := by
      rw [List.size_toArray]
      omega
    have D : Draws X.prog X.w X.A.in1 it [it, a] its.toArray.size _ _ := Draws.tuple (A := X.A.in1) (I.ok.hd hc) it a hne2 its.toArray
    exact wpAny_pyNext_enum_endD D he (ei ▸ ⟨hit, p⟩) fun h' eb => ⟨rfl, I.turned (t' := s.toks) (fun b o hb q => eb b o hb q) f0 f1 f3 f4 f5⟩
  self := fun A i s Q E st h => let ⟨⟨_, he⟩, _⟩ := st; wpAny_pyIter_enum he h
/-- a list or a tuple, each item with its place -/
def iEnumQ (K : PySem.W.Frag) (ta : TA) : TI := fun σ H R => ta σ H fun vs H1 => ∃ (a : Addr) (xs : List V), vs = [.ref a] ∧ ((SqL K H1 a xs ∧ R (Ite K a) H1) ∨ (SqT K H1 a xs ∧ R (ItEt K a xs.length) H1))
theorem pi_enumQ {X : Cx} {e : Expr} {ta : TA} {p pos tpos : Pos} {elts : List Expr} {kk : Nat} (hg : Gl X "enumerate") (hm : X.mg "enumerate" = none) (ha : PA X [e] ta) (hs : starEach [e] X.env = [(false, eval e X.env)] := by rfl) :
    PI X (.Tuple elts kk tpos) (.Call (.Name "enumerate" p) [e] [] pos) (iEnumQ X.K ta) := by
  refine ⟨fun pins s σ H R I h => Call_ (ld_blt I hg hm boot_enumerate (PyProof.Rows.callWith_type1 (thn (ha.run pos pins s σ H _ I h) fun us s1 w => ?_) hs rfl))⟩
  obtain ⟨vs, H1, I1, r1, a, xs, rfl, q⟩ := w
  cases r1 with
  | cons r rr =>
    cases rr
    cases r
    have fresh : ∀ b, b ∈ [s1.heap.objs.size + 1, s1.heap.objs.size] → s1.heap.objs.size ≤ b := fun b hb => by
      rcases List.mem_cons.mp hb with z | z
      · rw [z]
        exact Nat.le_succ _
      · rw [List.mem_singleton.mp z]
        exact Nat.le_refl _
    rcases q with ⟨hq, q⟩ | ⟨hq, q⟩
    · obtain ⟨its, rv, p', _⟩ := I1.list hq
      refine call_enumerate_list p'.isList fun h' he hit hz hk => wpAny_pyIter_enum he ?_
      exact ⟨_, [s1.heap.objs.size + 1, s1.heap.objs.size], _, _, H1, rfl, I1.kept (t' := s1.toks) hk, turn_enum a _ _, ⟨⟨.none, he⟩, hit, Nat.succ_ne_self _⟩, fun b hb => I1.fpOk (fresh b hb) (I1.hok.fresh (fresh b hb)), q⟩
    · obtain ⟨its, rv, p', _⟩ := I1.tuple hq
      have na : a ≠ s1.heap.objs.size := by
        obtain ⟨o, e1, _⟩ := p'
        exact Nat.ne_of_lt (Heap.lt_size e1)
      refine call_enumT p' fun h' he hit hk => wpAny_pyIter_enum he ?_
      exact ⟨_, [s1.heap.objs.size + 1, s1.heap.objs.size], _, _, H1, rfl, I1.kept (t' := s1.toks) hk, turn_enumT a _ _ xs.length, ⟨⟨.none, he⟩, hit, Nat.succ_ne_self _, na, Nat.zero_le _⟩, fun b hb => I1.fpOk (fresh b hb) (I1.hok.fresh (fresh b hb)), q⟩
section
variable {K : PySem.W.Frag} {a : Addr} {xs : List V}
theorem walk_enumT : Walk (ItEt K a xs.length) xs.length (fun H => SqT K H a xs) (YPair (fun i => some (.int (i : Nat))) (fun i => xs[i]?)) := by
  refine ⟨fun i _ hi q => ⟨xs, xs[i], q, rfl, by simp [hi]⟩, fun _ q => ⟨xs, q, rfl, Nat.le_refl _⟩, fun i H v H' _ q y => ?_⟩
  obtain ⟨T, x, h1, h2, h3, h4⟩ := y
  exact ⟨T, .int (i : Nat), x, h1, h2, h3, rfl, h4 xs q⟩
end
section
variable {X : Addr → Prop} {H : Hp} {σ : L2.St} {te : TE} {K : PySem.W.Frag} {d : PyData}
theorem gi_enumQ (h : G X te σ H d) (hs : isSeq d = true) : GI X (iEnumQ K (tCons te tNil)) σ H (enumD (itemsD d)) := by
  cases d with
  | list ds =>
    exact fun H1 s R r => h H1 s _ fun v H2 s2 rv => by
      obtain ⟨a, xs, rfl, n, e, rx⟩ := rv.lst_inv
      refine ⟨a, xs, rfl, .inl ⟨SqL.of e, r _ H2 s2 ⟨_, _, by rw [enumD_len, show (itemsD (PyData.list ds)).length = ds.length from rfl, ← rx.length]; exact walk_enum, fun X' m H3 k t => ?_⟩⟩⟩
      have n' : ¬ X' a := fun z => (m a z).elim n fun q => by rw [e] at q; cases q
      refine ⟨SqL.of (k a _ n' e), fun i x H4 y => ?_⟩
      obtain ⟨T, u, w, rfl, hT, rfl, hu, hw⟩ := y
      cases hu
      obtain ⟨d, h1, h2⟩ := rx.getV hw
      exact ⟨Same.upd hT, _, enumD_get h1, DX.newT t (.cons (.int _) (.cons ((h2.grow m).mono k) .nil)) hT⟩
  | tuple ds =>
    exact fun H1 s R r => h H1 s _ fun v H2 s2 rv => by
      obtain ⟨a, xs, rfl, n, e, rx⟩ := rv.tup_inv
      refine ⟨a, xs, rfl, .inr ⟨SqT.of e, r _ H2 s2 ⟨_, _, by rw [enumD_len, show (itemsD (PyData.tuple ds)).length = ds.length from rfl, ← rx.length]; exact walk_enumT, fun X' m H3 k t => ?_⟩⟩⟩
      have n' : ¬ X' a := fun z => (m a z).elim n fun q => by rw [e] at q; cases q
      refine ⟨SqT.of (k a _ n' e), fun i x H4 y => ?_⟩
      obtain ⟨T, u, w, rfl, hT, rfl, hu, hw⟩ := y
      cases hu
      obtain ⟨d, h1, h2⟩ := rx.getV hw
      exact ⟨Same.upd hT, _, enumD_get h1, DX.newT t (.cons (.int _) (.cons ((h2.grow m).mono k) .nil)) hT⟩
  | _ => cases hs
end
end KD

/-! Numbers as rows of bits. -/
namespace KB
open PySem
def mk : List Bool → Int
  | [] => 0
  | b :: r => (if b then 1 else 0) + 2 * mk r
theorem mk_half (b : Bool) (r : List Bool) : mk (b :: r) / 2 = mk r := by
  rw [mk]
  cases b <;> simp <;> omega
theorem mk_low (b : Bool) (r : List Bool) : mk (b :: r) % 2 = 1 ↔ b = true := by
  rw [mk]
  cases b <;> simp <;> omega
theorem not_half (b : Bool) (r : List Bool) : Builtin.bitNot (mk (b :: r)) / 2 = Builtin.bitNot (mk r) := by
  unfold Builtin.bitNot
  show (-((if b then 1 else 0) + 2 * mk r) - 1) / 2 = _
  cases b <;> simp <;> omega
theorem not_low (b : Bool) (r : List Bool) : Builtin.bitNot (mk (b :: r)) % 2 = 1 ↔ b = false := by
  unfold Builtin.bitNot
  show (-((if b then 1 else 0) + 2 * mk r) - 1) % 2 = 1 ↔ _
  cases b <;> simp <;> omega
theorem mk_nonneg : ∀ r : List Bool, 0 ≤ mk r
  | [] => by simp [mk]
  | b :: r => by
    have := mk_nonneg r
    rw [mk]
    cases b <;> simp <;> omega
theorem mk_lt : ∀ r : List Bool, mk r < 2 ^ r.length
  | [] => by simp [mk]
  | b :: r => by
    have := mk_lt r
    rw [mk, List.length_cons, Int.pow_succ]
    cases b <;> simp <;> omega
theorem and_mk : ∀ xs ys : List Bool, xs.length = ys.length → Builtin.bitAnd (mk xs) (mk ys) = mk (List.zipWith (fun a b => a && b) xs ys)
  | [], [], _ => by decide
  | a :: xs, b :: ys, h => by
    rw [PySem.W.kbt_halves, mk_half, mk_half, and_mk xs ys (by simpa using h), List.zipWith_cons_cons]
    simp only [mk_low]
    rw [mk]
    cases a <;> cases b <;> simp <;> omega
theorem andn_mk : ∀ xs ys : List Bool, xs.length = ys.length → Builtin.bitAnd (mk xs) (Builtin.bitNot (mk ys)) = mk (List.zipWith (fun a b => a && !b) xs ys)
  | [], [], _ => by decide
  | a :: xs, b :: ys, h => by
    rw [PySem.W.kbt_halves, mk_half, not_half, andn_mk xs ys (by simpa using h), List.zipWith_cons_cons]
    simp only [mk_low, not_low]
    rw [mk]
    cases a <;> cases b <;> simp <;> omega
theorem nor_mk : ∀ xs ys : List Bool, xs.length = ys.length → Builtin.bitAnd (Builtin.bitNot (mk xs)) (Builtin.bitNot (mk ys)) = Builtin.bitNot (mk (List.zipWith (fun a b => a || b) xs ys))
  | [], [], _ => by decide
  | a :: xs, b :: ys, h => by
    rw [PySem.W.kbt_halves, not_half, not_half, nor_mk xs ys (by simpa using h), List.zipWith_cons_cons]
    simp only [not_low]
    unfold Builtin.bitNot
    rw [mk]
    cases a <;> cases b <;> simp <;> omega
theorem not_not (x : Int) : Builtin.bitNot (Builtin.bitNot x) = x := by
  unfold Builtin.bitNot
  omega
theorem or_mk {xs ys : List Bool} (h : xs.length = ys.length) : Builtin.bitOr (mk xs) (mk ys) = mk (List.zipWith (fun a b => a || b) xs ys) := by
  unfold Builtin.bitOr
  rw [nor_mk xs ys h, not_not]
theorem and_zero (x : Int) : Builtin.bitAnd x 0 = 0 := by
  unfold Builtin.bitAnd
  by_cases h : 0 ≤ x <;> simp [h]
theorem or_zero (xs : List Bool) : Builtin.bitOr (mk xs) 0 = mk xs := by
  have h : mk (List.replicate xs.length false) = 0 := by
    generalize xs.length = n
    induction n with
    | zero => rfl
    | succ n ih => rw [List.replicate_succ, mk, ih]; rfl
  rw [← h, or_mk (by simp)]
  congr 1
  apply List.ext_getElem (by simp)
  intro i h1 h2
  simp
theorem shr_mk : ∀ (bs : List Bool) (j : Nat), mk bs / 2 ^ j = mk (bs.drop j)
  | bs, 0 => by simp
  | [], j + 1 => by simp [mk]
  | b :: r, j + 1 => by
    rw [Int.pow_succ, Int.mul_comm, ← Int.ediv_ediv_of_nonneg (by omega), mk_half, shr_mk r j]
    rfl
theorem and_one (b : Bool) (r : List Bool) : Builtin.bitAnd (mk (b :: r)) 1 = if b then 1 else 0 := by
  rw [PySem.W.kbt_halves, show (1 : Int) / 2 = 0 by decide, and_zero]
  have h : (1 : Int) % 2 = 1 := by decide
  simp only [mk_low, h, and_true]
  cases b <;> simp
theorem bit_mk {bs : List Bool} {j : Nat} (h : j < bs.length) : Builtin.bitAnd (mk bs / 2 ^ j) 1 = if bs[j] then 1 else 0 := by
  rw [shr_mk, List.drop_eq_getElem_cons h, and_one]
theorem start_mk : ∀ n : Nat, (2 : Int) ^ n - 1 = mk (List.replicate n true)
  | 0 => by decide
  | n + 1 => by
    have := start_mk n
    rw [List.replicate_succ, mk, ← this, Int.pow_succ]
    simp
    omega
/-- the sum of the powers told -/
theorem sum_mk : ∀ (bs : List Bool) (k : Nat), (((bs.zipIdx k).filter fun p => p.1).map fun p => (2 : Int) ^ p.2).sum = 2 ^ k * mk bs
  | [], k => by simp [mk]
  | b :: r, k => by
    have ih := sum_mk r (k + 1)
    rw [List.zipIdx_cons, mk]
    cases b
    · rw [List.filter_cons_of_neg (by simp), ih, Int.pow_succ]
      simp [Int.mul_assoc]
    · rw [List.filter_cons_of_pos (by simp), List.map_cons, List.sum_cons, ih, Int.pow_succ]
      simp [Int.mul_add, Int.mul_assoc]
end KB

/-! Names, lists of names. -/
namespace K82
open PySem PySem.Spec PyProof.Rows L2 KD
variable {P : Program} {w : World} {K : PySem.W.Frag} {mg : Str → Option Value} {base : Heap}
def SIGNS_S : Str := "abcdefghijklmnopqrstuvwxyz0123456789"
/-! ### texts, sign by sign -/
section
variable {X : Addr → Prop} {σ : L2.St} {H : Hp} {ta tb tc te : TE} {x y z : PyData} {r r' : R2} {a b : Bool}
theorem g_chain (t : Trk X H) (ha : G X ta σ H x) (hb : G X tb σ H y) (hc : a = true → G X tc σ H z) (h1 : RB X r x y a) (h2 : RB X r' y z b) : G X (tChain r r' ta tb tc) σ H (.bool (a && b)) := fun H1 s Q q =>
  ha H1 s _ fun u H2 s2 ru => hb H2 (s.trans s2) _ fun v H3 s3 rv => by
    have t3 := ((t.mono s).mono s2).mono s3
    refine h1 H3 u v t3 (ru.mono (Kp.of s3)) rv _ ⟨a, rfl, ?_⟩
    cases a with
    | false => exact q _ H3 (s2.trans s3) (.bl _)
    | true =>
      refine hc rfl H3 ((s.trans s2).trans s3) _ fun w' H4 s4 rw' => ?_
      exact h2 H4 v w' (t3.mono s4) (rv.mono (Kp.of s4)) rw' _ (q _ H4 ((s2.trans s3).trans s4) (.bl _))
theorem rb_leS {i j : Str} : RB X (fun x y H Q => ∃ i j, x = V.str i ∧ y = V.str j ∧ Q (V.bl (!decide (j.cps.toList < i.cps.toList))) H) (.str i) (.str j) (!decide (j.cps.toList < i.cps.toList)) := fun H u v _ ru rv Q q => ⟨i, j, ru.str_inv, rv.str_inv, q⟩
theorem rb_inS {c : Nat} {z : Str} : RB X rInS (.str ⟨#[c]⟩) (.str z) (decide (c ∈ z.cps.toList)) := fun H u v _ ru rv Q q => ⟨c, z, ru.str_inv, rv.str_inv, q⟩
theorem g_ixS {z : Str} {i : Int} {c : Nat} (ha : G X ta σ H (.str z)) (hb : G X tb σ H (.int i)) (hl : z.length ≤ 1000000) (h : atI z.cps.toList i = some c) : G X (tOp rIxS ta tb) σ H (.str ⟨#[c]⟩) := fun H1 s Q q =>
  ha H1 s _ fun u H2 s2 ru => hb H2 (s.trans s2) _ fun v H3 s3 rv => ⟨z, i, c, ru.str_inv, rv.int_inv, by rw [sizeLine_eq]; omega, h, q _ H3 (s2.trans s3) (.str _)⟩
theorem gi_str {z : Str} (h : G X te σ H (.str z)) : GI X (iStr te) σ H (z.cps.toList.map fun c => .str ⟨#[c]⟩) := fun H1 s R rr => h H1 s _ fun v H2 s2 rv =>
  ⟨z, rv.str_inv, rr _ H2 s2 ⟨_, _, by rw [List.length_map, Array.length_toList]; exact walk_str, fun X' m H3 k t => ⟨trivial, fun i x H4 yy => by
    obtain ⟨rfl, c, hc, rfl⟩ := yy
    exact ⟨Same.refl _, .str ⟨#[c]⟩, by rw [List.getElem?_map, Array.getElem?_toList, hc]; rfl, .str _⟩⟩⟩⟩
theorem g_all {bs : List Bool} (t : Trk X H) (h : G X te σ H (.list (bs.map PyData.bool))) : G X (tCB (rAll K) (tCons te tNil)) σ H (.bool (bs.all id)) := g_cb t (ga_cons h ga_nil) rf_all
end
theorem envUn' {X : Addr → Prop} {H : Hp} {σ : L2.St} {Γ : List Sv} (E : EnvOk X H σ Γ) (i : Nat) : EnvOk X H σ (Γ.set i .un) := ⟨by rw [List.length_set]; exact E.len, fun j s e => by
  rw [List.getElem?_set] at e
  split at e
  · split at e
    · cases e
      trivial
    · cases e
  · exact E.get j s e⟩
abbrev s_is_truth : Stmt := topS 12
abbrev n_is_truth : List Str := ["thing"]
theorem sc_is_truth : FnScope n_is_truth ["thing"] (defScope s_is_truth) := ⟨rfl, rfl, rfl, by decide +kernel, rfl, by decide +kernel, by decide +kernel⟩
theorem ok_is_truth {f : Addr} {fd : FuncData} (F : Fun K "is_truth" "is_truth" s_is_truth f fd) (T : Bl mg) : FnOk P w K mg base CX0 1 f fd ["thing"] (sp1 (fun _ => True) fun d => .bool (isa_bool d)) := by
  refine ok1 F sc_is_truth (by decide) fun cdv A outer s H E X d Q hr t _ q => ⟨_, (pss_one (ps_ret (pe_callB call_isi (by rfl) T.b_isinstance boot_isinstance (pa_cons (pv 0) (pa_cons (pe_bltn (v := .ty "bool") (by rfl) T.b_bool boot_bool rfl) pa_nil))))), fun σ En => ?_⟩
  exact s_ret (g_isBool (g_var En rfl)) q
abbrev s_is_pair : Stmt := topS 13
abbrev n_is_pair : List Str := ["thing"]
theorem sc_is_pair : FnScope n_is_pair ["thing"] (defScope s_is_pair) := ⟨rfl, rfl, rfl, by decide +kernel, rfl, by decide +kernel, by decide +kernel⟩
theorem ok_is_pair {f : Addr} {fd : FuncData} (F : Fun K "is_pair" "is_pair" s_is_pair f fd) (T : Bl mg) (O_is_list : Own P w K mg base CX0 1 "is_list" ["thing"] (sp1 (fun _ => True) fun d => .bool (isSeq d))) : FnOk P w K mg base CX0 2 f fd ["thing"] (sp1 (fun _ => True) fun d => .bool (isSeq d && decide (lenD d = 2))) := by
  refine ok1 F sc_is_pair (by decide) fun cdv A outer s H E X d Q hr t _ q => ⟨_, (pss_one (ps_ret (pe_and (pe_own O_is_list hr (by decide) (by rfl) (pa_cons (pv 0) pa_nil)) (pe_one (pe_cmpR (op_eqD hr.units) (pe_callB call_len (by rfl) T.b_len boot_len (pa_cons (pv 0) pa_nil)) pe_int (nomark _)))))), fun σ En => ?_⟩
  refine s_ret (g_and (g_call1 t (g_var En rfl) trivial) fun hb => g_is (g_eqD t (g_len t (g_var (i := 0) En rfl) (hasLen_seq hb)) g_int rfl rfl (shaped_int _) (shaped_int _)) (by rw [eqv_int]; congr 1; exact decide_eq_decide.mpr (by omega))) q
-- HINT is_name ix ix_str
-- HINT is_name it pi_str
-- HINT is_name in op_inS
abbrev s_is_index_of : Stmt := topS 28
abbrev n_is_index_of : List Str := ["thing", "things"]
theorem sc_is_index_of : FnScope n_is_index_of ["thing", "things"] (defScope s_is_index_of) := ⟨rfl, rfl, rfl, by decide +kernel, rfl, by decide +kernel, by decide +kernel⟩
theorem ok_is_index_of {f : Addr} {fd : FuncData} (F : Fun K "is_index_of" "is_index_of" s_is_index_of f fd) (T : Bl mg) (O_is_number : Own P w K mg base CX0 2 "is_number" ["thing"] (sp1 (fun _ => True) fun d => .bool (isNumD d))) : FnOk P w K mg base CX0 3 f fd ["thing", "things"] (sp2 (fun _ b => isSeq b = true) fun a b => .bool (isNumD a && decide (intOf a < (lenD b : Int)))) := by
  refine ok2 F sc_is_index_of (by decide) fun cdv A outer s H E X d1 d2 Q hr t hp q => ⟨_, (pss_one (ps_ret (pe_and (pe_own O_is_number hr (by decide) (by rfl) (pa_cons (pv 0) pa_nil)) (pe_one (pe_cmpR op_lt (pv 0) (pe_callB call_len (by rfl) T.b_len boot_len (pa_cons (pv 1) pa_nil)) (nomark _)))))), fun σ En => ?_⟩
  refine s_ret (g_and (g_call1 t (g_var (i := 0) En rfl) trivial) fun hb => ?_) q
  obtain ⟨i, rfl⟩ : ∃ i : Int, d1 = .int i := by
    cases d1 <;> first | exact ⟨_, rfl⟩ | cases hb
  exact g_cmpI t (g := fun i j => decide (i < j)) (g_var (i := 0) En rfl) (g_len t (g_var (i := 1) En rfl) (hasLen_seq hp))
abbrev s_is_name : Stmt := topS 14
abbrev n_is_name : List Str := ["thing", "sign"]
theorem sc_is_name : FnScope n_is_name ["thing"] (defScope s_is_name) := ⟨rfl, rfl, rfl, by decide +kernel, rfl, by decide +kernel, by decide +kernel⟩
def firstOk (s : Str) : Bool := match s.cps.toList with
  | [] => false
  | c :: _ => !decide ((⟨#[c]⟩ : Str).cps.toList < ("a" : Str).cps.toList) && !decide (("z" : Str).cps.toList < (⟨#[c]⟩ : Str).cps.toList)
def isNameS (s : Str) : Bool := (decide ((1 : Int) ≤ (s.length : Int)) && decide ((s.length : Int) ≤ 12)) && (firstOk s && (s.cps.toList.map fun c => decide (c ∈ SIGNS_S.cps.toList)).all id)
def isNameD : PyData → Bool
  | .str s => isNameS s
  | _ => false
def namePre (d : PyData) : Prop := ∀ s, d = .str s → s.length ≤ 1000000
theorem ok_is_name {f : Addr} {fd : FuncData} {tS : Tok} (F : Fun K "is_name" "is_name" s_is_name f fd) (T : Bl mg) (g_SIGNS : mg "SIGNS" = some (.str SIGNS_S tS)) : FnOk P w K mg base CX0 1 f fd ["thing"] (sp1 namePre fun d => .bool (isNameD d)) := by
  refine ok1 F sc_is_name (by decide) fun cdv A outer s H E X d Q hr t hp q => ⟨_, (pss_cons (ps_if (PW.pt (pw_or (pt_not (pt_val (pe_callB call_isi (by rfl) T.b_isinstance boot_isinstance (pa_cons (pv 0) (pa_cons (pe_bltn (v := .ty "str") (by rfl) T.b_str boot_str rfl) pa_nil))))) (pw_or1 (pt_not (pt_chain op_le op_le pe_int (pe_callB call_len (by rfl) T.b_len boot_len (pa_cons (pv 0) pa_nil)) pe_int)))))
    (pss_one (ps_ret pe_bl)) pss_nil)
    (pss_one (ps_ret (pe_and (pe_chain op_le_str op_le_str pe_str (pe_ix ix_str (pv 0) pe_int (fun _ _ => rfl)) pe_str) (pe_one (pe_callB (cr_all rfl) (by rfl) T.b_all boot_all (pa_cons (pe_lc (own := [("sign", 1)]) (g := (gName 1)) (tt := tYes) rfl sc_is_name.nd (pi_str (pv 0)) (blkOk_by (N := n_is_name) (sc := defScope s_is_name) (by decide +kernel)) (fun _ _ _ _ _ => (pg_name (i := 1) sc_is_name.nd rfl (by first | exact Or.inl rfl | exact Or.inr rfl))) (fun _ _ _ _ _ => pts_nil) (fun _ _ _ _ _ => (pe_cmpR op_inS (pv 1) (pe_glob (v := .str SIGNS_S) (by rfl) g_SIGNS ⟨_, rfl⟩) (by rfl)))) pa_nil))))))), fun σ En => ?_⟩
  by_cases hs : ∃ s, d = .str s
  rotate_left
  · have e1 : isa_str d = false := by cases d <;> first | rfl | exact absurd ⟨_, rfl⟩ hs
    have e2 : isNameD d = false := by cases d <;> first | rfl | exact absurd ⟨_, rfl⟩ hs
    rw [e2] at q
    refine q_if (b := true) (gt_is (gt_or (a := true) (b := true) (gt_is (gt_not (gt_B (g_isStr (g_var (i := 0) En rfl)))) (by rw [e1]; rfl)) fun h => by cases h) rfl) (fun _ H1 s1 => ?_) fun h => by cases h
    exact s_ret g_bl fun w H2 s2 dw => q w H2 (s1.trans s2) dw
  obtain ⟨z, rfl⟩ := hs
  have n2 := hp z rfl
  have lt : ∀ {H1 : Hp}, Same H H1 → G X (tCB (fun xs H Q => ∃ x n, xs = [x] ∧ LenV K x H n ∧ Q (V.int n) H) (tCons (tVar 0) tNil)) σ H1 (.int (z.length : Int)) := fun s => g_len (t.mono s) (g_var (i := 0) (En.same s) rfl) (by simpa [hasLen] using n2)
  refine q_if (b := !(decide ((1 : Int) ≤ (z.length : Int)) && decide ((z.length : Int) ≤ 12))) (gt_is (gt_or (a := false) (gt_is (gt_not (gt_B (g_isStr (g_var (i := 0) En rfl)))) rfl) fun _ => gt_not (gt_test (g_chain t g_int (lt (Same.refl _)) (fun _ => g_int) rb_I0 rb_I0))) rfl) (fun hb H1 s1 => ?_) fun hb H1 s1 => ?_
  · rw [Bool.not_eq_true'] at hb
    have e2 : isNameD (.str z) = false := by
      show isNameS z = false
      unfold isNameS
      rw [hb]
      rfl
    rw [e2] at q
    exact s_ret g_bl fun w H2 s2 dw => q w H2 (s1.trans s2) dw
  rw [Bool.not_eq_false'] at hb
  have E1 := En.same s1
  have t1 := t.mono s1
  obtain ⟨c, r, ec⟩ : ∃ c r, z.cps.toList = c :: r := by
    cases h : z.cps.toList with
    | nil =>
      rw [Bool.and_eq_true, decide_eq_true_iff] at hb
      have : z.cps.toList.length = 0 := by rw [h]; rfl
      rw [Array.length_toList] at this
      have h1 := hb.1
      have : z.length = 0 := this
      omega
    | cons c r => exact ⟨c, r, rfl⟩
  have e2 : isNameD (.str z) = ((!decide ((⟨#[c]⟩ : Str).cps.toList < ("a" : Str).cps.toList) && !decide (("z" : Str).cps.toList < (⟨#[c]⟩ : Str).cps.toList)) && (z.cps.toList.map fun c => decide (c ∈ SIGNS_S.cps.toList)).all id) := by
    show isNameS z = _
    unfold isNameS firstOk
    rw [hb, ec, Bool.true_and]
  rw [e2] at q
  refine s_ret (X := X) (g_and (g_chain t1 g_str (g_ixS (g_var (i := 0) E1 rfl) g_int n2 (by rw [ec]; exact atI_nat (xs := c :: r) (j := 0) rfl)) (fun _ => g_str) rb_leS rb_leS) fun _ => g_all t1 (bs := z.cps.toList.map fun c => decide (c ∈ SIGNS_S.cps.toList)) (g_is (g_lc1 (fun d => match d with | .str s => .bool (decide (s.cps.getD 0 0 ∈ SIGNS_S.cps.toList)) | _ => .none) t1 (gi_str (g_var (i := 0) E1 rfl)) (by rw [List.length_map, Array.length_toList]; exact n2) (fun H1 s d hd => tgt_name (E1.same s)) (fun X' H1 σ2 d hd t E => ?_)) ?_)) fun w H2 s2 dw => q w H2 (s1.trans s2) dw
  · obtain ⟨c, hc, rfl⟩ := List.mem_map.mp hd
    exact g_op t (g_var (i := 1) E rfl) g_str (RB.rd (b := decide (c ∈ SIGNS_S.cps.toList)) rb_inS)
  · rw [List.map_map, List.map_map]
    rfl
-- HINT are_names it pi_seq
-- HINT are_names unlike pe_unlikeN
abbrev s_are_names : Stmt := topS 16
abbrev n_are_names : List Str := ["thing", "name"]
theorem sc_are_names : FnScope n_are_names ["thing"] (defScope s_are_names) := ⟨rfl, rfl, rfl, by decide +kernel, rfl, by decide +kernel, by decide +kernel⟩
def stOf : PyData → Str
  | .str s => s
  | _ => Str.empty
def areNamesD (d : PyData) : Bool := isSeq d && ((itemsD d).all isNameD && decide (((itemsD d).map stOf).Nodup))
def namesPre (d : PyData) : Prop := isSeq d = true → (∃ ds, d = .list ds) ∧ (itemsD d).length ≤ 1000 ∧ ∀ z ∈ itemsD d, namePre z
theorem names_strs : ∀ {ds : List PyData}, (∀ z ∈ ds, isNameD z = true) → ds = (ds.map stOf).map PyData.str
  | [], _ => rfl
  | d :: r, h => by
    have := h d List.mem_cons_self
    cases d with
    | str s =>
      rw [List.map_cons, List.map_cons, ← names_strs fun z hz => h z (List.mem_cons_of_mem _ hz)]
      rfl
    | _ => cases this
theorem ok_are_names {f : Addr} {fd : FuncData} (F : Fun K "are_names" "are_names" s_are_names f fd) (T : Bl mg) (b_set : mg "set" = none) (O_is_list : Own P w K mg base CX0 1 "is_list" ["thing"] (sp1 (fun _ => True) fun d => .bool (isSeq d)))
    (O_is_name : Own P w K mg base CX0 1 "is_name" ["thing"] (sp1 namePre fun d => .bool (isNameD d))) : FnOk P w K mg base CX0 2 f fd ["thing"] (sp1 namesPre fun d => .bool (areNamesD d)) := by
  refine ok1 F sc_are_names (by decide) fun cdv A outer s H E X d Q hr t hp q => ⟨_, (pss_cons (ps_if (PW.pt (pw_or (pt_not (pt_val (pe_own O_is_list hr (by decide) (by rfl) (pa_cons (pv 0) pa_nil)))) (pw_or1 (pt_not (pt_val (pe_callB (cr_all rfl) (by rfl) T.b_all boot_all (pa_cons (pe_lc (own := [("name", 1)]) (g := (gName 1)) (tt := tYes) rfl sc_are_names.nd (pi_seq (pv 0)) (blkOk_by (N := n_are_names) (sc := defScope s_are_names) (by decide +kernel)) (fun _ _ _ _ _ => (pg_name (i := 1) sc_are_names.nd rfl (by first | exact Or.inl rfl | exact Or.inr rfl))) (fun _ _ _ _ _ => pts_nil) (fun _ _ _ _ _ => (pe_own O_is_name hr (by decide) (by rfl) (pa_cons (pv 1) pa_nil)))) pa_nil)))))))
    (pss_one (ps_ret pe_bl)) pss_nil)
    (pss_one (ps_ret (pe_cmpR (op_eqD hr.units) (pe_unlikeN rfl (by rfl) T.b_len (by rfl) b_set (pv 0)) (pe_callB call_len (by rfl) T.b_len boot_len (pa_cons (pv 0) pa_nil)) (nomark _))))), fun σ En => ?_⟩
  by_cases hs : isSeq d = true
  rotate_left
  · rw [Bool.not_eq_true] at hs
    have e : areNamesD d = false := by unfold areNamesD; rw [hs]; rfl
    rw [e] at q
    refine q_if (b := true) (gt_is (gt_or (a := true) (b := true) (gt_is (gt_not (gt_B (g_call1 t (g_var (i := 0) (d := d) En rfl) trivial))) (by rw [hs]; rfl)) fun h => by cases h) rfl) (fun _ H1 s1 => ?_) fun h => by cases h
    exact s_ret g_bl fun w H2 s2 dw => q w H2 (s1.trans s2) dw
  obtain ⟨⟨dl, hdl⟩, few, hz⟩ := hp hs
  refine q_if (b := !(itemsD d).all isNameD) (gt_is (gt_or (a := false) (gt_is (gt_not (gt_B (g_call1 t (g_var (i := 0) (d := d) En rfl) trivial))) (by rw [hs]; rfl)) fun _ => gt_not (gt_B (g_is (g_all t (bs := (itemsD d).map isNameD) (g_is (g_lc1 (Γ2 := fun z => [.dat d, .dat z]) (fun z => .bool (isNameD z)) t (gi_seq (g_var (i := 0) (d := d) En rfl) hs) (by omega) (fun H1 s z hz => tgt_name (En.same s)) (fun X' H1 σ2 z hm t E => g_call1 t (g_var (i := 1) (d := z) E rfl) (hz z hm))) (by rw [List.map_map]; rfl))) (by rw [List.all_map]; rfl)))) rfl) (fun hb H1 s1 => ?_) fun hb H1 s1 => ?_
  · rw [Bool.not_eq_true'] at hb
    have e : areNamesD d = false := by unfold areNamesD; rw [hb, hs]; rfl
    rw [e] at q
    exact s_ret g_bl fun w H2 s2 dw => q w H2 (s1.trans s2) dw
  rw [Bool.not_eq_false'] at hb
  have E1 := En.same s1
  have t1 := t.mono s1
  have e : areNamesD d = decide (((itemsD d).map stOf).Nodup) := by unfold areNamesD; rw [hb, hs]; rfl
  rw [e] at q
  rw [List.all_eq_true] at hb
  have ei := names_strs hb
  generalize hns : (itemsD d).map stOf = ns at *
  have ln : ns.length ≤ 1000 := by rw [← hns, List.length_map]; exact few
  have el : (itemsD d).length = ns.length := by rw [← hns, List.length_map]
  have gu : G X (tUnlikeN K (tVar 0)) σ H1 (.int (cuU ns ns.length : Nat)) := g_unlikeN (ns := ns) (g_is (g_var (i := 0) (d := d) E1 rfl) (by rw [← ei, hdl]; rfl)) ln
  refine s_ret (X := X) (g_is (g_eqD t1 gu (g_len t1 (g_var (i := 0) (d := d) E1 rfl) (hasLen_seq hs)) rfl rfl (shaped_int _) (shaped_int _)) ?_) fun w H2 s2 dw => q w H2 (s1.trans s2) dw
  rw [eqv_int, lenD_seq hs, el]
  congr 1
  refine decide_eq_decide.mpr ?_
  have := cuU_all (xs := ns) ns.length (Nat.le_refl _)
  rw [List.take_length] at this
  rw [← this]
  omega
end K82

/-! What is asked of whom, looked at. -/
namespace K82
open PySem PySem.Spec PyProof.Rows L2 KD
-- RAISES check_askings state_behind possible_ones never_parted is_search fewest_askings search ask_next check_many answers_against are_against
variable {P : Program} {w : World} {K : PySem.W.Frag} {mg : Str → Option Value} {base : Heap}
/-! ### promises of defs of some parameters that may raise -/
def spXn (n : Nat) (pre : List PyData → Prop) (f : List PyData → Out) : Sp := fun vs H Q E => ∃ (X : Addr → Prop) (ds : List PyData), vs.length = n ∧ Trk X H ∧ DXs X H vs ds ∧ pre ds ∧ EndQ X H (f ds) Q E
theorem envN {N : List Str} {X : Addr → Prop} {H : Hp} {vs : List V} {ds : List PyData} (r : DXs X H vs ds) (hN : vs.length ≤ N.length) : EnvOk X H (L2.start N vs) (pad N (ds.map Sv.dat)) := by
  have h := envOk_start (N := N) (ss := ds.map Sv.dat) (by rw [List.length_map]; exact r.length) (fun i s e v hv => by
    rw [List.getElem?_map] at e
    obtain ⟨d, hd, rfl⟩ := Option.map_eq_some_iff.mp e
    obtain ⟨v', h1, h2⟩ := r.get hd
    rw [h1] at hv
    cases hv
    exact ⟨_, rfl, h2⟩) hN
  unfold pad
  rw [List.length_map, ← r.length]
  exact h
section
variable {x qual : Str} {st : Stmt} {f : Addr} {fd : FuncData} {N ps : List Str} {k n : Nat}
theorem okXn {pre : List PyData → Prop} {g : List PyData → Out} (F : Fun K x qual st f fd) (S : FnScope N ps (defScope st)) (hn : ps.length = n) (hN : n ≤ N.length)
    (hbody : ∀ (cdv : Value) (A : Around) (outer : List Env) (s : Shared) (H : Hp) (E : XK) (X : Addr → Prop) (ds : List PyData) (Q : VK), Room k (A.deeper (envOfC qual (defScope st) s.heap.objs.size f cdv)) → Trk X H → ds.length = n → pre ds → EndQ X H (g ds) Q E →
      ∃ t, PSs (cxOf (L2.CX P w) P w K mg base N qual (defScope st) f cdv A outer s H E) (defBody st) t ∧ ∀ σ, EnvOk X H σ (pad N (ds.map Sv.dat)) → t { nx := fun _ H' => Q .non H', rt := Q } σ H) : FnOk P w K mg base (L2.CX P w) (k + 1) f fd ps (spXn n pre g) := by
  refine F.okX S (fun vs H Q E h => ?_) (fun cdv A outer s H vs Q E hr h => ?_)
  · obtain ⟨X, ds, hl, _⟩ := h
    rw [hl, hn]
  · obtain ⟨X, ds, hl, t, r, hp, q⟩ := h
    obtain ⟨tt, h1, h2⟩ := hbody cdv A outer s H E X ds Q hr t (by rw [← r.length, hl]) hp q
    exact ⟨tt, h1, h2 _ (envN r (by omega))⟩
end
section
variable {X : Addr → Prop} {σ : L2.St} {H : Hp} {ta : TA} {te : TE} {E : XK} {ds : List PyData} {n : Nat} {D : Ends} {tz : TS}
theorem c_Xn {pre : List PyData → Prop} {f : List PyData → Out} {Q : VK} (t : Trk X H) (h : GA X ta σ H ds) (hl : ds.length = n) (hp : pre ds) (q : EndQ X H (f ds) Q E) : tCall (spXn n pre f) [] E ta σ H Q :=
  h H (Same.refl H) _ fun vs H1 s r => by
    rw [List.append_nil]
    exact ⟨X, ds, by rw [r.length, hl], t.mono s, r, hp, q.mono s⟩
theorem c_XnD {pre : List PyData → Prop} {f : List PyData → Out} {Q : VK} (t : Trk X H) (h : GA X ta σ H ds) (hl : ds.length + 1 = n) (hp : pre (ds ++ [.int 0])) (q : EndQ X H (f (ds ++ [.int 0])) Q E) : tCall (spXn n pre f) [.int 0] E ta σ H Q :=
  h H (Same.refl H) _ fun vs H1 s r => ⟨X, ds ++ [.int 0], by rw [List.length_append, r.length]; exact hl, t.mono s, r.append (.cons (.int 0) .nil), hp, q.mono s⟩
theorem k_drop (h : te σ H fun _ H1 => tz D σ H1) : tSeq (tDrop te) tz D σ H := h
/-- a call that is refused, or goes on -/
theorem EndQ.err {o : Out} {Q Q2 : VK} {C : Addr} {fl : Str} {r : PyData} {o2 : Out} (q : EndQ X H o2 Q2 E) (e : o = .err C fl r) (e2 : o2 = .err C fl r) : EndQ X H o Q E := ⟨fun r' e' => (by rw [e] at e'; cases e'), fun C' fl' r' e' => by
  rw [e] at e'
  cases e'
  exact q.2 _ _ _ e2⟩
end
/-! ### the words -/
def rNN (K : PySem.W.Frag) (neg : Bool) : R2 := rIn K neg
theorem op_notInK {X : Cx} (h : X.K = K) : OpR X (compareOp .NotIn) (rIn K true) := h ▸ op_notIn_seq
theorem op_notInDK {X : Cx} (h : X.K = K) (hu : X.A.units + 65 < cLine) : OpR X (compareOp .NotIn) (rNotInD K) := h ▸ op_notInD hu
theorem sl_lstK {X : Cx} (h : X.K = K) : SlR X (rSlL K) := h ▸ sl_list
theorem rb_inI {X : Addr → Prop} {neg : Bool} {i : Int} {ds : List Int} : RB X (rIn K neg) (.int i) (.tuple (ds.map PyData.int)) (if neg then !decide (i ∈ ds) else decide (i ∈ ds)) := fun H u v _ ru rv Q q => by
  obtain ⟨a, xs, rfl, _, ha, rs⟩ := rv.tup_inv
  have ex := rs.ints
  subst ex
  have e1 : ∀ ds : List Int, inV (.int i) (ds.map V.int) = decide (i ∈ ds) := by
    intro ds
    induction ds with
    | nil => rfl
    | cons n ns ih =>
      unfold inV at ih ⊢
      rw [List.map_cons, List.any_cons, ih]
      show ((n == i) || decide (i ∈ ns)) = decide (i ∈ n :: ns)
      rw [Bool.eq_iff_iff, Bool.or_eq_true, decide_eq_true_iff, decide_eq_true_iff, List.mem_cons, beq_iff_eq]
      exact or_congr_left eq_comm
  rw [← e1] at q
  refine ⟨a, _, rfl, .inr (SqT.of ha), by rw [ru.int_inv]; rfl, ?_, by rw [ru.int_inv]; exact q⟩
  rw [List.all_eq_true]
  intro v hv
  obtain ⟨s, _, rfl⟩ := List.mem_map.mp hv
  rfl
theorem nd_all : ∀ {ds : List PyData}, (∀ z ∈ ds, noDict z = true) → noDicts ds = true
  | [], _ => by simp [noDicts]
  | d :: ds, h => by simp [noDicts, h d List.mem_cons_self, nd_all fun z hz => h z (List.mem_cons_of_mem _ hz)]
theorem lay_all : ∀ {ds : List PyData}, (∀ z ∈ ds, z.canLay0 = true) → PyData.canLayAll0 ds = true
  | [], _ => by simp [PyData.canLayAll0]
  | d :: ds, h => by simp [PyData.canLayAll0, h d List.mem_cons_self, lay_all fun z hz => h z (List.mem_cons_of_mem _ hz)]
theorem dep_all {k : Nat} : ∀ {ds : List PyData}, (∀ z ∈ ds, z.depth ≤ k) → PyData.depthAll ds ≤ k
  | [], _ => by simp [PyData.depthAll]
  | d :: ds, h => by
    have a := h d List.mem_cons_self
    have b := dep_all fun z hz => h z (List.mem_cons_of_mem _ hz)
    simp only [PyData.depthAll]
    omega
theorem shaped_mk {d : PyData} (h : d.canLay0 = true) (h2 : d.depth ≤ 64) : SeqAt.shaped d = true := by
  show (d.canLay0 && decide (d.depth ≤ 64)) = true
  rw [h, decide_eq_true h2]
  rfl
/-- so that it can be held against others -/
def Shp (z : PyData) : Prop := noDict z = true ∧ z.canLay0 = true ∧ z.depth ≤ 10
theorem shp_list {ds : List PyData} (h : ∀ z ∈ ds, Shp z) : noDict (.list ds) = true ∧ SeqAt.shaped (.list ds) = true := by
  refine ⟨nd_all fun z hz => (h z hz).1, shaped_mk ?_ ?_⟩
  · simp only [PyData.canLay0]
    exact lay_all fun z hz => (h z hz).2.1
  · have : PyData.depthAll ds ≤ 10 := dep_all fun z hz => (h z hz).2.2
    simp only [PyData.depth]
    omega
def susPre (d : PyData) : Prop := isSeq d = true → lenD d ≠ 0 → (∃ ds, d = .list ds) ∧ (itemsD d).length ≤ 1000 ∧ ∀ z ∈ itemsD d, namePre z ∧ Shp z
def askPre (d : PyData) : Prop := isSeq d = true → lenD d ≠ 0 → (itemsD d).length ≤ 1000 ∧ ∀ z ∈ itemsD d, namesPre z
def someD (d : PyData) : Bool := isSeq d && !decide (lenD d = 0)
def susB (ds : List PyData) (z : PyData) : Bool := isNameD (it z 1) && !(ds.take (intOf (it z 0)).toNat).any fun y => PyData.eqv y (it z 1)
def susI (d : PyData) : PyData := ffD 0 (((enumD (itemsD d)).map (susB (itemsD d))).map PyData.bool)
def askI (d : PyData) : PyData := ffD 0 (((itemsD d).map areNamesD).map PyData.bool)
def lieOk (d : PyData) : Bool := isIntD d && decide (intOf d ∈ [(0 : Int), 1])
def chkA (C1 C2 C3 : Addr) (d1 d2 d3 : PyData) : Out :=
  if someD d1 = false then .err C1 "index" (.int 0) else
  if isNone (susI d1) = false then .err C1 "index" (susI d1) else
  if someD d2 = false then .err C2 "index" (.int 0) else
  if isNone (askI d2) = false then .err C2 "index" (askI d2) else
  if lieOk d3 = false then .err C3 "thing" d3 else .val .none
def at_ (ds : List PyData) (i : Nat) : PyData := ds.getD i .none
def chkPre (ds : List PyData) : Prop := susPre (at_ ds 0) ∧ askPre (at_ ds 1)
theorem cut_to (ds : List PyData) (n : Nat) : cutPD ds none (some (n : Int)) = ds.take n := by
  show (ds.drop (HT.sIx ds.length 0 none)).take (HT.sIx ds.length ds.length (some (n : Int)) - HT.sIx ds.length 0 none) = _
  rw [sIx_nn (by omega)]
  show (ds.drop 0).take (min ((n : Int)).toNat ds.length - 0) = _
  rw [List.drop_zero, Nat.sub_zero, show ((n : Int)).toNat = n by omega]
  by_cases h : n ≤ ds.length
  · rw [Nat.min_eq_left h]
  · rw [Nat.min_eq_right (by omega), List.take_length, List.take_of_length_le (by omega)]
theorem gt_some {X : Addr → Prop} {σ : L2.St} {H : Hp} {Γ : List Sv} {i : Nat} {d : PyData} (t : Trk X H) (E : EnvOk X H σ Γ) (h : Γ[i]? = some (.dat d)) : GT (tOr (tNot (tB (tCall (sp1 (fun _ => True) fun d => .bool (isSeq d)) [] E0 (tCons (tVar i) tNil)))) (tTest (tOp (rEqD K) (tCB (fun xs H Q => ∃ x n, xs = [x] ∧ LenV K x H n ∧ Q (V.int n) H) (tCons (tVar i) tNil)) (tC (.int 0))))) σ H (!someD d) := by
  refine gt_is (gt_or (a := !isSeq d) (b := decide (lenD d = 0)) (gt_not (gt_B (g_call1 t (g_var (i := i) (d := d) E h) trivial))) fun hb => ?_) ?_
  · rw [Bool.not_eq_false'] at hb
    refine gt_is (gt_eqI t (g_len t (g_var (i := i) (d := d) E h) (hasLen_seq hb)) g_int) ?_
    exact decide_eq_decide.mpr (by omega)
  · unfold someD
    rw [Bool.not_and, Bool.not_not]
-- HINT check_askings it pi_seq
-- HINT check_askings in#1 (op_notInDK (K := K) rfl (Nat.lt_of_le_of_lt (Nat.add_le_add_left (by decide : 65 ≤ 16 * 2 + 200) _) (Nat.add_assoc _ _ _ ▸ hr.un)))
-- HINT check_askings in#2 (op_notInK (K := K) rfl)
-- HINT check_askings slice (sl_lstK (K := K) rfl)
-- HINT check_askings enum pi_enumQ
abbrev s_check_askings : Stmt := topS 18
abbrev n_check_askings : List Str := ["suspects", "askings", "lies", "index", "place", "name", "names"]
theorem sc_check_askings : FnScope n_check_askings ["suspects", "askings", "lies"] (defScope s_check_askings) := ⟨rfl, rfl, rfl, by decide +kernel, rfl, by decide +kernel, by decide +kernel⟩
theorem ok_check_askings {f C1 C2 C3 : Addr} {fd : FuncData} (F : Fun K "check_askings" "check_askings" s_check_askings f fd) (T : Bl mg) (O_is_list : Own P w K mg base CX0 1 "is_list" ["thing"] (sp1 (fun _ => True) fun d => .bool (isSeq d))) (O_is_integer : Own P w K mg base CX0 1 "is_integer" ["thing"] (sp1 (fun _ => True) fun d => .bool (isIntD d)))
    (O_is_name : Own P w K mg base CX0 1 "is_name" ["thing"] (sp1 namePre fun d => .bool (isNameD d))) (O_are_names : Own P w K mg base CX0 2 "are_names" ["thing"] (sp1 namesPre fun d => .bool (areNamesD d))) (O_first_false : Own P w K mg base CX0 1 "first_false" ["tests"] (sp1 Bools fun d => ffD 0 (itemsD d)))
    (E_BadSuspects : Ec P w K mg base "BadSuspects" "index" C1) (E_BadAskings : Ec P w K mg base "BadAskings" "index" C2) (E_BadLies : Ec P w K mg base "BadLies" "thing" C3) :
    FnOk P w K mg base (L2.CX P w) 3 f fd ["suspects", "askings", "lies"] (spXn 3 chkPre fun ds => chkA C1 C2 C3 (at_ ds 0) (at_ ds 1) (at_ ds 2)) := by
  refine okXn F sc_check_askings rfl (by decide) fun cdv A outer s H E X ds Q hr t hl hp q => ⟨_, (pss_cons (ps_if (PW.pt (pw_or (pt_not (pt_val (pe_own O_is_list hr (by decide) (by rfl) (pa_cons (pv 0) pa_nil)))) (pw_or1 (pt_cmpR (op_eqD hr.units) (pe_callB call_len (by rfl) T.b_len boot_len (pa_cons (pv 0) pa_nil)) pe_int (nomark _)))))
    (pss_one (ps_err rfl E_BadSuspects hr (by decide) (takes_of rfl rfl rfl rfl) (by rfl) (pa_cons pe_int pa_nil))) pss_nil)
    (pss_cons (ps_set (i := 3) sc_check_askings.nd rfl (by first | exact Or.inl rfl | exact Or.inr rfl) (pe_own O_first_false hr (by decide) (by rfl) (pa_cons (pe_lc (own := [("place", 4), ("name", 5)]) (g := (gTup K 2 (gCons (gName 4) (gCons (gName 5) gNil)))) (tt := tYes) rfl sc_check_askings.nd (pi_enumQ (by rfl) T.b_enumerate (pa_cons (pv 0) pa_nil)) (blkOk_by (N := n_check_askings) (sc := defScope s_check_askings) (by decide +kernel)) (fun _ _ _ _ _ => (pg_tup (n := 2) rfl (pgs_cons (pg_name (i := 4) sc_check_askings.nd rfl (by first | exact Or.inl rfl | exact Or.inr rfl)) (pgs_cons (pg_name (i := 5) sc_check_askings.nd rfl (by first | exact Or.inl rfl | exact Or.inr rfl)) pgs_nil)))) (fun _ _ _ _ _ => pts_nil) (fun _ _ _ _ _ => (pe_and (pe_own O_is_name hr (by decide) (by rfl) (pa_cons (pv 5) pa_nil)) (pe_one (pe_cmpR (op_notInDK (K := K) rfl (Nat.lt_of_le_of_lt (Nat.add_le_add_left (by decide : 65 ≤ 16 * 2 + 200) _) (Nat.add_assoc _ _ _ ▸ hr.un))) (pv 5) (pe_slice (sl_lstK (K := K) rfl) (pv 0) po_none (po_some (pv 4))) (by rfl)))))) pa_nil)))
    (pss_cons (ps_if (pt_cmpR op_notN (pv 3) pe_non (nomark _))
    (pss_one (ps_err rfl E_BadSuspects hr (by decide) (takes_of rfl rfl rfl rfl) (by rfl) (pa_cons (pv 3) pa_nil))) pss_nil)
    (pss_cons (ps_if (PW.pt (pw_or (pt_not (pt_val (pe_own O_is_list hr (by decide) (by rfl) (pa_cons (pv 1) pa_nil)))) (pw_or1 (pt_cmpR (op_eqD hr.units) (pe_callB call_len (by rfl) T.b_len boot_len (pa_cons (pv 1) pa_nil)) pe_int (nomark _)))))
    (pss_one (ps_err rfl E_BadAskings hr (by decide) (takes_of rfl rfl rfl rfl) (by rfl) (pa_cons pe_int pa_nil))) pss_nil)
    (pss_cons (ps_set (i := 3) sc_check_askings.nd rfl (by first | exact Or.inl rfl | exact Or.inr rfl) (pe_own O_first_false hr (by decide) (by rfl) (pa_cons (pe_lc (own := [("names", 6)]) (g := (gName 6)) (tt := tYes) rfl sc_check_askings.nd (pi_seq (pv 1)) (blkOk_by (N := n_check_askings) (sc := defScope s_check_askings) (by decide +kernel)) (fun _ _ _ _ _ => (pg_name (i := 6) sc_check_askings.nd rfl (by first | exact Or.inl rfl | exact Or.inr rfl))) (fun _ _ _ _ _ => pts_nil) (fun _ _ _ _ _ => (pe_own O_are_names hr (by decide) (by rfl) (pa_cons (pv 6) pa_nil)))) pa_nil)))
    (pss_cons (ps_if (pt_cmpR op_notN (pv 3) pe_non (nomark _))
    (pss_one (ps_err rfl E_BadAskings hr (by decide) (takes_of rfl rfl rfl rfl) (by rfl) (pa_cons (pv 3) pa_nil))) pss_nil)
    (pss_one (ps_if (PW.pt (pw_or (pt_not (pt_val (pe_own O_is_integer hr (by decide) (by rfl) (pa_cons (pv 2) pa_nil)))) (pw_or1 (pt_cmpR (op_notInK (K := K) rfl) (pv 2) (pe_tup (pa_cons pe_int (pa_cons pe_int pa_nil))) (by rfl)))))
    (pss_one (ps_err rfl E_BadLies hr (by decide) (takes_of rfl rfl rfl rfl) (by rfl) (pa_cons (pv 2) pa_nil))) pss_nil)))))))), fun σ En => ?_⟩
  obtain ⟨d1, d2, d3, rfl⟩ : ∃ d1 d2 d3, ds = [d1, d2, d3] := by
    match ds, hl with
    | [a, b, c], _ => exact ⟨a, b, c, rfl⟩
  have hp1 : susPre d1 := hp.1
  have hp2 : askPre d2 := hp.2
  have q : EndQ X H (chkA C1 C2 C3 d1 d2 d3) Q E := q
  have En : EnvOk X H σ [.dat d1, .dat d2, .dat d3, .un, .un, .un, .un] := En
  refine q_if (b := !someD d1) (gt_some t En rfl) (fun hb H1 s1 => ?_) fun hb H1 s1 => ?_
  · rw [Bool.not_eq_true'] at hb
    refine mk_err (X := X) g_int fun a v H2 s2 e2 dv => q.2 C1 "index" (.int 0) (by unfold chkA; rw [if_pos hb]) a v H2 (s1.trans s2) e2 dv
  rw [Bool.not_eq_false'] at hb
  have hb1 := hb
  unfold someD at hb
  rw [Bool.and_eq_true, Bool.not_eq_true', decide_eq_false_iff_not] at hb
  obtain ⟨⟨ls, rfl⟩, few, hz⟩ := hp1 hb.1 hb.2
  have few : ls.length ≤ 1000 := few
  have hz : ∀ z ∈ ls, namePre z ∧ Shp z := hz
  have q : EndQ X H (if isNone (susI (.list ls)) = false then .err C1 "index" (susI (.list ls)) else if someD d2 = false then .err C2 "index" (.int 0) else if isNone (askI d2) = false then .err C2 "index" (askI d2) else if lieOk d3 = false then .err C3 "thing" d3 else .val .none) Q E := by
    unfold chkA at q
    rw [if_neg (by rw [hb1]; simp)] at q
    exact q
  have E1 := En.same s1
  have t1 := t.mono s1
  refine q_set (i := 3) (d := susI (.list ls)) E1 (g_is (g_call1 t1 (d := .list (((enumD ls).map (susB ls)).map PyData.bool)) (g_is (g_lc1 (ds := enumD ls) (Γ2 := fun z => [.dat (.list ls), .dat d2, .dat d3, .un, .dat (it z 0), .dat (it z 1), .un]) (fun z => .bool (susB ls z)) t1 (gi_enumQ (g_var (i := 0) (d := .list ls) E1 rfl) rfl) (by rw [enumD_len]; omega) (fun H2 s2 z hz => ?_) (fun X' H2 σ2 z hm t2 E2 => ?_)) (by rw [List.map_map]; rfl)) ⟨_, rfl, by rw [List.length_map, enumD_len]; omega⟩) rfl) fun H2 v2 s2 E2 => ?_
  · obtain ⟨i, hi⟩ := List.mem_iff_getElem?.mp hz
    have lt := (List.getElem?_eq_some_iff.mp hi).1
    rw [enumD_len] at lt
    rw [enumD_get (List.getElem?_eq_getElem lt)] at hi
    cases hi
    exact tgt_pair (E1.same s2) (by decide)
  · obtain ⟨i, hi⟩ := List.mem_iff_getElem?.mp hm
    have lt := (List.getElem?_eq_some_iff.mp hi).1
    rw [enumD_len] at lt
    rw [enumD_get (List.getElem?_eq_getElem lt)] at hi
    cases hi
    have hzi := hz ls[i] (List.getElem_mem lt)
    have shp := shp_list (ds := ls.take i) fun z hm => (hz z (List.mem_of_mem_take hm)).2
    refine g_is (g_and (a := isNameD ls[i]) (b := !(ls.take i).any fun y => PyData.eqv y ls[i]) (g_call1 t2 (g_var (i := 5) (d := ls[i]) E2 rfl) hzi.1) fun _ => ?_) ?_
    · have gs : G X' (tSl (rSlL K) (tVar 0) tNoPart (tPart (tVar 4))) σ2 H2 (.list (ls.take i)) := g_is (g_sl t2 (g_var (i := 0) (d := .list ls) E2 rfl) go_none (go_some (g_var (i := 4) (d := .int (i : Int)) E2 rfl))) (by rw [cut_to])
      exact g_op t2 (g_var (i := 5) (d := ls[i]) E2 rfl) gs (RB.rd fun H u v _ ru rv Q q => ⟨ls[i], ls.take i, ru.dp hzi.2.1, rv.dp shp.1, shaped_mk hzi.2.2.1 (by have := hzi.2.2.2; omega), shp.2, q⟩)
    · show PyData.bool _ = PyData.bool (isNameD ls[i] && !(ls.take ((i : Nat) : Int).toNat).any fun y => PyData.eqv y ls[i])
      rw [show ((i : Nat) : Int).toNat = i by omega]
  have t2 := t1.mono s2
  have s02 := s1.trans s2
  refine q_if (b := !isNone (susI (.list ls))) (gt_op t2 (g_var (i := 3) (d := susI (.list ls)) E2 rfl) g_non rb_notN) (fun hb H3 s3 => ?_) fun hb H3 s3 => ?_
  · rw [Bool.not_eq_true'] at hb
    refine mk_err (X := X) (g_var (i := 3) (d := susI (.list ls)) (E2.same s3) rfl) fun a v H4 s4 e4 dv => q.2 C1 "index" _ (by rw [if_pos hb]) a v H4 ((s02.trans s3).trans s4) e4 dv
  rw [Bool.not_eq_false'] at hb
  rw [if_neg (by rw [hb]; simp)] at q
  have E3 := E2.same s3
  have t3 := t2.mono s3
  have s03 := s02.trans s3
  clear hb
  refine q_if (b := !someD d2) (gt_some t3 E3 rfl) (fun hb H4 s4 => ?_) fun hb H4 s4 => ?_
  · rw [Bool.not_eq_true'] at hb
    refine mk_err (X := X) g_int fun a v H5 s5 e5 dv => q.2 C2 "index" (.int 0) (by rw [if_pos hb]) a v H5 ((s03.trans s4).trans s5) e5 dv
  rw [Bool.not_eq_false'] at hb
  rw [if_neg (by rw [hb]; simp)] at q
  unfold someD at hb
  rw [Bool.and_eq_true, Bool.not_eq_true', decide_eq_false_iff_not] at hb
  obtain ⟨few2, hz2⟩ := hp2 hb.1 hb.2
  have E4 := E3.same s4
  have t4 := t3.mono s4
  have s04 := s03.trans s4
  refine q_set (i := 3) (d := askI d2) E4 (g_is (g_call1 t4 (d := .list (((itemsD d2).map areNamesD).map PyData.bool)) (g_is (g_lc1 (ds := itemsD d2) (Γ2 := fun z => [.dat (.list ls), .dat d2, .dat d3, .dat (susI (.list ls)), .un, .un, .dat z]) (fun z => .bool (areNamesD z)) t4 (gi_seq (g_var (i := 1) (d := d2) E4 rfl) hb.1) (by omega) (fun H2 s2 z hz => tgt_name (E4.same s2)) (fun X' H2 σ2 z hm t2 E2 => g_call1 t2 (g_var (i := 6) (d := z) E2 rfl) (hz2 z hm))) (by rw [List.map_map]; rfl)) ⟨_, rfl, by rw [List.length_map]; omega⟩) rfl) fun H5 v5 s5 E5 => ?_
  have t5 := t4.mono s5
  have s05 := s04.trans s5
  refine q_if (b := !isNone (askI d2)) (gt_op t5 (g_var (i := 3) (d := askI d2) E5 rfl) g_non rb_notN) (fun hb H6 s6 => ?_) fun hb H6 s6 => ?_
  · rw [Bool.not_eq_true'] at hb
    refine mk_err (X := X) (g_var (i := 3) (d := askI d2) (E5.same s6) rfl) fun a v H7 s7 e7 dv => q.2 C2 "index" _ (by rw [if_pos hb]) a v H7 ((s05.trans s6).trans s7) e7 dv
  rw [Bool.not_eq_false'] at hb
  rw [if_neg (by rw [hb]; simp)] at q
  have E6 := E5.same s6
  have t6 := t5.mono s6
  have s06 := s05.trans s6
  refine s_if (b := !lieOk d3) (gt_is (gt_or (a := !isIntD d3) (b := !decide (intOf d3 ∈ [(0 : Int), 1])) (gt_not (gt_B (g_call1 t6 (g_var (i := 2) (d := d3) E6 rfl) trivial))) fun h => ?_) ?_) (fun hb H7 s7 => ?_) fun hb H7 s7 => ?_
  · rw [Bool.not_eq_false'] at h
    obtain ⟨i, rfl⟩ : ∃ i : Int, d3 = .int i := by
      cases d3 <;> first | exact ⟨_, rfl⟩ | cases h
    refine gt_op t6 (g_var (i := 2) (d := .int i) E6 rfl) (g_tup t6 (ga_cons g_int (ga_cons g_int ga_nil)) (by simp)) (rb_inI (K := K) (neg := true) (ds := [0, 1]))
  · unfold lieOk
    rw [Bool.not_and]
  · rw [Bool.not_eq_true'] at hb
    refine mk_err (X := X) (g_var (i := 2) (d := d3) (E6.same s7) rfl) fun a v H8 s8 e8 dv => q.2 C3 "thing" d3 (by rw [if_pos hb]) a v H8 ((s06.trans s7).trans s8) e8 dv
  · rw [Bool.not_eq_false'] at hb
    exact q.1 .none (by rw [if_neg (by rw [hb]; simp)]) .non H7 (s06.trans s7) .non fun a z => by cases z
end K82

/-! Defs of searches, refused. -/
namespace K82
open PySem PySem.Spec PyProof.Rows L2 KD
-- RAISES check_askings state_behind possible_ones never_parted is_search fewest_askings search ask_next check_many answers_against are_against
variable {P : Program} {w : World} {K : PySem.W.Frag} {mg : Str → Option Value} {base : Heap}
section
variable {X : Addr → Prop} {σ : L2.St} {H : Hp} {ta : TA} {te : TE} {E : XK} {ds : List PyData} {n : Nat} {D : Ends} {tz : TS} {C : Addr} {fl : Str} {r : PyData} {Q : VK}
theorem endE {o : Out} (he : o = .err C fl r) (k : ∀ a w H', Same H H' → H' a = some (.xd [(fl, w)]) → DX X H' w r → E (.ref C) (some a) H') : EndQ X H o Q E := ⟨fun r' e' => (by rw [he] at e'; cases e'), fun C' fl' r' e' a w H' s ea dv => by
  rw [he] at e'
  cases e'
  exact k a w H' s ea dv⟩
theorem c_err {pre : List PyData → Prop} {f : List PyData → Out} (t : Trk X H) (h : GA X ta σ H ds) (hl : ds.length = n) (hp : pre ds) (he : f ds = .err C fl r) (k : ∀ a w H', Same H H' → H' a = some (.xd [(fl, w)]) → DX X H' w r → E (.ref C) (some a) H') : tCall (spXn n pre f) [] E ta σ H Q := c_Xn t h hl hp (endE he k)
end
section
variable {x qual : Str} {st : Stmt} {params : Arguments} {body : List Stmt} {scope : Scope} {dvs : List V} {kws : List (Str × V)} {f : Addr} {fd : FuncData} {N ps : List Str} {k n : Nat}
theorem okXnD {pre : List PyData → Prop} {g : List PyData → Out} (F : FunD K x qual params body scope dvs kws f fd) (S : FnScope N ps scope) (hn : ps.length = n) (hN : n ≤ N.length)
    (hbody : ∀ (cdv : Value) (A : Around) (outer : List Env) (s : Shared) (H : Hp) (E : XK) (X : Addr → Prop) (ds : List PyData) (Q : VK), Room k (A.deeper (envOfC qual scope s.heap.objs.size f cdv)) → Trk X H → ds.length = n → pre ds → EndQ X H (g ds) Q E →
      ∃ t, PSs (cxOf (L2.CX P w) P w K mg base N qual scope f cdv A outer s H E) body t ∧ ∀ σ, EnvOk X H σ (pad N (ds.map Sv.dat)) → t { nx := fun _ H' => Q .non H', rt := Q } σ H) : FnOk P w K mg base (L2.CX P w) (k + 1) f fd ps (spXn n pre g) := by
  refine F.ok S (fun vs H Q E h => ?_) (fun cdv A outer s H vs Q E hr h => ?_)
  · obtain ⟨X, ds, hl, _⟩ := h
    rw [hl, hn]
  · obtain ⟨X, ds, hl, t, r, hp, q⟩ := h
    obtain ⟨tt, h1, h2⟩ := hbody cdv A outer s H E X ds Q hr t (by rw [← r.length, hl]) hp q
    exact ⟨tt, h1, h2 _ (envN r (by omega))⟩
end
/-- a def with a default that may raise -/
structure OwnD (P : Program) (w : World) (K : PySem.W.Frag) (mg : Str → Option Value) (base : Heap) (k : Nat) (x : Str) (ps : List Str) (sp : Sp) : Prop where
  ex : ∃ (f : Addr) (fd : FuncData) (ds : List Value), mg x = some (.ref f) ∧ PySem.W.keepIn K (.ref f) = true ∧ Binds K fd ps [] ∧ Vals [.int 0] ds ∧ Binds K fd ps ds ∧ FnOk P w K mg base (L2.CX P w) k f fd ps sp
/-- a def held by a name -/
structure HeldX (P : Program) (w : World) (K : PySem.W.Frag) (mg : Str → Option Value) (base : Heap) (k : Nat) (f : Addr) (dvs : List V) (sp : Sp) : Prop where
  ex : ∃ (fd : FuncData) (ps : List Str) (ds : List Value), FnOk P w K mg base (L2.CX P w) k f fd ps sp ∧ PySem.W.keepIn K (.ref f) = true ∧ Vals dvs ds ∧ Binds K fd ps ds
section
variable {X : Cx} {k j i : Nat} {x : Str} {ps : List Str} {sp : Sp} {e : Expr} {es : List Expr} {p pos : Pos} {ta : TA} {E : XK}
theorem pe_ownAX (O : OwnD X.prog X.w X.K X.mg X.base k x ps sp) (hr : Room j X.A) (hk : k ≤ j) (tk : Takes X (fun cls d _ H => E cls d H)) (hg : Gl X x) (ha : PA X (e :: es) ta) (hdb : (x == ("__debug__" : Str)) = false := by decide)
    (he : starEach (e :: es) X.env = (false, eval e X.env) :: starEach es X.env := by rfl) (hpl : (backTo pos (starEach es X.env)).any (·.1) = false := by rfl) : PE X (.Call (.Name x p) (e :: es) [] pos) (tCall sp [] E ta) := by
  obtain ⟨f, fd, ds, h1, h2, h3, h4, h5, h6⟩ := O.ex
  exact pe_call h6 (hr.mono hk) hg h1 h2 h3 .nil (passes_call tk fun _ _ _ _ h => h) ha hdb he hpl
theorem pe_ownFX (O : OwnD X.prog X.w X.K X.mg X.base k x ps sp) (hr : Room j X.A) (hk : k ≤ j) (tk : Takes X (fun cls d _ H => E cls d H)) (hg : Gl X x) (ha : PA X (e :: es) ta) (hdb : (x == ("__debug__" : Str)) = false := by decide)
    (he : starEach (e :: es) X.env = (false, eval e X.env) :: starEach es X.env := by rfl) (hpl : (backTo pos (starEach es X.env)).any (·.1) = false := by rfl) : PE X (.Call (.Name x p) (e :: es) [] pos) (tCall sp [.int 0] E ta) := by
  obtain ⟨f, fd, ds, h1, h2, h3, h4, h5, h6⟩ := O.ex
  exact pe_call h6 (hr.mono hk) hg h1 h2 h5 h4 (passes_call tk fun _ _ _ _ h => h) ha hdb he hpl
/-- the i-th slot holds a def of S -/
def tCallV (i : Nat) (S : Addr → List V → Sp → Prop) (E : XK) (t : TA) : TE := fun σ H Q => ∃ f dvs sp, σ[i]? = some (some (.ref f)) ∧ S f dvs sp ∧ t σ H fun vs H1 => sp (vs ++ dvs) H1 Q E
theorem pe_callV {S : Addr → List V → Sp → Prop} (A : ∀ f dvs sp, S f dvs sp → HeldX X.prog X.w X.K X.mg X.base k f dvs sp) (hk : k ≤ j) (hr : Room j X.A) (tk : Takes X (fun cls d _ H => E cls d H)) (hN : X.N[i]? = some x) (hv : Vis X.env.scope x) (ha : PA X (e :: es) ta)
    (hdb : (x == ("__debug__" : Str)) = false := by decide) (hcd : (x == ("__classdict__" : Str)) = false := by decide)
    (he : starEach (e :: es) X.env = (false, eval e X.env) :: starEach es X.env := by rfl) (hpl : (backTo pos (starEach es X.env)).any (·.1) = false := by rfl) : PE X (.Call (.Name x p) (e :: es) [] pos) (tCallV i S E ta) := by
  refine ⟨fun pins s σ H Q I h => ?_⟩
  obtain ⟨f, dvs, sp, hs, hS, ht⟩ := h
  obtain ⟨fd, ps, ds, F, hkp, hd, hb⟩ := (A f dvs sp hS).ex
  refine wpAny_Call_Name_kw (thn ((pe_var (pos := p) hN hv hdb hcd).run pins s σ H (fun v H1 => v = .ref f ∧ H1 = H) I ⟨.ref f, hs, rfl, rfl⟩) fun u s1 ⟨v, H1, I1, r1, q1⟩ => ?_)
  obtain ⟨rfl, rfl⟩ := q1
  cases r1
  refine PySem.W.callWith_K (h₀ := X.base) I.ok.mod.kin hkp (thn (ha.run pos pins s1 σ _ _ I1 ht) fun us s2 ⟨vs, H2, I2, r, q⟩ => ⟨I2.kIn, ?_⟩) he hpl
  exact run_fn F (hr.mono hk) hb hd (passes_call tk fun _ _ _ _ h => h) I2 r q
end
/-! ### answers -/
theorem ix_seqK {X : Cx} (h : X.K = K) : IxR X (rIx K) := h ▸ ix_seq
def ansB (da z : PyData) : Bool := (isSeq z && decide (lenD z = 2)) && ((isNumD (it z 0) && decide (intOf (it z 0) < (lenD da : Int))) && isa_bool (it z 1))
def ansI (da dn : PyData) : PyData := ffD 0 (((itemsD dn).map (ansB da)).map PyData.bool)
def stOut (C4 : Addr) (da dn : PyData) : Out := if isSeq dn = false then .err C4 "index" (.int 0) else .err C4 "index" (ansI da dn)
def stPre (da dn : PyData) : Prop := isSeq da = true ∧ (isSeq dn = true → (itemsD dn).length ≤ 1000 ∧ isNone (ansI da dn) = false)
-- HINT state_behind it pi_seq
-- HINT state_behind ix (ix_seqK (K := K) rfl)
-- HINT state_behind never masks|state|for |return
abbrev s_state_behind : Stmt := topS 29
abbrev n_state_behind : List Str := ["suspects", "askings", "answers", "lies", "index", "masks", "state", "asking", "answer", "thing"]
theorem sc_state_behind : FnScope n_state_behind ["suspects", "askings", "answers", "lies"] (defScope s_state_behind) := ⟨rfl, rfl, rfl, by decide +kernel, rfl, by decide +kernel, by decide +kernel⟩
theorem ok_state_behind {f C4 : Addr} {fd : FuncData} (F : Fun K "state_behind" "state_behind" s_state_behind f fd) (T : Bl mg) (O_is_list : Own P w K mg base CX0 1 "is_list" ["thing"] (sp1 (fun _ => True) fun d => .bool (isSeq d)))
    (O_is_pair : Own P w K mg base CX0 2 "is_pair" ["thing"] (sp1 (fun _ => True) fun d => .bool (isSeq d && decide (lenD d = 2)))) (O_is_index_of : Own P w K mg base CX0 3 "is_index_of" ["thing", "things"] (sp2 (fun _ b => isSeq b = true) fun a b => .bool (isNumD a && decide (intOf a < (lenD b : Int)))))
    (O_is_truth : Own P w K mg base CX0 1 "is_truth" ["thing"] (sp1 (fun _ => True) fun d => .bool (isa_bool d))) (O_first_false : Own P w K mg base CX0 1 "first_false" ["tests"] (sp1 Bools fun d => ffD 0 (itemsD d))) (E_BadAnswers : Ec P w K mg base "BadAnswers" "index" C4) :
    FnOk P w K mg base (L2.CX P w) 4 f fd ["suspects", "askings", "answers", "lies"] (spXn 4 (fun ds => stPre (at_ ds 1) (at_ ds 2)) fun ds => stOut C4 (at_ ds 1) (at_ ds 2)) := by
  refine okXn F sc_state_behind rfl (by decide) fun cdv A outer s H E X ds Q hr t hl hp q => ⟨_, (pss_cons (ps_if (pt_not (pt_val (pe_own O_is_list hr (by decide) (by rfl) (pa_cons (pv 2) pa_nil))))
    (pss_one (ps_err rfl E_BadAnswers hr (by decide) (takes_of rfl rfl rfl rfl) (by rfl) (pa_cons pe_int pa_nil))) pss_nil)
    (pss_cons (ps_set (i := 4) sc_state_behind.nd rfl (by first | exact Or.inl rfl | exact Or.inr rfl) (pe_own O_first_false hr (by decide) (by rfl) (pa_cons (pe_lc (own := [("thing", 9)]) (g := (gName 9)) (tt := tYes) rfl sc_state_behind.nd (pi_seq (pv 2)) (blkOk_by (N := n_state_behind) (sc := defScope s_state_behind) (by decide +kernel)) (fun _ _ _ _ _ => (pg_name (i := 9) sc_state_behind.nd rfl (by first | exact Or.inl rfl | exact Or.inr rfl))) (fun _ _ _ _ _ => pts_nil) (fun _ _ _ _ _ => (pe_and (pe_own O_is_pair hr (by decide) (by rfl) (pa_cons (pv 9) pa_nil)) (pe_and (pe_own O_is_index_of hr (by decide) (by rfl) (pa_cons (pe_ix (ix_seqK (K := K) rfl) (pv 9) pe_int (fun _ _ => rfl)) (pa_cons (pv 1) pa_nil))) (pe_one (pe_own O_is_truth hr (by decide) (by rfl) (pa_cons (pe_ix (ix_seqK (K := K) rfl) (pv 9) pe_int (fun _ _ => rfl)) pa_nil))))))) pa_nil)))
    (pss_cons (ps_if (pt_cmpR op_notN (pv 4) pe_non (nomark _))
    (pss_one (ps_err rfl E_BadAnswers hr (by decide) (takes_of rfl rfl rfl rfl) (by rfl) (pa_cons (pv 4) pa_nil))) pss_nil)
    (pss_cons ps_never
    (pss_cons ps_never
    (pss_cons ps_never
    (pss_one ps_never))))))), fun σ En => ?_⟩
  obtain ⟨d1, da, dn, d4, rfl⟩ : ∃ d1 d2 d3 d4, ds = [d1, d2, d3, d4] := by
    match ds, hl with
    | [a, b, c, d], _ => exact ⟨a, b, c, d, rfl⟩
  have hp : stPre da dn := hp
  have q : EndQ X H (stOut C4 da dn) Q E := q
  have En : EnvOk X H σ [.dat d1, .dat da, .dat dn, .dat d4, .un, .un, .un, .un, .un, .un] := En
  refine q_if (b := !isSeq dn) (gt_not (gt_B (g_call1 t (g_var (i := 2) (d := dn) En rfl) trivial))) (fun hb H1 s1 => ?_) fun hb H1 s1 => ?_
  · rw [Bool.not_eq_true'] at hb
    refine mk_err (X := X) g_int fun a v H2 s2 e2 dv => q.2 C4 "index" (.int 0) (by unfold stOut; rw [if_pos hb]) a v H2 (s1.trans s2) e2 dv
  rw [Bool.not_eq_false'] at hb
  obtain ⟨few, hn⟩ := hp.2 hb
  have E1 := En.same s1
  have t1 := t.mono s1
  refine q_set (i := 4) (d := ansI da dn) E1 (g_is (g_call1 t1 (d := .list (((itemsD dn).map (ansB da)).map PyData.bool)) (g_is (g_lc1 (ds := itemsD dn) (Γ2 := fun z => [.dat d1, .dat da, .dat dn, .dat d4, .un, .un, .un, .un, .un, .dat z]) (fun z => .bool (ansB da z)) t1 (gi_seq (g_var (i := 2) (d := dn) E1 rfl) hb) (by omega) (fun H2 s2 z hz => tgt_name (E1.same s2)) (fun X' H2 σ2 z hm t2 E2 => ?_)) (by rw [List.map_map]; rfl)) ⟨_, rfl, by rw [List.length_map]; omega⟩) rfl) fun H2 v2 s2 E2 => ?_
  · refine g_and (a := isSeq z && decide (lenD z = 2)) (g_call1 t2 (g_var (i := 9) (d := z) E2 rfl) trivial) fun h => ?_
    rw [Bool.and_eq_true, decide_eq_true_iff] at h
    obtain ⟨h1, h2⟩ := h
    rw [lenD_seq h1] at h2
    have ix : ∀ (j : Nat), j < 2 → G X' (tOp (rIx K) (tVar 9) (tC (.int (j : Int)))) σ2 H2 (it z j) := fun j hj => g_ix t2 (g_var (i := 9) (d := z) E2 rfl) h1 g_int (it_at (i := j) rfl (by omega))
    exact g_and (g_call2 t2 (ix 0 (by omega)) (g_var (i := 1) (d := da) E2 rfl) hp.1) fun _ => g_call1 t2 (ix 1 (by omega)) trivial
  have t2 := t1.mono s2
  refine q_if (b := !isNone (ansI da dn)) (gt_op t2 (g_var (i := 4) (d := ansI da dn) E2 rfl) g_non rb_notN) (fun _ H3 s3 => ?_) fun hb3 H3 s3 => ?_
  · refine mk_err (X := X) (g_var (i := 4) (d := ansI da dn) (E2.same s3) rfl) fun a v H4 s4 e4 dv => q.2 C4 "index" _ (by unfold stOut; rw [if_neg (by rw [hb]; simp)]) a v H4 (((s1.trans s2).trans s3).trans s4) e4 dv
  · rw [hn] at hb3
    cases hb3
/-! ### what is looked at first -/
def chk4 (C1 C2 C3 : Addr) (ds : List PyData) (l : Nat) : Out := chkA C1 C2 C3 (at_ ds 0) (at_ ds 1) (at_ ds l)
def isErr (o : Out) : Prop := ∃ C fl r, o = .err C fl r
def anyPre (l : Nat) (o : List PyData → Out) (ds : List PyData) : Prop := chkPre ds ∧ isErr (o ds)
theorem chk_pre {ds es : List PyData} (h : chkPre ds) (h0 : at_ es 0 = at_ ds 0) (h1 : at_ es 1 = at_ ds 1) : chkPre es := ⟨by rw [h0]; exact h.1, by rw [h1]; exact h.2⟩
-- HINT check_many never zzz
abbrev s_check_many : Stmt := topS 39
abbrev n_check_many : List Str := ["suspects", "askings", "many", "lies"]
theorem sc_check_many : FnScope n_check_many ["suspects", "askings", "many", "lies"] (defScope s_check_many) := ⟨rfl, rfl, rfl, by decide +kernel, rfl, by decide +kernel, by decide +kernel⟩
def manyOut (C1 C2 C3 C5 : Addr) (ds : List PyData) (l : Nat) : Out := match chk4 C1 C2 C3 ds l with
  | .err C fl r => .err C fl r
  | .val _ => if isNumD (at_ ds 2) = false then .err C5 "thing" (at_ ds 2) else .val .none
theorem ok_check_many {f C1 C2 C3 C5 : Addr} {fd : FuncData} (F : Fun K "check_many" "check_many" s_check_many f fd) (T : Bl mg) (O_check_askings : Own P w K mg base (L2.CX P w) 3 "check_askings" ["suspects", "askings", "lies"] (spXn 3 chkPre fun ds => chkA C1 C2 C3 (at_ ds 0) (at_ ds 1) (at_ ds 2)))
    (O_is_number : Own P w K mg base CX0 2 "is_number" ["thing"] (sp1 (fun _ => True) fun d => .bool (isNumD d))) (E_BadMany : Ec P w K mg base "BadMany" "thing" C5) :
    FnOk P w K mg base (L2.CX P w) 4 f fd ["suspects", "askings", "many", "lies"] (spXn 4 chkPre fun ds => manyOut C1 C2 C3 C5 ds 3) := by
  refine okXn F sc_check_many rfl (by decide) fun cdv A outer s H E X ds Q hr t hl hp q => ⟨_, (pss_cons (ps_expr (pe_ownX O_check_askings hr (by decide) (takes_of rfl rfl rfl rfl) (by rfl) (pa_cons (pv 0) (pa_cons (pv 1) (pa_cons (pv 3) pa_nil)))))
    (pss_one (ps_if (pt_not (pt_val (pe_own O_is_number hr (by decide) (by rfl) (pa_cons (pv 2) pa_nil))))
    (pss_one (ps_err rfl E_BadMany hr (by decide) (takes_of rfl rfl rfl rfl) (by rfl) (pa_cons (pv 2) pa_nil))) pss_nil))), fun σ En => ?_⟩
  obtain ⟨d1, d2, d3, d4, rfl⟩ : ∃ d1 d2 d3 d4, ds = [d1, d2, d3, d4] := by
    match ds, hl with
    | [a, b, c, d], _ => exact ⟨a, b, c, d, rfl⟩
  have En : EnvOk X H σ [.dat d1, .dat d2, .dat d3, .dat d4] := En
  have q : EndQ X H (manyOut C1 C2 C3 C5 [d1, d2, d3, d4] 3) Q E := q
  have ga : GA X _ σ H [d1, d2, d4] := ga_cons (g_var (i := 0) (d := d1) En rfl) (ga_cons (g_var (i := 1) (d := d2) En rfl) (ga_cons (g_var (i := 3) (d := d4) En rfl) ga_nil))
  refine k_drop (c_Xn (ds := [d1, d2, d4]) t ga rfl hp ⟨fun r e w0 H1 s1 dw _ => ?_, fun C fl r e a v H1 s1 ea dv => q.2 C fl r (by unfold manyOut chk4; rw [show chkA C1 C2 C3 (at_ [d1, d2, d3, d4] 0) (at_ [d1, d2, d3, d4] 1) (at_ [d1, d2, d3, d4] 3) = .err C fl r from e]) a v H1 s1 ea dv⟩)
  have e' : manyOut C1 C2 C3 C5 [d1, d2, d3, d4] 3 = if isNumD d3 = false then .err C5 "thing" d3 else .val .none := by
    unfold manyOut chk4
    rw [show chkA C1 C2 C3 (at_ [d1, d2, d3, d4] 0) (at_ [d1, d2, d3, d4] 1) (at_ [d1, d2, d3, d4] 3) = .val r from e]
    rfl
  rw [e'] at q
  have E1 := En.same s1
  have t1 := t.mono s1
  refine s_if (b := !isNumD d3) (gt_not (gt_B (g_call1 t1 (g_var (i := 2) (d := d3) E1 rfl) trivial))) (fun hb H2 s2 => ?_) fun hb H2 s2 => ?_
  · rw [Bool.not_eq_true'] at hb
    refine mk_err (X := X) (g_var (i := 2) (d := d3) (E1.same s2) rfl) fun a v H3 s3 e3 dv => q.2 C5 "thing" d3 (by rw [if_pos hb]) a v H3 ((s1.trans s2).trans s3) e3 dv
  · rw [Bool.not_eq_false'] at hb
    exact q.1 .none (by rw [if_neg (by rw [hb]; simp)]) .non H2 (s1.trans s2) .non fun a z => by cases z
end K82

/-! Defs of searches, refused by what is looked at first. -/
namespace K82
open PySem PySem.Spec PyProof.Rows L2 KD
-- RAISES check_askings state_behind possible_ones never_parted is_search fewest_askings search ask_next check_many answers_against are_against
variable {P : Program} {w : World} {K : PySem.W.Frag} {mg : Str → Option Value} {base : Heap}
abbrev OChk (P : Program) (w : World) (K : PySem.W.Frag) (mg : Str → Option Value) (base : Heap) (C1 C2 C3 : Addr) : Prop := Own P w K mg base (L2.CX P w) 3 "check_askings" ["suspects", "askings", "lies"] (spXn 3 chkPre fun ds => chkA C1 C2 C3 (at_ ds 0) (at_ ds 1) (at_ ds 2))
abbrev OMany (P : Program) (w : World) (K : PySem.W.Frag) (mg : Str → Option Value) (base : Heap) (C1 C2 C3 C5 : Addr) : Prop := Own P w K mg base (L2.CX P w) 4 "check_many" ["suspects", "askings", "many", "lies"] (spXn 4 chkPre fun ds => manyOut C1 C2 C3 C5 ds 3)
theorem pre_many {ds : List PyData} (h : chkPre ds) {x y : PyData} : chkPre [at_ ds 0, at_ ds 1, x, y] := h
-- HINT fewest_askings never return
abbrev s_fewest_askings : Stmt := topS 34
abbrev n_fewest_askings : List Str := ["suspects", "askings", "lies"]
theorem sc_fewest_askings : FnScope n_fewest_askings ["suspects", "askings", "lies"] (defScope s_fewest_askings) := ⟨rfl, rfl, rfl, by decide +kernel, rfl, by decide +kernel, by decide +kernel⟩
theorem ok_fewest_askings {f C1 C2 C3 : Addr} {fd : FuncData} (F : FunD K "fewest_askings" "fewest_askings" (defArgs s_fewest_askings) (defBody s_fewest_askings) (defScope s_fewest_askings) [.int 0] [] f fd) (T : Bl mg) (O_check_askings : OChk P w K mg base C1 C2 C3) :
    FnOk P w K mg base (L2.CX P w) 4 f fd ["suspects", "askings", "lies"] (spXn 3 (anyPre 0 (fun ds => chk4 C1 C2 C3 ds 2)) (fun ds => chk4 C1 C2 C3 ds 2)) := by
  refine okXnD F sc_fewest_askings rfl (by decide) fun cdv A outer s H E X ds Q hr t hl hp q => ⟨_, (pss_cons (ps_expr (pe_ownX O_check_askings hr (by decide) (takes_of rfl rfl rfl rfl) (by rfl) (pa_cons (pv 0) (pa_cons (pv 1) (pa_cons (pv 2) pa_nil)))))
    (pss_one ps_never)), fun σ En => ?_⟩
  obtain ⟨d1, d2, d3, rfl⟩ : ∃ d1 d2 d3, ds = [d1, d2, d3] := by
    match ds, hl with
    | [d1, d2, d3], _ => exact ⟨d1, d2, d3, rfl⟩
  obtain ⟨hc, C, fl, r, he⟩ := hp
  refine k_drop (c_err (ds := [d1, d2, d3]) t (ga_cons (g_var (i := 0) (d := d1) En rfl) (ga_cons (g_var (i := 1) (d := d2) En rfl) (ga_cons (g_var (i := 2) (d := d3) En rfl) ga_nil))) rfl hc he fun a w H' s' ea dv => q.2 C fl r he a w H' s' ea dv)
-- HINT search never masks|known|state|if |return
abbrev s_search : Stmt := topS 36
abbrev n_search : List Str := ["suspects", "askings", "lies", "masks", "known", "state"]
theorem sc_search : FnScope n_search ["suspects", "askings", "lies"] (defScope s_search) := ⟨rfl, rfl, rfl, by decide +kernel, rfl, by decide +kernel, by decide +kernel⟩
theorem ok_search {f C1 C2 C3 : Addr} {fd : FuncData} (F : FunD K "search" "search" (defArgs s_search) (defBody s_search) (defScope s_search) [.int 0] [] f fd) (T : Bl mg) (O_check_askings : OChk P w K mg base C1 C2 C3) :
    FnOk P w K mg base (L2.CX P w) 4 f fd ["suspects", "askings", "lies"] (spXn 3 (anyPre 0 (fun ds => chk4 C1 C2 C3 ds 2)) (fun ds => chk4 C1 C2 C3 ds 2)) := by
  refine okXnD F sc_search rfl (by decide) fun cdv A outer s H E X ds Q hr t hl hp q => ⟨_, (pss_cons (ps_expr (pe_ownX O_check_askings hr (by decide) (takes_of rfl rfl rfl rfl) (by rfl) (pa_cons (pv 0) (pa_cons (pv 1) (pa_cons (pv 2) pa_nil)))))
    (pss_cons ps_never
    (pss_cons ps_never
    (pss_cons ps_never
    (pss_cons ps_never
    (pss_one ps_never)))))), fun σ En => ?_⟩
  obtain ⟨d1, d2, d3, rfl⟩ : ∃ d1 d2 d3, ds = [d1, d2, d3] := by
    match ds, hl with
    | [d1, d2, d3], _ => exact ⟨d1, d2, d3, rfl⟩
  obtain ⟨hc, C, fl, r, he⟩ := hp
  refine k_drop (c_err (ds := [d1, d2, d3]) t (ga_cons (g_var (i := 0) (d := d1) En rfl) (ga_cons (g_var (i := 1) (d := d2) En rfl) (ga_cons (g_var (i := 2) (d := d3) En rfl) ga_nil))) rfl hc he fun a w H' s' ea dv => q.2 C fl r he a w H' s' ea dv)
-- HINT is_search never masks|rest|while|return
abbrev s_is_search : Stmt := topS 33
abbrev n_is_search : List Str := ["suspects", "askings", "thing", "lies", "masks", "rest", "state", "tree"]
theorem sc_is_search : FnScope n_is_search ["suspects", "askings", "thing", "lies"] (defScope s_is_search) := ⟨rfl, rfl, rfl, by decide +kernel, rfl, by decide +kernel, by decide +kernel⟩
theorem ok_is_search {f C1 C2 C3 : Addr} {fd : FuncData} (F : FunD K "is_search" "is_search" (defArgs s_is_search) (defBody s_is_search) (defScope s_is_search) [.int 0] [] f fd) (T : Bl mg) (O_check_askings : OChk P w K mg base C1 C2 C3) :
    FnOk P w K mg base (L2.CX P w) 4 f fd ["suspects", "askings", "thing", "lies"] (spXn 4 (anyPre 0 (fun ds => chk4 C1 C2 C3 ds 3)) (fun ds => chk4 C1 C2 C3 ds 3)) := by
  refine okXnD F sc_is_search rfl (by decide) fun cdv A outer s H E X ds Q hr t hl hp q => ⟨_, (pss_cons (ps_expr (pe_ownX O_check_askings hr (by decide) (takes_of rfl rfl rfl rfl) (by rfl) (pa_cons (pv 0) (pa_cons (pv 1) (pa_cons (pv 3) pa_nil)))))
    (pss_cons ps_never
    (pss_cons ps_never
    (pss_cons ps_never
    (pss_one ps_never))))), fun σ En => ?_⟩
  obtain ⟨d1, d2, d3, d4, rfl⟩ : ∃ d1 d2 d3 d4, ds = [d1, d2, d3, d4] := by
    match ds, hl with
    | [d1, d2, d3, d4], _ => exact ⟨d1, d2, d3, d4, rfl⟩
  obtain ⟨hc, C, fl, r, he⟩ := hp
  refine k_drop (c_err (ds := [d1, d2, d4]) t (ga_cons (g_var (i := 0) (d := d1) En rfl) (ga_cons (g_var (i := 1) (d := d2) En rfl) (ga_cons (g_var (i := 3) (d := d4) En rfl) ga_nil))) rfl hc he fun a w H' s' ea dv => q.2 C fl r he a w H' s' ea dv)
-- HINT never_parted never masks|told|for |return
abbrev s_never_parted : Stmt := topS 31
abbrev n_never_parted : List Str := ["suspects", "askings", "masks", "told", "place", "name", "other", "mask"]
theorem sc_never_parted : FnScope n_never_parted ["suspects", "askings"] (defScope s_never_parted) := ⟨rfl, rfl, rfl, by decide +kernel, rfl, by decide +kernel, by decide +kernel⟩
theorem ok_never_parted {f C1 C2 C3 : Addr} {fd : FuncData} (F : Fun K "never_parted" "never_parted" s_never_parted f fd) (T : Bl mg) (O_check_askings : OChk P w K mg base C1 C2 C3) :
    FnOk P w K mg base (L2.CX P w) 4 f fd ["suspects", "askings"] (spXn 2 (anyPre 0 (fun ds => chkA C1 C2 C3 (at_ ds 0) (at_ ds 1) (.int 0))) (fun ds => chkA C1 C2 C3 (at_ ds 0) (at_ ds 1) (.int 0))) := by
  refine okXn F sc_never_parted rfl (by decide) fun cdv A outer s H E X ds Q hr t hl hp q => ⟨_, (pss_cons (ps_expr (pe_ownX O_check_askings hr (by decide) (takes_of rfl rfl rfl rfl) (by rfl) (pa_cons (pv 0) (pa_cons (pv 1) (pa_cons pe_int pa_nil)))))
    (pss_cons ps_never
    (pss_cons ps_never
    (pss_cons ps_never
    (pss_one ps_never))))), fun σ En => ?_⟩
  obtain ⟨d1, d2, rfl⟩ : ∃ d1 d2, ds = [d1, d2] := by
    match ds, hl with
    | [d1, d2], _ => exact ⟨d1, d2, rfl⟩
  obtain ⟨hc, C, fl, r, he⟩ := hp
  refine k_drop (c_err (ds := [d1, d2, .int 0]) t (ga_cons (g_var (i := 0) (d := d1) En rfl) (ga_cons (g_var (i := 1) (d := d2) En rfl) (ga_cons g_int ga_nil))) rfl hc he fun a w H' s' ea dv => q.2 C fl r he a w H' s' ea dv)
-- HINT answers_against never masks|state|known|if |return
abbrev s_answers_against : Stmt := topS 42
abbrev n_answers_against : List Str := ["suspects", "askings", "many", "lies", "masks", "state", "known"]
theorem sc_answers_against : FnScope n_answers_against ["suspects", "askings", "many", "lies"] (defScope s_answers_against) := ⟨rfl, rfl, rfl, by decide +kernel, rfl, by decide +kernel, by decide +kernel⟩
theorem ok_answers_against {f C1 C2 C3 C5 : Addr} {fd : FuncData} (F : FunD K "answers_against" "answers_against" (defArgs s_answers_against) (defBody s_answers_against) (defScope s_answers_against) [.int 0] [] f fd) (T : Bl mg) (O_check_many : OMany P w K mg base C1 C2 C3 C5) :
    FnOk P w K mg base (L2.CX P w) 5 f fd ["suspects", "askings", "many", "lies"] (spXn 4 (anyPre 0 (fun ds => manyOut C1 C2 C3 C5 ds 3)) (fun ds => manyOut C1 C2 C3 C5 ds 3)) := by
  refine okXnD F sc_answers_against rfl (by decide) fun cdv A outer s H E X ds Q hr t hl hp q => ⟨_, (pss_cons (ps_expr (pe_ownX O_check_many hr (by decide) (takes_of rfl rfl rfl rfl) (by rfl) (pa_cons (pv 0) (pa_cons (pv 1) (pa_cons (pv 2) (pa_cons (pv 3) pa_nil))))))
    (pss_cons ps_never
    (pss_cons ps_never
    (pss_cons ps_never
    (pss_cons ps_never
    (pss_one ps_never)))))), fun σ En => ?_⟩
  obtain ⟨d1, d2, d3, d4, rfl⟩ : ∃ d1 d2 d3 d4, ds = [d1, d2, d3, d4] := by
    match ds, hl with
    | [d1, d2, d3, d4], _ => exact ⟨d1, d2, d3, d4, rfl⟩
  obtain ⟨hc, C, fl, r, he⟩ := hp
  refine k_drop (c_err (ds := [d1, d2, d3, d4]) t (ga_cons (g_var (i := 0) (d := d1) En rfl) (ga_cons (g_var (i := 1) (d := d2) En rfl) (ga_cons (g_var (i := 2) (d := d3) En rfl) (ga_cons (g_var (i := 3) (d := d4) En rfl) ga_nil)))) rfl hc he fun a w H' s' ea dv => q.2 C fl r he a w H' s' ea dv)
-- HINT are_against never masks|rest|while|return
abbrev s_are_against : Stmt := topS 45
abbrev n_are_against : List Str := ["suspects", "askings", "many", "thing", "lies", "masks", "rest", "state", "left", "paper", "mask", "answer", "further"]
theorem sc_are_against : FnScope n_are_against ["suspects", "askings", "many", "thing", "lies"] (defScope s_are_against) := ⟨rfl, rfl, rfl, by decide +kernel, rfl, by decide +kernel, by decide +kernel⟩
theorem ok_are_against {f C1 C2 C3 C5 : Addr} {fd : FuncData} (F : FunD K "are_against" "are_against" (defArgs s_are_against) (defBody s_are_against) (defScope s_are_against) [.int 0] [] f fd) (T : Bl mg) (O_check_many : OMany P w K mg base C1 C2 C3 C5) :
    FnOk P w K mg base (L2.CX P w) 5 f fd ["suspects", "askings", "many", "thing", "lies"] (spXn 5 (anyPre 0 (fun ds => manyOut C1 C2 C3 C5 ds 4)) (fun ds => manyOut C1 C2 C3 C5 ds 4)) := by
  refine okXnD F sc_are_against rfl (by decide) fun cdv A outer s H E X ds Q hr t hl hp q => ⟨_, (pss_cons (ps_expr (pe_ownX O_check_many hr (by decide) (takes_of rfl rfl rfl rfl) (by rfl) (pa_cons (pv 0) (pa_cons (pv 1) (pa_cons (pv 2) (pa_cons (pv 4) pa_nil))))))
    (pss_cons ps_never
    (pss_cons ps_never
    (pss_cons ps_never
    (pss_one ps_never))))), fun σ En => ?_⟩
  obtain ⟨d1, d2, d3, d4, d5, rfl⟩ : ∃ d1 d2 d3 d4 d5, ds = [d1, d2, d3, d4, d5] := by
    match ds, hl with
    | [d1, d2, d3, d4, d5], _ => exact ⟨d1, d2, d3, d4, d5, rfl⟩
  obtain ⟨hc, C, fl, r, he⟩ := hp
  refine k_drop (c_err (ds := [d1, d2, d3, d5]) t (ga_cons (g_var (i := 0) (d := d1) En rfl) (ga_cons (g_var (i := 1) (d := d2) En rfl) (ga_cons (g_var (i := 2) (d := d3) En rfl) (ga_cons (g_var (i := 4) (d := d5) En rfl) ga_nil)))) rfl hc he fun a w H' s' ea dv => q.2 C fl r he a w H' s' ea dv)
abbrev s_left_in : Stmt := topS 22
abbrev n_left_in : List Str := ["suspects", "state", "possible", "place", "name"]
theorem sc_left_in : FnScope n_left_in ["suspects", "state"] (defScope s_left_in) := ⟨rfl, rfl, rfl, by decide +kernel, rfl, by decide +kernel, by decide +kernel⟩
def pmOut (C1 C2 C3 C4 : Addr) (ds : List PyData) : Out := match chk4 C1 C2 C3 ds 3 with
  | .err C fl r => .err C fl r
  | .val _ => stOut C4 (at_ ds 1) (at_ ds 2)
def pmPre (C1 C2 C3 : Addr) (ds : List PyData) : Prop := chkPre ds ∧ ∀ r, chk4 C1 C2 C3 ds 3 = .val r → stPre (at_ ds 1) (at_ ds 2)
abbrev OSt (P : Program) (w : World) (K : PySem.W.Frag) (mg : Str → Option Value) (base : Heap) (C4 : Addr) : Prop := Own P w K mg base (L2.CX P w) 4 "state_behind" ["suspects", "askings", "answers", "lies"] (spXn 4 (fun ds => stPre (at_ ds 1) (at_ ds 2)) fun ds => stOut C4 (at_ ds 1) (at_ ds 2))
theorem st_err {C4 : Addr} {da dn : PyData} : isErr (stOut C4 da dn) := by
  unfold stOut
  split <;> exact ⟨_, _, _, rfl⟩
theorem k_callS {sp : Sp} {dvs : List V} {E : XK} {ta : TA} {σ : L2.St} {H : Hp} {Q : VK} (h : ta σ H fun vs H1 => sp (vs ++ dvs) H1 Q E) : tCall sp dvs E ta σ H Q := h
-- HINT ask_next never return
abbrev s_ask_next : Stmt := topS 37
abbrev n_ask_next : List Str := ["suspects", "askings", "answers", "lies", "state"]
theorem sc_ask_next : FnScope n_ask_next ["suspects", "askings", "answers", "lies"] (defScope s_ask_next) := ⟨rfl, rfl, rfl, by decide +kernel, rfl, by decide +kernel, by decide +kernel⟩
theorem ok_ask_next {f C1 C2 C3 C4 : Addr} {fd : FuncData} (F : FunD K "ask_next" "ask_next" (defArgs s_ask_next) (defBody s_ask_next) (defScope s_ask_next) [.int 0] [] f fd) (T : Bl mg) (O_check_askings : OChk P w K mg base C1 C2 C3) (O_state_behind : OSt P w K mg base C4) :
    FnOk P w K mg base (L2.CX P w) 5 f fd ["suspects", "askings", "answers", "lies"] (spXn 4 (pmPre C1 C2 C3) (pmOut C1 C2 C3 C4)) := by
  refine okXnD F sc_ask_next rfl (by decide) fun cdv A outer s H E X ds Q hr t hl hp q => ⟨_, (pss_cons (ps_expr (pe_ownX O_check_askings hr (by decide) (takes_of rfl rfl rfl rfl) (by rfl) (pa_cons (pv 0) (pa_cons (pv 1) (pa_cons (pv 3) pa_nil)))))
    (pss_cons (ps_set (i := 4) sc_ask_next.nd rfl (by first | exact Or.inl rfl | exact Or.inr rfl) (pe_ownX O_state_behind hr (by decide) (takes_of rfl rfl rfl rfl) (by rfl) (pa_cons (pv 0) (pa_cons (pv 1) (pa_cons (pv 2) (pa_cons (pv 3) pa_nil))))))
    (pss_one ps_never))), fun σ En => ?_⟩
  obtain ⟨d1, d2, d3, d4, rfl⟩ : ∃ d1 d2 d3 d4, ds = [d1, d2, d3, d4] := by
    match ds, hl with
    | [a, b, c, d], _ => exact ⟨a, b, c, d, rfl⟩
  obtain ⟨hc, hst⟩ := hp
  refine k_drop (c_Xn (ds := [d1, d2, d4]) t (ga_cons (g_var (i := 0) (d := d1) En rfl) (ga_cons (g_var (i := 1) (d := d2) En rfl) (ga_cons (g_var (i := 3) (d := d4) En rfl) ga_nil))) rfl hc ⟨fun r e w0 H1 s1 dw _ => ?_, fun C fl r e a v H1 s1 ea dv => q.2 C fl r (by unfold pmOut chk4; rw [show chkA C1 C2 C3 (at_ [d1, d2, d3, d4] 0) (at_ [d1, d2, d3, d4] 1) (at_ [d1, d2, d3, d4] 3) = .err C fl r from e]) a v H1 s1 ea dv⟩)
  have e0 : chk4 C1 C2 C3 [d1, d2, d3, d4] 3 = .val r := e
  have ep : pmOut C1 C2 C3 C4 [d1, d2, d3, d4] = stOut C4 d2 d3 := by
    unfold pmOut
    rw [e0]
    rfl
  obtain ⟨C, fl, r', he⟩ := st_err (C4 := C4) (da := d2) (dn := d3)
  have E1 := En.same s1
  have t1 := t.mono s1
  exact k_set (c_err (ds := [d1, d2, d3, d4]) t1 (ga_cons (g_var (i := 0) (d := d1) E1 rfl) (ga_cons (g_var (i := 1) (d := d2) E1 rfl) (ga_cons (g_var (i := 2) (d := d3) E1 rfl) (ga_cons (g_var (i := 3) (d := d4) E1 rfl) ga_nil)))) rfl (hst r e0) he fun a w H' s' ea dv => q.2 C fl r' (by rw [ep]; exact he) a w H' (s1.trans s') ea dv)
-- HINT possible_ones never zzz
abbrev s_possible_ones : Stmt := topS 30
abbrev n_possible_ones : List Str := ["suspects", "askings", "answers", "lies"]
theorem sc_possible_ones : FnScope n_possible_ones ["suspects", "askings", "answers", "lies"] (defScope s_possible_ones) := ⟨rfl, rfl, rfl, by decide +kernel, rfl, by decide +kernel, by decide +kernel⟩
theorem ok_possible_ones {f C1 C2 C3 C4 : Addr} {fd : FuncData} (F : FunD K "possible_ones" "possible_ones" (defArgs s_possible_ones) (defBody s_possible_ones) (defScope s_possible_ones) [.int 0] [] f fd) (T : Bl mg) (O_check_askings : OChk P w K mg base C1 C2 C3) (O_state_behind : OSt P w K mg base C4) (O_left_in : Own P w K mg base CX0 1 "left_in" ["suspects", "state"] fun _ _ _ _ => False) :
    FnOk P w K mg base (L2.CX P w) 5 f fd ["suspects", "askings", "answers", "lies"] (spXn 4 (pmPre C1 C2 C3) (pmOut C1 C2 C3 C4)) := by
  refine okXnD F sc_possible_ones rfl (by decide) fun cdv A outer s H E X ds Q hr t hl hp q => ⟨_, (pss_cons (ps_expr (pe_ownX O_check_askings hr (by decide) (takes_of rfl rfl rfl rfl) (by rfl) (pa_cons (pv 0) (pa_cons (pv 1) (pa_cons (pv 3) pa_nil)))))
    (pss_one (ps_ret (pe_own O_left_in hr (by decide) (by rfl) (pa_cons (pv 0) (pa_cons (pe_ownX O_state_behind hr (by decide) (takes_of rfl rfl rfl rfl) (by rfl) (pa_cons (pv 0) (pa_cons (pv 1) (pa_cons (pv 2) (pa_cons (pv 3) pa_nil))))) pa_nil)))))), fun σ En => ?_⟩
  obtain ⟨d1, d2, d3, d4, rfl⟩ : ∃ d1 d2 d3 d4, ds = [d1, d2, d3, d4] := by
    match ds, hl with
    | [a, b, c, d], _ => exact ⟨a, b, c, d, rfl⟩
  obtain ⟨hc, hst⟩ := hp
  refine k_drop (c_Xn (ds := [d1, d2, d4]) t (ga_cons (g_var (i := 0) (d := d1) En rfl) (ga_cons (g_var (i := 1) (d := d2) En rfl) (ga_cons (g_var (i := 3) (d := d4) En rfl) ga_nil))) rfl hc ⟨fun r e w0 H1 s1 dw _ => ?_, fun C fl r e a v H1 s1 ea dv => q.2 C fl r (by unfold pmOut chk4; rw [show chkA C1 C2 C3 (at_ [d1, d2, d3, d4] 0) (at_ [d1, d2, d3, d4] 1) (at_ [d1, d2, d3, d4] 3) = .err C fl r from e]) a v H1 s1 ea dv⟩)
  have e0 : chk4 C1 C2 C3 [d1, d2, d3, d4] 3 = .val r := e
  have ep : pmOut C1 C2 C3 C4 [d1, d2, d3, d4] = stOut C4 d2 d3 := by
    unfold pmOut
    rw [e0]
    rfl
  obtain ⟨C, fl, r', he⟩ := st_err (C4 := C4) (da := d2) (dn := d3)
  have E1 := En.same s1
  have t1 := t.mono s1
  refine k_ret ?_
  refine k_callS (k_cons (g_var (i := 0) (d := d1) E1 rfl H1 (Same.refl _) _ fun v2 H2 s2 r2 => k_cons ?_))
  have E2 := E1.same s2
  exact c_err (ds := [d1, d2, d3, d4]) (t1.mono s2) (ga_cons (g_var (i := 0) (d := d1) E2 rfl) (ga_cons (g_var (i := 1) (d := d2) E2 rfl) (ga_cons (g_var (i := 2) (d := d3) E2 rfl) (ga_cons (g_var (i := 3) (d := d4) E2 rfl) ga_nil)))) rfl (hst r e0) he fun a w H' s' ea dv => q.2 C fl r' (by rw [ep]; exact he) a w H' ((s1.trans s2).trans s') ea dv
end K82

/-! Good suspects and askings. -/
namespace K82
open PySem PySem.Spec PyProof.Rows L2 KD
variable {P : Program} {w : World} {K : PySem.W.Frag} {mg : Str → Option Value} {base : Heap}
def sNames : List Str := ["a", "b", "c1", "d", "zed", "m9", "k", "stranger"]
def strOf : PyData → Str
  | .str s => s
  | _ => default
def nsOf (d : PyData) : List Str := (itemsD d).map strOf
theorem nsOf_ws (ns : List Str) : nsOf (wsD ns) = ns := by
  show (ns.map PyData.str).map strOf = ns
  rw [List.map_map]
  exact (List.map_congr_left fun _ _ => rfl).trans (List.map_id ns)
theorem k_name {i : Nat} {v : V} {σ : L2.St} {H : Hp} {Ψ : L2.St → Hp → Prop} (h : Ψ (σ.set i (some v)) H) : gName i v σ H Ψ := h
theorem k_set1 {te : TE} {i : Nat} {D : Ends} {σ : L2.St} {H : Hp} (h : te σ H fun v H1 => D.nx (σ.set i (some v)) H1) : tAsg te (gName i) D σ H := h
theorem sNames_is : ∀ s ∈ sNames, isNameS s = true := by decide +kernel
theorem sNames_len : ∀ s ∈ sNames, s.length ≤ 10 ∧ PyData.strOk s = true := by decide +kernel
theorem nodup_le {ns : List Str} (nd : ns.Nodup) (h : ∀ z ∈ ns, z ∈ sNames) : ns.length ≤ 8 := by
  have := List.Nodup.length_le_of_subset nd (l₂ := sNames) h
  exact this
structure Sus (d : PyData) (ns : List Str) : Prop where
  seq : isSeq d = true
  its : itemsD d = ns.map PyData.str
  nd : ns.Nodup
  ok : ∀ z ∈ ns, z ∈ sNames
  pos : 0 < ns.length
structure Ask (d : PyData) (as : List (List Str)) : Prop where
  seq : isSeq d = true
  its : itemsD d = as.map wsD
  pos : 0 < as.length
  few : as.length ≤ 100
  nd : ∀ a ∈ as, a.Nodup
  ok : ∀ a ∈ as, ∀ z ∈ a, z ∈ sNames
theorem Sus.few {d : PyData} {ns : List Str} (S : Sus d ns) : ns.length ≤ 8 := nodup_le S.nd S.ok
end K82

/-! Words for what draws. -/
namespace K82
open PySem PySem.Spec PyProof.Rows L2 KD
variable {K : PySem.W.Frag}
section
variable {X : Addr → Prop} {H : Hp} {σ : L2.St} {Γ : List Sv} {st cl : Addr} {n : Nat} {ta tb tc te : TE} {E : XK} {d : PyData} {Q : VK} {tz tu : TS} {D : Ends} {tt : TT}
theorem c_mixed {ds : List PyData} {ts tm : TE} (S : Sg X st cl n H) (hv : GV ts σ H (.ref st)) (hm : G X tm σ H (.list ds)) (hn : n + ds.length ≤ 1000000000) (h1 : ds.length < 1000000)
    (k : ∀ w es H', es.Perm ds → Sg X st cl (n + ds.length) H' → KpS st cl H H' → DX X H' w (.list es) → Nw H w → Q w H') : tCall spMixed [] E (tCons ts (tCons tm tNil)) σ H Q :=
  hv H (Same.refl H) _ (hm H (Same.refl H) _ fun v H1 s1 r => ⟨X, st, cl, n, v, ds, rfl, S.same s1, hn, r, h1, fun w es H' hp S2 kk dw nw => k w es H' hp S2 ((KpS.of s1).trans kk) dw (Nw.back s1 nw)⟩)
theorem k_sl {to th : TO} {rs : V → Option Int → Option Int → Hp → VK → Prop} (h : te σ H fun x H1 => to σ H1 fun l H2 => th σ H2 fun u H3 => rs x l u H3 Q) : tSl rs te to th σ H Q := h
theorem k_some {Q' : Option Int → Hp → Prop} (h : te σ H fun v H1 => ∃ i : Int, v = .int i ∧ Q' (some i) H1) : tPart te σ H Q' := h
theorem cutP_to (ds : List PyData) {q : Int} (hq : 0 ≤ q) : cutPD ds none (some q) = ds.take q.toNat := by
  show (ds.drop (HT.sIx ds.length 0 none)).take (HT.sIx ds.length ds.length (some q) - HT.sIx ds.length 0 none) = _
  rw [sIx_nn hq]
  show (ds.drop 0).take (min q.toNat ds.length - 0) = _
  rw [List.drop_zero, Nat.sub_zero]
  by_cases h : q.toNat ≤ ds.length
  · rw [Nat.min_eq_left h]
  · rw [Nat.min_eq_right (by omega), List.take_length, List.take_of_length_le (by omega)]
theorem q_ifJ {b : Bool} (h : GT tt σ H b) (J : L2.St → Hp → Prop) (hJ : ∀ σ H, J σ H → tz D σ H) (h1 : b = true → (∀ σ H, J σ H → tz D σ H) → ∀ H1, Same H H1 → tu { D with nx := tz D } σ H1) (h0 : b = false → ∀ H1, Same H H1 → J σ H1) : tSeq (tIfS tt tu tNext) tz D σ H :=
  q_if h (fun e H1 s => h1 e hJ H1 s) fun e H1 s => hJ σ H1 (h0 e H1 s)
/-- a for over a list that is new -/
def ForL (K : PySem.W.Frag) (g : TG) (tb : TS) (D : Ends) (σ : L2.St) (v : V) (H1 : Hp) : Prop := ∃ a, v = .ref a ∧ (∃ xs, SqL K H1 a xs) ∧ tFor (fun _ H R => R (Itl K a) H) g tb D σ H1
theorem k_forL {g : TG} {tu : TS} (h : te σ H fun v H1 => ForL K g tu D σ v H1) : tFor (iList K te) g tu D σ H := h
theorem k_forQ {g : TG} {tu : TS} (h : te σ H fun v H1 => ForL K g tu { D with nx := tz D } σ v H1) : tSeq (tFor (iList K te) g tu) tz D σ H := h
theorem forL_it {g : TG} {tu : TS} {a : Addr} {xs : List V} (Pv : Nat → L2.St → Hp → Prop) (hH : H a = some (.lst xs)) (h0 : Pv 0 σ H) (hG : ∀ i σ' H', Pv i σ' H' → H' a = some (.lst xs))
    (hs : ∀ i x σ' H', xs[i]? = some x → Pv i σ' H' → g x σ' H' fun σ2 H2 => tu { D with nx := Pv (i + 1), ct := Pv (i + 1), bk := D.nx } σ2 H2) (hd : ∀ σ' H', Pv xs.length σ' H' → D.nx σ' H') : ForL K g tu D σ (.ref a) H := by
  refine ⟨a, rfl, ⟨xs, SqL.of hH⟩, ?_⟩
  refine for_it walk_list Pv h0 (fun i σ' H' _ p => SqL.of (hG i σ' H' p)) (fun i x σ' H' H'' _ p y => ?_) hd
  obtain ⟨rfl, hx⟩ := y
  exact hs i x σ' _ hx p
/-- a for over a tuple that is new -/
def ForT (K : PySem.W.Frag) (g : TG) (tb : TS) (D : Ends) (σ : L2.St) (v : V) (H1 : Hp) : Prop := ∃ a, v = .ref a ∧ (∃ xs, SqT K H1 a xs) ∧ tFor (fun _ H R => R (Itt K a) H) g tb D σ H1
theorem k_forT {g : TG} {tu : TS} (h : te σ H fun v H1 => ForT K g tu D σ v H1) : tFor (iTup K te) g tu D σ H := h
theorem k_forTQ {g : TG} {tu : TS} (h : te σ H fun v H1 => ForT K g tu { D with nx := tz D } σ v H1) : tSeq (tFor (iTup K te) g tu) tz D σ H := h
theorem forT_it {g : TG} {tu : TS} {a : Addr} {xs : List V} (Pv : Nat → L2.St → Hp → Prop) (hH : H a = some (.tup xs)) (h0 : Pv 0 σ H) (hG : ∀ i σ' H', Pv i σ' H' → H' a = some (.tup xs))
    (hs : ∀ i x σ' H', xs[i]? = some x → Pv i σ' H' → g x σ' H' fun σ2 H2 => tu { D with nx := Pv (i + 1), ct := Pv (i + 1), bk := D.nx } σ2 H2) (hd : ∀ σ' H', Pv xs.length σ' H' → D.nx σ' H') : ForT K g tu D σ (.ref a) H := by
  refine ⟨a, rfl, ⟨xs, SqT.of hH⟩, ?_⟩
  refine for_it walk_tup Pv h0 (fun i σ' H' _ p => SqT.of (hG i σ' H' p)) (fun i x σ' H' H'' _ p y => ?_) hd
  obtain ⟨rfl, hx⟩ := y
  exact hs i x σ' _ hx p
/-- a for over range(j), j told -/
def ForR (g : TG) (tb : TS) (D : Ends) (σ : L2.St) (vs : List V) (H1 : Hp) : Prop := ∃ j : Int, vs = [.int j] ∧ -(2 ^ 62) ≤ j ∧ j < 2 ^ 62 ∧ tFor (fun _ H R => R (Itr 0 j.toNat) H) g tb D σ H1
theorem k_forR {tl : TA} {g : TG} (h : tl σ H fun vs H1 => ForR g tu { D with nx := tz D } σ vs H1) : tSeq (tFor (iRng1 tl) g tu) tz D σ H := h
theorem k_lst {tl : TA} (h : tl σ H fun vs H1 => vs.length ≤ sizeLine ∧ ∀ p, H1 p = none → Q (.ref p) (upd H1 p (.lst vs))) : tLst tl σ H Q := h
theorem k_tup {tl : TA} (h : tl σ H fun vs H1 => vs.length ≤ sizeLine ∧ ∀ p, H1 p = none → Q (.ref p) (upd H1 p (.tup vs))) : tTup tl σ H Q := h
theorem k_nil {Qa : List V → Hp → Prop} (h : Qa [] H) : tNil σ H Qa := h
theorem walkD_list {a : Addr} {ds : List PyData} (hd : DX X H (.ref a) (.list ds)) : WalkD X (Itl K a) H ds := by
  obtain ⟨a', xs, ea, n, e, rx⟩ := hd.lst_inv
  cases ea
  refine ⟨_, _, by rw [← rx.length]; exact walk_list, fun X' m H3 k t => ?_⟩
  have n' : ¬ X' a := fun z => (m a z).elim n fun q => by rw [e] at q; cases q
  refine ⟨SqL.of (k a _ n' e), fun i x H4 y => ?_⟩
  obtain ⟨rfl, hx⟩ := y
  obtain ⟨d, h1, h2⟩ := rx.getV hx
  exact ⟨Same.refl _, d, h1, (h2.grow m).mono k⟩
theorem k_lcL {g : TG} {us : List Nat} (h : te σ H fun v H1 => ∃ a, v = .ref a ∧ (∃ zs, SqL K H1 a zs) ∧ tLc (fun _ H2 R => R (Itl K a) H2) g tt tb us σ H1 Q) : tLc (iList K te) g tt tb us σ H Q := h
/-- the things of a list that draws let through -/
theorem lc_drawsF {i c : Nat} {a : Addr} {ds : List PyData} (S : Sg X st cl n H) (En : EnvOk X H σ Γ) (hd : DX X H (.ref a) (.list ds)) (hl : ds.length ≤ 1000) (hi : i < Γ.length)
    (ht : ∀ X' H1 σ2 k d Q1, ds[k]? = some d → EnvOk X' H1 σ2 ((Γ.set i .un).set i (.dat d)) → Sg X' st cl (n + c * k) H1 → (∀ b H', Sg X' st cl (n + c * k + c) H' → KpS st cl H1 H' → Q1 b H') → tt σ2 H1 Q1)
    (q : ∀ w es H', es.Sublist ds → Sg X st cl (n + c * ds.length) H' → KpS st cl H H' → DX X H' w (.list es) → Nw H w → Q w H') : tLc (fun _ H2 R => R (Itl K a) H2) (gName i) tt (tVar i) [i] σ H Q := by
  intro D hD
  have m2 : More X (fun a => X a ∨ a = D) H := More.one hD
  have d1 := S.ne1 hD
  have d2 := S.ne2 hD
  obtain ⟨Gd, Y, w1, w2⟩ := walkD_list (K := K) hd
  let I : Nat → Hp → Prop := fun k H3 => KpS st cl H H3 ∧ Sg (fun a => X a ∨ a = D) st cl (n + c * k) H3 ∧ ∃ acc es, H3 D = some (.lst acc) ∧ DXs (fun a => X a ∨ a = D) H3 acc es ∧ es.Sublist (ds.take k)
  have ik : ∀ {k H3}, I k H3 → Kp (fun a => X a ∨ a = D) H H3 ∧ Trk (fun a => X a ∨ a = D) H3 := fun {k H3} p => ⟨p.1.kp (.inl S.x1) (.inl S.x2), p.2.1.t⟩
  refine lc_it w1 I ?_ (fun i H3 _ p => (w2 _ m2.2 H3 (ik p).1 (ik p).2).1) ?_ ?_
  · exact ⟨KpS.of (Same.upd hD), ⟨(S.ok).same (Same.upd hD), .inl S.x1, .inl S.x2, S.t.one hD⟩, [], [], upd_same, .nil, List.nil_sublist _⟩
  · rintro k x H3 H4 hk p y
    obtain ⟨s4, d, hdk, dx⟩ := (w2 _ m2.2 H3 (ik p).1 (ik p).2).2 k x H4 y
    obtain ⟨p1, p2, acc, es, p3, p4, p5⟩ := p
    have S4 := p2.same s4
    have k4 : Kp (fun a => X a ∨ a = D) H H4 := (p1.kp (.inl S.x1) (.inl S.x2)).trans (Kp.of s4)
    refine tgt_name (X := X) (i := i) En _ H4 m2 k4 S4.t x dx _ fun σ2 E2 hw => ⟨hw, ?_⟩
    have etake : ds.take (k + 1) = ds.take k ++ [d] := by rw [List.take_succ, hdk]; rfl
    refine ht _ H4 σ2 k d _ hdk E2 S4 fun b H5 S5 k5 => ?_
    have k35 : KpS st cl H3 H5 := (KpS.of s4).trans k5
    have p15 : KpS st cl H H5 := p1.trans k35
    have p35 : H5 D = some (.lst acc) := k35 D _ d1 d2 p3
    have p45 := p4.mono (p2.kp k35)
    have lacc : acc.length ≤ 1000 := by
      rw [p4.length]
      exact Nat.le_trans p5.length_le (by rw [List.length_take]; omega)
    cases b with
    | true =>
      refine iteT ?_
      have E5 := E2.kps S4 k5
      have he : ((Γ.set i .un).set i (.dat d))[i]? = some (.dat d) := by rw [List.getElem?_set_self (by rw [List.length_set]; exact hi)]
      refine g_var (i := i) E5 he H5 (Same.refl _) _ fun v H6 s6 r6 => ?_
      refine ⟨acc, s6 D _ p35, by rw [sizeLine_eq]; omega, ?_, ?_, acc ++ [v], es ++ [d], upd_same, ?_, ?_⟩
      · exact fun a o n1 n2 e => by
          have := s6 a _ (p15 a o n1 n2 e)
          rw [upd_ne (ne_of_none e hD)]
          exact this
      · rw [Nat.mul_succ, ← Nat.add_assoc]
        exact (S5.same s6).put d1 d2
      · exact ((p45.mono (Kp.of s6)).snoc r6).mono (Kp.put (.inr rfl))
      · rw [etake]
        exact List.Sublist.append p5 (List.Sublist.refl _)
    | false =>
      refine iteF ?_
      refine ⟨p15, by rw [Nat.mul_succ, ← Nat.add_assoc]; exact S5, acc, es, p35, p45, ?_⟩
      rw [etake]
      exact p5.trans (List.sublist_append_left _ _)
  · rintro H3 ⟨p1, p2, acc, es, p3, p4, p5⟩
    rw [List.take_length] at p5
    have nXD : ¬ X D := S.t.new hD
    exact q (.ref D) es H3 p5 ⟨p2.ok, S.x1, S.x2, fun a h => p2.t a (.inl h)⟩ p1 (.lst nXD p3 (p4.less fun a => .inl)) (Nw.of hD)
/-- some things drawn by c draws each -/
theorem lc_drawsC {i m c : Nat} (pr : PyData → Prop) (S : Sg X st cl n H) (En : EnvOk X H σ Γ) (hm : m ≤ 100000)
    (he : ∀ X' H1 σ2 k Q1, k < m → EnvOk X' H1 σ2 ((Γ.set i .un).set i (.dat (.int (k : Nat)))) → Sg X' st cl (n + c * k) H1 → (∀ w d H', pr d → Sg X' st cl (n + c * k + c) H' → KpS st cl H1 H' → DX X' H' w d → Q1 w H') → te σ2 H1 Q1)
    (q : ∀ w ds H', ds.length = m → (∀ d ∈ ds, pr d) → Sg X st cl (n + c * m) H' → KpS st cl H H' → DX X H' w (.list ds) → Nw H w → Q w H') : tLc (fun σ H R => R (Itr 0 m) H) (gName i) tYes te [i] σ H Q := by
  intro D hD
  have m2 : More X (fun a => X a ∨ a = D) H := More.one hD
  have d1 := S.ne1 hD
  have d2 := S.ne2 hD
  obtain ⟨Gd, Y, w1, w2⟩ := walkD_range (X := X) (H := H) (lo := 0) (n := m)
  rw [rangeD_len] at w1
  have key : ∀ H3, Kp (fun a => X a ∨ a = D) H H3 ∧ Trk (fun a => X a ∨ a = D) H3 → Gd H3 := fun H3 p => (w2 _ m2.2 H3 p.1 p.2).1
  let I : Nat → Hp → Prop := fun k H3 => KpS st cl H H3 ∧ Sg (fun a => X a ∨ a = D) st cl (n + c * k) H3 ∧ ∃ acc ds, H3 D = some (.lst acc) ∧ DXs (fun a => X a ∨ a = D) H3 acc ds ∧ ds.length = k ∧ ∀ d ∈ ds, pr d
  have ik : ∀ {k H3}, I k H3 → Kp (fun a => X a ∨ a = D) H H3 ∧ Trk (fun a => X a ∨ a = D) H3 := fun {k H3} p => ⟨p.1.kp (.inl S.x1) (.inl S.x2), p.2.1.t⟩
  refine lc_it w1 I ?_ (fun i H3 _ p => key H3 (ik p)) ?_ ?_
  · exact ⟨KpS.of (Same.upd hD), ⟨(S.ok).same (Same.upd hD), .inl S.x1, .inl S.x2, S.t.one hD⟩, [], [], upd_same, .nil, rfl, fun d h => by cases h⟩
  · rintro k x H3 H4 hk p y
    obtain ⟨s4, d, hd, dx⟩ := (w2 _ m2.2 H3 (ik p).1 (ik p).2).2 k x H4 y
    obtain ⟨p1, p2, acc, ds, p3, p4, p5, p6⟩ := p
    rw [rangeD_get hk] at hd
    cases hd
    have S4 := p2.same s4
    have k4 : Kp (fun a => X a ∨ a = D) H H4 := (p1.kp (.inl S.x1) (.inl S.x2)).trans (Kp.of s4)
    refine tgt_name (X := X) (i := i) En _ H4 m2 k4 S4.t x dx _ fun σ2 E2 hw => ⟨hw, ?_⟩
    refine k_yes ?_
    rw [show (0 : Int) + (k : Int) = (k : Nat) from by omega] at E2
    refine he _ H4 σ2 k _ hk E2 S4 fun w d H5 hp S5 k5 dw => ?_
    refine ⟨acc, k5 D _ d1 d2 (s4 D _ p3), by rw [p4.length, p5, sizeLine_eq]; omega, ?_, ?_, acc ++ [w], ds ++ [d], upd_same, ?_, by rw [List.length_append, p5]; rfl, fun z hz => ?_⟩
    · exact fun a o n1 n2 e => by
        have := k5 a o n1 n2 (s4 a _ (p1 a o n1 n2 e))
        rw [upd_ne (ne_of_none e hD)]
        exact this
    · rw [Nat.mul_succ, ← Nat.add_assoc]
      exact S5.put d1 d2
    · exact (((p4.mono (Kp.of s4)).mono (S4.kp k5)).snoc dw).mono (Kp.put (.inr rfl))
    · rcases List.mem_append.mp hz with h | h
      · exact p6 z h
      · rw [List.mem_singleton.mp h]
        exact hp
  · rintro H3 ⟨p1, p2, acc, ds, p3, p4, p5, p6⟩
    have nXD : ¬ X D := S.t.new hD
    exact q (.ref D) ds H3 p5 p6 ⟨p2.ok, S.x1, S.x2, fun a h => p2.t a (.inl h)⟩ p1 (.lst nXD p3 (p4.less fun a => .inl)) (Nw.of hD)
end
end K82

/-! Suspects and askings, drawn. -/
namespace K82
open PySem PySem.Spec PyProof.Rows L2 KD
variable {P : Program} {w : World} {K : PySem.W.Frag} {mg : Str → Option Value} {base : Heap}
theorem sl_listK {X : Cx} (h : X.K = K) : SlR X (rSlL K) := h ▸ sl_list
def bNames : List Str := ["a", "b", "c1", "d", "zed", "m9", "k"]
theorem base_ok : ∀ z ∈ bNames, z ∈ sNames ∧ z ≠ "stranger" := by decide +kernel
theorem base_nd : bNames.Nodup := by decide +kernel
/-- some of the suspects -/
structure Row (ns a : List Str) : Prop where
  nd : a.Nodup
  ok : ∀ z ∈ a, z ∈ ns
theorem strs_perm {es : List PyData} {ns : List Str} (h : es.Perm (ns.map PyData.str)) : ∃ ms : List Str, es = ms.map PyData.str ∧ ms.Perm ns := by
  refine ⟨es.map strOf, ?_, ?_⟩
  · rw [List.map_map]
    conv => lhs; rw [← List.map_id es]
    refine List.map_congr_left fun d hd => ?_
    obtain ⟨s, _, rfl⟩ := List.mem_map.mp (h.mem_iff.mp hd)
    rfl
  · have := h.map strOf
    rw [List.map_map] at this
    exact this.trans (by rw [show strOf ∘ PyData.str = id from rfl, List.map_id])
theorem strs_sub {es : List PyData} {ns : List Str} (h : es.Sublist (ns.map PyData.str)) : ∃ ms : List Str, es = ms.map PyData.str ∧ ms.Sublist ns := by
  refine ⟨es.map strOf, ?_, ?_⟩
  · rw [List.map_map]
    conv => lhs; rw [← List.map_id es]
    refine List.map_congr_left fun d hd => ?_
    obtain ⟨s, _, rfl⟩ := List.mem_map.mp (h.subset hd)
    rfl
  · have := h.map strOf
    rw [List.map_map, show strOf ∘ PyData.str = id from rfl, List.map_id] at this
    exact this
section
variable {X : Addr → Prop} {H : Hp} {σ : L2.St} {Γ : List Sv} {st cl : Addr} {n : Nat} {ta te : TE} {Q : VK} {g : TG} {tt : TT}
theorem g_neg1 : G X (tUn (rU fun i => .int (-i)) (tC (.int 1))) σ H (.int (-1)) := fun H1 s Q q => ⟨1, rfl, q _ H1 (Same.refl H1) (.int _)⟩
theorem k_lcR2 {tl : TA} {us : List Nat} (h : tl σ H fun vs H1 => ∃ i j : Int, vs = [.int i, .int j] ∧ (-(2 ^ 62) ≤ i ∧ i < 2 ^ 62 ∧ -(2 ^ 62) ≤ j ∧ j < 2 ^ 62) ∧ tLc (fun _ H2 R => R (Itr i (j - i).toNat) H2) g tt te us σ H1 Q) : tLc (iRng2 tl) g tt te us σ H Q := h
theorem k_c {v : V} (h : Q v H) : tC v σ H Q := h
theorem k_test {Q' : Bool → Hp → Prop} (h : te σ H fun v H1 => ∃ k, v = .bl k ∧ Q' k H1) : tTest te σ H Q' := h
theorem k_asg1 {D : Ends} (h : te σ H fun v H1 => g v σ H1 fun σ2 H2 => D.nx σ2 H2) : tAsg te g D σ H := h
theorem kps_none {H' : Hp} {l : Addr} (k : KpS st cl H H') (n1 : l ≠ st) (n2 : l ≠ cl) (h : H' l = none) : H l = none := by
  cases e : H l with
  | none => rfl
  | some o => rw [k l o n1 n2 e] at h; cases h
/-- new things, one for each number -/
theorem lc_new {i m : Nat} {lo : Int} (f : Nat → PyData) (S : Sg X st cl n H) (En : EnvOk X H σ Γ) (hm : m ≤ 100000)
    (he : ∀ X' H1 σ2 k, k < m → EnvOk X' H1 σ2 ((Γ.set i .un).set i (.dat (.int (lo + (k : Nat))))) → Sg X' st cl n H1 → G X' te σ2 H1 (f k))
    (q : ∀ w H', Sg X st cl n H' → Same H H' → DX X H' w (.list ((List.range m).map f)) → Nw H w → Q w H') : tLc (fun σ H R => R (Itr lo m) H) (gName i) tYes te [i] σ H Q := by
  intro D hD
  have m2 : More X (fun a => X a ∨ a = D) H := More.one hD
  have d1 := S.ne1 hD
  have d2 := S.ne2 hD
  obtain ⟨Gd, Y, w1, w2⟩ := walkD_range (X := X) (H := H) (lo := lo) (n := m)
  rw [rangeD_len] at w1
  let I : Nat → Hp → Prop := fun k H3 => Same H H3 ∧ Sg (fun a => X a ∨ a = D) st cl n H3 ∧ ∃ acc, H3 D = some (.lst acc) ∧ DXs (fun a => X a ∨ a = D) H3 acc ((List.range k).map f)
  have ik : ∀ {k H3}, I k H3 → Kp (fun a => X a ∨ a = D) H H3 ∧ Trk (fun a => X a ∨ a = D) H3 := fun {k H3} p => ⟨Kp.of p.1, p.2.1.t⟩
  refine lc_it w1 I ?_ (fun i H3 _ p => (w2 _ m2.2 H3 (ik p).1 (ik p).2).1) ?_ ?_
  · exact ⟨Same.upd hD, ⟨(S.ok).same (Same.upd hD), .inl S.x1, .inl S.x2, S.t.one hD⟩, [], upd_same, .nil⟩
  · rintro k x H3 H4 hk p y
    obtain ⟨s4, d, hd, dx⟩ := (w2 _ m2.2 H3 (ik p).1 (ik p).2).2 k x H4 y
    obtain ⟨p1, p2, acc, p3, p4⟩ := p
    rw [rangeD_get hk] at hd
    cases hd
    have S4 := p2.same s4
    refine tgt_name (X := X) (i := i) En _ H4 m2 (Kp.of (p1.trans s4)) S4.t x dx _ fun σ2 E2 hw => ⟨hw, ?_⟩
    refine k_yes ?_
    refine he _ H4 σ2 k hk E2 S4 H4 (Same.refl _) _ fun w H5 s5 dw => ?_
    refine ⟨acc, s5 D _ (s4 D _ p3), by rw [p4.length, List.length_map, List.length_range, sizeLine_eq]; omega, Same.mut ((p1.trans s4).trans s5) hD, ((S4.same s5).put d1 d2), acc ++ [w], upd_same, ?_⟩
    rw [List.range_succ, List.map_append]
    exact (((p4.mono (Kp.of s4)).mono (Kp.of s5)).snoc dw).mono (Kp.put (.inr rfl))
  · rintro H3 ⟨p1, p2, acc, p3, p4⟩
    have nXD : ¬ X D := S.t.new hD
    exact q (.ref D) H3 ⟨p2.ok, S.x1, S.x2, fun a h => p2.t a (.inl h)⟩ p1 (.lst nXD p3 (p4.less fun a => .inl)) (Nw.of hD)
end
theorem DXs.set {X : Addr → Prop} {H : Hp} : ∀ {vs : List V} {ds : List PyData} (j : Nat) {v : V} {d : PyData}, DXs X H vs ds → DX X H v d → DXs X H (vs.set j v) (ds.set j d)
  | _, _, _, _, _, .nil, _ => .nil
  | _, _, 0, _, _, .cons _ r, k => .cons k r
  | _, _, j + 1, _, _, .cons h r, k => .cons h (DXs.set j r k)
theorem ixN_m1 {n : Nat} (h : 0 < n) : ixN n (-1) = some (n - 1) := by
  unfold ixN
  rw [if_neg (by decide), if_pos (by omega)]
  congr 1
  omega
theorem atI_m1 {α : Type} {xs : List α} (h : 0 < xs.length) : atI xs (-1) = xs[xs.length - 1]? := by
  unfold atI
  rw [ixN_m1 h]
  rfl
structure Row' (a : List Str) : Prop where
  nd : a.Nodup
  ok : ∀ z ∈ a, z ∈ sNames
def spMSus : Sp := fun vs H Q _ => ∃ (X : Addr → Prop) (st cl : Addr) (n m : Nat), vs = [.ref st, .int (m : Int)] ∧ Sg X st cl n H ∧ n + 200 ≤ 1000000000 ∧ 1 ≤ m ∧ m ≤ 7 ∧ ∀ w ns as H', Sus (wsD ns) ns → Ask (.list (as.map wsD)) as → as.length ≤ 5 → Sg X st cl (n + 100) H' → KpS st cl H H' → DX X H' w (.tuple [wsD ns, .list (as.map wsD)]) → Q w H'
-- HINT _law_m_suspects lctt#2 tTest (tOp (rEqD K) (tCall spDraw [] E0 (tCons (tVar 0) (tCons (tC (.int 2)) tNil))) (tC (.int 0)))
-- HINT _law_m_suspects slice (sl_listK (K := K) rfl)
abbrev s__law_m_suspects : Stmt := topS 47
abbrev n__law_m_suspects : List Str := ["_law_stream", "_law_most", "_law_names", "_law_askings", "_law_way", "_law_k", "_law_at", "_law_name"]
theorem sc__law_m_suspects : FnScope n__law_m_suspects ["_law_stream", "_law_most"] (defScope s__law_m_suspects) := ⟨rfl, rfl, rfl, by decide +kernel, rfl, by decide +kernel, by decide +kernel⟩
theorem ok_m_suspects {f : Addr} {fd : FuncData} (F : Fun K "_law_m_suspects" "_law_m_suspects" s__law_m_suspects f fd) (T : Bl mg) (O__law_draw : Own P w K mg base CX0 1 "_law_draw" ["_law_stream", "_law_many"] spDraw) (O__law_mixed : Own P w K mg base CX0 2 "_law_mixed" ["_law_stream", "_law_some"] spMixed) :
    FnOk P w K mg base CX0 3 f fd ["_law_stream", "_law_most"] spMSus := by
  refine F.ok sc__law_m_suspects (fun vs H Q E h => ?_) (fun cdv A outer s H vs Q E hr h => ?_)
  · obtain ⟨X, st, cl, n, m, rfl, _⟩ := h
    rfl
  · obtain ⟨X, st, cl, n, m, rfl, S, hn, m1, m7, k⟩ := h
    refine ⟨_, (pss_cons (ps_set (i := 2) sc__law_m_suspects.nd rfl (by first | exact Or.inl rfl | exact Or.inr rfl) (pe_slice (sl_listK (K := K) rfl) (pe_own O__law_mixed hr (by decide) (by rfl) (pa_cons (pv 0) (pa_cons (pe_lst (pa_cons pe_str (pa_cons pe_str (pa_cons pe_str (pa_cons pe_str (pa_cons pe_str (pa_cons pe_str (pa_cons pe_str pa_nil)))))))) pa_nil))) po_none (po_some (pe_op op_addA pe_int (pe_own O__law_draw hr (by decide) (by rfl) (pa_cons (pv 0) (pa_cons (pv 1) pa_nil)))))))
    (pss_cons (ps_par (i := 3) (j := 4) (by rfl) sc__law_m_suspects.nd rfl rfl (by decide) rfl rfl (pa_cons (pe_lst pa_nil) (pa_cons (pe_own O__law_draw hr (by decide) (by rfl) (pa_cons (pv 0) (pa_cons pe_int pa_nil))) pa_nil)) (by rfl))
    (pss_cons (ps_if (pt_cmpR (op_eqD hr.units) (pv 4) pe_int (nomark _))
    (pss_one (ps_setLc (i := 3) (own := [("_law_at", 6)]) (g := (gName 6)) (tt := tYes) rfl sc__law_m_suspects.nd rfl rfl (sw_true rfl rfl rfl (by decide +kernel)) (pi_range2 (by rfl) T.b_range (pa_cons pe_int (pa_cons (pe_callB call_len (by rfl) T.b_len boot_len (pa_cons (pv 2) pa_nil)) pa_nil))) (blkOk_by (N := n__law_m_suspects) (sc := defScope s__law_m_suspects) (by decide +kernel)) (fun _ _ _ _ _ => (pg_name (i := 6) sc__law_m_suspects.nd rfl (by first | exact Or.inl rfl | exact Or.inr rfl))) (fun _ _ _ _ _ => pts_nil) (fun _ _ _ _ _ => (pe_slice (sl_listK (K := K) rfl) (pv 2) po_none (po_some (pv 6)))))) pss_nil)
    (pss_cons (ps_for PassesOwn.never rfl (pi_range1 (by rfl) T.b_range (pa_cons (pe_op op_addA pe_int (pe_own O__law_draw hr (by decide) (by rfl) (pa_cons (pv 0) (pa_cons pe_int pa_nil)))) pa_nil)) (pg_name (i := 5) sc__law_m_suspects.nd rfl (by first | exact Or.inl rfl | exact Or.inr rfl))
    (pss_one (ps_expr (pe_bm PySem.F.plainAttrs_list PySem.F.slot_list_append PySem.F.type_list_append mt_append (pv 3) (pa_cons (pe_lc (own := [("_law_name", 7)]) (g := (gName 7)) (tt := tTest (tOp (rEqD K) (tCall spDraw [] E0 (tCons (tVar 0) (tCons (tC (.int 2)) tNil))) (tC (.int 0)))) rfl sc__law_m_suspects.nd (pi_list (pe_own O__law_mixed hr (by decide) (by rfl) (pa_cons (pv 0) (pa_cons (pv 2) pa_nil)))) (blkOk_by (N := n__law_m_suspects) (sc := defScope s__law_m_suspects) (by decide +kernel)) (fun _ _ _ _ _ => (pg_name (i := 7) sc__law_m_suspects.nd rfl (by first | exact Or.inl rfl | exact Or.inr rfl))) (fun _ _ _ _ _ => (pts_one (pt_cmpR (op_eqD hr.units) (pe_own O__law_draw hr (by decide) (by rfl) (pa_cons (pv 0) (pa_cons pe_int pa_nil))) pe_int (nomark _)))) (fun _ _ _ _ _ => (pv 7))) pa_nil)))))
    (pss_cons (ps_if (pt_cmpR (op_eqD hr.units) (pv 4) pe_int (nomark _))
    (pss_one (ps_asg (pe_op op_addA (pe_ix ix_seq (pv 3) (pe_un un_neg pe_int) (fun _ _ => rfl)) (pe_lst (pa_cons pe_str pa_nil))) (pg_sub (pv 3) (pe_un un_neg pe_int) set_list))) pss_nil)
    (pss_one (ps_ret (pe_tup (pa_cons (pv 2) (pa_cons (pe_slice (sl_listK (K := K) rfl) (pe_own O__law_mixed hr (by decide) (by rfl) (pa_cons (pv 0) (pa_cons (pv 3) pa_nil))) po_none (po_some pe_int)) pa_nil)))))))))), ?_⟩
    have En : EnvOk X H (L2.start n__law_m_suspects [.ref st, .int (m : Int)]) [.val (.ref st), .dat (.int (m : Int)), .un, .un, .un, .un, .un, .un] := env_s1 (N := n__law_m_suspects) (s := .dat (.int (m : Int))) ⟨_, rfl, .int _⟩ (by decide)
    -- names
    refine k_set (k_sl (c_mixed (ds := bNames.map PyData.str) S (gv_var (i := 0) En rfl) (g_lst S.t (ga_strs bNames) (by decide)) (by show n + 7 ≤ _; omega) (by decide) fun w1 es H1 hp S1 k1 d1 _ => ?_))
    obtain ⟨ms, rfl, hms⟩ := strs_perm hp
    have lms : ms.length = 7 := hms.length_eq
    have E1 := En.kps S k1
    refine k_op (c_draw (m := (m : Int)) S1 (gv_var (i := 0) E1 rfl) (g_var (i := 1) E1 rfl) (by show n + 7 ≤ _; omega) (by omega) (by omega) fun j H2 j0 j1 S2 k2 => ?_)
    have E2 := E1.kps S1 k2
    refine .inl ⟨1, j, rfl, rfl, ?_⟩
    obtain ⟨a, us, rfl, na, ea, ra⟩ := (d1.mono (S1.kp k2)).lst_inv
    refine ⟨1 + j, rfl, a, us, rfl, SqL.of ea, fun p hp2 => ?_⟩
    have sp : Same H2 (upd H2 p (.lst (cutV us none (some (1 + j))))) := Same.upd hp2
    have dn := DX.newL S2.t (ra.cut none (some (1 + j))) hp2
    rw [cutP_to _ (by omega), ← List.map_take] at dn
    obtain ⟨ns, hns⟩ : ∃ ns, ns = ms.take (1 + j).toNat := ⟨_, rfl⟩
    rw [← hns] at dn
    have lns : 0 < ns.length ∧ ns.length ≤ 7 := by rw [hns, List.length_take]; omega
    have nnd : ns.Nodup := by rw [hns]; exact ((List.Perm.nodup_iff hms).mpr base_nd).sublist (List.take_sublist _ _)
    have nbase : ∀ z ∈ ns, z ∈ bNames := fun z hz => hms.mem_iff.mp (List.mem_of_mem_take (by rw [hns] at hz; exact hz))
    have SU : Sus (wsD ns) ns := ⟨rfl, rfl, nnd, fun z hz => (base_ok z (nbase z hz)).1, lns.1⟩
    have S3 := S2.same sp
    have E3 := (E2.same sp).set (i := 2) (d := wsD ns) dn
    have k3 := (k1.trans k2).trans (KpS.of sp)
    clear hns E1 E2 S1 S2 k1 k2 sp dn d1 ea ra
    -- askings, way
    refine k_par ?_
    refine ⟨by show 0 ≤ sizeLine; omega, fun L hL => ?_⟩
    have s4 : Same _ (upd _ L (.lst [])) := Same.upd hL
    have nX : ¬ X L := S3.t.new hL
    have nL1 := S3.ne1 hL
    have nL2 := S3.ne2 hL
    have S4 : Sg (fun b => X b ∨ b = L) st cl (n + 7 + 1) _ := ⟨S3.ok.same s4, .inl S3.x1, .inl S3.x2, S3.t.one hL⟩
    have E4 := (E3.more (More.one hL)).same s4
    refine c_draw (m := 4) S4 (gv_var (i := 0) E4 rfl) g_int (by omega) (by decide) (by decide) fun way H5 y0 y1 S5 k5 => ⟨_, _, rfl, ?_⟩
    have hL5 : H5 L = some (.lst []) := k5 _ _ nL1 nL2 upd_same
    have k35 : KpS st cl H H5 := (k3.trans (KpS.of s4)).trans k5
    let Γ (l : Addr) : List Sv := [.val (.ref st), .dat (.int (m : Int)), .dat (wsD ns), .val (.ref l), .dat (.int way), .un, .un, .un]
    let J (a b : Nat) : L2.St → Hp → Prop := fun σ H' => ∃ (l : Addr) (xs : List V) (as : List (List Str)), H l = none ∧ ¬ X l ∧ l ≠ st ∧ l ≠ cl ∧ Sg (fun b => X b ∨ b = l) st cl (n + a) H' ∧ KpS st cl H H' ∧ H' l = some (.lst xs) ∧ DXs (fun b => X b ∨ b = l) H' xs (as.map wsD) ∧ b ≤ as.length ∧ as.length ≤ b + 6 ∧ (∀ a ∈ as, Row ns a) ∧ EnvOk (fun b => X b ∨ b = l) H' σ (Γ l)
    have E5 : EnvOk (fun b => X b ∨ b = L) H5 _ (Γ L) := ((E4.kps S4 k5).setV (i := 3) (v := .ref L)).set (i := 4) (v := .int way) (d := .int way) (.int _)
    have Hl : H L = none := kps_none k3 nL1 nL2 hL
    -- way 0
    refine q_ifJ (b := PyData.eqv (.int way) (.int 0)) (gt_eqD S5.t (g_var (i := 4) E5 rfl) g_int rfl rfl (shaped_int _) (shaped_int _)) (J 9 0) (fun σ6 H6 pJ => ?_) (fun _ hJ H6 s6 => ?_) fun _ H6 s6 => ⟨L, [], [], Hl, nX, nL1, nL2, (S5.same s6).le (by omega), k35.trans (KpS.of s6), s6 _ _ hL5, .nil, by simp, by simp, (fun a h => by cases h), E5.same s6⟩
    rotate_left
    · have S6 := S5.same s6
      have E6 := E5.same s6
      -- without L
      have S6' : Sg X st cl (n + 7 + 1 + 1) H6 := ⟨S6.ok, S3.x1, S3.x2, fun a h => S6.t a (.inl h)⟩
      have E6' : EnvOk X H6 _ [.val (.ref st), .dat (.int (m : Int)), .dat (wsD ns), .un, .dat (.int way), .un, .un, .un] := envUn' (E6.less fun _ => .inl) 3
      refine k_set1 (k_lcR2 (k_cons (k_c (k_cons (g_len S6'.t (g_var (i := 2) (d := wsD ns) E6' rfl) rfl H6 (Same.refl _) _ fun v H7 s7 r7 => k_nil ?_)))))
      have r7' := r7.int_inv
      subst r7'
      refine ⟨1, _, rfl, by have : lenD (wsD ns) = ns.length := by (show (ns.map PyData.str).length = _; rw [List.length_map])
                            omega, ?_⟩
      have lw : lenD (wsD ns) = ns.length := by show (ns.map PyData.str).length = _; rw [List.length_map]
      rw [lw]
      refine lc_new (lo := 1) (i := 6) (fun kk => wsD (ns.take (kk + 1))) (S6'.same s7) (E6'.same s7) (by omega) (fun X' H1 σ2 kk hk E S => ?_) fun w8 H8 S8 s8 d8 nw8 => ?_
      · refine g_is (g_sl (K := K) (lo := none) (hi := some (1 + (kk : Int))) S.t (g_var (i := 2) (d := wsD ns) E rfl) go_none (go_some (g_var (i := 6) E rfl))) ?_
        rw [cutP_to _ (by omega), show (1 + (kk : Int)).toNat = kk + 1 by omega, ← List.map_take]
        rfl
      · obtain ⟨l, xs, rfl, nl, el, xl⟩ := d8.inner
        have l7 : H7 l = none := nw8 l rfl
        have l6 : H6 l = none := s7.free l7
        refine hJ _ _ ⟨l, xs, (List.range (((ns.length : Nat) : Int) - 1).toNat).map fun kk => ns.take (kk + 1), kps_none (k35.trans (KpS.of s6)) (S6'.ne1 l6) (S6'.ne2 l6) l6, nl, S6'.ne1 l6, S6'.ne2 l6, ?_, ((k35.trans (KpS.of s6)).trans (KpS.of s7)).trans (KpS.of s8), el, by rw [List.map_map]; exact xl, by simp, by rw [List.length_map, List.length_range]; omega, fun a ha => ?_, ?_⟩
        · exact ⟨S8.ok.le (by omega), .inl S8.x1, .inl S8.x2, fun a h => h.elim (fun h => S8.t a h) fun h => ⟨_, h ▸ el⟩⟩
        · obtain ⟨kk, _, rfl⟩ := List.mem_map.mp ha
          exact ⟨nnd.sublist (List.take_sublist _ _), fun z hz => List.mem_of_mem_take hz⟩
        · exact ((E6'.more (More.one l6)).same (s7.trans s8)).setV (i := 3) (v := .ref l)
    -- the loop
    obtain ⟨l, xs, as, l0, nl, l1, l2, S7, k7, h7, x7, a0, a1, ra, E7⟩ := pJ
    clear E5 E4 E3 S3 S4 S5 k3 k5 k35 hL5 s4 hL nX nL1 nL2 Hl
    refine k_forR (k_cons (k_op (g_int (X := X) (i := 1) H6 (Same.refl _) _ fun v4 H8 s8 r8 => ?_)))
    have r8' := r8.int_inv
    subst r8'
    refine c_draw (m := 4) (S7.same s8) (gv_var (i := 0) (E7.same s8) rfl) g_int (by omega) (by decide) (by decide) fun cnt H9 c0 c1 S9 k9 => ?_
    refine .inl ⟨1, cnt, rfl, rfl, k_nil ⟨1 + cnt, rfl, by omega, by omega, ?_⟩⟩
    have k89 := (KpS.of s8).trans k9
    refine for_it walk_range (fun i σ' H' => ∃ (xs : List V) (as : List (List Str)), Sg (fun b => X b ∨ b = l) st cl (n + 10 + 14 * i) H' ∧ KpS st cl H H' ∧ H' l = some (.lst xs) ∧ DXs (fun b => X b ∨ b = l) H' xs (as.map wsD) ∧ i ≤ as.length ∧ as.length ≤ i + 6 ∧ (∀ a ∈ as, Row ns a) ∧ EnvOk (fun b => X b ∨ b = l) H' σ' (Γ l)) ⟨xs, as, S9, k7.trans k89, k89 _ _ l1 l2 h7, x7.mono (S7.kp k89), a0, by omega, ra, E7.kps S7 k89⟩ (fun _ _ _ _ _ => trivial) (fun i x σ' HA HB hi p y => ?_) (fun σ' HA p => ?_)
    · obtain ⟨rfl, rfl⟩ := y
      obtain ⟨xs, as, SA, kA, hA, xA, b0, b1, rA, EA⟩ := p
      have hi4 : i < 4 := by omega
      refine k_name ?_
      have EB := EA.setV (i := 5) (v := .int (0 + (i : Int)))
      -- append
      refine ⟨.ref l, EB.get 3 _ rfl, .inl ⟨rfl, _, SqL.of hA⟩, ?_⟩
      refine k_cons (k_lcL (c_mixed (ds := ns.map PyData.str) SA (gv_var (i := 0) EB rfl) (g_var (i := 2) (d := wsD ns) EB rfl) (by rw [List.length_map]; omega) (by rw [List.length_map]; omega) fun w1 es HC hp SC kC dC _ => ?_))
      obtain ⟨qs, rfl, hqs⟩ := strs_perm hp
      rw [List.length_map] at SC
      have lq : qs.length = ns.length := hqs.length_eq
      have EC := EB.kps SA kC
      obtain ⟨ac, uc, rfl, nc, ec, rc⟩ := dC.lst_inv
      refine ⟨ac, rfl, ⟨_, SqL.of ec⟩, ?_⟩
      refine lc_drawsF (c := 1) SC EC dC (by rw [List.length_map]; omega) (by show 7 < 8; decide) (fun X' H1 σ2 kk d Q1 hd E S q1 => ?_) fun w2 es HD hs SD kD dD _ => ?_
      · refine k_test (k_op (c_draw (m := 2) S (gv_var (i := 0) E rfl) g_int (by have := (List.getElem?_eq_some_iff.mp hd).1; rw [List.length_map] at this; omega) (by decide) (by decide) fun jj H2 z0 z1 S2 k2 => ?_))
        refine g_int (X := X') (i := 0) H2 (Same.refl _) _ fun v3 H3 s3 r3 => ?_
        have r3' := r3.int_inv
        subst r3'
        exact rb_eqD (X := X') (x := .int jj) (y := .int 0) rfl rfl (shaped_int _) (shaped_int _) H3 _ _ (S2.t.mono s3) (.int _) (.int _) _ ⟨_, rfl, q1 _ H3 (S2.same s3) (k2.trans (KpS.of s3))⟩
      · obtain ⟨rs, rfl, hrs⟩ := strs_sub hs
        have kCD := kC.trans kD
        have hD := kCD _ _ l1 l2 hA
        have xD := xA.mono (SA.kp kCD)
        have lx : xs.length = as.length := by rw [xA.length, List.length_map]
        refine k_nil ⟨l, xs, w2, rfl, rfl, hD, by rw [sizeLine_eq]; omega, ?_⟩
        have kp : Kp (fun b => X b ∨ b = l) HD (upd HD l (.lst (xs ++ [w2]))) := Kp.put (.inr rfl)
        refine ⟨xs ++ [w2], as ++ [rs], ?_, fun a o n1 n2 e => ?_, upd_same, ?_, by rw [List.length_append]; simp; omega, by rw [List.length_append]; simp; omega, fun a ha => ?_, ?_⟩
        · rw [List.length_map] at SD
          exact (SD.put l1 l2).le (by omega)
        · have h1 := (kA.trans kCD) a o n1 n2 e
          by_cases c : a = l
          · rw [c, l0] at e
            cases e
          · rw [upd_ne c]
            exact h1
        · rw [List.map_append]
          exact (xD.append (.cons dD .nil)).mono kp
        · rcases List.mem_append.mp ha with h | h
          · exact rA a h
          · rw [List.mem_singleton.mp h]
            exact ⟨((List.Perm.nodup_iff hqs).mpr nnd).sublist hrs, fun z hz => hqs.mem_iff.mp (hrs.subset hz)⟩
        · exact envUn' ((EB.kps SA kCD).mono kp) 5
    · obtain ⟨xs, as, SA, kA, hA, xA, b0, b1, rA, EA⟩ := p
      have lx : xs.length = as.length := by rw [xA.length, List.length_map]
      have hpos : 0 < as.length := by omega
      have hi5 : (1 + cnt).toNat ≤ 4 := by omega
      refine q_ifJ (b := PyData.eqv (.int way) (.int 1)) (gt_eqD SA.t (g_var (i := 4) EA rfl) g_int rfl rfl (shaped_int _) (shaped_int _)) (fun σ' H' => ∃ (xs : List V) (as : List (List Str)), Sg (fun b => X b ∨ b = l) st cl (n + 70) H' ∧ KpS st cl H H' ∧ H' l = some (.lst xs) ∧ DXs (fun b => X b ∨ b = l) H' xs (as.map wsD) ∧ 0 < as.length ∧ as.length ≤ 10 ∧ (∀ a ∈ as, Row' a) ∧ EnvOk (fun b => X b ∨ b = l) H' σ' (Γ l)) (fun σB HB pJ => ?_) (fun _ hJ HB sB => ?_) fun _ HB sB => ⟨xs, as, (SA.same sB).le (by omega), kA.trans (KpS.of sB), sB _ _ hA, xA.mono (Kp.of sB), hpos, by omega, fun a ha => ⟨(rA a ha).nd, fun z hz => SU.ok z ((rA a ha).ok z hz)⟩, EA.same sB⟩
      · obtain ⟨ys, bs, SB, kB, hB, xB, c0, c1, rB, EB⟩ := pJ
        have EG := EnvOk.give (i := 3) EB rfl nl hB xB
        have SG : Sg X st cl (n + 70) HB := ⟨SB.ok, (Or.elim SB.x1 id fun e => absurd e.symm l1), (Or.elim SB.x2 id fun e => absurd e.symm l2), fun a h => SB.t a (.inl h)⟩
        refine k_ret (k_tup (k_cons (g_var (i := 2) (d := wsD ns) EG rfl HB (Same.refl _) _ fun v1 HC sC rC => ?_)))
        have SC := SG.same sC
        have EC := EG.same sC
        refine k_cons (k_sl (c_mixed (ds := bs.map wsD) SC (gv_var (i := 0) EC rfl) (g_var (i := 3) EC rfl) (by rw [List.length_map]; omega) (by rw [List.length_map]; omega) fun w2 es HD hp SD kD dD _ => ?_))
        refine ⟨5, rfl, ?_⟩
        obtain ⟨ac, uc, rfl, nc, ec, rc⟩ := dD.lst_inv
        refine ⟨ac, uc, rfl, SqL.of ec, fun q1 hq => k_nil ⟨by show 2 ≤ sizeLine; decide, fun q2 hq2 => ?_⟩⟩
        have sq : Same HD (upd HD q1 (.lst (cutV uc none (some 5)))) := Same.upd hq
        have sq2 := Same.upd (o := .tup [v1, .ref q1]) hq2
        have dq := DX.newL SD.t (rc.cut none (some 5)) hq
        rw [cutP_to _ (by omega)] at dq
        have ees : ∃ cs : List (List Str), es = cs.map wsD ∧ cs.Perm bs := by
          refine ⟨es.map nsOf, ?_, ?_⟩
          · rw [List.map_map]
            conv => lhs; rw [← List.map_id es]
            refine List.map_congr_left fun d hd => ?_
            obtain ⟨s, _, rfl⟩ := List.mem_map.mp (hp.mem_iff.mp hd)
            show wsD s = wsD (nsOf (wsD s))
            rw [nsOf_ws]
          · have := hp.map nsOf
            rw [List.map_map] at this
            refine this.trans ?_
            rw [show nsOf ∘ wsD = id from funext nsOf_ws, List.map_id]
        obtain ⟨cs, rfl, hcs⟩ := ees
        have lcs := hcs.length_eq
        have rt : DX X (upd (upd HD q1 (.lst (cutV uc none (some 5)))) q2 (.tup [v1, .ref q1])) (.ref q2) (.tuple [wsD ns, .list ((cs.take 5).map wsD)]) := by
          refine DX.newT (SD.t.mono sq) (.cons ((rC.mono (SC.kp kD)).mono (Kp.of sq)) (.cons ?_ .nil)) hq2
          rw [List.map_take]
          exact dq
        refine k (.ref q2) ns (cs.take 5) _ SU ⟨rfl, rfl, by rw [List.length_take]; omega, by rw [List.length_take]; omega, fun a ha => (rB a (hcs.mem_iff.mp (List.mem_of_mem_take ha))).nd, fun a ha => (rB a (hcs.mem_iff.mp (List.mem_of_mem_take ha))).ok⟩ (by rw [List.length_take]; omega) (((SD.same sq).same sq2).le (by rw [List.length_map]; omega)) ((((kB.trans (KpS.of sC)).trans kD).trans (KpS.of sq)).trans (KpS.of sq2)) rt
      · have hB := sB _ _ hA
        have xB := xA.mono (Kp.of sB)
        have SB := SA.same sB
        have EB := EA.same sB
        have hlast : (as.map wsD)[as.length - 1]? = some (wsD as[as.length - 1]) := by rw [List.getElem?_map, List.getElem?_eq_getElem (by omega)]; rfl
        obtain ⟨u, hu, ru⟩ := xB.get hlast
        refine k_asg1 (k_op (k_op ?_))
        refine ⟨_, EB.get 3 _ rfl, g_neg1 (X := X) HB (Same.refl _) _ fun v3 HC sC r3 => ?_⟩
        have r3' := r3.int_inv
        subst r3'
        refine .inl ⟨l, xs, -1, u, rfl, rfl, SqL.of (sC _ _ hB), by rw [atI_m1 (by omega), lx]; exact hu, ?_⟩
        have SC := SB.same sC
        have EC := EB.same sC
        refine g_lst (X := fun b => X b ∨ b = l) (ds := [.str "stranger"]) SC.t (ga_cons g_str ga_nil) (by simp) HC (Same.refl _) _ fun v4 HD sD r4 => ?_
        have lal : as[as.length - 1].length ≤ 8 := nodup_le (rA _ (List.getElem_mem _)).nd fun z hz => SU.ok z ((rA _ (List.getElem_mem _)).ok z hz)
        refine (RD.or2 (RD.or1 (rd_cat (xs := as[as.length - 1].map PyData.str) (ys := [.str "stranger"]) (by rw [List.length_map]; simp; omega))) : RD (fun b => X b ∨ b = l) rAddA _ _ _) HD u v4 (SC.t.mono sD) (ru.mono (Kp.of (sC.trans sD))) r4 _ fun w5 HE sE r5 => ?_
        have sBE := (sC.trans sD).trans sE
        have hE := sBE _ _ hB
        refine ⟨_, (EB.same sBE).get 3 _ rfl, g_neg1 (X := X) HE (Same.refl _) _ fun v6 HF sF r6 => ?_⟩
        have r6' := r6.int_inv
        subst r6'
        have sBF := sBE.trans sF
        refine ⟨l, xs, -1, as.length - 1, rfl, rfl, sBF _ _ hB, by rw [← lx]; exact ixN_m1 (by omega), ?_⟩
        have kp : Kp (fun b => X b ∨ b = l) HF (upd HF l (.lst (xs.set (as.length - 1) w5))) := Kp.put (.inr rfl)
        refine hJ _ _ ⟨xs.set (as.length - 1) w5, as.set (as.length - 1) (as[as.length - 1] ++ [("stranger" : Str)]), (((SB.same sBF).put l1 l2).le (by omega)), fun a o n1 n2 e => ?_, upd_same, ?_, by rw [List.length_set]; omega, by rw [List.length_set]; omega, fun a ha => ?_, ((EB.same sBF).mono kp)⟩
        · have h1 := (kA.trans (KpS.of (sB.trans sBF))) a o n1 n2 e
          by_cases c : a = l
          · rw [c, l0] at e
            cases e
          · rw [upd_ne c]
            exact h1
        · rw [List.map_set]
          refine (DXs.set _ (xB.mono (Kp.of sBF)) ?_).mono kp
          have e7 : wsD (as[as.length - 1] ++ [("stranger" : Str)]) = .list (as[as.length - 1].map PyData.str ++ [.str "stranger"]) := by
            show PyData.list ((as[as.length - 1] ++ [("stranger" : Str)]).map PyData.str) = _
            rw [List.map_append]
            rfl
          rw [e7]
          exact r5.mono (Kp.of sF)
        · rcases List.mem_or_eq_of_mem_set ha with h | h
          · exact ⟨(rA a h).nd, fun z hz => SU.ok z ((rA a h).ok z hz)⟩
          · subst h
            have R := rA _ (List.getElem_mem (show as.length - 1 < as.length by omega))
            refine ⟨List.nodup_append.mpr ⟨R.nd, List.pairwise_singleton _ _, fun a ha b hb e => ?_⟩, fun z hz => ?_⟩
            · rw [List.mem_singleton.mp hb] at e
              exact (base_ok a (nbase a (R.ok a ha))).2 e
            · rcases List.mem_append.mp hz with h | h
              · exact SU.ok z (R.ok z h)
              · rw [List.mem_singleton.mp h]
                decide +kernel
end K82

/-! The end of a law whose def is known for the caller of claims alone (its guards are empty). -/
namespace KD
open PySem PySem.Spec PyProof.Rows L2 LamX
/-- a def's promise, called from A -/
def FnAt (P : Program) (w : World) (K : PySem.W.Frag) (mg : Str → Option Value) (base : Heap) (CX : CXT) (A : Around) (f : Addr) (fd : FuncData) (x : Str) (sp : Sp) : Prop :=
  ∀ (s : Shared) (H : Hp) (u : Value) (v : V) (Q : VK) (E : XK), Env0 P w K mg base A [] s H → BindsTo s fd ⟨[u], []⟩ [(x, u)] → RelV v u → sp [v] H Q E → codeAny (model P w) A (.call (.ref f) ⟨[u], []⟩) (CR CX [] P w H s Q E) s
/-- where the law begins: the script as it is passed, tables without code -/
def beginH (K : PySem.W.Frag) (T : List Addr) (a : Addr) (o : Obj) (ns : List Int) : Hp := fun b => if b ∈ T then some (.tbl #[]) else if b = a ∧ K.lookup a = none then some (.frz o (.lst (ns.map V.int))) else none
section
variable {K : PySem.W.Frag} {T : List Addr} {a b : Addr} {o : Obj} {ns : List Int}
theorem beginH_tab (h : b ∈ T) : beginH K T a o ns b = some (.tbl #[]) := if_pos h
theorem beginH_arg (h : a ∉ T) (k : K.lookup a = none) : beginH K T a o ns a = some (.frz o (.lst (ns.map V.int))) := (if_neg h).trans (if_pos ⟨rfl, k⟩)
theorem beginH_none (h : b ∉ T) (k : b = a → K.lookup a ≠ none) : beginH K T a o ns b = none := (if_neg h).trans (if_neg fun z => k z.1 z.2)
theorem beginH_some {u : HO} (h : beginH K T a o ns b = some u) : (b ∈ T ∧ u = .tbl #[]) ∨ (b ∉ T ∧ b = a ∧ K.lookup a = none ∧ u = .frz o (.lst (ns.map V.int))) := by
  unfold beginH at h
  by_cases h1 : b ∈ T
  · rw [if_pos h1] at h
    exact .inl ⟨h1, (Option.some.inj h).symm⟩
  · rw [if_neg h1] at h
    by_cases h2 : b = a ∧ K.lookup a = none
    · rw [if_pos h2] at h
      exact .inr ⟨h1, h2.1, h2.2, (Option.some.inj h).symm⟩
    · rw [if_neg h2] at h
      cases h
end
theorem law_callG {P : Program} {w : World} {K : PySem.W.Frag} {mg mb : Str → Option Value} {CX : CXT} {fa a : Addr} {cs : List (Addr × Addr)} {fd : FuncData} {x : Str} {sp : Sp} {s : Shared} {vs : List Value} {ns : List Int}
    (kin : K.In s.heap) (glob : s.heap.Ns mainGlobals mg) (blt : s.heap.Ns builtinsNs mb) (boot : ∀ y : Str, y ≠ "__name__" → mb y = bootBuiltins y) (nolim : s.heap.NoLimit) (gens : s.gens = #[])
    (tabs : ∀ p ∈ cs, s.heap.get? p.2 = some { cls := .none, data := .fields #[] }) (tabK : ∀ p ∈ cs, K.lookup p.2 = none) (codes : ∀ p ∈ cs, PySem.W.CodeHd s.heap p.1 p.2)
    (bmod : ∃ bm ob, mg "__builtins__" = some (.ref bm) ∧ bm ≠ builtinsNs ∧ s.heap.get? bm = some ob ∧ ob.cls = .type "module" ∧ ob.dict = some builtinsNs ∧ ob.data = .plain)
    (arg : s.heap.get? a = some { cls := .type "list", data := .seq vs.toArray }) (intsA : IntsAre vs ns) (few : ns.length ≤ sizeLine)
    (F : ∀ base : Heap, K.In base → base.Ns mainGlobals mg → (∀ p ∈ cs, TabB base mg p.1 p.2) → FnAt P w K mg base CX callerA fa fd x sp) (bind : ∀ (s : Shared) (u : Value), BindsTo s fd ⟨[u], []⟩ [(x, u)])
    (begin_ : ∀ H : Hp, (∀ p ∈ cs, H p.2 = some (.tbl #[])) → SqL K H a (ns.map V.int) → sp [.ref a] H (fun v _ => v = .bl true) fun _ _ _ => False) (noerr : ∀ H e s', CX [] H s (fun _ _ _ => False) e s' → False) :
    codeAny (model P w) callerA (.call (.ref fa) ⟨[.ref a], []⟩) (fun r s' => r = .ok (.ret (.bool true)) ∧ OldK s.heap s'.heap ∧ s'.os = s.os ∧ AllBare s'.gens) s := by
  have vals := vals_ints intsA
  have many := intsA.length
  let T : List Addr := cs.map (·.2)
  let ao : Obj := { cls := .type "list", data := .seq vs.toArray }
  let H : Hp := beginH K T a ao ns
  have inT : ∀ {b : Addr}, b ∈ T → ∃ p ∈ cs, p.2 = b := fun hb => List.mem_map.mp hb
  have emp : ∀ {b : Addr}, b ∈ T → s.heap.get? b = some { cls := .none, data := .fields #[] } := fun hb => by
    obtain ⟨p, hp, rfl⟩ := inT hb
    exact tabs p hp
  have toT : ∀ {p : Addr × Addr}, p ∈ cs → p.2 ∈ T := fun hp => List.mem_map.mpr ⟨_, hp, rfl⟩
  have aT : a ∉ T := fun hb => by
    have e := (emp hb).symm.trans arg
    cases e
  have HT : ∀ p ∈ cs, H p.2 = some (.tbl #[]) := fun p hp => beginH_tab (toT hp)
  have script : SqL K H a (ns.map V.int) := by
    cases k : K.lookup a with
    | none => exact .inl (.inr ⟨ao, beginH_arg aT k⟩)
    | some o =>
      have same := (kin a o k).symm.trans arg
      cases same
      exact .inr ⟨_, vs.toArray, _, k, rfl, rfl, rfl, by rw [List.size_toArray, many]; exact few, by simpa using vals⟩
  have ok : HOk P w H s.heap := fun b u e => by
    rcases beginH_some e with ⟨hb, rfl⟩ | ⟨_, rfl, _, rfl⟩
    · exact emp hb
    · exact ⟨arg, by rw [List.length_map]; exact few, vs, _, vals, arg⟩
  -- what is neither a list nor an empty table is not of H
  have other : ∀ {b : Addr} {o : Obj}, s.heap.get? b = some o → (∀ q n, o.data ≠ .seq q n) → o.data ≠ .fields #[] → H b = none := fun {b o} e h1 h2 => by
    cases q : H b with
    | none => rfl
    | some u =>
      rcases beginH_some q with ⟨hb, _⟩ | ⟨_, rfl, _, _⟩
      · rw [emp hb] at e
        cases e
        exact absurd rfl h2
      · rw [arg] at e
        cases e
        exact absurd rfl (h1 _ _)
  have hid : ∀ {b : Addr} {o : Obj}, s.heap.get? b = some o → (∀ q n, o.data ≠ .seq q n) → o.data ≠ .fields #[] → (hidT s.heap H).get? b = some o := fun e h1 h2 => hidT_get e (other e h1 h2)
  have names : ∀ {b : Addr} {m : Str → Option Value}, s.heap.Ns b m → (hidT s.heap H).Ns b m := fun {b m} z => by
    obtain ⟨o, es, ep, e, hd, r⟩ := z
    refine ⟨o, es, ep, hid e (fun _ _ q => ?_) (fun q => ?_), hd, r⟩ <;> (rw [hd] at q; cases q)
  have kin2 : K.In (hidT s.heap H) := fun b o e => hidT_get (kin b o e) (by
    cases q : H b with
    | none => rfl
    | some u =>
      rcases beginH_some q with ⟨hb, _⟩ | ⟨_, rfl, k, _⟩
      · obtain ⟨p, hp, rfl⟩ := inT hb
        rw [tabK p hp] at e
        cases e
      · rw [k] at e
        cases e)
  have glob2 := names glob
  have notGlob : ∀ {b : Addr} {o : Obj}, s.heap.get? b = some o → (∀ es ep, o.data ≠ .dict es ep) → b ≠ mainGlobals := fun {b o} e h q => by
    obtain ⟨o2, es, ep, e2, hd, _⟩ := glob
    rw [q, e2] at e
    cases e
    exact h _ _ hd
  have tabB : ∀ p ∈ cs, TabB (hidT s.heap H) mg p.1 p.2 := fun p hp => by
    refine ⟨?_, ?_, fun q => notGlob (tabs p hp) (fun _ _ z => by cases z) q.symm⟩
    · obtain ⟨o, us, file, tf, flags, tg, inF, text, tt, e1, r1, r2, r3, r4, r5, r6, r7, r8, r9⟩ := codes p hp
      refine ⟨o, us, file, tf, flags, tg, inF, text, tt, hid e1 (fun _ _ q => ?_) (fun q => ?_), r1, r2, r3, r4, r5, r6, r7, r8, r9⟩
      · rw [r2] at q
        cases q
      · rw [r2] at q
        cases q
        simp at r3
    · obtain ⟨bm, ob, b1, b2, b3, b4, b5, b6⟩ := bmod
      have n1 : bm ≠ mainGlobals := notGlob b3 fun _ _ q => by rw [b6] at q; cases q
      have n2 : bm ≠ p.2 := fun q => by
        rw [q, tabs p hp] at b3
        cases b3
        cases b6
      refine ⟨bm, ob, b1, b2, n1, n2, hid b3 (fun _ _ q => ?_) (fun q => ?_), b4, b5, b6⟩ <;> (rw [b6] at q; cases q)
  have md : L2.Mod K mg (hidT s.heap H) := by
    obtain ⟨mc, h1, h2⟩ := nolim
    exact ⟨kin2, glob2, ⟨mb, names blt, boot⟩, ⟨mc, names h1, h2⟩⟩
  have env : Env0 P w K mg (hidT s.heap H) callerA [] s H := ⟨rfl, md, fun _ _ e => of_hidT e, Nat.le_of_eq (hidT_size _ _), trivial, fun _ hb => (nomatch hb), ok, .of_eq gens⟩
  have run := F _ kin2 glob2 tabB s H (.ref a) (.ref a) _ _ env (bind s (.ref a)) rfl (begin_ H HT script)
  refine codeAny_mono run fun r s' hr => ?_
  match r, hr with
  | .error e, hr => exact (noerr H e s' hr).elim
  | .ok .next, hr => exact hr.elim
  | .ok .brk, hr => exact hr.elim
  | .ok .cont, hr => exact hr.elim
  | .ok (.ret u), hr =>
    obtain ⟨v, H2, os, bare, un, ok2, rel, hv⟩ := hr
    have hv : v = V.bl true := hv
    subst hv
    obtain rfl : u = Value.bool true := rel
    have still : ∀ {b : Addr} {o : Obj}, b ∉ T → s.heap.get? b = some o → s'.heap.get? b = some o := fun {b o} nb e => by
      cases q : H b with
      | none => exact un.keep b o e q (by intro z; exact (nomatch (show b ∈ ([] : List Addr) from z))) (by simp)
      | some u =>
        rcases beginH_some q with ⟨hb, _⟩ | ⟨_, rfl, k, rfl⟩
        · exact absurd hb nb
        · have q2 := un.frzs b _ _ q
          have e2 : s'.heap.get? b = some ao := (ok2 b _ q2).1
          rw [arg] at e
          cases e
          exact e2
    have more : ∀ {b : Addr}, b ∈ T → ∃ m : Array Value, s'.heap.get? b = some { cls := .none, data := .fields m } := fun {b} hb => by
      obtain ⟨m, z⟩ := un.tbls b #[] (beginH_tab hb)
      exact ⟨_, ok2 b _ z⟩
    refine ⟨rfl, ⟨fun b o e => ?_, fun b o e => ?_⟩, os, bare⟩
    · by_cases hb : b ∈ T
      · obtain ⟨m, hm⟩ := more hb
        obtain ⟨p, hp, rfl⟩ := inT hb
        rw [tabs p hp] at e
        cases e
        exact .inr (.inl ⟨((codes p hp).tab (tabs p hp)).isCodeTable, rfl, #[], m, rfl, by rw [Array.empty_append]; exact hm⟩)
      · exact .inl (still hb e)
    · by_cases hb : b ∈ T
      · obtain ⟨m, hm⟩ := more hb
        exact ⟨_, hm⟩
      · exact ⟨o, still hb e⟩
/-- what is known of the law at the head's heap -/
def LawG (l : PySem.W.OpenLaw) (w : World) (K : PySem.W.Frag) (CX : CXT) (n : Nat) (x : Str) (mg : Str → Option Value) (fa : Addr) (h : Heap) : Prop :=
  ∃ (fd : FuncData) (cs : List (Addr × Addr)) (sp : Sp), (∀ p ∈ cs, h.get? p.2 = some { cls := .none, data := .fields #[] }) ∧ (∀ p ∈ cs, K.lookup p.2 = none) ∧ (∀ p ∈ cs, PySem.W.CodeHd h p.1 p.2) ∧ (∀ s u, BindsTo s fd ⟨[u], []⟩ [(x, u)]) ∧
    (∀ (H : Hp) (a : Addr) (ns : List Int), ns.length ≤ n → (∀ z ∈ ns, Builtin.Int.intBits z ≤ 1048576) → (∀ p ∈ cs, H p.2 = some (.tbl #[])) → SqL K H a (ns.map V.int) → sp [.ref a] H (fun v _ => v = .bl true) fun _ _ _ => False) ∧
    ∀ base : Heap, K.In base → base.Ns mainGlobals mg → (∀ p ∈ cs, TabB base mg p.1 p.2) → FnAt l.prog w K mg base CX callerA fa fd x sp
theorem walk_ofG {l : PySem.W.OpenLaw} {n : Nat} {q : Program} {loose : List Str} {XP : (Str → Option Value) → Heap → Prop} {YP : World → Heap → Prop} {d : DefRec} {K : Params → PySem.W.Frag} {CX : World → CXT} {x : Str}
    (hn : l.most = some n) (few : n ≤ sizeLine) (nodef : d.params.defaults = []) (kin : ∀ w h, YP w h → (K w.params).In h)
    (F : ∀ w mg fa h, YP w h → (K w.params).In h → h.Ns mainGlobals mg → mg d.name = some (.ref fa) → LawG l w (K w.params) (CX w) n x mg fa h) (noerr : ∀ w H s e s', CX w [] H s (fun _ _ _ => False) e s' → False) :
    PySem.W.WalkO q loose XP YP l.row.toRowW d [] (fun f vs => PySem.call f vs) :=
  Att.attach_callB hn nodef fun w s0 s1 mg mb fa o pm cd doc a vs ns G Y _ _ _ hmg hobj hints hlen hbits hg => by
    obtain ⟨fd, cs, sp, h1, h2, h3, h4, h5, h6⟩ := F w mg fa _ Y (kin w _ Y) G.T.g hmg
    exact law_callG (kin w _ Y) G.T.g G.T.b G.T.builtins G.T.nolimit hg h1 h2 h3 G.T.bmain hobj hints (Nat.le_trans hlen few) h6 h4 (fun H a1 a2 => h5 H a ns hlen hbits a1 a2) fun H e s' => noerr w H s1 e s'
end KD

/-! What a law's frame keeps. -/
namespace K82
open PySem PySem.Spec PyProof.Rows L2 KD LamX
/-- all that is no table and not of X stays -/
def Kq (X : Addr → Prop) (H H' : Hp) : Prop := ∀ a o, ¬ X a → (∀ ps, o ≠ .tbl ps) → H a = some o → H' a = some o
section
variable {X X' : Addr → Prop} {H H' H1 H2 : Hp} {σ : L2.St} {Γ : List Sv} {T : List (Addr × Str)} {st cl L : Addr} {n m : Nat}
theorem Kq.of (h : Kp X H H') : Kq X H H' := fun a o n _ e => h a o n e
theorem Kq.same (h : Same H H') : Kq X H H' := fun a o _ _ e => h a o e
theorem Kq.refl : Kq X H H := fun _ _ _ _ e => e
theorem Kq.trans (h : Kq X H H1) (k : Kq X H1 H2) : Kq X H H2 := fun a o n t e => k a o n t (h a o n t e)
theorem Kq.ext (h : ExtN H H') : Kq X H H' := fun a o _ t e => h a o e t
mutual
theorem DX.kq (k : Kq X H H') : ∀ {v : V} {d : PyData}, DX X H v d → DX X H' v d
  | _, _, .non => .non
  | _, _, .bl b => .bl b
  | _, _, .int i => .int i
  | _, _, .str x => .str x
  | _, _, .lst n h r => .lst n (k _ _ n (fun _ e => by cases e) h) (DXs.kq k r)
  | _, _, .tup n h r => .tup n (k _ _ n (fun _ e => by cases e) h) (DXs.kq k r)
  | _, _, .dic n h r => .dic n (k _ _ n (fun _ e => by cases e) h) (DXk.kq k r)
theorem DXs.kq (k : Kq X H H') : ∀ {vs : List V} {ds : List PyData}, DXs X H vs ds → DXs X H' vs ds
  | _, _, .nil => .nil
  | _, _, .cons h r => .cons (DX.kq k h) (DXs.kq k r)
theorem DXk.kq (k : Kq X H H') : ∀ {vs : List (Key × V)} {ds : List (PyData × PyData)}, DXk X H vs ds → DXk X H' vs ds
  | _, _, .nil => .nil
  | _, _, .cons h r => .cons (DX.kq k h) (DXk.kq k r)
end
theorem _root_.KD.EnvOk.kq (k : Kq X H H') (E : EnvOk X H σ Γ) : EnvOk X H' σ Γ := ⟨E.len, fun i s e => by
  have h := E.get i s e
  cases s with
  | dat d =>
    obtain ⟨v, e1, r⟩ := h
    exact ⟨v, e1, DX.kq k r⟩
  | val v => exact h
  | un => trivial⟩
/-- less is known of the slots -/
theorem _root_.KD.EnvOk.weak {Δ : List Sv} (E : EnvOk X H σ Γ) (hl : Γ.length = Δ.length) (h : ∀ (i : Nat) (s : Sv), Δ[i]? = some s → s = .un ∨ Γ[i]? = some s) : EnvOk X H σ Δ := ⟨E.len.trans hl, fun i s e => by
  rcases h i s e with rfl | q
  · trivial
  · exact E.get i s q⟩
/-- the spring, the tables; X are lists -/
structure Zt (X : Addr → Prop) (st cl : Addr) (n : Nat) (T : List (Addr × Str)) (H : Hp) : Prop where
  sg : Sg X st cl n H
  tabs : Tabs T H
  lst : ∀ a, X a → ∃ xs, H a = some (.lst xs)
theorem tabs_lst (t : Tabs T H) (k : ∀ b o, H b = some o → (∀ xs, o ≠ .lst xs) → H' b = some o) : Tabs T H' := fun p hp => by
  obtain ⟨ps, h1, h2, h3⟩ := t p hp
  refine ⟨ps, k _ _ h1 (fun _ e => by cases e), h2, fun pos cv hc => ?_⟩
  obtain ⟨c, e1, e2⟩ := h3 pos cv hc
  exact ⟨c, e1, k _ _ e2 fun _ e => by unfold CodeO at e; cases e⟩
theorem Zt.same (Z : Zt X st cl n T H) (s : Same H H') : Zt X st cl n T H' := ⟨Z.sg.same s, Z.tabs.ext s, fun a x => let ⟨xs, e⟩ := Z.lst a x; ⟨xs, s _ _ e⟩⟩
theorem Zt.draw (Z : Zt X st cl n T H) (S : Sg X st cl m H') (k : KpS st cl H H') : Zt X st cl m T H' := by
  obtain ⟨xs1, e1⟩ := Z.lst st Z.sg.x1
  obtain ⟨xs2, e2⟩ := Z.lst cl Z.sg.x2
  refine ⟨S, tabs_lst Z.tabs fun b o e hn => k b o (fun q => ?_) (fun q => ?_) e, fun a x => ?_⟩
  · rw [q, e1] at e
    exact hn xs1 (Option.some.inj e).symm
  · rw [q, e2] at e
    exact hn xs2 (Option.some.inj e).symm
  · obtain ⟨ms, a', b, c, S', _⟩ := S.ok
    by_cases q1 : a = st
    · exact ⟨_, q1 ▸ S'.hs⟩
    · by_cases q2 : a = cl
      · exact ⟨_, q2 ▸ S'.hc⟩
      · obtain ⟨xs, e⟩ := Z.lst a x
        exact ⟨xs, k a _ q1 q2 e⟩
theorem Zt.lam (Z : Zt X st cl n T H) (e : ExtN H H') (t : Tabs T H') : Zt X st cl n T H' := by
  have keep : ∀ a, X a → ∃ xs, H a = some (.lst xs) ∧ H' a = some (.lst xs) := fun a x => by
    obtain ⟨xs, q⟩ := Z.lst a x
    exact ⟨xs, q, e a _ q fun _ z => by cases z⟩
  obtain ⟨ms, a, b, c, S, hb⟩ := Z.sg.ok
  exact ⟨⟨⟨ms, a, b, c, ⟨e _ _ S.hs (fun _ z => by cases z), e _ _ S.hc (fun _ z => by cases z), S.ne, S.a0, S.b0, S.c0, S.c1, S.ml⟩, hb⟩, Z.sg.x1, Z.sg.x2, fun a x => let ⟨xs, _, q⟩ := keep a x; ⟨_, q⟩⟩, t, fun a x => let ⟨xs, _, q⟩ := keep a x; ⟨xs, q⟩⟩
theorem Zt.le (Z : Zt X st cl n T H) (h : n ≤ m) : Zt X st cl m T H := ⟨Z.sg.le h, Z.tabs, Z.lst⟩
/-- one more list of one's own -/
theorem Zt.more {xs : List V} (Z : Zt X st cl n T H) (h : H L = some (.lst xs)) : Zt (fun b => X b ∨ b = L) st cl n T H :=
  ⟨⟨Z.sg.ok, .inl Z.sg.x1, .inl Z.sg.x2, fun a e => e.elim (Z.sg.t a) fun q => ⟨_, q ▸ h⟩⟩, Z.tabs, fun a e => e.elim (Z.lst a) fun q => ⟨_, q ▸ h⟩⟩
theorem Zt.less (m : ∀ a, X a → X' a) (x1 : X st) (x2 : X cl) (Z : Zt X' st cl n T H) : Zt X st cl n T H := ⟨⟨Z.sg.ok, x1, x2, fun a e => Z.sg.t a (m a e)⟩, Z.tabs, fun a e => Z.lst a (m a e)⟩
/-- a list of one's own is changed -/
theorem Zt.put {xs : List V} (Z : Zt X st cl n T H) (k : KpL L H H') (h : H' L = some (.lst xs)) (x : X L) (n1 : L ≠ st) (n2 : L ≠ cl) : Zt X st cl n T H' := by
  obtain ⟨ys, eL⟩ := Z.lst L x
  obtain ⟨ms, a, b, c, S, hb⟩ := Z.sg.ok
  refine ⟨⟨⟨ms, a, b, c, ⟨k _ _ (Ne.symm n1) S.hs, k _ _ (Ne.symm n2) S.hc, S.ne, S.a0, S.b0, S.c0, S.c1, S.ml⟩, hb⟩, Z.sg.x1, Z.sg.x2, fun a e => ?_⟩, tabs_lst Z.tabs fun b o e hn => k b o (fun q => ?_) e, fun a e => ?_⟩
  · by_cases q : a = L
    · exact ⟨_, q ▸ h⟩
    · obtain ⟨xs, z⟩ := Z.lst a e
      exact ⟨_, k a _ q z⟩
  · rw [q, eL] at e
    exact hn ys (Option.some.inj e).symm
  · by_cases q : a = L
    · exact ⟨_, q ▸ h⟩
    · obtain ⟨xs, z⟩ := Z.lst a e
      exact ⟨_, k a _ q z⟩
theorem Kq.put (k : KpL L H H') (x : X L) : Kq X H H' := fun a o n _ e => k a o (fun q => n (q ▸ x)) e
end
/-! ### calls -/
section
variable {X : Addr → Prop} {H : Hp} {σ : L2.St} {Γ : List Sv} {T : List (Addr × Str)} {st cl : Addr} {n : Nat} {ta tb : TE} {E : XK} {d d1 d2 r : PyData} {Q : VK} {C C1 C2 C3 : Addr} {f1 f2 f3 t1 t2 t3 fl tag : Str}
theorem g_same {m : Nat} (t : Trk X H) (h1 : G X ta σ H d) (h2 : G X tb σ H d) (hs : sm m d) : G X (tCall (spSame m) [] E (tCons ta (tCons tb tNil))) σ H (.bool true) := fun H1 s Q q =>
  h1 H1 s _ fun v H2 s2 r1 => h2 H2 (s.trans s2) _ fun v2 H3 s3 r2 => ⟨X, v, v2, d, rfl, ((t.mono s).mono s2).mono s3, r1.mono (Kp.of s3), r2, hs, fun H' s4 => q _ H' ((s2.trans s3).trans s4) (.bl true)⟩
theorem gt_neS {a b : Str} (h1 : G X ta σ H (.str a)) (h2 : G X tb σ H (.str b)) : GT (tTest (tOp rNe ta tb)) σ H (!decide (a = b)) := fun H1 s Q q =>
  h1 H1 s _ fun u H2 s2 r => h2 H2 (s.trans s2) _ fun v H3 s3 r2 => by
    rw [r.str_inv, r2.str_inv]
    refine ⟨rfl, _, rfl, ?_⟩
    have e : decide (V.str a = V.str b) = decide (a = b) := by
      by_cases z : a = b
      · rw [z]
        simp
      · rw [decide_eq_false z, decide_eq_false fun q => z (by cases q; rfl)]
    rw [e]
    exact q H3 (s2.trans s3)
end
section
variable {σ : L2.St} {H : Hp} {te ta tb : TE} {D : Ends} {r : R2} {Q : VK} {g : TG} {tz tu tw : TS} {tt tv : TT} {tl : TA} {K : PySem.W.Frag} {to th : TO} {Qb : Bool → Hp → Prop} {rs : V → Option Int → Option Int → Hp → VK → Prop}
theorem k_if (h : tt σ H fun b H1 => if b = true then tu { D with nx := tz D } σ H1 else tz D σ H1) : tSeq (tIfS tt tu tNext) tz D σ H := h
theorem k_or (h : GT tt σ H false) (k : ∀ H1, Same H H1 → tv σ H1 Qb) : tOr tt tv σ H Qb := h H (Same.refl H) _ fun H1 s => k H1 s
end
end K82

/-! try with several clauses, each «except C as n». -/
namespace KD
open PySem PySem.Spec PyProof.Rows L2
structure Cl where
  c : Value
  i : Nat
  ts : Addr → Value → Option Addr → TS
def away (D : Ends) (i : Nat) : Ends := ⟨fun z Z => D.nx (z.set i none) Z, D.rt, fun z Z => D.bk (z.set i none) Z, fun z Z => D.ct (z.set i none) Z⟩
def wCl (K : PySem.W.Frag) (W0 : WX) (D : Ends) : List Cl → WX
  | [] => W0
  | x :: r => fun cl d z Z => ∃ b, PySem.W.exmOne K cl x.c = some b ∧ (b = true → ∀ a, Z a = none → x.ts a cl d (away D x.i) (z.set x.i (some (.ref a))) Z) ∧ (b = false → wCl K W0 D r cl d z Z)
inductive ClOk (X : Cx) : List ExceptHandler → List Cl → Prop
  | nil : ClOk X [] []
  | cons {x n : Str} {cl : Cl} {s0 : Stmt} {ss : List Stmt} {p q : Pos} {hh : List ExceptHandler} {ll : List Cl} (nm : Names X x cl.c) (sl : X.N[cl.i]? = some n) (lo : X.env.kindOf n = some .local)
      (su : ∀ a ob k d pn, Zc k d ob → (∃ vs, ob.data = .fields vs) → PSs (X.suite a ((a, ob) :: pn)) (s0 :: ss) (cl.ts a k d)) (more : ClOk X hh ll) : ClOk X (.ExceptHandler (some (.Name x p)) (some n) (s0 :: ss) q :: hh) (cl :: ll)
theorem ps_tryA {X : Cx} {bd : List Stmt} {h0 : ExceptHandler} {hh : List ExceptHandler} {ll : List Cl} {ps : Pos} {tb : WX → TS} {W0 : WX} (st : X.stack = X.env :: X.outer) (fr : X.env.frame = some X.env.locals) (nd : X.N.Nodup) (tk : Takes X W0)
    (hb : ∀ W pn xe, Takes (X.tr pn xe) W → PassesOwn (model X.prog X.w) X.A X.env xe → PSs (X.tr pn xe) bd (tb W)) (ok : ClOk X (h0 :: hh) ll) :
    PS X (.Try bd (h0 :: hh) [] [] ps) (fun D z Z => tb (wCl X.K W0 D ll) D z Z) := by
  refine ⟨fun pins s z Z D I goal => ?_⟩
  have OK := I.ok
  have fA : X.A.frames = some (X.env :: X.outer) := OK.frames.trans (by rw [st])
  apply wpAny_Try_except
  have caught : Takes (X.tr (X.pn ++ pins) fun e u => wpAny (model X.prog X.w) X.A (noteFrame e X.env)
      (fun _ u => wpAny (model X.prog X.w) X.A (setFlight e none)
        (fun _ u => wpAny (model X.prog X.w) X.A (handleBy e X.env (h0 :: hh)) (SP X pins D) X.xe u) X.xe u) X.xe u) (wCl X.K W0 D ll) := by
    intro e u hx
    obtain ⟨a, B, sI, pins2, z1, Z1, cls, d, rfl, J0, nb, up, sk, na, os, ag, wish⟩ := hx
    have J := J0.ofTry OK
    rw [st] at sk
    refine Sky.land Zc.steady fA fr sk fun h3 f3 u3 => ?_
    have J3 : Inv X pins z1 Z1 { u with heap := h3 } := J.landed nb f3.1 (up.trans u3) os ag
    obtain ⟨ob, vs, eob, zob, dob⟩ := f3.there
    have apart : a ∉ frs (X.env :: X.outer) := by
      intro hm
      obtain ⟨_, ob', e', no⟩ := f3.2.2.1.mem hm
      have same : ob' = ob := Option.some.inj (e'.symm.trans eob)
      subst same
      exact no _ dob
    have inFr : ∀ {E : Env} {l : Addr}, E ∈ X.env :: X.outer → E.frame = some l → l ∈ frs (X.env :: X.outer) := fun hE e => List.mem_filterMap.mpr ⟨_, hE, e⟩
    have nL : a ≠ X.env.locals := fun e => apart (e ▸ inFr List.mem_cons_self fr)
    have nF : a ∉ X.fs := by
      intro hm
      obtain ⟨E, hE, e⟩ := List.mem_filterMap.mp hm
      exact apart (inFr (List.mem_cons_of_mem _ hE) e)
    suffices go : ∀ {hs : List ExceptHandler} {ls : List Cl}, ClOk X hs ls → wCl X.K W0 D ls cls d z1 Z1 → wpAny (model X.prog X.w) X.A (handleBy (.ref a) X.env hs) (SP X pins D) X.xe { u with heap := h3 } from go ok wish
    intro hs ls hk
    induction hk with
    | nil =>
      intro wi
      apply wpAny_handleBy_nil
      have land := f3
      obtain ⟨_, _, _, o5, v5, T, oT, ts5, g1, g2, g3, g4, g5⟩ := land
      unfold PySem.passOn
      refine wpAny_bind (wpAny_field g1 g3 g4 ?_)
      have nn : ¬ ((Value.ref T == Value.none) = true) := by simp
      rw [if_neg nn]
      have thrown : wpAny (model X.prog X.w) X.A (setFlight (.ref a) X.env.frame)
          (fun _ y => wpAny (model X.prog X.w) X.A (throw (.ref a) : Sem Flow) (SP X pins D) X.xe y) X.xe { u with heap := h3 } := by
        rw [fr]
        refine HandSPX.setFlight_upZ f3 fun h4 k4 u4 => wpAny_throw (tk _ _ ?_)
        refine ⟨a, B, sI, pins, z1, Z1, cls, d, rfl, J, nb, (up.trans u3).trans u4, .inr (.inr ?_), na, os, ag, wi⟩
        rw [st]
        exact k4
      first
        | exact wpAny_bind thrown
        | exact wpAny_bind (wpAny_pure (wpAny_bind thrown))
    | @cons x n cl s0 ss p q hs2 ls2 nm sl lo su more ih =>
      rintro ⟨b, hm, yes, no⟩
      refine wpAny_handleBy_cons (codeAny_handlers_test ?_) (fun e => by cases e)
      have lk : PySem.W.Looks (model X.prog X.w) h3 (typeOf (.ref a)) cls := fun A Q E s k q => wpAny_typeOf_ref (k _ _ eob) (zob.1.symm ▸ q)
      have S3 := J3.suite eob dob na nL nF
      have asked : ∀ {Q E : Value → Shared → Prop}, Q cl.c { u with heap := h3 } → wpAny (model X.prog X.w) (X.A.mark (some (.ref a))) (eval (.Name x p) X.env) Q E { u with heap := h3 } := by
        intro Q E hQ
        obtain ⟨g, db, m⟩ := nm
        cases m with
        | inl m => exact ld_glob (X := X.suite a ((a, ob) :: (X.pn ++ pins))) S3 g m hQ db
        | inr m => exact ld_blt (X := X.suite a ((a, ob) :: (X.pn ++ pins))) S3 g m.1 m.2.1 hQ m.2.2 db
      refine asked ((PySem.W.exm_one (M := model X.prog X.w) J3.kIn lk hm).here ?_)
      cases b with
      | false => exact ih (no rfl)
      | true =>
        refine codeAny_handlers_suite_as (HandSPX.lands_againZ f3 fun h4 f4 u4 => ?_)
        have J4 : Inv X pins z1 Z1 { u with heap := h4 } := J.landed nb f4.1 ((up.trans u3).trans u4) os ag
        obtain ⟨o4, v4, e4, z4, d4⟩ := f4.there
        refine store_ok (X := X.suite a ((a, o4) :: (X.pn ++ pins))) (v := .ref a) (J4.suite e4 d4 na nL nF) nd sl (.inl lo) rfl (fun s5 S5 => ?_) (.inr lo)
        refine wpAny_mono ((su a o4 cls d (X.pn ++ pins) z4 ⟨v4, d4⟩).run [] s5 _ Z1 _ S5 (yes rfl a na)) (fun fl s6 h6 => ?_) (fun _ _ e => e.elim)
        have gone : ∀ {z6 : L2.St} {Z6 : Hp} {Q : Shared → Prop}, Inv (X.suite a ((a, o4) :: (X.pn ++ pins))) [] z6 Z6 s6 → (∀ s7, Inv X pins (z6.set cl.i none) Z6 s7 → Q s7) → wpAny (model X.prog X.w) X.A (do bindName X.env n .none; unbindBehindTheSuite X.env n q) (fun _ s7 => Q s7) X.xe s6 :=
          fun S6 hq => gone_ok (S6.unsuite OK) nd sl lo hq
        cases fl with
        | next =>
          obtain ⟨_, _, S6, q6⟩ := h6
          exact gone S6 fun _ J7 => ⟨_, _, J7, q6⟩
        | brk =>
          obtain ⟨_, _, S6, q6⟩ := h6
          exact gone S6 fun _ J7 => ⟨_, _, J7, q6⟩
        | cont =>
          obtain ⟨_, _, S6, q6⟩ := h6
          exact gone S6 fun _ J7 => ⟨_, _, J7, q6⟩
        | ret y =>
          obtain ⟨_, _, _, S6, r6, q6⟩ := h6
          exact gone S6 fun _ J7 => ⟨_, _, _, J7, r6, q6⟩
  have whole := (hb _ _ _ caught PassesOwn.looking).run [] s z Z D (I.toTry _) goal
  refine wpAny_mono whole (fun fl u hf => ?_) (fun _ _ y => y)
  cases fl with
  | next =>
    obtain ⟨z1, Z1, J, q⟩ := hf
    exact wpAny_execs_nil ⟨_, _, J.ofTry OK, q⟩
  | brk =>
    obtain ⟨z1, Z1, J, q⟩ := hf
    exact ⟨_, _, J.ofTry OK, q⟩
  | cont =>
    obtain ⟨z1, Z1, J, q⟩ := hf
    exact ⟨_, _, J.ofTry OK, q⟩
  | ret y =>
    obtain ⟨x, z1, Z1, J, r, q⟩ := hf
    exact ⟨_, _, _, J.ofTry OK, r, q⟩
end KD

/-! How a call is refused. -/
namespace K82
open PySem PySem.Spec PyProof.Rows L2 KD LamX
abbrev s__law_met : Stmt := topS 52
abbrev n__law_met : List Str := ["_law_ask", "e"]
theorem sc__law_met : FnScope n__law_met ["_law_ask"] (defScope s__law_met) := ⟨rfl, rfl, rfl, by decide +kernel, rfl, by decide +kernel, by decide +kernel⟩
abbrev Cla := Addr × Str × Str
def Met (cs : List Cla) (Q : VK) : XK := fun cls d H => ∃ (dd C : Addr) (fl tag : Str) (v : V), (C, fl, tag) ∈ cs ∧ cls = .ref C ∧ d = some dd ∧ H dd = some (.xd [(fl, v)]) ∧ ∀ p, H p = none → Q (.ref p) (upd H p (.tup [.str tag, v]))
def TMet (cs : List Cla) : (XK → Hp → VK → Prop) → Hp → VK → Prop := fun tl H Q =>
  tl (Met cs Q) H fun _ H' => 2 ≤ sizeLine ∧ ∀ p, H' p = none → Q (.ref p) (upd H' p (.tup [.str "told", .non]))
theorem takes_len {X : Cx} {W : WX} (tk : Takes X W) : Takes X fun cls d σ H => σ.length = X.N.length → W cls d σ H := fun e s' hx => by
  obtain ⟨a, B, sI, pins2, z1, Z1, cls, d, e1, J0, nb, up, sk, na, os, ag, wish⟩ := hx
  exact tk e s' ⟨a, B, sI, pins2, z1, Z1, cls, d, e1, J0, nb, up, sk, na, os, ag, wish J0.len⟩
structure Five (K : PySem.W.Frag) (C1 C2 C3 C4 C5 : Addr) : Prop where
  e11 : PySem.W.exmOne K (.ref C1) (.ref C1) = some true
  e21 : PySem.W.exmOne K (.ref C2) (.ref C1) = some false
  e22 : PySem.W.exmOne K (.ref C2) (.ref C2) = some true
  e31 : PySem.W.exmOne K (.ref C3) (.ref C1) = some false
  e32 : PySem.W.exmOne K (.ref C3) (.ref C2) = some false
  e33 : PySem.W.exmOne K (.ref C3) (.ref C3) = some true
  e41 : PySem.W.exmOne K (.ref C4) (.ref C1) = some false
  e42 : PySem.W.exmOne K (.ref C4) (.ref C2) = some false
  e43 : PySem.W.exmOne K (.ref C4) (.ref C3) = some false
  e44 : PySem.W.exmOne K (.ref C4) (.ref C4) = some true
  e51 : PySem.W.exmOne K (.ref C5) (.ref C1) = some false
  e52 : PySem.W.exmOne K (.ref C5) (.ref C2) = some false
  e53 : PySem.W.exmOne K (.ref C5) (.ref C3) = some false
  e54 : PySem.W.exmOne K (.ref C5) (.ref C4) = some false
  e55 : PySem.W.exmOne K (.ref C5) (.ref C5) = some true
def csOf (C1 C2 C3 C4 C5 : Addr) : List Cla := [(C1, "index", "suspects"), (C2, "index", "askings"), (C3, "thing", "lies"), (C4, "index", "answers"), (C5, "thing", "many")]
theorem met_gives {X : Cx} {C1 C2 C3 C4 C5 g : Addr} {cdg : Value} {q : Str} (E1 : Ec X.prog X.w X.K X.mg X.base "BadSuspects" "index" C1) (E2 : Ec X.prog X.w X.K X.mg X.base "BadAskings" "index" C2) (E3 : Ec X.prog X.w X.K X.mg X.base "BadLies" "thing" C3) (E4 : Ec X.prog X.w X.K X.mg X.base "BadAnswers" "index" C4) (E5 : Ec X.prog X.w X.K X.mg X.base "BadMany" "thing" C5) (T5 : Five X.K C1 C2 C3 C4 C5) :
    GivesTo X n__law_met "_law_met" (defScope s__law_met) g cdg (defBody s__law_met) "_law_ask" q (TMet (csOf C1 C2 C3 C4 C5)) := by
  intro f c' s H Q tl act hc h
  let Y : Cx := (cxOf C8.CX0 X.prog X.w X.K X.mg X.base n__law_met "_law_met" (defScope s__law_met) g cdg X.A X.stack s H C8.E0).nox
  let cl1 : Cl := ⟨.ref C1, 1, fun a cls d => tRet (tTup (tCons (tC (.str "suspects")) (tCons (tXf a cls d C1 "index" (tVar 1)) tNil)))⟩
  let cl2 : Cl := ⟨.ref C2, 1, fun a cls d => tRet (tTup (tCons (tC (.str "askings")) (tCons (tXf a cls d C2 "index" (tVar 1)) tNil)))⟩
  let cl3 : Cl := ⟨.ref C3, 1, fun a cls d => tRet (tTup (tCons (tC (.str "lies")) (tCons (tXf a cls d C3 "thing" (tVar 1)) tNil)))⟩
  let cl4 : Cl := ⟨.ref C4, 1, fun a cls d => tRet (tTup (tCons (tC (.str "answers")) (tCons (tXf a cls d C4 "index" (tVar 1)) tNil)))⟩
  let cl5 : Cl := ⟨.ref C5, 1, fun a cls d => tRet (tTup (tCons (tC (.str "many")) (tCons (tXf a cls d C5 "thing" (tVar 1)) tNil)))⟩
  refine ⟨_, pss_cons (ps_tryA (X := Y) (W0 := fun _ _ _ _ => False) (ll := [cl1, cl2, cl3, cl4, cl5]) (tb := fun W D σ H => ∃ Ech : XK, (∀ cls d σ' H', Ech cls d H' → σ'.length = 2 → W cls d σ' H') ∧ σ[0]? = some (some (.ref f)) ∧ H c' = some (CodeO c' q) ∧ tl Ech H fun _ H' => D.nx σ H')
    rfl rfl sc__law_met.nd LamX.takes0 (fun W pn xe tk _ => ?_) ?_) (pss_one (ps_ret (pe_tup (pa_cons pe_str (pa_cons pe_non pa_nil))))), ?_⟩
  · refine ⟨fun pins s' σ H' D I h' => ?_⟩
    obtain ⟨Ech, hW, h1, h2, h3⟩ := h'
    have hp := fun p1 p2 => act _ pn xe Ech p1 p2 (takes_len tk) (fun cls d σ' H'' he hl => hW cls d σ' H'' he hl)
    exact (pss_one (ps_expr (hp _ _))).run pins s' σ H' D I ⟨h1, h2, h3⟩
  · exact (.cons (cl := cl1) ⟨rfl, by decide, .inl E1.gC⟩ rfl rfl (fun a ob k d pn hz hf => pss_one (ps_ret (pe_tup (pa_cons pe_str (pa_cons (pe_xf (X := Y) E1.xf E1.noF hz hf (pv 1)) pa_nil))))) (.cons (cl := cl2) ⟨rfl, by decide, .inl E2.gC⟩ rfl rfl (fun a ob k d pn hz hf => pss_one (ps_ret (pe_tup (pa_cons pe_str (pa_cons (pe_xf (X := Y) E2.xf E2.noF hz hf (pv 1)) pa_nil))))) (.cons (cl := cl3) ⟨rfl, by decide, .inl E3.gC⟩ rfl rfl (fun a ob k d pn hz hf => pss_one (ps_ret (pe_tup (pa_cons pe_str (pa_cons (pe_xf (X := Y) E3.xf E3.noF hz hf (pv 1)) pa_nil))))) (.cons (cl := cl4) ⟨rfl, by decide, .inl E4.gC⟩ rfl rfl (fun a ob k d pn hz hf => pss_one (ps_ret (pe_tup (pa_cons pe_str (pa_cons (pe_xf (X := Y) E4.xf E4.noF hz hf (pv 1)) pa_nil))))) (.cons (cl := cl5) ⟨rfl, by decide, .inl E5.gC⟩ rfl rfl (fun a ob k d pn hz hf => pss_one (ps_ret (pe_tup (pa_cons pe_str (pa_cons (pe_xf (X := Y) E5.xf E5.noF hz hf (pv 1)) pa_nil))))) .nil)))))
  · have rd : ∀ (a C : Addr) (fl tag : Str) (v : V) (dd : Addr) (z : L2.St) (Z : Hp) (D : Ends), z.length = 2 → Z dd = some (.xd [(fl, v)]) → (∀ p, Z p = none → D.rt (.ref p) (upd Z p (.tup [.str tag, v]))) →
        tRet (tTup (tCons (tC (.str tag)) (tCons (tXf a (.ref C) (some dd) C fl (tVar 1)) tNil))) D (z.set 1 (some (.ref a))) Z := fun a C fl tag v dd z Z D hl hd hq =>
      ⟨.ref a, by rw [List.getElem?_set_self (by omega)], rfl, rfl, dd, _, v, rfl, hd, by simp [List.lookup], (show 2 ≤ sizeLine by decide), hq⟩
    refine ⟨Met (csOf C1 C2 C3 C4 C5) Q, ?_, rfl, hc, ?_⟩
    · rintro cls d z Z ⟨dd, C, fl, tag, v, hm, rfl, rfl, hd, hq⟩ hl
      simp only [csOf, List.mem_cons, List.not_mem_nil, or_false, Prod.mk.injEq] at hm
      rcases hm with ⟨rfl, rfl, rfl⟩ | ⟨rfl, rfl, rfl⟩ | ⟨rfl, rfl, rfl⟩ | ⟨rfl, rfl, rfl⟩ | ⟨rfl, rfl, rfl⟩
      · exact ⟨true, T5.e11, fun _ a _ => rd a _ _ _ v dd z Z _ hl hd hq, fun e => by cases e⟩
      · exact ⟨false, T5.e21, fun e => (by cases e), fun _ => ⟨true, T5.e22, fun _ a _ => rd a _ _ _ v dd z Z _ hl hd hq, fun e => by cases e⟩⟩
      · exact ⟨false, T5.e31, fun e => (by cases e), fun _ => ⟨false, T5.e32, fun e => (by cases e), fun _ => ⟨true, T5.e33, fun _ a _ => rd a _ _ _ v dd z Z _ hl hd hq, fun e => by cases e⟩⟩⟩
      · exact ⟨false, T5.e41, fun e => (by cases e), fun _ => ⟨false, T5.e42, fun e => (by cases e), fun _ => ⟨false, T5.e43, fun e => (by cases e), fun _ => ⟨true, T5.e44, fun _ a _ => rd a _ _ _ v dd z Z _ hl hd hq, fun e => by cases e⟩⟩⟩⟩
      · exact ⟨false, T5.e51, fun e => (by cases e), fun _ => ⟨false, T5.e52, fun e => (by cases e), fun _ => ⟨false, T5.e53, fun e => (by cases e), fun _ => ⟨false, T5.e54, fun e => (by cases e), fun _ => ⟨true, T5.e55, fun _ a _ => rd a _ _ _ v dd z Z _ hl hd hq, fun e => by cases e⟩⟩⟩⟩⟩
    · exact h
end K82

/-! Calls that are refused, told. -/
namespace K82
open PySem PySem.Spec PyProof.Rows L2 KD LamX
/-- what a call of _law_met with a lambda leans on -/
structure TrB (X : Cx) (T : List (Addr × Str)) (TT : (XK → Hp → VK → Prop) → Hp → VK → Prop) : Prop where
  ex : ∃ (g c Pt : Addr) (dV kV doc pm cdv ct oc : Value) (an od : Option Addr) (osl : Array (Option Value)), X.mg "_law_met" = some (.ref g) ∧ PySem.W.keepIn X.K (.ref g) = true ∧
    X.K.lookup g = some ⟨oc, od, .func (PySem.W.fnOf "_law_met" "_law_met" (defArgs s__law_met) (defBody s__law_met) (defScope s__law_met) dV kV doc pm an cdv ct), osl⟩ ∧ PySem.W.codeIn X.K cdv "_law_met" = true ∧
    L2.Binds X.K (PySem.W.fnOf "_law_met" "_law_met" (defArgs s__law_met) (defBody s__law_met) (defScope s__law_met) dV kV doc pm an cdv ct) ["_law_ask"] [] ∧ GivesTo X n__law_met "_law_met" (defScope s__law_met) g cdv (defBody s__law_met) "_law_ask" (X.env.qual ++ "<lambda>") TT ∧
    TabB X.base X.mg c Pt ∧ X.env.code = .ref c ∧ (Pt, X.env.qual ++ "<lambda>") ∈ T ∧ ∀ p ∈ T, p.1 = Pt → p.2 = X.env.qual ++ "<lambda>"
  room : Room 8 X.A
theorem pe_met {X : Cx} {T : List (Addr × Str)} {TT : (XK → Hp → VK → Prop) → Hp → VK → Prop} {params : Arguments} {body : Expr} {scope : Scope} {t : XK → TE} {p lpos pos : Pos} (B : TrB X T TT) (L : LamS X.env.scope scope) (hdef : defaultsOf params X.env = ([], []))
    (hbind : ∀ (q : Str) (cl : List (Str × Addr)) (pm cv ctv : Value), bindArgs (PySem.W.kla_fn "<lambda>" q params body scope cl pm cv ctv) ⟨[], []⟩ = pure [])
    (hbody : ∀ (A : Around) (outer : List Env) (s : Shared) (H : Hp) (E : XK) (f c' : Addr), Room 6 (A.deeper (lamEnv X scope s.heap.objs.size f c')) → PE (lamCx X A outer s H E scope f c') body (t E)) (hg : Gl X "_law_met" := by rfl) :
    PE X (.Call (.Name "_law_met" p) [.Lambda params body scope lpos] [] pos) (tLam T TT t) := by
  obtain ⟨g, c, Pt, dV, kV, doc, pm, cdv, ct, oc, an, od, osl, h1, h2, h3, h4, h5, h6, h7, h8, h9, h10⟩ := B.ex
  exact pe_lamcall hg h1 h2 h3 h4 h5 sc__law_met rfl (.inl rfl) h6 h7 h8 h9 h10 B.room L hdef hbind hbody
section
variable {X : Addr → Prop} {H : Hp} {σ : L2.St} {Γ : List Sv} {T : List (Addr × Str)} {st cl F : Addr} {n : Nat} {E : XK} {r : PyData} {Q : VK} {C : Addr} {K : PySem.W.Frag} {tz : TS} {D : Ends} {fl tag : Str} {cs : List Cla} {te : XK → TE}
/-- what is refused so, at each heap behind -/
def Ref (X : Addr → Prop) (te : XK → TE) (σ : L2.St) (Γ : List Sv) (C : Addr) (fl : Str) (r : PyData) : Prop := ∀ (H1 : Hp) (E : XK) (Q : VK), Trk X H1 → EnvOk X H1 σ Γ → (∀ a w H', Same H1 H' → H' a = some (.xd [(fl, w)]) → DX X H' w r → E (.ref C) (some a) H') → te E σ H1 Q
theorem c_met (Z : Zt X st cl n T H) (En : EnvOk X H σ Γ) (h : Ref X te σ Γ C fl r) (hc : (C, fl, tag) ∈ cs) (k : ∀ w H', Zt X st cl n T H' → ExtN H H' → DX X H' w (.tuple [.str tag, r]) → Q w H') : tLam T (TMet cs) te σ H Q := ⟨Z.tabs, fun H1 ex T1 => by
  have Z1 := Z.lam ex T1
  have E1 := En.kq (Kq.ext (X := X) ex)
  refine h H1 _ _ Z1.sg.t E1 fun a w H' s ea dw => ?_
  refine ⟨a, C, fl, tag, w, hc, rfl, rfl, ea, fun p hp => ?_⟩
  have s2 : Same H1 (upd H' p (.tup [.str tag, w])) := s.trans (Same.upd hp)
  exact k _ _ (Z1.same s2) (ExtN.trans ex fun b o e _ => s2 b o e) (DX.newT (Z1.sg.t.mono s) (.cons (.str _) (.cons dw .nil)) hp)⟩
/-- a new list with one that is told -/
theorem q_own {i : Nat} (Z : Zt X st cl n T H) (En : EnvOk X H σ Γ) (h : Ref X te σ Γ C fl r) (hc : (C, fl, tag) ∈ cs)
    (k : ∀ F H2 xs, (∀ o, (∀ ps, o ≠ .tbl ps) → H F ≠ some o) → F ≠ st → F ≠ cl → ¬ X F → Zt (fun b => X b ∨ b = F) st cl n T H2 → EnvOk (fun b => X b ∨ b = F) H2 (σ.set i (some (.ref F))) (Γ.set i (.val (.ref F))) → H2 F = some (.lst xs) → DXs (fun b => X b ∨ b = F) H2 xs [.tuple [.str tag, r]] → ExtN H H2 → tz D (σ.set i (some (.ref F))) H2) :
    tSeq (tAsg (tLst (tCons (tLam T (TMet cs) te) tNil)) (gName i)) tz D σ H := by
  refine k_set (k_lst (k_cons (c_met Z En h hc fun w H1 Z1 x1 d1 => k_nil ⟨by show 1 ≤ sizeLine; decide, fun F hF => ?_⟩)))
  have s2 : Same H1 (upd H1 F (.lst [w])) := Same.upd hF
  have E2 := (((En.kq (Kq.ext (X := X) x1)).more (More.one hF)).same s2).setV (i := i) (v := .ref F)
  refine k F _ [w] (fun o hn e => by have := x1 F o e hn; rw [hF] at this; cases this) (Z1.sg.ne1 hF) (Z1.sg.ne2 hF) (Z1.sg.t.new hF) ((Z1.same s2).more upd_same) E2 upd_same (.cons ((d1.more (More.one hF)).mono (Kp.of s2)) .nil) (ExtN.trans x1 fun b o e _ => s2 b o e)
theorem q_met {i : Nat} {xs : List V} {ds : List PyData} (Z : Zt (fun b => X b ∨ b = F) st cl n T H) (En : EnvOk (fun b => X b ∨ b = F) H σ Γ) (hi : Γ[i]? = some (.val (.ref F))) (hF : H F = some (.lst xs)) (hx : DXs (fun b => X b ∨ b = F) H xs ds) (n1 : F ≠ st) (n2 : F ≠ cl) (hl : ds.length < 1000)
    (h : Ref (fun b => X b ∨ b = F) te σ Γ C fl r) (hc : (C, fl, tag) ∈ cs)
    (k : ∀ H2 ys, Zt (fun b => X b ∨ b = F) st cl n T H2 → EnvOk (fun b => X b ∨ b = F) H2 σ Γ → H2 F = some (.lst ys) → DXs (fun b => X b ∨ b = F) H2 ys (ds ++ [.tuple [.str tag, r]]) → Kq (fun b => b = F) H H2 → tz D σ H2) :
    tSeq (tDrop (tBM K "list" rAppend (tVar i) (tCons (tLam T (TMet cs) te) tNil))) tz D σ H := by
  refine ⟨.ref F, En.get i _ hi, .inl ⟨rfl, _, SqL.of hF⟩, ?_⟩
  refine k_cons (c_met Z En h hc fun w H' Z' x' d' => ?_)
  have hF' := x' F _ hF (fun _ e => by cases e)
  have l1 : xs.length = ds.length := hx.length
  refine ⟨F, xs, w, rfl, rfl, hF', by rw [sizeLine_eq]; omega, ?_⟩
  have kF : Kp (fun b => X b ∨ b = F) H' (upd H' F (.lst (xs ++ [w]))) := Kp.put (.inr rfl)
  exact k _ _ (Z'.put (L := F) KpL.put upd_same (.inr rfl) n1 n2) ((En.kq (Kq.ext x')).mono kF) upd_same ((DXs.kq (Kq.ext x') hx).mono kF |>.append (.cons (d'.mono kF) .nil)) ((Kq.ext x').trans (Kq.of (Kp.put rfl)))
end
end K82

/-! All defs of searches, refused alike. -/
namespace K82
open PySem PySem.Spec PyProof.Rows L2 KD LamX
-- RAISES check_askings state_behind possible_ones never_parted is_search fewest_askings search ask_next check_many answers_against are_against
variable {P : Program} {w : World} {K : PySem.W.Frag} {mg : Str → Option Value} {base : Heap}
/-- the defs that are asked -/
structure Fns (P : Program) (w : World) (K : PySem.W.Frag) (mg : Str → Option Value) (base : Heap) (C1 C2 C3 C4 C5 : Addr) : Prop where
  fewest_askings : OwnD P w K mg base 4 "fewest_askings" ["suspects", "askings", "lies"] (spXn 3 (anyPre 0 (fun ds => chk4 C1 C2 C3 ds 2)) (fun ds => chk4 C1 C2 C3 ds 2))
  search : OwnD P w K mg base 4 "search" ["suspects", "askings", "lies"] (spXn 3 (anyPre 0 (fun ds => chk4 C1 C2 C3 ds 2)) (fun ds => chk4 C1 C2 C3 ds 2))
  is_search : OwnD P w K mg base 4 "is_search" ["suspects", "askings", "thing", "lies"] (spXn 4 (anyPre 0 (fun ds => chk4 C1 C2 C3 ds 3)) (fun ds => chk4 C1 C2 C3 ds 3))
  possible_ones : OwnD P w K mg base 5 "possible_ones" ["suspects", "askings", "answers", "lies"] (spXn 4 (pmPre C1 C2 C3) (pmOut C1 C2 C3 C4))
  ask_next : OwnD P w K mg base 5 "ask_next" ["suspects", "askings", "answers", "lies"] (spXn 4 (pmPre C1 C2 C3) (pmOut C1 C2 C3 C4))
  answers_against : OwnD P w K mg base 5 "answers_against" ["suspects", "askings", "many", "lies"] (spXn 4 (anyPre 0 (fun ds => manyOut C1 C2 C3 C5 ds 3)) (fun ds => manyOut C1 C2 C3 C5 ds 3))
  are_against : OwnD P w K mg base 5 "are_against" ["suspects", "askings", "many", "thing", "lies"] (spXn 5 (anyPre 0 (fun ds => manyOut C1 C2 C3 C5 ds 4)) (fun ds => manyOut C1 C2 C3 C5 ds 4))
  never_parted : Own P w K mg base (L2.CX P w) 4 "never_parted" ["suspects", "askings"] (spXn 2 (anyPre 0 (fun ds => chkA C1 C2 C3 (at_ ds 0) (at_ ds 1) (.int 0))) (fun ds => chkA C1 C2 C3 (at_ ds 0) (at_ ds 1) (.int 0)))
theorem many_err {C1 C2 C3 C5 C : Addr} {fl : Str} {r : PyData} {ds : List PyData} {l : Nat} (h : chk4 C1 C2 C3 ds l = .err C fl r) : manyOut C1 C2 C3 C5 ds l = .err C fl r := by
  unfold manyOut
  rw [h]
theorem pm_err {C1 C2 C3 C4 C : Addr} {fl : Str} {r : PyData} {ds : List PyData} (h : chk4 C1 C2 C3 ds 3 = .err C fl r) : pmOut C1 C2 C3 C4 ds = .err C fl r := by
  unfold pmOut
  rw [h]
theorem pm_pre {C1 C2 C3 C : Addr} {fl : Str} {r : PyData} {ds : List PyData} (hp : chkPre ds) (h : chk4 C1 C2 C3 ds 3 = .err C fl r) : pmPre C1 C2 C3 ds := ⟨hp, fun r' e => by rw [h] at e; cases e⟩
theorem okC {x qual : Str} {st : Stmt} {N ps : List Str} {k : Nat} {sp : Sp} {f c : Addr} {oc kV doc pm ct : Value} {an od : Option Addr} {osl : Array (Option Value)} (l : K.lookup f = some ⟨oc, od, .func (PySem.W.fnOf x qual (defArgs st) (defBody st) (defScope st) .none kV doc pm an (.ref c) ct), osl⟩) (hcd : PySem.W.codeIn K (.ref c) qual = true)
    (S : FnScope N ps (defScope st)) (len : ∀ vs H Q E, sp vs H Q E → vs.length = ps.length)
    (hbody : ∀ (A : Around) (outer : List Env) (s : Shared) (H : Hp) (vs : List V) (Q : VK) (E : XK), Room k (A.deeper (envOfC qual (defScope st) s.heap.objs.size f (.ref c))) → sp vs H Q E →
      ∃ t, PSs (cxOf CX0 P w K mg base N qual (defScope st) f (.ref c) A outer s H E).nox (defBody st) t ∧ t { nx := fun _ H' => Q .non H', rt := Q } (start N vs) H) : FnOk P w K mg base CX0 (k + 1) f (PySem.W.fnOf x qual (defArgs st) (defBody st) (defScope st) .none kV doc pm an (.ref c) ct) ps sp :=
  fn_of l hcd S len fun A outer s H vs Q E hr hsp => by
    obtain ⟨t, h, q⟩ := hbody A outer s H vs Q E hr hsp
    exact ⟨t, h.nox, q⟩
def spAll (T : List (Addr × Str)) (cs : List Cla) (C1 C2 C3 : Addr) : Sp := fun vs H Q _ => ∃ (X : Addr → Prop) (st cl : Addr) (n : Nat) (d1 d2 d3 d4 : PyData) (C : Addr) (fl tag : Str) (r : PyData), Zt X st cl n T H ∧ DXs X H vs [d1, d2, d3, d4] ∧ chkPre [d1, d2] ∧ chkA C1 C2 C3 d1 d2 d3 = .err C fl r ∧ (C, fl, tag) ∈ cs ∧
  ∀ w H', Zt X st cl n T H' → ExtN H H' → DX X H' w (.list (List.replicate 7 (.tuple [.str tag, r]))) → Q w H'
abbrev s__law_all : Stmt := topS 53
abbrev n__law_all : List Str := ["_law_names", "_law_askings", "_law_lies", "_law_rest", "_law_found"]
theorem sc__law_all : FnScope n__law_all ["_law_names", "_law_askings", "_law_lies", "_law_rest"] (defScope s__law_all) := ⟨rfl, rfl, rfl, by decide +kernel, rfl, by decide +kernel, by decide +kernel⟩
theorem ok_all {f c C1 C2 C3 C4 C5 : Addr} {oc kV doc pm ct : Value} {an od : Option Addr} {osl : Array (Option Value)} {T : List (Addr × Str)} {cs : List Cla} (l : K.lookup f = some ⟨oc, od, .func (PySem.W.fnOf "_law_all" "_law_all" (defArgs s__law_all) (defBody s__law_all) (defScope s__law_all) .none kV doc pm an (.ref c) ct), osl⟩) (hcd : PySem.W.codeIn K (.ref c) "_law_all" = true) (Tb : Bl mg) (Fn : Fns P w K mg base C1 C2 C3 C4 C5)
    (B0 : ∀ (A : Around) (outer : List Env) (s : Shared) (H : Hp) (E : XK), Room 8 (A.deeper (envOfC "_law_all" (defScope s__law_all) s.heap.objs.size f (.ref c))) → TrB (cxOf CX0 P w K mg base n__law_all "_law_all" (defScope s__law_all) f (.ref c) A outer s H E).nox T (TMet cs)) :
    FnOk P w K mg base CX0 9 f (PySem.W.fnOf "_law_all" "_law_all" (defArgs s__law_all) (defBody s__law_all) (defScope s__law_all) .none kV doc pm an (.ref c) ct) ["_law_names", "_law_askings", "_law_lies", "_law_rest"] (spAll T cs C1 C2 C3) := by
  refine okC l hcd sc__law_all (fun vs H Q E h => ?_) (fun A outer s H vs Q E hr h => ?_)
  · obtain ⟨X, st, cl, n, d1, d2, d3, d4, C, fl, tag, r, _, h, _⟩ := h
    exact h.length
  · obtain ⟨X, st, cl, n, d1, d2, d3, d4, C, fl, tag, r, Z, dx, hp, he, hc, q⟩ := h
    have B := B0 A outer s H E hr
    obtain ⟨O_fewest_askings, O_search, O_is_search, O_possible_ones, O_ask_next, O_answers_against, O_are_against, O_never_parted⟩ := Fn
    refine ⟨_, (pss_cons (ps_set (i := 4) sc__law_all.nd rfl (by first | exact Or.inl rfl | exact Or.inr rfl) (pe_lst (pa_cons (pe_met B (lamS_by (sc := defScope s__law_all) (by decide +kernel)) rfl (fun _ _ _ _ _ => rfl) (fun _ _ _ _ _ _ _ hr => (pe_ownAX O_fewest_askings hr (by decide) (takes_of rfl rfl rfl rfl) (by rfl) (pa_cons (pv 0) (pa_cons (pv 1) (pa_cons (pv 2) pa_nil)))))) pa_nil)))
    (pss_cons (ps_expr (pe_bm PySem.F.plainAttrs_list PySem.F.slot_list_append PySem.F.type_list_append mt_append (pv 4) (pa_cons (pe_met B (lamS_by (sc := defScope s__law_all) (by decide +kernel)) rfl (fun _ _ _ _ _ => rfl) (fun _ _ _ _ _ _ _ hr => (pe_ownAX O_search hr (by decide) (takes_of rfl rfl rfl rfl) (by rfl) (pa_cons (pv 0) (pa_cons (pv 1) (pa_cons (pv 2) pa_nil)))))) pa_nil)))
    (pss_cons (ps_expr (pe_bm PySem.F.plainAttrs_list PySem.F.slot_list_append PySem.F.type_list_append mt_append (pv 4) (pa_cons (pe_met B (lamS_by (sc := defScope s__law_all) (by decide +kernel)) rfl (fun _ _ _ _ _ => rfl) (fun _ _ _ _ _ _ _ hr => (pe_ownAX O_is_search hr (by decide) (takes_of rfl rfl rfl rfl) (by rfl) (pa_cons (pv 0) (pa_cons (pv 1) (pa_cons (pv 3) (pa_cons (pv 2) pa_nil))))))) pa_nil)))
    (pss_cons (ps_expr (pe_bm PySem.F.plainAttrs_list PySem.F.slot_list_append PySem.F.type_list_append mt_append (pv 4) (pa_cons (pe_met B (lamS_by (sc := defScope s__law_all) (by decide +kernel)) rfl (fun _ _ _ _ _ => rfl) (fun _ _ _ _ _ _ _ hr => (pe_ownAX O_possible_ones hr (by decide) (takes_of rfl rfl rfl rfl) (by rfl) (pa_cons (pv 0) (pa_cons (pv 1) (pa_cons (pv 3) (pa_cons (pv 2) pa_nil))))))) pa_nil)))
    (pss_cons (ps_expr (pe_bm PySem.F.plainAttrs_list PySem.F.slot_list_append PySem.F.type_list_append mt_append (pv 4) (pa_cons (pe_met B (lamS_by (sc := defScope s__law_all) (by decide +kernel)) rfl (fun _ _ _ _ _ => rfl) (fun _ _ _ _ _ _ _ hr => (pe_ownAX O_ask_next hr (by decide) (takes_of rfl rfl rfl rfl) (by rfl) (pa_cons (pv 0) (pa_cons (pv 1) (pa_cons (pv 3) (pa_cons (pv 2) pa_nil))))))) pa_nil)))
    (pss_cons (ps_expr (pe_bm PySem.F.plainAttrs_list PySem.F.slot_list_append PySem.F.type_list_append mt_append (pv 4) (pa_cons (pe_met B (lamS_by (sc := defScope s__law_all) (by decide +kernel)) rfl (fun _ _ _ _ _ => rfl) (fun _ _ _ _ _ _ _ hr => (pe_ownAX O_answers_against hr (by decide) (takes_of rfl rfl rfl rfl) (by rfl) (pa_cons (pv 0) (pa_cons (pv 1) (pa_cons (pv 3) (pa_cons (pv 2) pa_nil))))))) pa_nil)))
    (pss_one (ps_ret (pe_op op_addA (pv 4) (pe_lst (pa_cons (pe_met B (lamS_by (sc := defScope s__law_all) (by decide +kernel)) rfl (fun _ _ _ _ _ => rfl) (fun _ _ _ _ _ _ _ hr => (pe_ownAX O_are_against hr (by decide) (takes_of rfl rfl rfl rfl) (by rfl) (pa_cons (pv 0) (pa_cons (pv 1) (pa_cons (pv 3) (pa_cons pe_non (pa_cons (pv 2) pa_nil)))))))) pa_nil))))))))))), ?_⟩
    have En : EnvOk X H (L2.start n__law_all vs) [.dat d1, .dat d2, .dat d3, .dat d4, .un] := envN (N := n__law_all) dx (by rw [dx.length]; exact (by decide : 4 ≤ n__law_all.length))
    let Γ (x : Sv) : List Sv := [.dat d1, .dat d2, .dat d3, .dat d4, x]
    have r_fewest_askings : ∀ {X : Addr → Prop} {σ : L2.St} {x : Sv}, Ref X (fun E => tCall (spXn 3 (anyPre 0 (fun ds => chk4 C1 C2 C3 ds 2)) (fun ds => chk4 C1 C2 C3 ds 2)) [] E (tCons (tVar 0) (tCons (tVar 1) (tCons (tVar 2) (tNil))))) σ (Γ x) C fl r := fun {X σ x} H1 E Q t1 E1 k => c_err (ds := [d1, d2, d3]) t1 (ga_cons (g_var (i := 0) (d := d1) E1 rfl) (ga_cons (g_var (i := 1) (d := d2) E1 rfl) (ga_cons (g_var (i := 2) (d := d3) E1 rfl) ga_nil))) rfl ⟨hp, C, fl, r, he⟩ he k
    have r_search : ∀ {X : Addr → Prop} {σ : L2.St} {x : Sv}, Ref X (fun E => tCall (spXn 3 (anyPre 0 (fun ds => chk4 C1 C2 C3 ds 2)) (fun ds => chk4 C1 C2 C3 ds 2)) [] E (tCons (tVar 0) (tCons (tVar 1) (tCons (tVar 2) (tNil))))) σ (Γ x) C fl r := fun {X σ x} H1 E Q t1 E1 k => c_err (ds := [d1, d2, d3]) t1 (ga_cons (g_var (i := 0) (d := d1) E1 rfl) (ga_cons (g_var (i := 1) (d := d2) E1 rfl) (ga_cons (g_var (i := 2) (d := d3) E1 rfl) ga_nil))) rfl ⟨hp, C, fl, r, he⟩ he k
    have r_is_search : ∀ {X : Addr → Prop} {σ : L2.St} {x : Sv}, Ref X (fun E => tCall (spXn 4 (anyPre 0 (fun ds => chk4 C1 C2 C3 ds 3)) (fun ds => chk4 C1 C2 C3 ds 3)) [] E (tCons (tVar 0) (tCons (tVar 1) (tCons (tVar 3) (tCons (tVar 2) (tNil)))))) σ (Γ x) C fl r := fun {X σ x} H1 E Q t1 E1 k => c_err (ds := [d1, d2, d4, d3]) t1 (ga_cons (g_var (i := 0) (d := d1) E1 rfl) (ga_cons (g_var (i := 1) (d := d2) E1 rfl) (ga_cons (g_var (i := 3) (d := d4) E1 rfl) (ga_cons (g_var (i := 2) (d := d3) E1 rfl) ga_nil)))) rfl ⟨hp, C, fl, r, he⟩ he k
    have r_possible_ones : ∀ {X : Addr → Prop} {σ : L2.St} {x : Sv}, Ref X (fun E => tCall (spXn 4 (pmPre C1 C2 C3) (pmOut C1 C2 C3 C4)) [] E (tCons (tVar 0) (tCons (tVar 1) (tCons (tVar 3) (tCons (tVar 2) (tNil)))))) σ (Γ x) C fl r := fun {X σ x} H1 E Q t1 E1 k => c_err (ds := [d1, d2, d4, d3]) t1 (ga_cons (g_var (i := 0) (d := d1) E1 rfl) (ga_cons (g_var (i := 1) (d := d2) E1 rfl) (ga_cons (g_var (i := 3) (d := d4) E1 rfl) (ga_cons (g_var (i := 2) (d := d3) E1 rfl) ga_nil)))) rfl (pm_pre hp he) (pm_err he) k
    have r_ask_next : ∀ {X : Addr → Prop} {σ : L2.St} {x : Sv}, Ref X (fun E => tCall (spXn 4 (pmPre C1 C2 C3) (pmOut C1 C2 C3 C4)) [] E (tCons (tVar 0) (tCons (tVar 1) (tCons (tVar 3) (tCons (tVar 2) (tNil)))))) σ (Γ x) C fl r := fun {X σ x} H1 E Q t1 E1 k => c_err (ds := [d1, d2, d4, d3]) t1 (ga_cons (g_var (i := 0) (d := d1) E1 rfl) (ga_cons (g_var (i := 1) (d := d2) E1 rfl) (ga_cons (g_var (i := 3) (d := d4) E1 rfl) (ga_cons (g_var (i := 2) (d := d3) E1 rfl) ga_nil)))) rfl (pm_pre hp he) (pm_err he) k
    have r_answers_against : ∀ {X : Addr → Prop} {σ : L2.St} {x : Sv}, Ref X (fun E => tCall (spXn 4 (anyPre 0 (fun ds => manyOut C1 C2 C3 C5 ds 3)) (fun ds => manyOut C1 C2 C3 C5 ds 3)) [] E (tCons (tVar 0) (tCons (tVar 1) (tCons (tVar 3) (tCons (tVar 2) (tNil)))))) σ (Γ x) C fl r := fun {X σ x} H1 E Q t1 E1 k => c_err (ds := [d1, d2, d4, d3]) t1 (ga_cons (g_var (i := 0) (d := d1) E1 rfl) (ga_cons (g_var (i := 1) (d := d2) E1 rfl) (ga_cons (g_var (i := 3) (d := d4) E1 rfl) (ga_cons (g_var (i := 2) (d := d3) E1 rfl) ga_nil)))) rfl ⟨hp, C, fl, r, many_err he⟩ (many_err he) k
    have r_are_against : ∀ {X : Addr → Prop} {σ : L2.St} {x : Sv}, Ref X (fun E => tCall (spXn 5 (anyPre 0 (fun ds => manyOut C1 C2 C3 C5 ds 4)) (fun ds => manyOut C1 C2 C3 C5 ds 4)) [] E (tCons (tVar 0) (tCons (tVar 1) (tCons (tVar 3) (tCons (tC .non) (tCons (tVar 2) (tNil))))))) σ (Γ x) C fl r := fun {X σ x} H1 E Q t1 E1 k => c_err (ds := [d1, d2, d4, .none, d3]) t1 (ga_cons (g_var (i := 0) (d := d1) E1 rfl) (ga_cons (g_var (i := 1) (d := d2) E1 rfl) (ga_cons (g_var (i := 3) (d := d4) E1 rfl) (ga_cons g_non (ga_cons (g_var (i := 2) (d := d3) E1 rfl) ga_nil))))) rfl ⟨hp, C, fl, r, many_err he⟩ (many_err he) k
    obtain ⟨D0, hD0⟩ : ∃ D0 : PyData, D0 = .tuple [.str tag, r] := ⟨_, rfl⟩
    refine q_own (i := 4) Z En (Γ := Γ .un) r_fewest_askings hc fun F H1 xs1 nF n1 n2 nX Z1 E1 h1 x1 e1 => ?_
    have E1 : EnvOk (fun b => X b ∨ b = F) H1 _ (Γ (.val (.ref F))) := E1
    refine q_met (i := 4) (Γ := Γ (.val (.ref F))) Z1 E1 rfl h1 x1 n1 n2 (by simp) r_search hc fun H2 xs2 Z2 E2 h2 x2 k2 => ?_
    refine q_met (i := 4) (Γ := Γ (.val (.ref F))) Z2 E2 rfl h2 x2 n1 n2 (by simp) r_is_search hc fun H3 xs3 Z3 E3 h3 x3 k3 => ?_
    refine q_met (i := 4) (Γ := Γ (.val (.ref F))) Z3 E3 rfl h3 x3 n1 n2 (by simp) r_possible_ones hc fun H4 xs4 Z4 E4 h4 x4 k4 => ?_
    refine q_met (i := 4) (Γ := Γ (.val (.ref F))) Z4 E4 rfl h4 x4 n1 n2 (by simp) r_ask_next hc fun H5 xs5 Z5 E5 h5 x5 k5 => ?_
    refine q_met (i := 4) (Γ := Γ (.val (.ref F))) Z5 E5 rfl h5 x5 n1 n2 (by simp) r_answers_against hc fun H6 xs6 Z6 E6 h6 x6 k6 => ?_
    have kA : Kq (fun b => b = F) H1 H6 := (((k2.trans k3).trans k4).trans k5).trans k6
    refine k_ret (k_op ⟨.ref F, E6.get 4 _ rfl, ?_⟩)
    refine k_lst (k_cons (c_met Z6 E6 r_are_against hc fun w7 H7 Z7 e7 d7 => k_nil ⟨by show 1 ≤ sizeLine; decide, fun p hp7 => ?_⟩))
    have s8 : Same H7 (upd H7 p (.lst [w7])) := Same.upd hp7
    have h7 := e7 _ _ h6 (fun _ z => by cases z)
    have x7 := DXs.kq (Kq.ext (X := fun b => X b ∨ b = F) e7) x6
    have Z8 : Zt X st cl n T (upd H7 p (.lst [w7])) := (Zt.less (fun _ => .inl) Z.sg.x1 Z.sg.x2 Z7).same s8
    have t8 := Z8.sg.t
    have dF : DX X (upd H7 p (.lst [w7])) (.ref F) (.list _) := .lst nX (s8 _ _ h7) ((x7.mono (Kp.of s8)).less fun _ => .inl)
    have dP : DX X (upd H7 p (.lst [w7])) (.ref p) (.list [.tuple [.str tag, r]]) := .lst (fun z => Z7.sg.t.new hp7 (.inl z)) upd_same (.cons ((d7.mono (Kp.of s8)).less fun _ => .inl) .nil)
    have hcat := (RD.or2 (RD.or1 (rd_cat (X := X) (xs := _) (ys := [PyData.tuple [.str tag, r]]) (by simp))) : RD X rAddA (.list ((((([PyData.tuple [.str tag, r]] ++ [.tuple [.str tag, r]]) ++ [.tuple [.str tag, r]]) ++ [.tuple [.str tag, r]]) ++ [.tuple [.str tag, r]]) ++ [.tuple [.str tag, r]])) (.list [.tuple [.str tag, r]]) _)
    refine hcat _ _ _ t8 dF dP _ fun w9 H9 s9 d9 => q w9 H9 (Z8.same s9) (fun b o e hn => ?_) d9
    have nb : b ≠ F := fun z => nF o hn (z ▸ e)
    exact s9 _ _ (s8 _ _ (e7 _ _ (kA b o nb hn (e1 b o e hn)) hn))
end K82

/-! What is refused, by the law's things. -/
namespace K82
open PySem PySem.Spec PyProof.Rows L2 KD LamX
theorem ff_at : ∀ (bs : List Bool) (k i : Nat), (∀ j, j < i → bs[j]? = some true) → bs[i]? = some false → ffD k (bs.map PyData.bool) = .int ((k + i : Nat) : Int)
  | [], k, i, _, h => by simp at h
  | b :: r, k, 0, _, h => by
    have e : b = false := by simpa using h
    rw [List.map_cons, e]
    simp [ffD]
  | b :: r, k, i + 1, h, h2 => by
    have e : b = true := by simpa using h 0 (by omega)
    rw [List.map_cons, e, ff_true, ff_at r (k + 1) i (fun j hj => by simpa using h (j + 1) (by omega)) (by simpa using h2)]
    congr 1
    omega
theorem ff_ok : ∀ (bs : List Bool) (k : Nat), (∀ b ∈ bs, b = true) → ffD k (bs.map PyData.bool) = .none
  | [], _, _ => rfl
  | b :: r, k, h => by
    rw [List.map_cons, h b List.mem_cons_self, ff_true]
    exact ff_ok r (k + 1) fun z hz => h z (List.mem_cons_of_mem _ hz)
theorem eqv_strs1 (a b : Str) : PyData.eqv (.str a) (.str b) = decide (a = b) := by
  have := eqv_strs [a] [b]
  simpa [PyData.eqvAll] using this
theorem sus_at {ds : List PyData} {i : Nat} {d : PyData} (h : ds[i]? = some d) : ((enumD ds).map (susB ds))[i]? = some (isNameD d && !(ds.take i).any fun y => PyData.eqv y d) := by
  rw [List.getElem?_map, enumD_get h]
  show some (isNameD d && !(ds.take ((i : Nat) : Int).toNat).any fun y => PyData.eqv y d) = _
  rw [show ((i : Nat) : Int).toNat = i by omega]
theorem any_strs {ns : List Str} {s : Str} : ((ns.map PyData.str).any fun y => PyData.eqv y (.str s)) = decide (s ∈ ns) := by
  rw [Bool.eq_iff_iff, List.any_eq_true, decide_eq_true_iff]
  constructor
  · rintro ⟨z, hz, he⟩
    obtain ⟨a, ha, rfl⟩ := List.mem_map.mp hz
    rw [eqv_strs1, decide_eq_true_iff] at he
    exact he ▸ ha
  · intro h
    exact ⟨.str s, List.mem_map.mpr ⟨s, h, rfl⟩, by rw [eqv_strs1]; exact decide_eq_true rfl⟩
section
variable {ns : List Str} {rest : List PyData} {d : PyData}
theorem sus_true (nd : ns.Nodup) (ok : ∀ s ∈ ns, isNameS s = true) {i : Nat} (h : i < ns.length) : ((enumD (ns.map PyData.str ++ rest)).map (susB (ns.map PyData.str ++ rest)))[i]? = some true := by
  have e : (ns.map PyData.str ++ rest)[i]? = some (.str ns[i]) := by
    rw [List.getElem?_append_left (by rw [List.length_map]; exact h), List.getElem?_map, List.getElem?_eq_getElem h]
    rfl
  rw [sus_at e, List.take_append_of_le_length (by rw [List.length_map]; omega), ← List.map_take, any_strs]
  have e1 : isNameD (.str ns[i]) = true := ok _ (List.getElem_mem h)
  have e2 : ns[i] ∉ ns.take i := fun q => by
    obtain ⟨j, hj, ej⟩ := List.mem_iff_getElem.mp q
    rw [List.length_take] at hj
    rw [List.getElem_take] at ej
    exact (List.pairwise_iff_getElem.mp nd j i (by omega) h (by omega)) ej
  rw [e1, decide_eq_false e2]
  rfl
theorem sus_bad (nd : ns.Nodup) (ok : ∀ s ∈ ns, isNameS s = true) (h : isNameD d = false ∨ ∃ s ∈ ns, d = .str s) : susI (.list (ns.map PyData.str ++ d :: rest)) = .int (ns.length : Int) := by
  have e : (ns.map PyData.str ++ d :: rest)[ns.length]? = some d := by
    rw [List.getElem?_append_right (by rw [List.length_map]; exact Nat.le_refl _), List.length_map, Nat.sub_self]
    rfl
  have := ff_at ((enumD (ns.map PyData.str ++ d :: rest)).map (susB (ns.map PyData.str ++ d :: rest))) 0 ns.length (fun j hj => sus_true nd ok hj) (by
    rw [sus_at e, List.take_append_of_le_length (by rw [List.length_map]; exact Nat.le_refl _), ← List.map_take, List.take_length]
    rcases h with h | ⟨s, hs, rfl⟩
    · rw [h]
      rfl
    · rw [any_strs, decide_eq_true hs]
      show some (_ && false) = _
      rw [Bool.and_false])
  rw [Nat.zero_add] at this
  exact this
theorem sus_good (nd : ns.Nodup) (ok : ∀ s ∈ ns, isNameS s = true) : susI (wsD ns) = .none := by
  refine ff_ok _ 0 fun b hb => ?_
  obtain ⟨i, hi⟩ := List.mem_iff_getElem?.mp hb
  have hl : i < ns.length := by
    have := (List.getElem?_eq_some_iff.mp hi).1
    rw [List.length_map, enumD_len] at this
    show i < ns.length
    rw [show itemsD (wsD ns) = ns.map PyData.str from rfl, List.length_map] at this
    exact this
  have := sus_true (rest := []) nd ok hl
  rw [List.append_nil] at this
  rw [show itemsD (wsD ns) = ns.map PyData.str from rfl] at hi
  rw [this] at hi
  exact (Option.some.inj hi).symm
theorem names_good {a : List Str} (nd : a.Nodup) (ok : ∀ s ∈ a, isNameS s = true) : areNamesD (wsD a) = true := by
  unfold areNamesD
  have e : (itemsD (wsD a)).map stOf = a := by
    show (a.map PyData.str).map stOf = a
    rw [List.map_map]
    exact (List.map_congr_left fun _ _ => rfl).trans (List.map_id a)
  rw [e, decide_eq_true nd, Bool.and_true]
  show ((true : Bool) && (a.map PyData.str).all isNameD) = true
  rw [Bool.true_and, List.all_eq_true]
  intro z hz
  obtain ⟨s, hs, rfl⟩ := List.mem_map.mp hz
  exact ok s hs
theorem ask_bad {as : List (List Str)} (h : ∀ a ∈ as, areNamesD (wsD a) = true) (hd : areNamesD d = false) : askI (.list (as.map wsD ++ d :: rest)) = .int (as.length : Int) := by
  have := ff_at ((as.map wsD ++ d :: rest).map areNamesD) 0 as.length (fun j hj => by
    rw [List.getElem?_map, List.getElem?_append_left (by rw [List.length_map]; exact hj), List.getElem?_map, List.getElem?_eq_getElem hj]
    exact congrArg some (h _ (List.getElem_mem hj))) (by
    rw [List.getElem?_map, List.getElem?_append_right (by rw [List.length_map]; exact Nat.le_refl _), List.length_map, Nat.sub_self]
    exact congrArg some hd)
  rw [Nat.zero_add] at this
  exact this
theorem ask_good {as : List (List Str)} (h : ∀ a ∈ as, areNamesD (wsD a) = true) : askI (.list (as.map wsD)) = .none := ff_ok _ 0 fun b hb => by
  obtain ⟨z, hz, rfl⟩ := List.mem_map.mp hb
  obtain ⟨a, ha, rfl⟩ := List.mem_map.mp hz
  exact h a ha
end
/-! ### the law's odd things -/
def oddsN : List PyData := [.none, .int 5, .str "", .str "A", .str "a b", .str "toolonganame1", .list [.str "a"], .bool true]
def oddsR : List PyData := [.none, .int 5, .str "ab", .list [.str "a", .str "a"], .list [.int 5], .dict [], .list [.list [.str "a"]], .list [.str "A"]]
def nones : List PyData := [.none, .int 5, .str "ab", .list [], .tuple [], .dict []]
def oddsL : List PyData := [.none, .int 2, .int (-1), .bool true, .bool false, .str "0", .list [.int 0]]
def oddsM : List PyData := [.none, .int (-1), .bool true, .str "1", .list [.int 1]]
theorem oddN_no : ∀ d ∈ oddsN, isNameD d = false := by
  intro d hd
  simp only [oddsN, List.mem_cons, List.not_mem_nil, or_false] at hd
  rcases hd with rfl | rfl | rfl | rfl | rfl | rfl | rfl | rfl <;> decide +kernel
theorem oddR_no : ∀ d ∈ oddsR, areNamesD d = false := by
  intro d hd
  simp only [oddsR, List.mem_cons, List.not_mem_nil, or_false] at hd
  rcases hd with rfl | rfl | rfl | rfl | rfl | rfl | rfl | rfl <;> decide +kernel
theorem none_no : ∀ d ∈ nones, someD d = false := by
  intro d hd
  simp only [nones, List.mem_cons, List.not_mem_nil, or_false] at hd
  rcases hd with rfl | rfl | rfl | rfl | rfl | rfl <;> decide +kernel
theorem oddL_no : ∀ d ∈ oddsL, lieOk d = false := by
  intro d hd
  simp only [oddsL, List.mem_cons, List.not_mem_nil, or_false] at hd
  rcases hd with rfl | rfl | rfl | rfl | rfl | rfl | rfl <;> decide +kernel
theorem oddM_no : ∀ d ∈ oddsM, isNumD d = false := by
  intro d hd
  simp only [oddsM, List.mem_cons, List.not_mem_nil, or_false] at hd
  rcases hd with rfl | rfl | rfl | rfl | rfl <;> decide +kernel
/-- short texts -/
def shortD : PyData → Bool
  | .str s => decide (s.length ≤ 20) && PyData.strOk s
  | _ => true
theorem name_pre {d : PyData} (h : shortD d = true) : namePre d := fun s e => by
  subst e
  have h : (decide (s.length ≤ 20) && PyData.strOk s) = true := h
  rw [Bool.and_eq_true, decide_eq_true_iff] at h
  have := h.1
  omega
theorem oddN_ok : ∀ d ∈ oddsN, shortD d = true ∧ noDict d = true ∧ d.canLay0 = true ∧ d.depth ≤ 10 := by
  intro d hd
  simp only [oddsN, List.mem_cons, List.not_mem_nil, or_false] at hd
  rcases hd with rfl | rfl | rfl | rfl | rfl | rfl | rfl | rfl <;> decide +kernel
theorem oddR_ok : ∀ d ∈ oddsR, namesPre d := by
  intro d hd
  have pr : ∀ {ds : List PyData}, ds.length ≤ 1000 → (∀ z ∈ ds, shortD z = true) → namesPre (.list ds) := fun h1 h2 _ => ⟨⟨_, rfl⟩, h1, fun z hz => name_pre (h2 z hz)⟩
  simp only [oddsR, List.mem_cons, List.not_mem_nil, or_false] at hd
  rcases hd with rfl | rfl | rfl | rfl | rfl | rfl | rfl | rfl
  all_goals first | exact pr (by decide) (by decide +kernel) | (intro h; cases h)
theorem str_shp {s : Str} (h : PyData.strOk s = true) : Shp (.str s) := ⟨rfl, by simp [PyData.canLay0, h], by simp [PyData.depth]⟩
theorem good_names {ns : List Str} (h : ∀ z ∈ ns, z ∈ sNames) : ∀ z ∈ ns.map PyData.str, namePre z ∧ Shp z := fun z hz => by
  obtain ⟨s, hs, rfl⟩ := List.mem_map.mp hz
  have := sNames_len s (h s hs)
  exact ⟨fun t e => by cases e; omega, str_shp this.2⟩
theorem sus_pre {ds : List PyData} (hl : ds.length ≤ 1000) (h : ∀ z ∈ ds, namePre z ∧ Shp z) : susPre (.list ds) := fun _ _ => ⟨⟨_, rfl⟩, hl, h⟩
theorem ws_namesPre {a : List Str} (h : ∀ z ∈ a, z ∈ sNames) (hl : a.length ≤ 1000) : namesPre (wsD a) := fun _ => ⟨⟨_, rfl⟩, by show (a.map PyData.str).length ≤ _; rw [List.length_map]; exact hl, fun z hz => (good_names h z hz).1⟩
theorem some_list {ds : List PyData} (h : 0 < ds.length) : someD (.list ds) = true := by
  unfold someD
  rw [show lenD (.list ds) = ds.length from rfl, decide_eq_false (by omega)]
  rfl
theorem none_susPre {d : PyData} (h : someD d = false) : susPre d := fun h1 h2 => by
  unfold someD at h
  rw [h1, decide_eq_false h2] at h
  cases h
theorem none_askPre {d : PyData} (h : someD d = false) : askPre d := fun h1 h2 => by
  unfold someD at h
  rw [h1, decide_eq_false h2] at h
  cases h
section
variable {C1 C2 C3 C4 C5 : Addr} {d1 d2 d3 : PyData}
theorem chk1 (h : someD d1 = false) : chkA C1 C2 C3 d1 d2 d3 = .err C1 "index" (.int 0) := by
  unfold chkA
  rw [if_pos h]
theorem chk2 {i : Int} (h : someD d1 = true) (h2 : susI d1 = .int i) : chkA C1 C2 C3 d1 d2 d3 = .err C1 "index" (.int i) := by
  unfold chkA
  rw [if_neg (by rw [h]; simp), h2, if_pos (show isNone (PyData.int i) = false from rfl)]
theorem chk3 (h : someD d1 = true) (h2 : susI d1 = .none) (h3 : someD d2 = false) : chkA C1 C2 C3 d1 d2 d3 = .err C2 "index" (.int 0) := by
  unfold chkA
  rw [if_neg (by rw [h]; simp), h2, if_neg (by simp [isNone]), if_pos h3]
theorem chk4' {i : Int} (h : someD d1 = true) (h2 : susI d1 = .none) (h3 : someD d2 = true) (h4 : askI d2 = .int i) : chkA C1 C2 C3 d1 d2 d3 = .err C2 "index" (.int i) := by
  unfold chkA
  rw [if_neg (by rw [h]; simp), h2, if_neg (by simp [isNone]), if_neg (by rw [h3]; simp), h4, if_pos (show isNone (PyData.int i) = false from rfl)]
theorem chk5 (h : someD d1 = true) (h2 : susI d1 = .none) (h3 : someD d2 = true) (h4 : askI d2 = .none) (h5 : lieOk d3 = false) : chkA C1 C2 C3 d1 d2 d3 = .err C3 "thing" d3 := by
  unfold chkA
  rw [if_neg (by rw [h]; simp), h2, if_neg (by simp [isNone]), if_neg (by rw [h3]; simp), h4, if_neg (by simp [isNone]), if_pos h5]
theorem chk6 (h : someD d1 = true) (h2 : susI d1 = .none) (h3 : someD d2 = true) (h4 : askI d2 = .none) (h5 : lieOk d3 = true) : chkA C1 C2 C3 d1 d2 d3 = .val .none := by
  unfold chkA
  rw [if_neg (by rw [h]; simp), h2, if_neg (by simp [isNone]), if_neg (by rw [h3]; simp), h4, if_neg (by simp [isNone]), if_neg (by rw [h5]; simp)]
end
/-! ### answers -/
def oddsA (n : Nat) : List PyData := [.none, .tuple [.int 0], .tuple [.int 0, .int 1], .tuple [.int (n : Int), .bool true], .tuple [.int (-1), .bool true], .tuple [.bool true, .bool true], .tuple [.str "0", .bool true]]
theorem odd_ans {as : List PyData} {d : PyData} (h0 : 0 < as.length) (hd : d ∈ oddsA as.length) : ansI (.list as) (.list [.tuple [.int 0, .bool true], d, .none]) = .int 1 := by
  have g : ansB (.list as) (.tuple [.int 0, .bool true]) = true := by
    show (((true : Bool) && decide ((2 : Nat) = 2)) && ((decide ((0 : Int) ≤ 0) && decide ((0 : Int) < (as.length : Int))) && true)) = true
    rw [decide_eq_true (show (0 : Int) < (as.length : Int) by omega)]
    rfl
  have b : ansB (.list as) d = false := by
    simp only [oddsA, List.mem_cons, List.not_mem_nil, or_false] at hd
    rcases hd with rfl | rfl | rfl | rfl | rfl | rfl | rfl
    · rfl
    · rfl
    · show (_ && (_ && false)) = false
      rw [Bool.and_false, Bool.and_false]
    · show (_ && ((_ && decide (((as.length : Nat) : Int) < ((as.length : Nat) : Int))) && _)) = false
      rw [decide_eq_false (Int.lt_irrefl _), Bool.and_false, Bool.false_and, Bool.and_false]
    · rfl
    · rfl
    · rfl
  show ffD 0 [.bool (ansB (.list as) (.tuple [.int 0, .bool true])), .bool (ansB (.list as) d), .bool (ansB (.list as) .none)] = _
  rw [g, b]
  rfl
end K82

/-! repr of data over the abstract heap. -/
namespace KD
open PySem PySem.Spec PyProof.Rows L2
mutual
/-- shown in short: its ints are small, its dicts are empty -/
def shw : PyData → Bool
  | .int i => decide (i.natAbs.log2 < 1920)
  | .list ds => shws ds
  | .tuple ds => shws ds
  | .dict ks => ks.isEmpty
  | _ => true
def shws : List PyData → Bool
  | [] => true
  | d :: ds => shw d && shws ds
end
section
variable {X : Cx} {pins : List (Addr × Obj)} {σ : L2.St} {H : Hp} {s : Shared} {X0 : Addr → Prop}
/-- addresses of data that are so deep at most -/
def Low (X0 : Addr → Prop) (H : Hp) (n : Nat) (bs : List Addr) : Prop := ∀ b ∈ bs, ∃ d, DX X0 H (.ref b) d ∧ d.depth ≤ n
theorem Low.mono {n m : Nat} {bs : List Addr} (h : Low X0 H n bs) (k : n ≤ m) : Low X0 H m bs := fun b hb => by
  obtain ⟨d, r, e⟩ := h b hb
  exact ⟨d, r, Nat.le_trans e k⟩
theorem Low.app {n : Nat} {bs cs : List Addr} (h : Low X0 H n bs) (k : Low X0 H n cs) : Low X0 H n (bs ++ cs) := fun b hb => (List.mem_append.mp hb).elim (h b) (k b)
theorem Low.not {n : Nat} {bs : List Addr} {a : Addr} {d : PyData} (h : Low X0 H n bs) (r : DX X0 H (.ref a) d) (k : n < d.depth) : a ∉ bs := fun hm => by
  obtain ⟨e, r2, q⟩ := h a hm
  rw [← r.fn r2] at q
  omega
theorem Low.cons {n : Nat} {bs : List Addr} {a : Addr} {d : PyData} (h : Low X0 H n bs) (r : DX X0 H (.ref a) d) (k : n ≤ d.depth) : Low X0 H d.depth (a :: bs) := fun b hb => by
  rcases List.mem_cons.mp hb with rfl | hb
  · exact ⟨d, r, Nat.le_refl _⟩
  · exact h.mono k b hb
mutual
theorem reprK_dx (I : L2.Inv X pins σ H s) : ∀ {v : V} {d : PyData} {u : Value}, DX X0 H v d → RelV v u → shw d = true → d.shown.length ≤ sizeLine → ∃ bs, Low X0 H d.depth bs ∧ ReprK X.prog X.w bs s.heap d.depth u d.shown
  | _, _, _, .non, r, _, _ => by
    cases r
    exact ⟨[], (fun _ h => by cases h), by simp only [PyData.shown]; exact .of_is ReprIs.none _ _ _⟩
  | _, _, _, .bl b, r, _, _ => by
    cases r
    exact ⟨[], (fun _ h => by cases h), by simp only [PyData.shown]; exact .of_is (ReprIs.bool b) _ _ _⟩
  | _, _, _, .int i, r, h, _ => by
    obtain ⟨t, rfl⟩ := r
    exact ⟨[], (fun _ h => by cases h), by simp only [PyData.shown]; exact .of_is (ReprIs.int t (by simpa [shw] using h)) _ _ _⟩
  | _, _, _, .str x, r, _, hz => by
    obtain ⟨t, rfl⟩ := r
    exact ⟨[], (fun _ h => by cases h), by simp only [PyData.shown]; exact .of_is (ReprIs.str x t (by simpa only [PyData.shown] using hz)) _ _ _⟩
  | _, _, _, .lst (a := a) (xs := xs) (ds := ds) n e r, ru, h, hz => by
    cases ru
    obtain ⟨its, rv, ⟨o, k, ho, hc, _, hd⟩, _⟩ := I.list (SqL.of e)
    have long : (listText (PyData.shownAll ds)).length ≤ sizeLine := by simpa only [PyData.shown] using hz
    obtain ⟨bs, low, all⟩ := reprAll_dx I r rv (by simpa [shw] using h) fun t ht => Nat.le_trans (listText_mem_le ht) long
    have whole : DX X0 H (.ref a) (.list ds) := .lst n e r
    have fresh : a ∉ bs := low.not whole (by simp only [PyData.depth]; omega)
    refine ⟨a :: bs, low.cons whole (by simp only [PyData.depth]; omega), ?_⟩
    simp only [PyData.depth, PyData.shown]
    cases its with
    | nil =>
      cases ds with
      | nil =>
        simp only [PyData.shownAll, listText_nil]
        exact ReprK.listEmpty ho hc hd
      | cons d ds => cases r; cases rv
    | cons y its => exact ReprK.list ho hc hd fresh (by simpa using all.length_eq) fun i z q => all.item i z (by simpa using q)
  | _, _, _, .tup (a := a) (xs := xs) (ds := ds) n e r, ru, h, hz => by
    cases ru
    obtain ⟨its, rv, ⟨o, ho, hc, k, hd⟩, _⟩ := I.tuple (SqT.of e)
    have long : (tupleText (PyData.shownAll ds)).length ≤ sizeLine := by simpa only [PyData.shown] using hz
    obtain ⟨bs, low, all⟩ := reprAll_dx I r rv (by simpa [shw] using h) fun t ht => Nat.le_trans (tupleText_mem_le ht) long
    have whole : DX X0 H (.ref a) (.tuple ds) := .tup n e r
    have fresh : a ∉ bs := low.not whole (by simp only [PyData.depth]; omega)
    refine ⟨a :: bs, low.cons whole (by simp only [PyData.depth]; omega), ?_⟩
    simp only [PyData.depth, PyData.shown]
    exact ReprK.tuple ho hc hd fresh all
  | _, _, _, .dic (a := a) (kvs := kvs) (ks := ks) n e r, ru, h, hz => by
    cases ru
    have e0 : ks = [] := by simpa [shw] using h
    subst e0
    cases r
    obtain ⟨_, hsys, vs, kv, o, es, ep, ho, ex, hd, _, pr, _⟩ := I.hok a _ e
    cases kv
    have whole : DX X0 H (.ref a) (.dict []) := .dic n e .nil
    refine ⟨a :: [], Low.cons (n := 0) (fun _ h => by cases h) whole (Nat.zero_le _), ?_⟩
    have he : es.toList = [] := by
      generalize es.toList = l at pr
      cases pr
      rfl
    have R : ReprEntriesK X.prog X.w [] s.heap 0 es.toList [] := by
      rw [he]
      exact .nil
    have := ReprK.dict ho ex.1 hd hsys (as := []) (by simp) R
    simpa [PyData.depth, PyData.depthKv, PyData.shown, PyData.shownKv] using this
theorem reprAll_dx (I : L2.Inv X pins σ H s) : ∀ {vs : List V} {ds : List PyData} {us : List Value}, DXs X0 H vs ds → Vals vs us → shws ds = true → (∀ t ∈ PyData.shownAll ds, t.length ≤ sizeLine) → ∃ bs, Low X0 H (PyData.depthAll ds) bs ∧ ReprAllK X.prog X.w bs s.heap (PyData.depthAll ds) us (PyData.shownAll ds)
  | _, _, _, .nil, r, _, _ => by
    cases r
    exact ⟨[], (fun _ h => by cases h), by simp only [PyData.shownAll]; exact .nil⟩
  | _, _, _, .cons (d := d) (ds := ds) h rs, r, hs, hz => by
    cases r with
    | cons r1 r2 =>
      have hs' : shw d = true ∧ shws ds = true := by simpa [shws] using hs
      obtain ⟨b1, l1, k1⟩ := reprK_dx I h r1 hs'.1 (hz _ (by simp only [PyData.shownAll]; exact List.mem_cons_self))
      obtain ⟨b2, l2, k2⟩ := reprAll_dx I rs r2 hs'.2 fun t ht => hz t (by simp only [PyData.shownAll]; exact List.mem_cons_of_mem _ ht)
      refine ⟨b1 ++ b2, ?_, ?_⟩
      · simp only [PyData.depthAll]
        exact (l1.mono (Nat.le_max_left _ _)).app (l2.mono (Nat.le_max_right _ _))
      · simp only [PyData.depthAll, PyData.shownAll]
        exact .cons ((k1.more fun b hb => List.mem_append_left _ hb).level_le (Nat.le_max_left _ _)) (k2.more_le (fun b hb => List.mem_append_right _ hb) (Nat.le_max_right _ _))
end
end
/-- repr of a list of data -/
def rReprL : List V → Hp → VK → Prop := fun xs H Q => ∃ (X0 : Addr → Prop) (v : V) (ds : List PyData), xs = [v] ∧ DX X0 H v (.list ds) ∧ ds ≠ [] ∧ shws ds = true ∧ PyData.depthAll ds ≤ 40 ∧ (PyData.shown (.list ds)).length ≤ sizeLine ∧ Q (.str (PyData.shown (.list ds))) H
theorem call_reprL {X : Cx} (hg : X.A.guards = some []) (hu : X.A.units + 64 < cLine) : CallR X (.builtin "repr") rReprL := by
  intro pins s σ H xs us Q I r h
  obtain ⟨X0, v, ds, rfl, hd, hne, hs, hdp, hz, q⟩ := h
  cases r with
  | cons ru rn =>
    cases rn
    cases hd with
    | @lst a xs _ n e rx =>
      cases ru
      obtain ⟨its, rv, ⟨o, k, ho, hc, _, hd⟩, _⟩ := I.list (SqL.of e)
      have long : (listText (PyData.shownAll ds)).length ≤ sizeLine := by simpa only [PyData.shown] using hz
      obtain ⟨bs, low, all⟩ := reprAll_dx I rx rv hs fun t ht => Nat.le_trans (listText_mem_le ht) long
      have whole : DX X0 H (.ref a) (.list ds) := .lst n e rx
      have fresh : a ∉ bs := low.not whole (by simp only [PyData.depth]; omega)
      cases its with
      | nil =>
        cases rv
        cases rx
        exact absurd rfl hne
      | cons y its =>
        refine call_repr_slot (T := "list") (idr := "list.__repr__") (by omega) ⟨o, ho, hc⟩ F.slot_list_repr.toG ?_
        refine call_list_reprK ho hc hd fresh (by simpa using all.length_eq) (fun i z q => all.item i z (by simpa using q)) hg (fun b _ => Clear.nil b) (by show X.A.units + 1 + (PyData.depthAll ds + 1) < cLine; omega) (fun _ _ z => z) (fun h' t tk hk => ?_) long
        refine ⟨_, _, rfl, .str (PyData.shown (.list ds)), H, I.kept hk, ⟨t, ?_⟩, q⟩
        simp only [PyData.shown]
end KD

/-! The law. -/
namespace K82
open PySem PySem.Spec PyProof.Rows L2 KD LamX
-- RAISES check_askings state_behind possible_ones never_parted is_search fewest_askings search ask_next check_many answers_against are_against
-- HINT law callv pe_callV A_ask (by decide : 5 ≤ 6)
-- HINT law le (by decide)
section
variable {P : Program} {w : World} {K : PySem.W.Frag} {mg : Str → Option Value} {base : Heap}
section
variable {X : Addr → Prop} {H : Hp} {σ : L2.St} {Γ : List Sv} {T : List (Addr × Str)} {st cl F : Addr} {n : Nat} {E : XK} {r d1 d2 d3 d4 : PyData} {Q : VK} {C C1 C2 C3 : Addr} {tz tu : TS} {D : Ends} {fl tag : Str} {cs : List Cla} {ta : TA} {tb te : TE}
theorem k_ifT {tt : TT} (h : tt σ H fun b H1 => if b = true then tu { D with nx := tz D } σ H1 else tz D σ H1) : tSeq (tIfS tt tu tNext) tz D σ H := h
theorem k_ifL {tt : TT} (h : tt σ H fun b H1 => if b = true then tu D σ H1 else D.nx σ H1) : tIfS tt tu tNext D σ H := h
def sevD (tag : Str) (r : PyData) : PyData := .list (List.replicate 7 (.tuple [.str tag, r]))
theorem sev_self {tag : Str} {r : PyData} (h : PyData.eqv r r = true) : PyData.eqv (sevD tag r) (sevD tag r) = true := by
  show PyData.eqv (.list _) (.list _) = true
  simp only [PyData.eqv, List.replicate, PyData.eqvAll]
  rw [h, show (tag == tag) = true from beq_self_eq_true tag]
  rfl
/-- all are refused alike: the two lists are held against one another -/
theorem c_all (Z : Zt X st cl n T H) (En : EnvOk X H σ Γ) (ha : GA X ta σ H [d1, d2, d3, d4]) (hp : chkPre [d1, d2]) (he : chkA C1 C2 C3 d1 d2 d3 = .err C fl r) (hc : (C, fl, tag) ∈ cs)
    (hr : ∀ H1, Trk X H1 → EnvOk X H1 σ Γ → G X tb σ H1 (sevD tag r)) {Qb : Bool → Hp → Prop} (ok : noDict (sevD tag r) = true ∧ SeqAt.shaped (sevD tag r) = true) (hq : PyData.eqv r r = true)
    (k : ∀ H', Zt X st cl n T H' → EnvOk X H' σ Γ → ExtN H H' → Qb false H') : tTest (tOp (rNeD K) (tCall (spAll T cs C1 C2 C3) [] E ta) tb) σ H Qb := by
  refine k_test (k_op (k_callS (ha H (Same.refl _) _ fun vs H1 s1 rs => ?_)))
  rw [List.append_nil]
  refine ⟨X, st, cl, n, d1, d2, d3, d4, C, fl, tag, r, Z.same s1, rs, hp, he, hc, fun w1 H2 Z2 e2 dw => ?_⟩
  have E2 := (En.same s1).kq (Kq.ext (X := X) e2)
  refine hr H2 Z2.sg.t E2 H2 (Same.refl _) _ fun w2 H3 s3 r3 => ?_
  refine ⟨sevD tag r, sevD tag r, (dw.mono (Kp.of s3)).dp ok.1, r3.dp ok.1, ok.2, ok.2, false, by rw [sev_self hq]; rfl, k H3 (Z2.same s3) (E2.same s3) fun b o e hn => s3 _ _ (e2 _ _ (s1 _ _ e) hn)⟩
/-- the two lists' shown texts are held against one another -/
theorem c_allR (Z : Zt X st cl n T H) (En : EnvOk X H σ Γ) (ha : GA X ta σ H [d1, d2, d3, d4]) (hp : chkPre [d1, d2]) (he : chkA C1 C2 C3 d1 d2 d3 = .err C fl r) (hc : (C, fl, tag) ∈ cs)
    (hr : ∀ H1, Trk X H1 → EnvOk X H1 σ Γ → G X tb σ H1 (sevD tag r)) {Qb : Bool → Hp → Prop} (sw : shws (List.replicate 7 (.tuple [.str tag, r])) = true) (sd : PyData.depthAll (List.replicate 7 (.tuple [.str tag, r])) ≤ 40) (sl : (PyData.shown (sevD tag r)).length ≤ 1000000)
    (k : ∀ H', Zt X st cl n T H' → EnvOk X H' σ Γ → ExtN H H' → Qb false H') : tTest (tOp rNe (tCB rReprL (tCons (tCall (spAll T cs C1 C2 C3) [] E ta) tNil)) (tCB rReprL (tCons tb tNil))) σ H Qb := by
  refine k_test (k_op (k_cb (k_cons (k_callS (ha H (Same.refl _) _ fun vs H1 s1 rs => ?_)))))
  rw [List.append_nil]
  refine ⟨X, st, cl, n, d1, d2, d3, d4, C, fl, tag, r, Z.same s1, rs, hp, he, hc, fun w1 H2 Z2 e2 dw => k_nil ?_⟩
  have E2 := (En.same s1).kq (Kq.ext (X := X) e2)
  have nn : List.replicate 7 (PyData.tuple [.str tag, r]) ≠ [] := by simp
  have sl' : (PyData.shown (.list (List.replicate 7 (.tuple [.str tag, r])))).length ≤ sizeLine := by rw [sizeLine_eq]; exact Nat.le_trans sl (by omega)
  refine ⟨X, w1, _, rfl, dw, nn, sw, sd, sl', ?_⟩
  refine k_cb (k_cons (hr H2 Z2.sg.t E2 H2 (Same.refl _) _ fun w2 H3 s3 r3 => k_nil ⟨X, w2, _, rfl, r3, nn, sw, sd, sl', ?_⟩))
  refine ⟨rfl, _, rfl, ?_⟩
  rw [show (!decide (V.str (PyData.shown (.list (List.replicate 7 (.tuple [.str tag, r])))) = V.str (PyData.shown (.list (List.replicate 7 (.tuple [.str tag, r])))))) = false by simp]
  exact k H3 (Z2.same s3) (E2.same s3) fun b o e hn => s3 _ _ (e2 _ _ (s1 _ _ e) hn)
/-- two that are told, one behind the other -/
theorem q_two {i : Nat} {te1 te2 : XK → TE} {Ca Cb : Addr} {f1 f2 t1 t2 : Str} {r1 r2 : PyData} (Z : Zt X st cl n T H) (En : EnvOk X H σ Γ) (hl : i < Γ.length) (hA : Ref X te1 σ Γ Ca f1 r1) (hcA : (Ca, f1, t1) ∈ cs)
    (hB : ∀ F, Ref (fun b => X b ∨ b = F) te2 (σ.set i (some (.ref F))) (Γ.set i (.val (.ref F))) Cb f2 r2) (hcB : (Cb, f2, t2) ∈ cs)
    (k : ∀ F H', Zt X st cl n T H' → EnvOk X H' (σ.set i (some (.ref F))) (Γ.set i (.dat (.list [.tuple [.str t1, r1], .tuple [.str t2, r2]]))) → ExtN H H' → tz D (σ.set i (some (.ref F))) H') :
    tSeq (tAsg (tLst (tCons (tLam T (TMet cs) te1) tNil)) (gName i)) (tSeq (tDrop (tBM K "list" rAppend (tVar i) (tCons (tLam T (TMet cs) te2) tNil))) tz) D σ H := by
  refine q_own Z En hA hcA fun F H1 xs nF n1 n2 nX Z1 E1 h1 x1 e1 => ?_
  refine q_met Z1 E1 (by rw [List.getElem?_set_self hl]) h1 x1 n1 n2 (by simp) (hB F) hcB fun H2 ys Z2 E2 h2 x2 k2 => ?_
  have E3 := EnvOk.give (i := i) E2 (by rw [List.getElem?_set_self hl]) nX h2 x2
  rw [List.set_set] at E3
  refine k F H2 (Zt.less (fun _ => .inl) Z.sg.x1 Z.sg.x2 Z2) E3 fun b o e hn => k2 b o (fun z => nF o hn (z ▸ e)) hn (e1 b o e hn)
theorem c_errD {m : Nat} {ds : List PyData} {pre : List PyData → Prop} {f : List PyData → Out} (t : Trk X H) (h : GA X ta σ H ds) (hl : ds.length + 1 = m) (hp : pre (ds ++ [.int 0])) (he : f (ds ++ [.int 0]) = .err C fl r) (k : ∀ a w H', Same H H' → H' a = some (.xd [(fl, w)]) → DX X H' w r → E (.ref C) (some a) H') : tCall (spXn m pre f) [.int 0] E ta σ H Q := c_XnD t h hl hp (endE he k)
theorem g_sev {i : Nat} {tr : TE} (t : Trk X H) (h : G X tr σ H r) : G X (tOp rMulA (tLst (tCons (tTup (tCons (tC (.str tag)) (tCons tr tNil))) tNil)) (tC (.int 7))) σ H (sevD tag r) := by
  refine g_is (g_op t (g_lst t (ga_cons (g_tup t (ga_cons g_str (ga_cons h ga_nil)) (by simp)) ga_nil) (by simp)) g_int (RD.or2 (rd_rep (k := 7) (by omega) (by omega) (by simp)))) ?_
  rfl
theorem tup_shp {tag : Str} {r : PyData} (h0 : PyData.strOk tag = true) (h1 : noDict r = true) (h2 : r.canLay0 = true) (h3 : r.depth ≤ 5) : Shp (.tuple [.str tag, r]) := by
  refine ⟨by simp [noDict, noDicts, h1], by simp [PyData.canLay0, PyData.canLayAll0, h0, h2], ?_⟩
  simp only [PyData.depth, PyData.depthAll]
  omega
theorem sev_ok {tag : Str} {r : PyData} (h0 : PyData.strOk tag = true) (h1 : noDict r = true) (h2 : r.canLay0 = true) (h3 : r.depth ≤ 5) : noDict (sevD tag r) = true ∧ SeqAt.shaped (sevD tag r) = true := shp_list fun z hz => by
  rw [List.eq_of_mem_replicate hz]
  exact tup_shp h0 h1 h2 h3
theorem sev_int {tag : Str} (i : Int) (h0 : PyData.strOk tag = true) : noDict (sevD tag (.int i)) = true ∧ SeqAt.shaped (sevD tag (.int i)) = true := sev_ok h0 rfl rfl (by simp [PyData.depth])
theorem int_self (i : Int) : PyData.eqv (.int i) (.int i) = true := by rw [eqv_int]; exact decide_eq_true rfl
theorem twoI_self {a b : Str} (i j : Int) : PyData.eqv (.list [.tuple [.str a, .int i], .tuple [.str b, .int j]]) (.list [.tuple [.str a, .int i], .tuple [.str b, .int j]]) = true := by
  have h1 := eqv_strs1 a a
  have h2 := eqv_strs1 b b
  have h3 := int_self i
  have h4 := int_self j
  rw [decide_eq_true rfl] at h1 h2
  simp only [PyData.eqv, PyData.eqvAll] at h1 h2 h3 h4 ⊢
  rw [h1, h2, h3, h4]
  rfl
theorem twoI_ok {a b : Str} (i j : Int) (h0 : PyData.strOk a = true) (h1 : PyData.strOk b = true) : noDict (.list [.tuple [.str a, .int i], .tuple [.str b, .int j]]) = true ∧ SeqAt.shaped (.list [.tuple [.str a, .int i], .tuple [.str b, .int j]]) = true := shp_list fun z hz => by
  rcases List.mem_cons.mp hz with rfl | hz
  · exact tup_shp h0 rfl rfl (by simp [PyData.depth])
  · rw [List.mem_singleton.mp hz]
    exact tup_shp h1 rfl rfl (by simp [PyData.depth])
end
theorem repL : ∀ d ∈ oddsL, shws (List.replicate 7 (.tuple [.str "lies", d])) = true ∧ PyData.depthAll (List.replicate 7 (.tuple [.str "lies", d])) ≤ 40 ∧ (PyData.shown (sevD "lies" d)).length ≤ 1000000 := by
  intro d hd
  simp only [oddsL, List.mem_cons, List.not_mem_nil, or_false] at hd
  rcases hd with rfl | rfl | rfl | rfl | rfl | rfl | rfl <;> decide +kernel
theorem repM : ∀ d ∈ oddsM, shws (List.replicate 2 (.tuple [.str "many", d])) = true ∧ PyData.depthAll (List.replicate 2 (.tuple [.str "many", d])) ≤ 40 ∧ (PyData.shown (.list (List.replicate 2 (.tuple [.str "many", d])))).length ≤ 1000000 := by
  intro d hd
  simp only [oddsM, List.mem_cons, List.not_mem_nil, or_false] at hd
  rcases hd with rfl | rfl | rfl | rfl | rfl <;> decide +kernel
theorem g_reprL {X : Addr → Prop} {σ : L2.St} {H : Hp} {te : TE} {ds : List PyData} (h : G X te σ H (.list ds)) (h0 : ds ≠ []) (h1 : shws ds = true) (h2 : PyData.depthAll ds ≤ 40) (h3 : (PyData.shown (.list ds)).length ≤ 1000000) : G X (tCB rReprL (tCons te tNil)) σ H (.str (PyData.shown (.list ds))) := fun H1 s Q q =>
  h H1 s _ fun v H2 s2 r => ⟨X, v, ds, rfl, r, h0, h1, h2, by rw [sizeLine_eq]; omega, q _ H2 s2 (.str _)⟩
theorem cut_frm (ws : List PyData) {a : Nat} : cutPD ws (some (a : Int)) none = ws.drop a := by
  show (ws.drop (HT.sIx ws.length 0 (some (a : Int)))).take (HT.sIx ws.length ws.length none - HT.sIx ws.length 0 (some (a : Int))) = _
  rw [sIx_nn (by omega)]
  show (ws.drop (min ((a : Int)).toNat ws.length)).take (ws.length - min ((a : Int)).toNat ws.length) = ws.drop a
  rw [show ((a : Int)).toNat = a by omega, List.take_of_length_le (by rw [List.length_drop]; exact Nat.le_refl _)]
  by_cases h : a ≤ ws.length
  · rw [Nat.min_eq_left h]
  · rw [Nat.min_eq_right (by omega), List.drop_length, List.drop_eq_nil_of_le (by omega)]
def Gm0 (st : Addr) : List Sv := [.un, .val (.ref st), .un, .un, .un, .un, .un, .un, .un, .un, .un, .un, .un, .un, .un, .un, .un, .un, .un]
def SA (Fp Fa C1 C2 C3 C4 : Addr) : Addr → List V → Sp → Prop := fun f dvs sp => (f = Fp ∨ f = Fa) ∧ (dvs = [.int 0] ∨ dvs = []) ∧ sp = spXn 4 (pmPre C1 C2 C3) (pmOut C1 C2 C3 C4)
abbrev s_law : Stmt := topS 54
abbrev n_law : List Str := ["_law_script", "_law_stream", "_law_turn", "_law_names", "_law_askings", "_law_at", "_law_to", "_law_odd", "_law_bad", "_law_twice", "_law_row", "_law_worse", "_law_none", "_law_found", "_law_lies", "_law_odds", "_law_good", "_law_index", "_law_ask"]
theorem sc_law : FnScope n_law ["_law_script"] (defScope s_law) := ⟨rfl, rfl, rfl, by decide +kernel, rfl, by decide +kernel, by decide +kernel⟩
structure Lib (P : Program) (w : World) (K : PySem.W.Frag) (mg : Str → Option Value) (base : Heap) (Tb : List (Addr × Str)) (Fp Fa C1 C2 C3 C4 C5 : Addr) : Prop where
  T : Bl mg
  start : Own P w K mg base CX0 1 "_law_start" ["_law_script"] (spStart K)
  draw : Own P w K mg base CX0 1 "_law_draw" ["_law_stream", "_law_many"] spDraw
  pick : Own P w K mg base CX0 2 "_law_pick" ["_law_stream", "_law_some"] spPick
  sus : Own P w K mg base CX0 3 "_law_m_suspects" ["_law_stream", "_law_most"] spMSus
  all : Own P w K mg base CX0 9 "_law_all" ["_law_names", "_law_askings", "_law_lies", "_law_rest"] (spAll Tb (csOf C1 C2 C3 C4 C5) C1 C2 C3)
  fns : Fns P w K mg base C1 C2 C3 C4 C5
  ask : ∀ f dvs sp, SA Fp Fa C1 C2 C3 C4 f dvs sp → HeldX P w K mg base 5 f dvs sp
  gp : mg "possible_ones" = some (.ref Fp)
  ga : mg "ask_next" = some (.ref Fa)
theorem law_reads {f a F_possible_ones F_ask_next C1 C2 C3 C4 C5 : Addr} {cdv : Value} {s : Shared} {H : Hp} {E : XK} {Tb : List (Addr × Str)} {ns : List Int} (Lb : Lib P w K mg base Tb F_possible_ones F_ask_next C1 C2 C3 C4 C5) (hr : Room 9 (callerA.deeper (envOfC "law" (defScope s_law) s.heap.objs.size f cdv)))
    (B : TrB (cxOf CX0 P w K mg base n_law "law" (defScope s_law) f cdv callerA [] s H E).nox Tb (TMet (csOf C1 C2 C3 C4 C5))) (hT : Tabs Tb H) (hS : SqL K H a (ns.map V.int)) (hl : ns.length ≤ 63) :
    ∃ t, PSs (cxOf CX0 P w K mg base n_law "law" (defScope s_law) f cdv callerA [] s H E).nox (defBody s_law) t ∧ t { nx := fun _ _ => V.non = V.bl true, rt := fun v _ => v = V.bl true } (L2.start n_law [.ref a]) H := by
  obtain ⟨T, O__law_start, O__law_draw, O__law_pick, O__law_m_suspects, O__law_all, Fn, A_ask, g_possible_ones, g_ask_next⟩ := Lb
  obtain ⟨O_fewest_askings, O_search, O_is_search, O_possible_ones, O_ask_next, O_answers_against, O_are_against, O_never_parted⟩ := Fn
  refine ⟨_, (pss_cons (ps_set (i := 1) sc_law.nd rfl (by first | exact Or.inl rfl | exact Or.inr rfl) (pe_own O__law_start hr (by decide) (by rfl) (pa_cons (pv 0) pa_nil)))
    (pss_cons (ps_for PassesOwn.never rfl (pi_range1 (by rfl) T.b_range (pa_cons pe_int pa_nil)) (pg_name (i := 2) sc_law.nd rfl (by first | exact Or.inl rfl | exact Or.inr rfl))
    (pss_cons (ps_asg (pe_own O__law_m_suspects hr (by decide) (by rfl) (pa_cons (pv 1) (pa_cons pe_int pa_nil))) (pg_tup (n := 2) rfl (pgs_cons (pg_name (i := 3) sc_law.nd rfl (by first | exact Or.inl rfl | exact Or.inr rfl)) (pgs_cons (pg_name (i := 4) sc_law.nd rfl (by first | exact Or.inl rfl | exact Or.inr rfl)) pgs_nil))))
    (pss_cons (ps_par (i := 5) (j := 6) (by rfl) sc_law.nd rfl rfl (by decide) rfl rfl (pa_cons (pe_own O__law_draw hr (by decide) (by rfl) (pa_cons (pv 1) (pa_cons (pe_op op_addA (pe_callB call_len (by rfl) T.b_len boot_len (pa_cons (pv 3) pa_nil)) pe_int) pa_nil))) (pa_cons (pe_own O__law_draw hr (by decide) (by rfl) (pa_cons (pv 1) (pa_cons (pe_op op_addA (pe_callB call_len (by rfl) T.b_len boot_len (pa_cons (pv 4) pa_nil)) pe_int) pa_nil))) pa_nil)) (by rfl))
    (pss_cons (ps_set (i := 7) sc_law.nd rfl (by first | exact Or.inl rfl | exact Or.inr rfl) (pe_own O__law_pick hr (by decide) (by rfl) (pa_cons (pv 1) (pa_cons (pe_lst (pa_cons pe_non (pa_cons pe_int (pa_cons pe_str (pa_cons pe_str (pa_cons pe_str (pa_cons pe_str (pa_cons (pe_lst (pa_cons pe_str pa_nil)) (pa_cons pe_bl pa_nil))))))))) pa_nil))))
    (pss_cons (ps_set (i := 8) sc_law.nd rfl (by first | exact Or.inl rfl | exact Or.inr rfl) (pe_op op_addA (pe_op op_addA (pe_slice sl_list (pv 3) po_none (po_some (pv 5))) (pe_lst (pa_cons (pv 7) (pa_cons pe_non pa_nil)))) (pe_slice sl_list (pv 3) (po_some (pv 5)) po_none)))
    (pss_cons (ps_par (i := 9) (j := 10) (by rfl) sc_law.nd rfl rfl (by decide) rfl rfl (pa_cons (pe_op op_addA (pv 3) (pe_lst (pa_cons (pe_ix ix_seq (pv 3) pe_int (fun _ _ => rfl)) (pa_cons pe_int pa_nil)))) (pa_cons (pe_own O__law_pick hr (by decide) (by rfl) (pa_cons (pv 1) (pa_cons (pe_lst (pa_cons pe_non (pa_cons pe_int (pa_cons pe_str (pa_cons (pe_lst (pa_cons pe_str (pa_cons pe_str pa_nil))) (pa_cons (pe_lst (pa_cons pe_int pa_nil)) (pa_cons pe_dnewK (pa_cons (pe_lst (pa_cons (pe_lst (pa_cons pe_str pa_nil)) pa_nil)) (pa_cons (pe_lst (pa_cons pe_str pa_nil)) pa_nil))))))))) pa_nil))) pa_nil)) (by rfl))
    (pss_cons (ps_set (i := 11) sc_law.nd rfl (by first | exact Or.inl rfl | exact Or.inr rfl) (pe_op op_addA (pe_op op_addA (pe_slice sl_list (pv 4) po_none (po_some (pv 6))) (pe_lst (pa_cons (pv 10) (pa_cons pe_non pa_nil)))) (pe_slice sl_list (pv 4) (po_some (pv 6)) po_none)))
    (pss_cons (ps_if (pt_cmpR (op_neD hr.units) (pe_own O__law_all hr (by decide) (by rfl) (pa_cons (pv 8) (pa_cons (pv 11) (pa_cons pe_int (pa_cons pe_non pa_nil))))) (pe_op op_mulA (pe_lst (pa_cons (pe_tup (pa_cons pe_str (pa_cons (pv 5) pa_nil))) pa_nil)) pe_int) (nomark _))
    (pss_one (ps_ret pe_bl)) pss_nil)
    (pss_cons (ps_if (pt_cmpR (op_neD hr.units) (pe_own O__law_all hr (by decide) (by rfl) (pa_cons (pv 9) (pa_cons pe_int (pa_cons pe_int (pa_cons pe_non pa_nil))))) (pe_op op_mulA (pe_lst (pa_cons (pe_tup (pa_cons pe_str (pa_cons (pe_callB call_len (by rfl) T.b_len boot_len (pa_cons (pv 3) pa_nil)) pa_nil))) pa_nil)) pe_int) (nomark _))
    (pss_one (ps_ret pe_bl)) pss_nil)
    (pss_cons (ps_for PassesOwn.never rfl (pi_tup (pe_tup (pa_cons pe_non (pa_cons pe_int (pa_cons pe_str (pa_cons (pe_lst pa_nil) (pa_cons (pe_tup pa_nil) (pa_cons pe_dnewK pa_nil)))))))) (pg_name (i := 12) sc_law.nd rfl (by first | exact Or.inl rfl | exact Or.inr rfl))
    (pss_cons (ps_if (pt_cmpR (op_neD hr.units) (pe_own O__law_all hr (by decide) (by rfl) (pa_cons (pv 12) (pa_cons (pe_lst pa_nil) (pa_cons pe_non (pa_cons pe_non pa_nil))))) (pe_op op_mulA (pe_lst (pa_cons (pe_tup (pa_cons pe_str (pa_cons pe_int pa_nil))) pa_nil)) pe_int) (nomark _))
    (pss_one (ps_ret pe_bl)) pss_nil)
    (pss_one (ps_if (pt_cmpR (op_neD hr.units) (pe_own O__law_all hr (by decide) (by rfl) (pa_cons (pv 3) (pa_cons (pv 12) (pa_cons pe_non (pa_cons pe_non pa_nil))))) (pe_op op_mulA (pe_lst (pa_cons (pe_tup (pa_cons pe_str (pa_cons pe_int pa_nil))) pa_nil)) pe_int) (nomark _))
    (pss_one (ps_ret pe_bl)) pss_nil))))
    (pss_cons (ps_if (pt_cmpR (op_neD hr.units) (pe_own O__law_all hr (by decide) (by rfl) (pa_cons (pv 3) (pa_cons (pv 11) (pa_cons pe_int (pa_cons pe_non pa_nil))))) (pe_op op_mulA (pe_lst (pa_cons (pe_tup (pa_cons pe_str (pa_cons (pv 6) pa_nil))) pa_nil)) pe_int) (nomark _))
    (pss_one (ps_ret pe_bl)) pss_nil)
    (pss_cons (ps_set (i := 13) sc_law.nd rfl (by first | exact Or.inl rfl | exact Or.inr rfl) (pe_lst (pa_cons (pe_met B (lamS_by (sc := defScope s_law) (by decide +kernel)) rfl (fun _ _ _ _ _ => rfl) (fun _ _ _ _ _ _ _ hr => (pe_ownX O_never_parted hr (by decide) (takes_of rfl rfl rfl rfl) (by rfl) (pa_cons (pv 8) (pa_cons (pv 11) pa_nil))))) pa_nil)))
    (pss_cons (ps_expr (pe_bm PySem.F.plainAttrs_list PySem.F.slot_list_append PySem.F.type_list_append mt_append (pv 13) (pa_cons (pe_met B (lamS_by (sc := defScope s_law) (by decide +kernel)) rfl (fun _ _ _ _ _ => rfl) (fun _ _ _ _ _ _ _ hr => (pe_ownX O_never_parted hr (by decide) (takes_of rfl rfl rfl rfl) (by rfl) (pa_cons (pv 3) (pa_cons (pv 11) pa_nil))))) pa_nil)))
    (pss_cons (ps_if (pt_cmpR (op_neD hr.units) (pv 13) (pe_lst (pa_cons (pe_tup (pa_cons pe_str (pa_cons (pv 5) pa_nil))) (pa_cons (pe_tup (pa_cons pe_str (pa_cons (pv 6) pa_nil))) pa_nil))) (nomark _))
    (pss_one (ps_ret pe_bl)) pss_nil)
    (pss_cons (ps_for PassesOwn.never rfl (pi_tup (pe_tup (pa_cons pe_non (pa_cons pe_int (pa_cons (pe_un un_neg pe_int) (pa_cons pe_bl (pa_cons pe_bl (pa_cons pe_str (pa_cons (pe_lst (pa_cons pe_int pa_nil)) pa_nil))))))))) (pg_name (i := 14) sc_law.nd rfl (by first | exact Or.inl rfl | exact Or.inr rfl))
    (pss_one (ps_if (pt_cmpR op_ne (pe_callB (call_reprL rfl hr.units) (by rfl) T.b_repr boot_repr (pa_cons (pe_own O__law_all hr (by decide) (by rfl) (pa_cons (pv 3) (pa_cons (pv 4) (pa_cons (pv 14) (pa_cons pe_non pa_nil))))) pa_nil)) (pe_callB (call_reprL rfl hr.units) (by rfl) T.b_repr boot_repr (pa_cons (pe_op op_mulA (pe_lst (pa_cons (pe_tup (pa_cons pe_str (pa_cons (pv 14) pa_nil))) pa_nil)) pe_int) pa_nil)) (nomark _))
    (pss_one (ps_ret pe_bl)) pss_nil)))
    (pss_cons (ps_set (i := 15) sc_law.nd rfl (by first | exact Or.inl rfl | exact Or.inr rfl) (pe_lst (pa_cons pe_non (pa_cons (pe_tup (pa_cons pe_int pa_nil)) (pa_cons (pe_tup (pa_cons pe_int (pa_cons pe_int pa_nil))) (pa_cons (pe_tup (pa_cons (pe_callB call_len (by rfl) T.b_len boot_len (pa_cons (pv 4) pa_nil)) (pa_cons pe_bl pa_nil))) (pa_cons (pe_tup (pa_cons (pe_un un_neg pe_int) (pa_cons pe_bl pa_nil))) (pa_cons (pe_tup (pa_cons pe_bl (pa_cons pe_bl pa_nil))) (pa_cons (pe_tup (pa_cons pe_str (pa_cons pe_bl pa_nil))) pa_nil)))))))))
    (pss_cons (ps_asg (pe_tup (pa_cons (pe_lst (pa_cons (pe_tup (pa_cons pe_int (pa_cons pe_bl pa_nil))) pa_nil)) (pa_cons (pe_own O__law_pick hr (by decide) (by rfl) (pa_cons (pv 1) (pa_cons (pv 15) pa_nil))) pa_nil))) (pg_tup (n := 2) rfl (pgs_cons (pg_name (i := 16) sc_law.nd rfl (by first | exact Or.inl rfl | exact Or.inr rfl)) (pgs_cons (pg_name (i := 17) sc_law.nd rfl (by first | exact Or.inl rfl | exact Or.inr rfl)) pgs_nil))))
    (pss_cons (ps_for PassesOwn.never rfl (pi_tup (pe_tup (pa_cons (pe_glob (v := .ref F_possible_ones) (by rfl) g_possible_ones rfl) (pa_cons (pe_glob (v := .ref F_ask_next) (by rfl) g_ask_next rfl) pa_nil)))) (pg_name (i := 18) sc_law.nd rfl (by first | exact Or.inl rfl | exact Or.inr rfl))
    (pss_cons (ps_set (i := 13) sc_law.nd rfl (by first | exact Or.inl rfl | exact Or.inr rfl) (pe_lst (pa_cons (pe_met B (lamS_by (sc := defScope s_law) (by decide +kernel)) rfl (fun _ _ _ _ _ => rfl) (fun _ _ _ _ _ _ _ hr => (pe_callV A_ask (by decide : 5 ≤ 6) (i := 18) hr (takes_of rfl rfl rfl rfl) rfl (by first | exact Or.inl rfl | exact Or.inr (Or.inl rfl) | exact Or.inr (Or.inr rfl)) (pa_cons (pv 3) (pa_cons (pv 4) (pa_cons (pe_op op_addA (pv 16) (pe_lst (pa_cons (pv 17) (pa_cons pe_non pa_nil)))) pa_nil)))))) pa_nil)))
    (pss_cons (ps_expr (pe_bm PySem.F.plainAttrs_list PySem.F.slot_list_append PySem.F.type_list_append mt_append (pv 13) (pa_cons (pe_met B (lamS_by (sc := defScope s_law) (by decide +kernel)) rfl (fun _ _ _ _ _ => rfl) (fun _ _ _ _ _ _ _ hr => (pe_callV A_ask (by decide : 5 ≤ 6) (i := 18) hr (takes_of rfl rfl rfl rfl) rfl (by first | exact Or.inl rfl | exact Or.inr (Or.inl rfl) | exact Or.inr (Or.inr rfl)) (pa_cons (pv 3) (pa_cons (pv 4) (pa_cons pe_int (pa_cons pe_int pa_nil))))))) pa_nil)))
    (pss_one (ps_if (pt_cmpR (op_neD hr.units) (pv 13) (pe_lst (pa_cons (pe_tup (pa_cons pe_str (pa_cons pe_int pa_nil))) (pa_cons (pe_tup (pa_cons pe_str (pa_cons pe_int pa_nil))) pa_nil))) (nomark _))
    (pss_one (ps_ret pe_bl)) pss_nil)))))
    (pss_one (ps_for PassesOwn.never rfl (pi_tup (pe_tup (pa_cons pe_non (pa_cons (pe_un un_neg pe_int) (pa_cons pe_bl (pa_cons pe_str (pa_cons (pe_lst (pa_cons pe_int pa_nil)) pa_nil))))))) (pg_name (i := 7) sc_law.nd rfl (by first | exact Or.inl rfl | exact Or.inr rfl))
    (pss_cons (ps_set (i := 13) sc_law.nd rfl (by first | exact Or.inl rfl | exact Or.inr rfl) (pe_lst (pa_cons (pe_met B (lamS_by (sc := defScope s_law) (by decide +kernel)) rfl (fun _ _ _ _ _ => rfl) (fun _ _ _ _ _ _ _ hr => (pe_ownFX O_answers_against hr (by decide) (takes_of rfl rfl rfl rfl) (by rfl) (pa_cons (pv 3) (pa_cons (pv 4) (pa_cons (pv 7) pa_nil)))))) pa_nil)))
    (pss_cons (ps_expr (pe_bm PySem.F.plainAttrs_list PySem.F.slot_list_append PySem.F.type_list_append mt_append (pv 13) (pa_cons (pe_met B (lamS_by (sc := defScope s_law) (by decide +kernel)) rfl (fun _ _ _ _ _ => rfl) (fun _ _ _ _ _ _ _ hr => (pe_ownFX O_are_against hr (by decide) (takes_of rfl rfl rfl rfl) (by rfl) (pa_cons (pv 3) (pa_cons (pv 4) (pa_cons (pv 7) (pa_cons pe_non pa_nil))))))) pa_nil)))
    (pss_one (ps_if (pt_cmpR op_ne (pe_callB (call_reprL rfl hr.units) (by rfl) T.b_repr boot_repr (pa_cons (pv 13) pa_nil)) (pe_callB (call_reprL rfl hr.units) (by rfl) T.b_repr boot_repr (pa_cons (pe_op op_mulA (pe_lst (pa_cons (pe_tup (pa_cons pe_str (pa_cons (pv 7) pa_nil))) pa_nil)) pe_int) pa_nil)) (nomark _))
    (pss_one (ps_ret pe_bl)) pss_nil))))))))))))))))))))))))
    (pss_one (ps_ret pe_bl)))), ?_⟩
  -- the spring
  refine k_set ?_
  refine ⟨.ref a, rfl, a, ns, rfl, hS, hl, fun st cl H1 s1 h1 h2 so => ?_⟩
  have hst : ∃ ms x y z, SpAt st cl ms x y z H1 := by
    obtain ⟨ms, x, y, z, S, _⟩ := so
    exact ⟨ms, x, y, z, S⟩
  let X : Addr → Prop := fun b => b = st ∨ b = cl
  have lst1 : ∀ b, X b → ∃ xs, H1 b = some (.lst xs) := fun b hb => by
    obtain ⟨ms, x, y, z, S⟩ := hst
    rcases hb with rfl | rfl
    · exact ⟨_, S.hs⟩
    · exact ⟨_, S.hc⟩
  have Z1 : Zt X st cl 0 Tb H1 := ⟨⟨so, .inl rfl, .inr rfl, fun b hb => let ⟨xs, e⟩ := lst1 b hb; ⟨_, e⟩⟩, hT.ext s1, lst1⟩
  have E1 : EnvOk X H1 ((L2.start n_law [.ref a]).set 1 (some (.ref st))) (Gm0 st) := ⟨rfl, fun i s e => by
    rcases i with _ | _ | _ | _ | _ | _ | _ | _ | _ | _ | _ | _ | _ | _ | _ | _ | _ | _ | _ | i
    all_goals first | (cases e; first | rfl | trivial) | cases e⟩
  clear hst so lst1 h1 h2
  refine ⟨4, rfl, by decide, by decide, ?_⟩
  refine for_it walk_range (fun i σ H' => Zt X st cl (i * 200) Tb H' ∧ EnvOk X H' σ (Gm0 st)) ⟨Z1, E1⟩ (fun _ _ _ _ _ => trivial) (fun i x σ H2 H3 hi p y => ?_) (fun σ H2 p => rfl)
  obtain ⟨rfl, rfl⟩ := y
  obtain ⟨Z2, E2⟩ := p
  have hi4 : i < 4 := hi
  clear Z1 E1
  refine k_name ?_
  have E3 := E2.setV (i := 2) (v := .int (0 + (i : Int)))
  -- names, askings
  refine k_asg ?_
  refine ⟨.ref st, E3.get 1 _ rfl, X, st, cl, i * 200, 4, rfl, Z2.sg, by omega, by decide, by decide, fun w3 nms as H4 Sn Sa la S4 k4 d4 => ?_⟩
  have Z4 := Z2.draw S4 k4
  refine g_pair d4 fun u3 u4 d3 d4' => ?_
  have E4 := ((E3.kps Z2.sg k4).set (i := 3) d3).set (i := 4) d4'
  clear E2 E3 Z2 S4 k4 d4 d3 d4'
  have okn : ∀ s ∈ nms, isNameS s = true := fun s hs => sNames_is s (Sn.ok s hs)
  have oka : ∀ a ∈ as, areNamesD (wsD a) = true := fun a ha => names_good (Sa.nd a ha) fun s hs => sNames_is s (Sa.ok a ha s hs)
  have fewn := Sn.few
  have posn := Sn.pos
  have posa := Sa.pos
  have ln : ∀ {X' : Addr → Prop} {σ' : L2.St} {H' : Hp} {Γ : List Sv}, Trk X' H' → EnvOk X' H' σ' Γ → Γ[3]? = some (.dat (wsD nms)) → G X' (tCB (fun xs H Q => ∃ x n, xs = [x] ∧ LenV K x H n ∧ Q (V.int n) H) (tCons (tVar 3) tNil)) σ' H' (.int (nms.length : Int)) := fun t E h => g_is (g_len t (g_var (i := 3) (d := wsD nms) E h) rfl) (by show PyData.int ((nms.map PyData.str).length : Int) = _; rw [List.length_map])
  have ls : ∀ {X' : Addr → Prop} {σ' : L2.St} {H' : Hp} {Γ : List Sv}, Trk X' H' → EnvOk X' H' σ' Γ → Γ[4]? = some (.dat (.list (as.map wsD))) → G X' (tCB (fun xs H Q => ∃ x n, xs = [x] ∧ LenV K x H n ∧ Q (V.int n) H) (tCons (tVar 4) tNil)) σ' H' (.int (as.length : Int)) := fun t E h => g_is (g_len t (g_var (i := 4) (d := .list (as.map wsD)) E h) rfl) (by show PyData.int ((as.map wsD).length : Int) = _; rw [List.length_map])
  -- at, to
  refine k_par (c_draw (m := (nms.length : Int) + 1) Z4.sg (gv_var (i := 1) E4 rfl) (g_addI Z4.sg.t (ln Z4.sg.t E4 rfl) g_int) (by omega) (by omega) (by omega) fun ai H5 a0 a1 S5 k5 => c_draw (m := (as.length : Int) + 1) S5 (gv_var (i := 1) (E4.kps Z4.sg k5) rfl) (g_addI S5.t (ls S5.t (E4.kps Z4.sg k5) rfl) g_int) (by omega) (by omega) (by omega) fun bi H6 b0 b1 S6 k6 => ⟨_, _, rfl, ?_⟩)
  obtain ⟨at0, rfl⟩ := Int.eq_ofNat_of_zero_le a0
  obtain ⟨to0, rfl⟩ := Int.eq_ofNat_of_zero_le b0
  have hat : at0 ≤ nms.length := by omega
  have hto : to0 ≤ as.length := by omega
  have Z6 := (Z4.draw S5 k5).draw S6 k6
  have E6 := (((E4.kps Z4.sg k5).kps S5 k6).set (i := 5) (v := .int (at0 : Int)) (d := .int (at0 : Int)) (.int _)).set (i := 6) (v := .int (to0 : Int)) (d := .int (to0 : Int)) (.int _)
  clear E4 Z4 S5 S6 k5 k6
  -- odd
  refine k_set (c_pick (ds := oddsN) Z6.sg (gv_var (i := 1) E6 rfl) (g_lst Z6.sg.t (ga_cons g_non (ga_cons g_int (ga_cons g_str (ga_cons g_str (ga_cons g_str (ga_cons g_str (ga_cons (g_lst Z6.sg.t (ga_cons g_str ga_nil) (by simp)) (ga_cons g_bl ga_nil)))))))) (by simp [oddsN])) (by omega) (by simp [oddsN]) (by simp [oddsN]) fun v7 d7 H7 hd7 S7 k7 r7 => ?_)
  have Z7 := Z6.draw S7 k7
  have E7 := (E6.kps Z6.sg k7).set (i := 7) r7
  clear E6 Z6 S7 k7 r7
  -- bad
  have lns : (nms.map PyData.str).length = nms.length := List.length_map ..
  have las : (as.map wsD).length = as.length := List.length_map ..
  obtain ⟨bad, hbad⟩ : ∃ bad, bad = (nms.take at0).map PyData.str ++ d7 :: (.none :: (nms.drop at0).map PyData.str) := ⟨_, rfl⟩
  refine q_set (i := 8) (d := .list bad) E7 (g_is (g_cat Z7.sg.t (g_cat Z7.sg.t (g_sl (K := K) Z7.sg.t (g_var (i := 3) (d := wsD nms) E7 rfl) go_none (go_some (g_var (i := 5) (d := .int (at0 : Int)) E7 rfl))) (g_lst Z7.sg.t (ga_cons (g_var (i := 7) (d := d7) E7 rfl) (ga_cons g_non ga_nil)) (by simp)) (by rw [cut_to, List.length_take]; simp; omega)) (g_sl (K := K) Z7.sg.t (g_var (i := 3) (d := wsD nms) E7 rfl) (go_some (g_var (i := 5) (d := .int (at0 : Int)) E7 rfl)) go_none) (by rw [cut_to, cut_frm]; simp; omega)) (by rw [cut_to, cut_frm, hbad, ← List.map_take, ← List.map_drop]; simp)) fun H8 v8 s8 E8 => ?_
  have Z8 := Z7.same s8
  clear E7 Z7 s8
  -- twice, row
  obtain ⟨n0, hn0⟩ : ∃ n0, nms[0]? = some n0 := ⟨nms[0], List.getElem?_eq_getElem posn⟩
  obtain ⟨tw, htw⟩ : ∃ tw, tw = nms.map PyData.str ++ .str n0 :: [.int 5] := ⟨_, rfl⟩
  refine k_par ((show G X _ _ H8 (.list tw) from g_is (g_cat Z8.sg.t (g_var (i := 3) (d := wsD nms) E8 rfl) (g_lst Z8.sg.t (ga_cons (g_ixL (z := .str n0) Z8.sg.t (g_var (i := 3) (d := wsD nms) E8 rfl) g_int (atI_nat (xs := nms.map PyData.str) (j := 0) (by rw [List.getElem?_map, hn0]; rfl))) (ga_cons g_int ga_nil)) (by simp)) (by rw [lns]; simp; omega)) (by rw [htw])) H8 (Same.refl _) _ fun v9 H9 s9 r9 => ?_)
  have Z9 := Z8.same s9
  have E9 := E8.same s9
  refine c_pick (ds := oddsR) Z9.sg (gv_var (i := 1) E9 rfl) (g_lst Z9.sg.t (ga_cons g_non (ga_cons g_int (ga_cons g_str (ga_cons (g_lst Z9.sg.t (ga_cons g_str (ga_cons g_str ga_nil)) (by simp)) (ga_cons (g_lst Z9.sg.t (ga_cons g_int ga_nil) (by simp)) (ga_cons (g_dict Z9.sg.t) (ga_cons (g_lst Z9.sg.t (ga_cons (g_lst Z9.sg.t (ga_cons g_str ga_nil) (by simp)) ga_nil) (by simp)) (ga_cons (g_lst Z9.sg.t (ga_cons g_str ga_nil) (by simp)) ga_nil)))))))) (by simp [oddsR])) (by omega) (by simp [oddsR]) (by simp [oddsR]) fun v10 d10 H10 hd10 S10 k10 r10 => ⟨_, _, rfl, ?_⟩
  have Z10 := Z9.draw S10 k10
  have E10 := ((E9.kps Z9.sg k10).set (i := 9) (d := .list tw) (r9.mono (Z9.sg.kp k10))).set (i := 10) r10
  clear E8 Z8 Z9 E9 S10 k10 r10 r9 s9
  -- worse
  obtain ⟨wor, hwor⟩ : ∃ wor, wor = (as.take to0).map wsD ++ d10 :: (.none :: (as.drop to0).map wsD) := ⟨_, rfl⟩
  refine q_set (i := 11) (d := .list wor) E10 (g_is (g_cat Z10.sg.t (g_cat Z10.sg.t (g_sl (K := K) Z10.sg.t (g_var (i := 4) (d := .list (as.map wsD)) E10 rfl) go_none (go_some (g_var (i := 6) (d := .int (to0 : Int)) E10 rfl))) (g_lst Z10.sg.t (ga_cons (g_var (i := 10) (d := d10) E10 rfl) (ga_cons g_non ga_nil)) (by simp)) (by rw [cut_to, List.length_take]; simp; omega)) (g_sl (K := K) Z10.sg.t (g_var (i := 4) (d := .list (as.map wsD)) E10 rfl) (go_some (g_var (i := 6) (d := .int (to0 : Int)) E10 rfl)) go_none) (by rw [cut_to, cut_frm]; simp; omega)) (by rw [cut_to, cut_frm, hwor, ← List.map_take, ← List.map_drop]; simp)) fun H11 v11 s11 E11 => ?_
  have Z11 := (Z10.same s11).le (m := i * 200 + 150) (by omega)
  clear E10 Z10 s11
  let Γ (x12 x13 x14 x15 x16 x17 x18 : Sv) : List Sv := [.un, .val (.ref st), .val (.int (0 + (i : Int))), .dat (wsD nms), .dat (.list (as.map wsD)), .dat (.int (at0 : Int)), .dat (.int (to0 : Int)), .un, .dat (.list bad), .dat (.list tw), .un, .dat (.list wor), x12, x13, x14, x15, x16, x17, x18]
  have E11 : EnvOk X H11 _ (Γ .un .un .un .un .un .un .un) := envUn' (envUn' E11 7) 10
  generalize hσ : (List.set _ 11 _ : L2.St) = σ11 at E11 ⊢
  clear hσ
  -- what is so of them
  have okc : ("suspects" : Str) = "suspects" := rfl
  have stS : PyData.strOk ("suspects" : Str) = true := by decide +kernel
  have stA : PyData.strOk ("askings" : Str) = true := by decide +kernel
  have c1m : (C1, ("index" : Str), ("suspects" : Str)) ∈ csOf C1 C2 C3 C4 C5 := by simp [csOf]
  have c2m : (C2, ("index" : Str), ("askings" : Str)) ∈ csOf C1 C2 C3 C4 C5 := by simp [csOf]
  have c3m : (C3, ("thing" : Str), ("lies" : Str)) ∈ csOf C1 C2 C3 C4 C5 := by simp [csOf]
  have c4m : (C4, ("index" : Str), ("answers" : Str)) ∈ csOf C1 C2 C3 C4 C5 := by simp [csOf]
  have c5m : (C5, ("thing" : Str), ("many" : Str)) ∈ csOf C1 C2 C3 C4 C5 := by simp [csOf]
  have shN : namePre (PyData.none) ∧ Shp PyData.none := ⟨fun s e => (by cases e), rfl, rfl, by simp [PyData.depth]⟩
  have bad_pre : susPre (.list bad) := by
    refine sus_pre (by rw [hbad]; simp; omega) fun z hz => ?_
    rw [hbad] at hz
    rcases List.mem_append.mp hz with hz | hz
    · exact good_names (fun s hs => Sn.ok s (List.mem_of_mem_take hs)) z hz
    rcases List.mem_cons.mp hz with rfl | hz
    · have := oddN_ok _ hd7
      exact ⟨name_pre this.1, this.2⟩
    rcases List.mem_cons.mp hz with rfl | hz
    · exact shN
    · exact good_names (fun s hs => Sn.ok s (List.mem_of_mem_drop hs)) z hz
  have tw_pre : susPre (.list tw) := by
    refine sus_pre (by rw [htw]; simp; omega) fun z hz => ?_
    rw [htw] at hz
    rcases List.mem_append.mp hz with hz | hz
    · exact good_names Sn.ok z hz
    rcases List.mem_cons.mp hz with rfl | hz
    · exact good_names Sn.ok _ (List.mem_map.mpr ⟨n0, List.mem_of_getElem? hn0, rfl⟩)
    · rw [List.mem_singleton.mp hz]
      exact ⟨fun s e => (by cases e), rfl, rfl, by simp [PyData.depth]⟩
  have nm_pre : susPre (wsD nms) := sus_pre (by rw [lns]; omega) (good_names Sn.ok)
  have as_few : ∀ a ∈ as, a.length ≤ 1000 := fun a ha => by have := nodup_le (Sa.nd a ha) (Sa.ok a ha); omega
  have wor_pre : askPre (.list wor) := fun _ _ => ⟨by rw [hwor]; simp [itemsD]; omega, fun z hz => by
    rw [hwor] at hz
    rcases List.mem_append.mp hz with hz | hz
    · obtain ⟨a, ha, rfl⟩ := List.mem_map.mp hz
      exact ws_namesPre (Sa.ok a (List.mem_of_mem_take ha)) (as_few a (List.mem_of_mem_take ha))
    rcases List.mem_cons.mp hz with rfl | hz
    · exact oddR_ok _ hd10
    rcases List.mem_cons.mp hz with rfl | hz
    · exact fun h => by cases h
    · obtain ⟨a, ha, rfl⟩ := List.mem_map.mp hz
      exact ws_namesPre (Sa.ok a (List.mem_of_mem_drop ha)) (as_few a (List.mem_of_mem_drop ha))⟩
  have as_pre : askPre (.list (as.map wsD)) := fun _ _ => ⟨by show (as.map wsD).length ≤ _; rw [las]; omega, fun z hz => by
    obtain ⟨a, ha, rfl⟩ := List.mem_map.mp hz
    exact ws_namesPre (Sa.ok a ha) (as_few a ha)⟩
  have bad_so : someD (.list bad) = true := some_list (by rw [hbad, List.length_append, List.length_cons]; omega)
  have tw_so : someD (.list tw) = true := some_list (by rw [htw, List.length_append, List.length_cons]; omega)
  have nm_so : someD (wsD nms) = true := some_list (by rw [lns]; exact posn)
  have wor_so : someD (.list wor) = true := some_list (by rw [hwor, List.length_append, List.length_cons]; omega)
  have as_so : someD (.list (as.map wsD)) = true := some_list (by rw [las]; exact posa)
  have bad_i : susI (.list bad) = .int (at0 : Int) := by
    have := sus_bad (ns := nms.take at0) (d := d7) (rest := .none :: (nms.drop at0).map PyData.str) (Sn.nd.sublist (List.take_sublist _ _)) (fun s hs => okn s (List.mem_of_mem_take hs)) (.inl (oddN_no _ hd7))
    rw [List.length_take, Nat.min_eq_left hat] at this
    rw [hbad]
    exact this
  have tw_i : susI (.list tw) = .int (nms.length : Int) := by
    rw [htw]
    exact sus_bad Sn.nd okn (.inr ⟨n0, List.mem_of_getElem? hn0, rfl⟩)
  have nm_i : susI (wsD nms) = .none := sus_good Sn.nd okn
  have wor_i : askI (.list wor) = .int (to0 : Int) := by
    have := ask_bad (as := as.take to0) (d := d10) (rest := .none :: (as.drop to0).map wsD) (fun a ha => oka a (List.mem_of_mem_take ha)) (oddR_no _ hd10)
    rw [List.length_take, Nat.min_eq_left hto] at this
    rw [hwor]
    exact this
  have as_i : askI (.list (as.map wsD)) = .none := ask_good oka
  clear hbad htw hwor
  have v5 : ∀ {H' : Hp} {σ' : L2.St} {x12 x13 x14 x15 x16 x17 x18 : Sv}, EnvOk X H' σ' (Γ x12 x13 x14 x15 x16 x17 x18) → G X (tVar 5) σ' H' (.int (at0 : Int)) := fun E => g_var E rfl
  have v6 : ∀ {H' : Hp} {σ' : L2.St} {x12 x13 x14 x15 x16 x17 x18 : Sv}, EnvOk X H' σ' (Γ x12 x13 x14 x15 x16 x17 x18) → G X (tVar 6) σ' H' (.int (to0 : Int)) := fun E => g_var E rfl
  -- bad suspects
  refine k_ifT (c_all Z11 E11 (ga_cons (g_var (i := 8) (d := .list bad) E11 rfl) (ga_cons (g_var (i := 11) (d := .list wor) E11 rfl) (ga_cons g_int (ga_cons g_non ga_nil)))) ⟨bad_pre, wor_pre⟩ (chk2 bad_so bad_i) c1m (fun H' t' E' => g_sev (i := 0) t' (v5 E')) (sev_int _ stS) (int_self _) fun H12 Z12 E12 e12 => ?_)
  rw [if_neg (by simp)]
  -- one twice
  refine k_ifT (c_all Z12 E12 (ga_cons (g_var (i := 9) (d := .list tw) E12 rfl) (ga_cons g_int (ga_cons g_int (ga_cons g_non ga_nil)))) ⟨tw_pre, none_askPre rfl⟩ (chk2 tw_so tw_i) c1m (fun H' t' E' => g_sev (i := 0) t' (ln t' E' rfl)) (sev_int _ stS) (int_self _) fun H13 Z13 E13 e13 => ?_)
  rw [if_neg (by simp)]
  clear Z11 E11 Z12 E12 e12 e13
  -- none at all
  refine k_forTQ ((show G X _ _ H13 (.tuple nones) from g_tup Z13.sg.t (ga_cons g_non (ga_cons g_int (ga_cons g_str (ga_cons (g_lst Z13.sg.t ga_nil (by simp)) (ga_cons (g_tup Z13.sg.t ga_nil (by simp)) (ga_cons (g_dict Z13.sg.t) ga_nil)))))) (by simp [nones])) H13 (Same.refl _) _ fun v14 H14 s14 r14 => ?_)
  obtain ⟨p14, us14, rfl, np14, hp14, rus14⟩ := r14.tup_inv
  have Z14 := Z13.same s14
  have E14 := E13.same s14
  refine forT_it (Pv := fun j σ' H' => Zt X st cl (i * 200 + 150) Tb H' ∧ EnvOk X H' σ' (Γ .un .un .un .un .un .un .un) ∧ H' p14 = some (.tup us14) ∧ DXs X H' us14 nones) hp14 ⟨Z14, E14, hp14, rus14⟩ (fun j σ' H' p => p.2.2.1) (fun j x σ' H' hx p => ?_) (fun σ15 H15 p => ?_)
  · obtain ⟨p1, p2, p3, p4⟩ := p
    obtain ⟨d, hd, dx⟩ := p4.getV hx
    have hd := List.mem_of_getElem? hd
    refine k_name ?_
    have E15 : EnvOk X H' _ (Γ (.dat d) .un .un .un .un .un .un) := p2.set (i := 12) dx
    refine k_ifT (c_all p1 E15 (ga_cons (g_var (i := 12) (d := d) E15 rfl) (ga_cons (g_lst p1.sg.t ga_nil (by simp)) (ga_cons g_non (ga_cons g_non ga_nil)))) ⟨none_susPre (none_no d hd), none_askPre rfl⟩ (chk1 (none_no d hd)) c1m (fun H' t' E' => g_sev (i := 0) t' g_int) (sev_int _ stS) (int_self _) fun H16 Z16 E16 e16 => ?_)
    rw [if_neg (by simp)]
    refine k_ifL (c_all Z16 E16 (ga_cons (g_var (i := 3) (d := wsD nms) E16 rfl) (ga_cons (g_var (i := 12) (d := d) E16 rfl) (ga_cons g_non (ga_cons g_non ga_nil)))) ⟨nm_pre, none_askPre (none_no d hd)⟩ (chk3 nm_so nm_i (none_no d hd)) c2m (fun H' t' E' => g_sev (i := 0) t' g_int) (sev_int _ stA) (int_self _) fun H17 Z17 E17 e17 => ?_)
    rw [if_neg (by simp)]
    have ee := ExtN.trans e16 e17
    exact ⟨Z17, envUn' E17 12, ee _ _ p3 (fun _ z => by cases z), DXs.kq (Kq.ext (X := X) ee) p4⟩
  obtain ⟨Z15, E15, _, _⟩ := p
  clear Z13 E13 s14 hp14 rus14 Z14 E14 r14
  -- bad askings
  refine k_ifT (c_all Z15 E15 (ga_cons (g_var (i := 3) (d := wsD nms) E15 rfl) (ga_cons (g_var (i := 11) (d := .list wor) E15 rfl) (ga_cons g_int (ga_cons g_non ga_nil)))) ⟨nm_pre, wor_pre⟩ (chk4' nm_so nm_i wor_so wor_i) c2m (fun H' t' E' => g_sev (i := 0) t' (v6 E')) (sev_int _ stA) (int_self _) fun H16 Z16 E16 e16 => ?_)
  rw [if_neg (by simp)]
  clear Z15 E15 e16
  -- never_parted
  refine q_two (i := 13) Z16 E16 (by show 13 < 19; omega) (Ca := C1) (f1 := "index") (r1 := .int (at0 : Int)) ?_ c1m (Cb := C2) (f2 := "index") (r2 := .int (to0 : Int)) ?_ c2m fun F H17 Z17 E17 e17 => ?_
  · exact fun H' E' Q' t' E1 k' => c_err (ds := [.list bad, .list wor]) t' (ga_cons (g_var (i := 8) (d := .list bad) E1 rfl) (ga_cons (g_var (i := 11) (d := .list wor) E1 rfl) ga_nil)) rfl ⟨⟨bad_pre, wor_pre⟩, _, _, _, chk2 bad_so bad_i⟩ (chk2 bad_so bad_i) k'
  · exact fun F H' E' Q' t' E1 k' => c_err (ds := [wsD nms, .list wor]) t' (ga_cons (g_var (i := 3) (d := wsD nms) E1 rfl) (ga_cons (g_var (i := 11) (d := .list wor) E1 rfl) ga_nil)) rfl ⟨⟨nm_pre, wor_pre⟩, _, _, _, chk4' nm_so nm_i wor_so wor_i⟩ (chk4' nm_so nm_i wor_so wor_i) k'
  have E17 : EnvOk X H17 _ (Γ .un (.dat (.list [.tuple [.str "suspects", .int (at0 : Int)], .tuple [.str "askings", .int (to0 : Int)]])) .un .un .un .un .un) := E17
  have ok2 := twoI_ok (a := "suspects") (b := "askings") (at0 : Int) (to0 : Int) stS stA
  refine q_if (b := false) (gt_is (gt_neD (K := K) Z17.sg.t (g_var (i := 13) E17 rfl) (g_lst Z17.sg.t (ga_cons (g_tup Z17.sg.t (ga_cons g_str (ga_cons (v5 E17) ga_nil)) (by simp)) (ga_cons (g_tup Z17.sg.t (ga_cons g_str (ga_cons (v6 E17) ga_nil)) (by simp)) ga_nil)) (by simp)) ok2.1 ok2.1 ok2.2 ok2.2) (by rw [twoI_self]; rfl)) (fun h => by cases h) fun _ H18 s18 => ?_
  have Z18 := Z17.same s18
  have E18 : EnvOk X H18 _ (Γ .un .un .un .un .un .un .un) := envUn' (E17.same s18) 13
  clear Z16 E16 Z17 E17 e17 s18
  generalize hσ : (List.set _ 13 _ : L2.St) = σ18 at E18 ⊢
  clear hσ
  -- lies
  refine k_forTQ ((show G X _ _ H18 (.tuple oddsL) from g_tup Z18.sg.t (ga_cons g_non (ga_cons g_int (ga_cons g_neg1 (ga_cons g_bl (ga_cons g_bl (ga_cons g_str (ga_cons (g_lst Z18.sg.t (ga_cons g_int ga_nil) (by simp)) ga_nil))))))) (by simp [oddsL])) H18 (Same.refl _) _ fun v19 H19 s19 r19 => ?_)
  obtain ⟨p19, us19, rfl, np19, hp19, rus19⟩ := r19.tup_inv
  have Z19 := Z18.same s19
  have E19 := E18.same s19
  refine forT_it (Pv := fun j σ' H' => Zt X st cl (i * 200 + 150) Tb H' ∧ EnvOk X H' σ' (Γ .un .un .un .un .un .un .un) ∧ H' p19 = some (.tup us19) ∧ DXs X H' us19 oddsL) hp19 ⟨Z19, E19, hp19, rus19⟩ (fun j σ' H' p => p.2.2.1) (fun j x σ' H' hx p => ?_) (fun σ20 H20 p => ?_)
  · obtain ⟨p1, p2, p3, p4⟩ := p
    obtain ⟨d, hd, dx⟩ := p4.getV hx
    have hd := List.mem_of_getElem? hd
    refine k_name ?_
    have E20 : EnvOk X H' _ (Γ .un .un (.dat d) .un .un .un .un) := p2.set (i := 14) dx
    obtain ⟨q1, q2, q3⟩ := repL d hd
    refine k_ifL (c_allR p1 E20 (ga_cons (g_var (i := 3) (d := wsD nms) E20 rfl) (ga_cons (g_var (i := 4) (d := .list (as.map wsD)) E20 rfl) (ga_cons (g_var (i := 14) (d := d) E20 rfl) (ga_cons g_non ga_nil)))) ⟨nm_pre, as_pre⟩ (chk5 nm_so nm_i as_so as_i (oddL_no d hd)) c3m (fun H' t' E' => g_sev (i := 0) t' (g_var (i := 14) (d := d) E' rfl)) q1 q2 q3 fun H21 Z21 E21 e21 => ?_)
    rw [if_neg (by simp)]
    exact ⟨Z21, envUn' E21 14, e21 _ _ p3 (fun _ z => by cases z), DXs.kq (Kq.ext (X := X) e21) p4⟩
  obtain ⟨Z20, E20, _, _⟩ := p
  clear Z18 E18 s19 hp19 rus19 Z19 E19 r19
  -- odds, good, index
  refine q_set (i := 15) (d := .list (oddsA as.length)) E20 (g_lst Z20.sg.t (ga_cons g_non (ga_cons (g_tup Z20.sg.t (ga_cons g_int ga_nil) (by simp)) (ga_cons (g_tup Z20.sg.t (ga_cons g_int (ga_cons g_int ga_nil)) (by simp)) (ga_cons (g_tup Z20.sg.t (ga_cons (ls Z20.sg.t E20 rfl) (ga_cons g_bl ga_nil)) (by simp)) (ga_cons (g_tup Z20.sg.t (ga_cons g_neg1 (ga_cons g_bl ga_nil)) (by simp)) (ga_cons (g_tup Z20.sg.t (ga_cons g_bl (ga_cons g_bl ga_nil)) (by simp)) (ga_cons (g_tup Z20.sg.t (ga_cons g_str (ga_cons g_bl ga_nil)) (by simp)) ga_nil))))))) (by simp [oddsA])) fun H21 v21 s21 E21 => ?_
  have Z21 := Z20.same s21
  refine k_asg (k_tup (k_cons ((show G X _ _ H21 (.list [.tuple [.int 0, .bool true]]) from g_lst Z21.sg.t (ga_cons (g_tup Z21.sg.t (ga_cons g_int (ga_cons g_bl ga_nil)) (by simp)) ga_nil) (by simp)) H21 (Same.refl _) _ fun v16 H22 s22 r16 => k_cons (c_pick (ds := oddsA as.length) (Z21.same s22).sg (gv_var (i := 1) (E21.same s22) rfl) (g_var (i := 15) (d := .list (oddsA as.length)) (E21.same s22) rfl) (by omega) (by simp [oddsA]) (by simp [oddsA]) fun v17 d17 H23 hd17 S23 k23 r17 => k_nil ⟨by show 2 ≤ sizeLine; decide, fun y hy => ⟨y, _, rfl, SqT.of upd_same, rfl, _, _, rfl, _, _, rfl, rfl, ?_⟩⟩))))
  have s24 : Same H23 (upd H23 y (.tup [v16, v17])) := Same.upd hy
  have Z24 := (((Z21.same s22).draw S23 k23).same s24).le (m := i * 200 + 160) (by omega)
  have E24 : EnvOk X _ _ (Γ .un .un .un .un (.dat (.list [.tuple [.int 0, .bool true]])) (.dat d17) .un) := envUn' (((((E21.same s22).kps (Z21.same s22).sg k23).same s24).set (i := 16) ((r16.mono ((Z21.same s22).sg.kp k23)).mono (Kp.of s24))).set (i := 17) (r17.mono (Kp.of s24))) 15
  generalize upd H23 y (.tup [v16, v17]) = H24 at *
  generalize hσ : (List.set _ 17 _ : L2.St) = σ24 at E24 ⊢
  clear hσ Z20 E20 s21 E21 Z21 r16 s22 S23 k23 r17 s24 hy
  -- answers
  have lie0 : lieOk (.int 0) = true := by decide +kernel
  have lie1 : lieOk (.int 1) = true := by decide +kernel
  have stN : PyData.strOk ("answers" : Str) = true := by decide +kernel
  have chkL : ∀ {l : PyData}, lieOk l = true → chkA C1 C2 C3 (wsD nms) (.list (as.map wsD)) l = .val .none := fun h => chk6 nm_so nm_i as_so as_i h
  have st1 : stOut C4 (.list (as.map wsD)) (.list [.tuple [.int 0, .bool true], d17, .none]) = .err C4 "index" (.int 1) := by
    have := odd_ans (as := as.map wsD) (by rw [las]; exact posa) (by rw [las]; exact hd17)
    unfold stOut
    rw [if_neg (by simp [isSeq]), this]
  have pre1 : stPre (.list (as.map wsD)) (.list [.tuple [.int 0, .bool true], d17, .none]) := ⟨rfl, fun _ => ⟨by simp [itemsD], by rw [odd_ans (as := as.map wsD) (by rw [las]; exact posa) (by rw [las]; exact hd17)]; rfl⟩⟩
  have st2 : stOut C4 (.list (as.map wsD)) (.int 5) = .err C4 "index" (.int 0) := by
    unfold stOut
    rw [if_pos (by rfl)]
  have pre2 : stPre (.list (as.map wsD)) (.int 5) := ⟨rfl, fun h => by cases h⟩
  have pm1 : pmOut C1 C2 C3 C4 [wsD nms, .list (as.map wsD), .list [.tuple [.int 0, .bool true], d17, .none], .int 0] = .err C4 "index" (.int 1) := by
    unfold pmOut chk4
    rw [show chkA C1 C2 C3 (at_ [wsD nms, .list (as.map wsD), .list [.tuple [.int 0, .bool true], d17, .none], .int 0] 0) (at_ [wsD nms, .list (as.map wsD), .list [.tuple [.int 0, .bool true], d17, .none], .int 0] 1) (at_ [wsD nms, .list (as.map wsD), .list [.tuple [.int 0, .bool true], d17, .none], .int 0] 3) = .val .none from chkL lie0]
    exact st1
  have pm2 : pmOut C1 C2 C3 C4 [wsD nms, .list (as.map wsD), .int 5, .int 1] = .err C4 "index" (.int 0) := by
    unfold pmOut chk4
    rw [show chkA C1 C2 C3 (at_ [wsD nms, .list (as.map wsD), .int 5, .int 1] 0) (at_ [wsD nms, .list (as.map wsD), .int 5, .int 1] 1) (at_ [wsD nms, .list (as.map wsD), .int 5, .int 1] 3) = .val .none from chkL lie1]
    exact st2
  refine k_forTQ (k_tup (k_cons (k_c (k_cons (k_c (k_nil ⟨by show 2 ≤ sizeLine; decide, fun p25 hp25 => ?_⟩))))))
  have s25 : Same H24 (upd H24 p25 (.tup [.ref F_possible_ones, .ref F_ask_next])) := Same.upd hp25
  have h25 : upd H24 p25 (.tup [.ref F_possible_ones, .ref F_ask_next]) p25 = some (.tup [.ref F_possible_ones, .ref F_ask_next]) := upd_same
  have Z25 := Z24.same s25
  have E25 := E24.same s25
  generalize upd H24 p25 (.tup [.ref F_possible_ones, .ref F_ask_next]) = H25 at *
  refine forT_it (Pv := fun j σ' H' => Zt X st cl (i * 200 + 160) Tb H' ∧ EnvOk X H' σ' (Γ .un .un .un .un (.dat (.list [.tuple [.int 0, .bool true]])) (.dat d17) .un) ∧ H' p25 = some (.tup [.ref F_possible_ones, .ref F_ask_next])) h25 ⟨Z25, E25, h25⟩ (fun j σ' H' p => p.2.2) (fun j x σ' H' hx p => ?_) (fun σ26 H26 p => ?_)
  · obtain ⟨p1, p2, p3⟩ := p
    obtain ⟨fa, rfl, hfa⟩ : ∃ fa, x = .ref fa ∧ (fa = F_possible_ones ∨ fa = F_ask_next) := by
      have := List.mem_of_getElem? hx
      rcases List.mem_cons.mp this with rfl | this
      · exact ⟨_, rfl, .inl rfl⟩
      · rw [List.mem_singleton.mp this]
        exact ⟨_, rfl, .inr rfl⟩
    refine k_name ?_
    have E26 : EnvOk X H' _ (Γ .un .un .un .un (.dat (.list [.tuple [.int 0, .bool true]])) (.dat d17) (.val (.ref fa))) := p2.setV (i := 18) (v := .ref fa)
    refine q_two (i := 13) p1 E26 (by show 13 < 19; omega) (Ca := C4) (f1 := "index") (r1 := .int 1) ?_ c4m (Cb := C4) (f2 := "index") (r2 := .int 0) ?_ c4m fun F H27 Z27 E27 e27 => ?_
    · refine fun H' E' Q' t' E1 k' => ⟨fa, [.int 0], _, E1.get 18 _ rfl, ⟨hfa, .inl rfl, rfl⟩, ?_⟩
      refine (ga_cons (g_var (i := 3) (d := wsD nms) E1 rfl) (ga_cons (g_var (i := 4) (d := .list (as.map wsD)) E1 rfl) (ga_cons (g_cat (xs := [.tuple [.int 0, .bool true]]) (ys := [d17, .none]) t' (g_var (i := 16) E1 rfl) (g_lst t' (ga_cons (g_var (i := 17) (d := d17) E1 rfl) (ga_cons g_non ga_nil)) (by simp)) (by simp)) ga_nil))) H' (Same.refl _) _ fun vs H2 s2 rs => ?_
      exact ⟨_, _, by rw [List.length_append, rs.length]; rfl, t'.mono s2, rs.append (.cons (.int 0) .nil), ⟨⟨nm_pre, as_pre⟩, fun r' _ => pre1⟩, endE pm1 fun a w H3 s3 ea dv => k' a w H3 (s2.trans s3) ea dv⟩
    · refine fun F H' E' Q' t' E1 k' => ⟨fa, [], _, E1.get 18 _ rfl, ⟨hfa, .inr rfl, rfl⟩, ?_⟩
      refine (ga_cons (g_var (i := 3) (d := wsD nms) E1 rfl) (ga_cons (g_var (i := 4) (d := .list (as.map wsD)) E1 rfl) (ga_cons g_int (ga_cons g_int ga_nil)))) H' (Same.refl _) _ fun vs H2 s2 rs => ?_
      exact ⟨_, [wsD nms, .list (as.map wsD), .int 5, .int 1], by rw [List.append_nil, rs.length]; rfl, t'.mono s2, by rw [List.append_nil]; exact rs, ⟨⟨nm_pre, as_pre⟩, fun r' _ => pre2⟩, endE pm2 fun a w H3 s3 ea dv => k' a w H3 (s2.trans s3) ea dv⟩
    have E27 : EnvOk X H27 _ (Γ .un (.dat (.list [.tuple [.str "answers", .int 1], .tuple [.str "answers", .int 0]])) .un .un (.dat (.list [.tuple [.int 0, .bool true]])) (.dat d17) (.val (.ref fa))) := E27
    have ok2 := twoI_ok (a := "answers") (b := "answers") 1 0 stN stN
    refine s_if (b := false) (gt_is (gt_neD (K := K) Z27.sg.t (g_var (i := 13) E27 rfl) (g_lst Z27.sg.t (ga_cons (g_tup Z27.sg.t (ga_cons g_str (ga_cons g_int ga_nil)) (by simp)) (ga_cons (g_tup Z27.sg.t (ga_cons g_str (ga_cons g_int ga_nil)) (by simp)) ga_nil)) (by simp)) ok2.1 ok2.1 ok2.2 ok2.2) (by rw [twoI_self]; rfl)) (fun h => by cases h) fun _ H28 s28 => ?_
    exact ⟨Z27.same s28, envUn' (envUn' (E27.same s28) 13) 18, s28 _ _ (e27 _ _ p3 fun _ z => by cases z)⟩
  obtain ⟨Z26, E26, _⟩ := p
  clear Z24 E24 s25 h25 Z25 E25 hp25
  -- many
  refine k_forT ((show G X _ _ H26 (.tuple oddsM) from g_tup Z26.sg.t (ga_cons g_non (ga_cons g_neg1 (ga_cons g_bl (ga_cons g_str (ga_cons (g_lst Z26.sg.t (ga_cons g_int ga_nil) (by simp)) ga_nil))))) (by simp [oddsM])) H26 (Same.refl _) _ fun v29 H29 s29 r29 => ?_)
  obtain ⟨p29, us29, rfl, np29, hp29, rus29⟩ := r29.tup_inv
  have Z29 := Z26.same s29
  have E29 : EnvOk X H29 _ (Γ .un .un .un .un .un .un .un) := envUn' (envUn' (E26.same s29) 16) 17
  refine forT_it (Pv := fun j σ' H' => Zt X st cl (i * 200 + 160) Tb H' ∧ EnvOk X H' σ' (Γ .un .un .un .un .un .un .un) ∧ H' p29 = some (.tup us29) ∧ DXs X H' us29 oddsM) hp29 ⟨Z29, E29, hp29, rus29⟩ (fun j σ' H' p => p.2.2.1) (fun j x σ' H' hx p => ?_) (fun σ30 H30 p => ?_)
  rotate_left
  · obtain ⟨p1, p2, _, _⟩ := p
    exact ⟨p1.le (by omega), envUn' (envUn' (envUn' (envUn' (envUn' (envUn' (envUn' (envUn' p2 2) 3) 4) 5) 6) 8) 9) 11⟩
  obtain ⟨p1, p2, p3, p4⟩ := p
  obtain ⟨d, hd, dx⟩ := p4.getV hx
  have hd := List.mem_of_getElem? hd
  refine k_name ?_
  have E30 : EnvOk X H' _ ((Γ .un .un .un .un .un .un .un).set 7 (.dat d)) := p2.set (i := 7) dx
  obtain ⟨q1, q2, q3⟩ := repM d hd
  have mn1 : manyOut C1 C2 C3 C5 [wsD nms, .list (as.map wsD), d, .int 0] 3 = .err C5 "thing" d := by
    unfold manyOut chk4
    rw [show chkA C1 C2 C3 (at_ [wsD nms, .list (as.map wsD), d, .int 0] 0) (at_ [wsD nms, .list (as.map wsD), d, .int 0] 1) (at_ [wsD nms, .list (as.map wsD), d, .int 0] 3) = .val .none from chkL lie0]
    show (if isNumD d = false then _ else _) = _
    rw [if_pos (oddM_no d hd)]
    rfl
  have mn2 : manyOut C1 C2 C3 C5 [wsD nms, .list (as.map wsD), d, .none, .int 0] 4 = .err C5 "thing" d := by
    unfold manyOut chk4
    rw [show chkA C1 C2 C3 (at_ [wsD nms, .list (as.map wsD), d, .none, .int 0] 0) (at_ [wsD nms, .list (as.map wsD), d, .none, .int 0] 1) (at_ [wsD nms, .list (as.map wsD), d, .none, .int 0] 4) = .val .none from chkL lie0]
    show (if isNumD d = false then _ else _) = _
    rw [if_pos (oddM_no d hd)]
    rfl
  refine q_two (i := 13) p1 E30 (by show 13 < 19; omega) (Ca := C5) (f1 := "thing") (r1 := d) ?_ c5m (Cb := C5) (f2 := "thing") (r2 := d) ?_ c5m fun F H31 Z31 E31 e31 => ?_
  · exact fun H' E' Q' t' E1 k' => c_errD (ds := [wsD nms, .list (as.map wsD), d]) t' (ga_cons (g_var (i := 3) (d := wsD nms) E1 rfl) (ga_cons (g_var (i := 4) (d := .list (as.map wsD)) E1 rfl) (ga_cons (g_var (i := 7) (d := d) E1 rfl) ga_nil))) rfl ⟨⟨nm_pre, as_pre⟩, _, _, _, mn1⟩ mn1 k'
  · exact fun F H' E' Q' t' E1 k' => c_errD (ds := [wsD nms, .list (as.map wsD), d, .none]) t' (ga_cons (g_var (i := 3) (d := wsD nms) E1 rfl) (ga_cons (g_var (i := 4) (d := .list (as.map wsD)) E1 rfl) (ga_cons (g_var (i := 7) (d := d) E1 rfl) (ga_cons g_non ga_nil)))) rfl ⟨⟨nm_pre, as_pre⟩, _, _, _, mn2⟩ mn2 k'
  have E31 : EnvOk X H31 _ (((Γ .un .un .un .un .un .un .un).set 7 (.dat d)).set 13 (.dat (.list (List.replicate 2 (.tuple [.str "many", d]))))) := E31
  have t31 := Z31.sg.t
  have gm : G X (tOp rMulA (tLst (tCons (tTup (tCons (tC (.str "many")) (tCons (tVar 7) tNil))) tNil)) (tC (.int 2))) _ H31 (.list (List.replicate 2 (.tuple [.str "many", d]))) := g_is (g_op t31 (g_lst t31 (ga_cons (g_tup t31 (ga_cons g_str (ga_cons (g_var (i := 7) (d := d) E31 rfl) ga_nil)) (by simp)) ga_nil) (by simp)) g_int (RD.or2 (rd_rep (k := 2) (by omega) (by omega) (by simp)))) rfl
  have nn : List.replicate 2 (PyData.tuple [.str "many", d]) ≠ [] := by simp
  refine s_if (b := false) (gt_is (gt_neS (g_reprL (g_var (i := 13) E31 rfl) nn q1 q2 q3) (g_reprL gm nn q1 q2 q3)) (by simp)) (fun h => by cases h) fun _ H32 s32 => ?_
  exact ⟨Z31.same s32, envUn' (envUn' (E31.same s32) 13) 7, s32 _ _ (e31 _ _ p3 fun _ z => by cases z), (DXs.kq (Kq.ext (X := X) e31) p4).mono (Kp.of s32)⟩
end
end K82

/-! What the top has written; the law's own head. -/
namespace K82
open PySem PySem.Spec PyProof.Rows L2 KD LamX
def inC : Stmt → Stmt
  | .ClassDef _ _ _ b _ _ _ _ _ _ _ => b.getD 0 (.Pass ⟨0, 0, 0, 0⟩)
  | s => s
/-- a def of the text -/
def DefA (K : PySem.W.Frag) (x : Str) (st : Stmt) : Prop := ∃ (f : Addr) (fd : FuncData), PySem.W.nsIn K mainGlobals x = some (some (.ref f)) ∧ PySem.W.keepIn K (.ref f) = true ∧ Fun K x x st f fd
theorem da {K : PySem.W.Frag} {x : Str} {st : Stmt} {f : Addr} {oc kV dc pm cd ct : Value} {od an : Option Addr} {sl : Array (Option Value)} (a : PySem.W.nsIn K mainGlobals x = some (some (.ref f)))
    (l : K.lookup f = some ⟨oc, od, .func (PySem.W.fnOf x x (defArgs st) (defBody st) (defScope st) .none kV dc pm an cd ct), sl⟩) (c : PySem.W.codeIn K cd x = true) (k : PySem.W.keepIn K (.ref f) = true) : DefA K x st := ⟨f, _, a, k, fun_mk l c k⟩
/-- a class of errors of the text -/
structure ClsA (K : PySem.W.Frag) (x qual f : Str) (st : Stmt) (C : Addr) : Prop where
  a : PySem.W.nsIn K mainGlobals x = some (some (.ref C))
  T : OexC K C
  xf : XfC K C
  no : PySem.W.findIn K (.ref C) f = some none
  ini : ∃ (fI : Addr) (fd : FuncData), PySem.W.findIn K (.ref C) "__init__" = some (some (.ref fI)) ∧ PySem.W.typeIn K (.ref fI) = some (.type "function") ∧ Fun K "__init__" qual (inC st) fI fd
theorem ca {K : PySem.W.Frag} {x qual f : Str} {st : Stmt} {C f1 N : Addr} {nm q : Str} {bs bm : List Value} {sn : List Str} {sub : List Value} {ab : Bool} {col : Option Bool} {dd : Option Addr} {m0 m1 m2 m3 m5 : Option Value} {oc kV dc pm cd ct : Value} {od an : Option Addr} {sl : Array (Option Value)}
    (a : PySem.W.nsIn K mainGlobals x = some (some (.ref C))) (xL : K.lookup C = some (excClassObj nm q C N bs bm true sn sub ab col dd m0 m1 m2 m3 m5 "ValueError.__new__")) (rv : PySem.HandSPX.refsVE bm = true)
    (sa : PySem.W.findIn K (.ref C) "__setattr__" = some (some (.builtin "object.__setattr__"))) (ga : PySem.W.findIn K (.ref C) "__getattribute__" = some (some (.builtin "BaseException.__getattribute__"))) (gg : PySem.W.findIn K (.ref C) "__getattr__" = some none)
    (no : PySem.W.findIn K (.ref C) f = some none) (a1 : PySem.W.findIn K (.ref C) "__init__" = some (some (.ref f1))) (t1 : PySem.W.typeIn K (.ref f1) = some (.type "function"))
    (l1 : K.lookup f1 = some ⟨oc, od, .func (PySem.W.fnOf "__init__" qual (defArgs (inC st)) (defBody (inC st)) (defScope (inC st)) .none kV dc pm an cd ct), sl⟩) (c1 : PySem.W.codeIn K cd qual = true) (k1 : PySem.W.keepIn K (.ref f1) = true)
    (kC : PySem.W.keepIn K (.ref C) = true) (eC : PySem.W.subIn K (.ref C) (.type "BaseException") = some true) (tC : PySem.W.typeIn K (.ref C) = some (.type "type")) (hC : PySem.W.hasDictIn K C = true) : ClsA K x qual f st C :=
  ⟨a, ⟨⟨nm, q, N, bs, bm, sn, sub, ab, col, dd, m0, m1, m2, m3, m5, xL, rv⟩, sa, eC, tC, kC⟩, ⟨ga, gg, eC, hC⟩, no, ⟨f1, _, a1, t1, fun_mk l1 c1 k1⟩⟩
theorem exm_of {K : PySem.W.Frag} {A B : Addr} {b : Bool} (h1 : PySem.W.subIn K (.ref B) (.type "BaseException") = some true) (h2 : PySem.W.isClsIn K B = true) (h3 : PySem.W.typeIn K (.ref B) = some (.type "type")) (h4 : PySem.W.subIn K (.ref A) (.ref B) = some b) : PySem.W.exmOne K (.ref A) (.ref B) = some b := by
  have i : (PySem.W.clsIn K B).isSome = true := h2
  show (if (PySem.W.subIn K (.ref B) (.type "BaseException") == some true) = true then (if ((PySem.W.clsIn K B).isSome && PySem.W.typeIn K (.ref B) == some (.type "type")) = true then PySem.W.subIn K (.ref A) (.ref B) else none) else none) = some b
  rw [h1, i, h3, if_pos (by rfl), if_pos (by rfl), h4]
/-- a def with a default -/
def DefD (K : PySem.W.Frag) (x : Str) (st : Stmt) (d : Int) : Prop := ∃ (f : Addr) (fd : FuncData), PySem.W.nsIn K mainGlobals x = some (some (.ref f)) ∧ FunD K x x (defArgs st) (defBody st) (defScope st) [.int d] [] f fd
theorem dd {K : PySem.W.Frag} {x : Str} {st : Stmt} {d : Int} {f D : Addr} {oc kV dc pm cd ct tc : Value} {od an td : Option Addr} {sl ts : Array (Option Value)} {n : Nat} {t : Tok} (a : PySem.W.nsIn K mainGlobals x = some (some (.ref f)))
    (l : K.lookup f = some ⟨oc, od, .func (PySem.W.fnOf x x (defArgs st) (defBody st) (defScope st) (.ref D) kV dc pm an cd ct), sl⟩) (c : PySem.W.codeIn K cd x = true) (k : PySem.W.keepIn K (.ref f) = true) (e : K.lookup D = some ⟨tc, td, .seq #[.int d t] n, ts⟩) : DefD K x st d :=
  ⟨f, _, a, ⟨⟨oc, od, .ref D, kV, dc, pm, an, cd, ct, sl, rfl, l, c, .inr ⟨by simp, D, _, [.int d t], n, rfl, e, rfl, .cons ⟨t, rfl⟩ .nil⟩, .inl rfl⟩, k⟩⟩
/-- a def with lambdas -/
def DefC (K : PySem.W.Frag) (x : Str) (st : Stmt) (c : Addr) : Prop := ∃ (f : Addr) (oc kV dc pm ct : Value) (od an : Option Addr) (sl : Array (Option Value)), PySem.W.nsIn K mainGlobals x = some (some (.ref f)) ∧ PySem.W.keepIn K (.ref f) = true ∧
  K.lookup f = some ⟨oc, od, .func (PySem.W.fnOf x x (defArgs st) (defBody st) (defScope st) .none kV dc pm an (.ref c) ct), sl⟩ ∧ PySem.W.codeIn K (.ref c) x = true
theorem dc {K : PySem.W.Frag} {x : Str} {st : Stmt} {f c : Addr} {oc kV dc pm ct : Value} {od an : Option Addr} {sl : Array (Option Value)} (a : PySem.W.nsIn K mainGlobals x = some (some (.ref f))) (k : PySem.W.keepIn K (.ref f) = true)
    (l : K.lookup f = some ⟨oc, od, .func (PySem.W.fnOf x x (defArgs st) (defBody st) (defScope st) .none kV dc pm an (.ref c) ct), sl⟩) (cc : PySem.W.codeIn K (.ref c) x = true) : DefC K x st c := ⟨f, oc, kV, dc, pm, ct, od, an, sl, a, k, l, cc⟩
/-- the law's own def -/
def LawA (K : PySem.W.Frag) (c : Addr) : Prop := ∃ (f : Addr) (oc kV dc pm ct : Value) (od an : Option Addr) (sl : Array (Option Value)), PySem.W.nsIn K mainGlobals "law" = some (some (.ref f)) ∧
  K.lookup f = some ⟨oc, od, .func (PySem.W.fnOf "law" "law" (defArgs s_law) (defBody s_law) (defScope s_law) .none kV dc pm an (.ref c) ct), sl⟩ ∧ PySem.W.codeIn K (.ref c) "law" = true
theorem la {K : PySem.W.Frag} {f c : Addr} {oc kV dc pm ct : Value} {od an : Option Addr} {sl : Array (Option Value)} (a : PySem.W.nsIn K mainGlobals "law" = some (some (.ref f)))
    (l : K.lookup f = some ⟨oc, od, .func (PySem.W.fnOf "law" "law" (defArgs s_law) (defBody s_law) (defScope s_law) .none kV dc pm an (.ref c) ct), sl⟩) (cc : PySem.W.codeIn K (.ref c) "law" = true) : LawA K c := ⟨f, oc, kV, dc, pm, ct, od, an, sl, a, l, cc⟩
def spLaw (K : PySem.W.Frag) (Pts : List Addr) : Sp := fun vs H Q _ => ∃ (a : Addr) (ns : List Int), vs = [.ref a] ∧ SqL K H a (ns.map V.int) ∧ ns.length ≤ 63 ∧ (∀ Pt ∈ Pts, H Pt = some (.tbl #[])) ∧ Q = fun v _ => v = V.bl true
section
variable {P : Program} {w : World} {K : PySem.W.Frag} {mg : Str → Option Value} {base h : Heap}
abbrev s_BadSuspects : Stmt := topS 6
theorem ec_BadSuspects {C : Addr} (X : K.In h) (G : h.Ns mainGlobals mg) (A : ClsA K "BadSuspects" "BadSuspects.__init__" "index" s_BadSuspects C) : Ec P w K mg base "BadSuspects" "index" C := by
  obtain ⟨fI, fd, h1, h2, F⟩ := A.ini
  have S : FnScope ["self", "index"] ["self", "index"] (defScope (inC s_BadSuspects)) := ⟨rfl, rfl, rfl, by decide +kernel, rfl, by decide +kernel, by decide +kernel⟩
  exact ⟨PySem.W.mg_of X G A.a, A.T, A.xf, A.no, fI, fd, h1, h2, ok_initF F S A.T A.no rfl rfl rfl (by decide) (by decide) (fun _ => rfl), F.binds (ps := ["self", "index"]) fun _ _ _ _ _ _ us hl => match us, hl with | [_, _], _ => rfl⟩
abbrev s_BadAskings : Stmt := topS 3
theorem ec_BadAskings {C : Addr} (X : K.In h) (G : h.Ns mainGlobals mg) (A : ClsA K "BadAskings" "BadAskings.__init__" "index" s_BadAskings C) : Ec P w K mg base "BadAskings" "index" C := by
  obtain ⟨fI, fd, h1, h2, F⟩ := A.ini
  have S : FnScope ["self", "index"] ["self", "index"] (defScope (inC s_BadAskings)) := ⟨rfl, rfl, rfl, by decide +kernel, rfl, by decide +kernel, by decide +kernel⟩
  exact ⟨PySem.W.mg_of X G A.a, A.T, A.xf, A.no, fI, fd, h1, h2, ok_initF F S A.T A.no rfl rfl rfl (by decide) (by decide) (fun _ => rfl), F.binds (ps := ["self", "index"]) fun _ _ _ _ _ _ us hl => match us, hl with | [_, _], _ => rfl⟩
abbrev s_BadLies : Stmt := topS 4
theorem ec_BadLies {C : Addr} (X : K.In h) (G : h.Ns mainGlobals mg) (A : ClsA K "BadLies" "BadLies.__init__" "thing" s_BadLies C) : Ec P w K mg base "BadLies" "thing" C := by
  obtain ⟨fI, fd, h1, h2, F⟩ := A.ini
  have S : FnScope ["self", "thing"] ["self", "thing"] (defScope (inC s_BadLies)) := ⟨rfl, rfl, rfl, by decide +kernel, rfl, by decide +kernel, by decide +kernel⟩
  exact ⟨PySem.W.mg_of X G A.a, A.T, A.xf, A.no, fI, fd, h1, h2, ok_initF F S A.T A.no rfl rfl rfl (by decide) (by decide) (fun _ => rfl), F.binds (ps := ["self", "thing"]) fun _ _ _ _ _ _ us hl => match us, hl with | [_, _], _ => rfl⟩
abbrev s_BadAnswers : Stmt := topS 2
theorem ec_BadAnswers {C : Addr} (X : K.In h) (G : h.Ns mainGlobals mg) (A : ClsA K "BadAnswers" "BadAnswers.__init__" "index" s_BadAnswers C) : Ec P w K mg base "BadAnswers" "index" C := by
  obtain ⟨fI, fd, h1, h2, F⟩ := A.ini
  have S : FnScope ["self", "index"] ["self", "index"] (defScope (inC s_BadAnswers)) := ⟨rfl, rfl, rfl, by decide +kernel, rfl, by decide +kernel, by decide +kernel⟩
  exact ⟨PySem.W.mg_of X G A.a, A.T, A.xf, A.no, fI, fd, h1, h2, ok_initF F S A.T A.no rfl rfl rfl (by decide) (by decide) (fun _ => rfl), F.binds (ps := ["self", "index"]) fun _ _ _ _ _ _ us hl => match us, hl with | [_, _], _ => rfl⟩
abbrev s_BadMany : Stmt := topS 5
theorem ec_BadMany {C : Addr} (X : K.In h) (G : h.Ns mainGlobals mg) (A : ClsA K "BadMany" "BadMany.__init__" "thing" s_BadMany C) : Ec P w K mg base "BadMany" "thing" C := by
  obtain ⟨fI, fd, h1, h2, F⟩ := A.ini
  have S : FnScope ["self", "thing"] ["self", "thing"] (defScope (inC s_BadMany)) := ⟨rfl, rfl, rfl, by decide +kernel, rfl, by decide +kernel, by decide +kernel⟩
  exact ⟨PySem.W.mg_of X G A.a, A.T, A.xf, A.no, fI, fd, h1, h2, ok_initF F S A.T A.no rfl rfl rfl (by decide) (by decide) (fun _ => rfl), F.binds (ps := ["self", "thing"]) fun _ _ _ _ _ _ us hl => match us, hl with | [_, _], _ => rfl⟩
theorem own_of {CX : CXT} {k : Nat} {x : Str} {st : Stmt} {ps : List Str} {sp : Sp} (X : K.In h) (G : h.Ns mainGlobals mg) (D : DefA K x st) (b : ∀ (kV doc pm : Value) (an : Option Addr) (cdv ct : Value) (us : List Value), us.length = ps.length → bindArgs (PySem.W.fnOf x x (defArgs st) (defBody st) (defScope st) .none kV doc pm an cdv ct) ⟨us, []⟩ = pure (ps.zip us))
    (F : ∀ f fd, mg x = some (.ref f) → PySem.W.keepIn K (.ref f) = true → Binds K fd ps [] → Fun K x x st f fd → FnOk P w K mg base CX k f fd ps sp) : Own P w K mg base CX k x ps sp := by
  obtain ⟨f, fd, a, kp, Fn⟩ := D
  exact ⟨f, fd, PySem.W.mg_of X G a, kp, Fn.binds b, F f fd (PySem.W.mg_of X G a) kp (Fn.binds b) Fn⟩
end
theorem all_mk {l : PySem.W.OpenLaw} {w : World} {K : PySem.W.Frag} {h : Heap} {mg : Str → Option Value} {fa C1 C2 C3 C4 C5 c P_law P__law_all c__law_all : Addr} {t_SIGNS : Tok} (X : K.In h) (G : h.Ns mainGlobals mg) (hfa : mg "law" = some (.ref fa))
    (lw : LawA K c)
    (c1 : ClsA K "BadSuspects" "BadSuspects.__init__" "index" s_BadSuspects C1)
    (c2 : ClsA K "BadAskings" "BadAskings.__init__" "index" s_BadAskings C2)
    (c3 : ClsA K "BadLies" "BadLies.__init__" "thing" s_BadLies C3)
    (c4 : ClsA K "BadAnswers" "BadAnswers.__init__" "index" s_BadAnswers C4)
    (c5 : ClsA K "BadMany" "BadMany.__init__" "thing" s_BadMany C5)
    (d_is_list : DefA K "is_list" s_is_list)
    (d_is_integer : DefA K "is_integer" s_is_integer)
    (d_is_number : DefA K "is_number" s_is_number)
    (d_is_truth : DefA K "is_truth" s_is_truth)
    (d_is_pair : DefA K "is_pair" s_is_pair)
    (d_is_name : DefA K "is_name" s_is_name)
    (d_first_false : DefA K "first_false" s_first_false)
    (d_are_names : DefA K "are_names" s_are_names)
    (d_check_askings : DefA K "check_askings" s_check_askings)
    (d_left_in : DefA K "left_in" s_left_in)
    (d_is_index_of : DefA K "is_index_of" s_is_index_of)
    (d_state_behind : DefA K "state_behind" s_state_behind)
    (d_possible_ones : DefD K "possible_ones" s_possible_ones 0)
    (d_never_parted : DefA K "never_parted" s_never_parted)
    (d_is_search : DefD K "is_search" s_is_search 0)
    (d_fewest_askings : DefD K "fewest_askings" s_fewest_askings 0)
    (d_search : DefD K "search" s_search 0)
    (d_ask_next : DefD K "ask_next" s_ask_next 0)
    (d_check_many : DefA K "check_many" s_check_many)
    (d_answers_against : DefD K "answers_against" s_answers_against 0)
    (d_are_against : DefD K "are_against" s_are_against 0)
    (d__law_m_suspects : DefA K "_law_m_suspects" s__law_m_suspects)
    (d__law_start : DefA K "_law_start" s__law_start)
    (d__law_draw : DefA K "_law_draw" s__law_draw)
    (d__law_pick : DefA K "_law_pick" s__law_pick)
    (d__law_mixed : DefA K "_law_mixed" s__law_mixed)
    (d__law_met : DefA K "_law_met" s__law_met)
    (d__law_all : DefC K "_law_all" s__law_all c__law_all)
    (tab_law : h.get? P_law = some { cls := .none, data := .fields #[] }) (tabK_law : K.lookup P_law = none) (hd_law : PySem.W.codeHdIn K c P_law = true)
    (tab__law_all : h.get? P__law_all = some { cls := .none, data := .fields #[] }) (tabK__law_all : K.lookup P__law_all = none) (hd__law_all : PySem.W.codeHdIn K c__law_all P__law_all = true)
    (ne__law_all_law : P__law_all ≠ P_law)
    (k_SIGNS : PySem.W.nsIn K mainGlobals "SIGNS" = some (some (.str SIGNS_S t_SIGNS)))
    (i1 : PySem.W.isClsIn K C1 = true)
    (e11 : PySem.W.subIn K (.ref C1) (.ref C1) = some true)
    (i2 : PySem.W.isClsIn K C2 = true)
    (e21 : PySem.W.subIn K (.ref C2) (.ref C1) = some false)
    (e22 : PySem.W.subIn K (.ref C2) (.ref C2) = some true)
    (i3 : PySem.W.isClsIn K C3 = true)
    (e31 : PySem.W.subIn K (.ref C3) (.ref C1) = some false)
    (e32 : PySem.W.subIn K (.ref C3) (.ref C2) = some false)
    (e33 : PySem.W.subIn K (.ref C3) (.ref C3) = some true)
    (i4 : PySem.W.isClsIn K C4 = true)
    (e41 : PySem.W.subIn K (.ref C4) (.ref C1) = some false)
    (e42 : PySem.W.subIn K (.ref C4) (.ref C2) = some false)
    (e43 : PySem.W.subIn K (.ref C4) (.ref C3) = some false)
    (e44 : PySem.W.subIn K (.ref C4) (.ref C4) = some true)
    (i5 : PySem.W.isClsIn K C5 = true)
    (e51 : PySem.W.subIn K (.ref C5) (.ref C1) = some false)
    (e52 : PySem.W.subIn K (.ref C5) (.ref C2) = some false)
    (e53 : PySem.W.subIn K (.ref C5) (.ref C3) = some false)
    (e54 : PySem.W.subIn K (.ref C5) (.ref C4) = some false)
    (e55 : PySem.W.subIn K (.ref C5) (.ref C5) = some true)
    (z_isinstance : PySem.W.nsIn K mainGlobals "isinstance" = some none)
    (z_len : PySem.W.nsIn K mainGlobals "len" = some none)
    (z_list : PySem.W.nsIn K mainGlobals "list" = some none)
    (z_tuple : PySem.W.nsIn K mainGlobals "tuple" = some none)
    (z_dict : PySem.W.nsIn K mainGlobals "dict" = some none)
    (z_int : PySem.W.nsIn K mainGlobals "int" = some none)
    (z_bool : PySem.W.nsIn K mainGlobals "bool" = some none)
    (z_str : PySem.W.nsIn K mainGlobals "str" = some none)
    (z_min : PySem.W.nsIn K mainGlobals "min" = some none)
    (z_all : PySem.W.nsIn K mainGlobals "all" = some none)
    (z_range : PySem.W.nsIn K mainGlobals "range" = some none)
    (z_enumerate : PySem.W.nsIn K mainGlobals "enumerate" = some none)
    (z_zip : PySem.W.nsIn K mainGlobals "zip" = some none)
    (z_repr : PySem.W.nsIn K mainGlobals "repr" = some none)
    (z_set : PySem.W.nsIn K mainGlobals "set" = some none)
    (z_sum : PySem.W.nsIn K mainGlobals "sum" = some none)
    (z_max : PySem.W.nsIn K mainGlobals "max" = some none) :
    LawG l w K CX0 63 "_law_script" mg fa h := by
  obtain ⟨f, oc, kV, dc, pm, ct, od, an, sl, la, ll, lc⟩ := lw
  have e := hfa.symm.trans (PySem.W.mg_of X G la)
  cases e
  have T : Bl mg := ⟨PySem.W.mg_none_of X G z_isinstance, PySem.W.mg_none_of X G z_len, PySem.W.mg_none_of X G z_list, PySem.W.mg_none_of X G z_tuple, PySem.W.mg_none_of X G z_dict, PySem.W.mg_none_of X G z_int, PySem.W.mg_none_of X G z_bool, PySem.W.mg_none_of X G z_str, PySem.W.mg_none_of X G z_min, PySem.W.mg_none_of X G z_all, PySem.W.mg_none_of X G z_range, PySem.W.mg_none_of X G z_enumerate, PySem.W.mg_none_of X G z_zip, PySem.W.mg_none_of X G z_repr⟩
  refine ⟨PySem.W.fnOf "law" "law" (defArgs s_law) (defBody s_law) (defScope s_law) .none kV dc pm an (.ref c) ct, [(c, P_law), (c__law_all, P__law_all)], spLaw K [P_law, P__law_all], (fun p hp => by
    simp only [List.mem_cons, List.not_mem_nil, or_false] at hp
    rcases hp with rfl | rfl
    · exact tab_law
    · exact tab__law_all
    ), (fun p hp => by
    simp only [List.mem_cons, List.not_mem_nil, or_false] at hp
    rcases hp with rfl | rfl
    · exact tabK_law
    · exact tabK__law_all
    ), (fun p hp => by
    simp only [List.mem_cons, List.not_mem_nil, or_false] at hp
    rcases hp with rfl | rfl
    · exact PySem.W.codeHd_of_K X hd_law
    · exact PySem.W.codeHd_of_K X hd__law_all
    ), fun s u => .of_eq rfl, fun H a ns hn _ hT hS => ⟨a, ns, rfl, hS, hn, (fun Pt hp => by
    simp only [List.mem_cons, List.not_mem_nil, or_false] at hp
    rcases hp with rfl | rfl
    · exact hT (c, _) (by simp)
    · exact hT (c__law_all, _) (by simp)
    ), rfl⟩, fun base kin glob tb => ?_⟩
  have b_set : mg "set" = none := PySem.W.mg_none_of X G z_set
  have b_sum : mg "sum" = none := PySem.W.mg_none_of X G z_sum
  have b_max : mg "max" = none := PySem.W.mg_none_of X G z_max
  have E_BadSuspects : Ec l.prog w K mg base "BadSuspects" "index" C1 := ec_BadSuspects X G c1
  have E_BadAskings : Ec l.prog w K mg base "BadAskings" "index" C2 := ec_BadAskings X G c2
  have E_BadLies : Ec l.prog w K mg base "BadLies" "thing" C3 := ec_BadLies X G c3
  have E_BadAnswers : Ec l.prog w K mg base "BadAnswers" "index" C4 := ec_BadAnswers X G c4
  have E_BadMany : Ec l.prog w K mg base "BadMany" "thing" C5 := ec_BadMany X G c5
  have g_SIGNS := PySem.W.mg_of X G k_SIGNS
  have tb_law := tb (c, P_law) (by simp)
  have tb__law_all := tb (c__law_all, P__law_all) (by simp)
  obtain ⟨fp, gp⟩ : ∃ fp, mg "possible_ones" = some (.ref fp) := by
    obtain ⟨f, fd, a, F⟩ := d_possible_ones
    exact ⟨f, PySem.W.mg_of X G a⟩
  obtain ⟨fq, gq⟩ : ∃ fq, mg "ask_next" = some (.ref fq) := by
    obtain ⟨f, fd, a, F⟩ := d_ask_next
    exact ⟨f, PySem.W.mg_of X G a⟩
  have O_is_list : Own l.prog w K mg base CX0 1 "is_list" ["thing"] (sp1 (fun _ => True) fun d => .bool (isSeq d)) := own_of X G d_is_list (fun _ _ _ _ _ _ us hl => match us, hl with | [_], _ => rfl) fun f fd m k b F => ok_is_list F T
  have O_is_integer : Own l.prog w K mg base CX0 1 "is_integer" ["thing"] (sp1 (fun _ => True) fun d => .bool (isIntD d)) := own_of X G d_is_integer (fun _ _ _ _ _ _ us hl => match us, hl with | [_], _ => rfl) fun f fd m k b F => ok_is_integer F T
  have O_is_number : Own l.prog w K mg base CX0 2 "is_number" ["thing"] (sp1 (fun _ => True) fun d => .bool (isNumD d)) := own_of X G d_is_number (fun _ _ _ _ _ _ us hl => match us, hl with | [_], _ => rfl) fun f fd m k b F => ok_is_number F T O_is_integer
  have O_is_truth : Own l.prog w K mg base CX0 1 "is_truth" ["thing"] (sp1 (fun _ => True) fun d => .bool (isa_bool d)) := own_of X G d_is_truth (fun _ _ _ _ _ _ us hl => match us, hl with | [_], _ => rfl) fun f fd m k b F => ok_is_truth F T
  have O_is_pair : Own l.prog w K mg base CX0 2 "is_pair" ["thing"] (sp1 (fun _ => True) fun d => .bool (isSeq d && decide (lenD d = 2))) := own_of X G d_is_pair (fun _ _ _ _ _ _ us hl => match us, hl with | [_], _ => rfl) fun f fd m k b F => ok_is_pair F T O_is_list
  have O_is_name : Own l.prog w K mg base CX0 1 "is_name" ["thing"] (sp1 namePre fun d => .bool (isNameD d)) := own_of X G d_is_name (fun _ _ _ _ _ _ us hl => match us, hl with | [_], _ => rfl) fun f fd m k b F => ok_is_name F T g_SIGNS
  have O_first_false : Own l.prog w K mg base CX0 1 "first_false" ["tests"] (sp1 Bools fun d => ffD 0 (itemsD d)) := own_of X G d_first_false (fun _ _ _ _ _ _ us hl => match us, hl with | [_], _ => rfl) fun f fd m k b F => ok_first_false F T
  have O_are_names : Own l.prog w K mg base CX0 2 "are_names" ["thing"] (sp1 namesPre fun d => .bool (areNamesD d)) := own_of X G d_are_names (fun _ _ _ _ _ _ us hl => match us, hl with | [_], _ => rfl) fun f fd m k b F => ok_are_names F T b_set O_is_list O_is_name
  have O_is_index_of : Own l.prog w K mg base CX0 3 "is_index_of" ["thing", "things"] (sp2 (fun _ b => isSeq b = true) fun a b => .bool (isNumD a && decide (intOf a < (lenD b : Int)))) := own_of X G d_is_index_of (fun _ _ _ _ _ _ us hl => match us, hl with | [_, _], _ => rfl) fun f fd m k b F => ok_is_index_of F T O_is_number
  have O_check_askings : Own l.prog w K mg base (L2.CX l.prog w) 3 "check_askings" ["suspects", "askings", "lies"] (spXn 3 chkPre fun ds => chkA C1 C2 C3 (at_ ds 0) (at_ ds 1) (at_ ds 2)) := own_of X G d_check_askings (fun _ _ _ _ _ _ us hl => match us, hl with | [_, _, _], _ => rfl) fun f fd m k b F => ok_check_askings F T O_is_list O_is_integer O_is_name O_are_names O_first_false E_BadSuspects E_BadAskings E_BadLies
  have O_state_behind : Own l.prog w K mg base (L2.CX l.prog w) 4 "state_behind" ["suspects", "askings", "answers", "lies"] (spXn 4 (fun ds => stPre (at_ ds 1) (at_ ds 2)) fun ds => stOut C4 (at_ ds 1) (at_ ds 2)) := own_of X G d_state_behind (fun _ _ _ _ _ _ us hl => match us, hl with | [_, _, _, _], _ => rfl) fun f fd m k b F => ok_state_behind F T O_is_list O_is_pair O_is_index_of O_is_truth O_first_false E_BadAnswers
  have O_check_many : Own l.prog w K mg base (L2.CX l.prog w) 4 "check_many" ["suspects", "askings", "many", "lies"] (spXn 4 chkPre fun ds => manyOut C1 C2 C3 C5 ds 3) := own_of X G d_check_many (fun _ _ _ _ _ _ us hl => match us, hl with | [_, _, _, _], _ => rfl) fun f fd m k b F => ok_check_many F T O_check_askings O_is_number E_BadMany
  have O_left_in : Own l.prog w K mg base CX0 1 "left_in" ["suspects", "state"] (fun _ _ _ _ => False) := own_of X G d_left_in (fun _ _ _ _ _ _ us hl => match us, hl with | [_, _], _ => rfl) fun f fd m k b F => F.ok (k := 0) sc_left_in (fun _ _ _ _ h => h.elim) (fun _ _ _ _ _ _ _ _ _ h => h.elim)
  have O_never_parted : Own l.prog w K mg base (L2.CX l.prog w) 4 "never_parted" ["suspects", "askings"] (spXn 2 (anyPre 0 (fun ds => chkA C1 C2 C3 (at_ ds 0) (at_ ds 1) (.int 0))) (fun ds => chkA C1 C2 C3 (at_ ds 0) (at_ ds 1) (.int 0))) := own_of X G d_never_parted (fun _ _ _ _ _ _ us hl => match us, hl with | [_, _], _ => rfl) fun f fd m k b F => ok_never_parted F T O_check_askings
  have O_fewest_askings : OwnD l.prog w K mg base 4 "fewest_askings" ["suspects", "askings", "lies"] (spXn 3 (anyPre 0 (fun ds => chk4 C1 C2 C3 ds 2)) (fun ds => chk4 C1 C2 C3 ds 2)) := by
    obtain ⟨f, fd, a, F⟩ := d_fewest_askings
    obtain ⟨ds, r1, b1⟩ := F.binds1 (ps := ["suspects", "askings", "lies"]) 2 0 (by simp) rfl fun T kV doc pm an cdv ct us its hu hi => match us, its, hu, hi with
      | [_, _], [_], _, _ => ⟨_, rfl, rfl⟩
    obtain ⟨ds0, r0, b0⟩ := F.binds1 (ps := ["suspects", "askings", "lies"]) 3 1 (by simp) rfl fun T kV doc pm an cdv ct us its hu hi => match us, its, hu, hi with
      | [_, _, _], [_], _, _ => ⟨_, rfl, rfl⟩
    cases r0
    exact ⟨f, fd, ds, PySem.W.mg_of X G a, F.kp, b0, r1, b1, ok_fewest_askings F T O_check_askings⟩
  have O_search : OwnD l.prog w K mg base 4 "search" ["suspects", "askings", "lies"] (spXn 3 (anyPre 0 (fun ds => chk4 C1 C2 C3 ds 2)) (fun ds => chk4 C1 C2 C3 ds 2)) := by
    obtain ⟨f, fd, a, F⟩ := d_search
    obtain ⟨ds, r1, b1⟩ := F.binds1 (ps := ["suspects", "askings", "lies"]) 2 0 (by simp) rfl fun T kV doc pm an cdv ct us its hu hi => match us, its, hu, hi with
      | [_, _], [_], _, _ => ⟨_, rfl, rfl⟩
    obtain ⟨ds0, r0, b0⟩ := F.binds1 (ps := ["suspects", "askings", "lies"]) 3 1 (by simp) rfl fun T kV doc pm an cdv ct us its hu hi => match us, its, hu, hi with
      | [_, _, _], [_], _, _ => ⟨_, rfl, rfl⟩
    cases r0
    exact ⟨f, fd, ds, PySem.W.mg_of X G a, F.kp, b0, r1, b1, ok_search F T O_check_askings⟩
  have O_is_search : OwnD l.prog w K mg base 4 "is_search" ["suspects", "askings", "thing", "lies"] (spXn 4 (anyPre 0 (fun ds => chk4 C1 C2 C3 ds 3)) (fun ds => chk4 C1 C2 C3 ds 3)) := by
    obtain ⟨f, fd, a, F⟩ := d_is_search
    obtain ⟨ds, r1, b1⟩ := F.binds1 (ps := ["suspects", "askings", "thing", "lies"]) 3 0 (by simp) rfl fun T kV doc pm an cdv ct us its hu hi => match us, its, hu, hi with
      | [_, _, _], [_], _, _ => ⟨_, rfl, rfl⟩
    obtain ⟨ds0, r0, b0⟩ := F.binds1 (ps := ["suspects", "askings", "thing", "lies"]) 4 1 (by simp) rfl fun T kV doc pm an cdv ct us its hu hi => match us, its, hu, hi with
      | [_, _, _, _], [_], _, _ => ⟨_, rfl, rfl⟩
    cases r0
    exact ⟨f, fd, ds, PySem.W.mg_of X G a, F.kp, b0, r1, b1, ok_is_search F T O_check_askings⟩
  have O_answers_against : OwnD l.prog w K mg base 5 "answers_against" ["suspects", "askings", "many", "lies"] (spXn 4 (anyPre 0 (fun ds => manyOut C1 C2 C3 C5 ds 3)) (fun ds => manyOut C1 C2 C3 C5 ds 3)) := by
    obtain ⟨f, fd, a, F⟩ := d_answers_against
    obtain ⟨ds, r1, b1⟩ := F.binds1 (ps := ["suspects", "askings", "many", "lies"]) 3 0 (by simp) rfl fun T kV doc pm an cdv ct us its hu hi => match us, its, hu, hi with
      | [_, _, _], [_], _, _ => ⟨_, rfl, rfl⟩
    obtain ⟨ds0, r0, b0⟩ := F.binds1 (ps := ["suspects", "askings", "many", "lies"]) 4 1 (by simp) rfl fun T kV doc pm an cdv ct us its hu hi => match us, its, hu, hi with
      | [_, _, _, _], [_], _, _ => ⟨_, rfl, rfl⟩
    cases r0
    exact ⟨f, fd, ds, PySem.W.mg_of X G a, F.kp, b0, r1, b1, ok_answers_against F T O_check_many⟩
  have O_are_against : OwnD l.prog w K mg base 5 "are_against" ["suspects", "askings", "many", "thing", "lies"] (spXn 5 (anyPre 0 (fun ds => manyOut C1 C2 C3 C5 ds 4)) (fun ds => manyOut C1 C2 C3 C5 ds 4)) := by
    obtain ⟨f, fd, a, F⟩ := d_are_against
    obtain ⟨ds, r1, b1⟩ := F.binds1 (ps := ["suspects", "askings", "many", "thing", "lies"]) 4 0 (by simp) rfl fun T kV doc pm an cdv ct us its hu hi => match us, its, hu, hi with
      | [_, _, _, _], [_], _, _ => ⟨_, rfl, rfl⟩
    obtain ⟨ds0, r0, b0⟩ := F.binds1 (ps := ["suspects", "askings", "many", "thing", "lies"]) 5 1 (by simp) rfl fun T kV doc pm an cdv ct us its hu hi => match us, its, hu, hi with
      | [_, _, _, _, _], [_], _, _ => ⟨_, rfl, rfl⟩
    cases r0
    exact ⟨f, fd, ds, PySem.W.mg_of X G a, F.kp, b0, r1, b1, ok_are_against F T O_check_many⟩
  have O_possible_ones : OwnD l.prog w K mg base 5 "possible_ones" ["suspects", "askings", "answers", "lies"] (spXn 4 (pmPre C1 C2 C3) (pmOut C1 C2 C3 C4)) := by
    obtain ⟨f, fd, a, F⟩ := d_possible_ones
    obtain ⟨ds, r1, b1⟩ := F.binds1 (ps := ["suspects", "askings", "answers", "lies"]) 3 0 (by simp) rfl fun T kV doc pm an cdv ct us its hu hi => match us, its, hu, hi with
      | [_, _, _], [_], _, _ => ⟨_, rfl, rfl⟩
    obtain ⟨ds0, r0, b0⟩ := F.binds1 (ps := ["suspects", "askings", "answers", "lies"]) 4 1 (by simp) rfl fun T kV doc pm an cdv ct us its hu hi => match us, its, hu, hi with
      | [_, _, _, _], [_], _, _ => ⟨_, rfl, rfl⟩
    cases r0
    exact ⟨f, fd, ds, PySem.W.mg_of X G a, F.kp, b0, r1, b1, ok_possible_ones F T O_check_askings O_state_behind O_left_in⟩
  have O_ask_next : OwnD l.prog w K mg base 5 "ask_next" ["suspects", "askings", "answers", "lies"] (spXn 4 (pmPre C1 C2 C3) (pmOut C1 C2 C3 C4)) := by
    obtain ⟨f, fd, a, F⟩ := d_ask_next
    obtain ⟨ds, r1, b1⟩ := F.binds1 (ps := ["suspects", "askings", "answers", "lies"]) 3 0 (by simp) rfl fun T kV doc pm an cdv ct us its hu hi => match us, its, hu, hi with
      | [_, _, _], [_], _, _ => ⟨_, rfl, rfl⟩
    obtain ⟨ds0, r0, b0⟩ := F.binds1 (ps := ["suspects", "askings", "answers", "lies"]) 4 1 (by simp) rfl fun T kV doc pm an cdv ct us its hu hi => match us, its, hu, hi with
      | [_, _, _, _], [_], _, _ => ⟨_, rfl, rfl⟩
    cases r0
    exact ⟨f, fd, ds, PySem.W.mg_of X G a, F.kp, b0, r1, b1, ok_ask_next F T O_check_askings O_state_behind⟩
  have O__law_start : Own l.prog w K mg base CX0 1 "_law_start" ["_law_script"] (spStart K) := own_of X G d__law_start (fun _ _ _ _ _ _ us hl => match us, hl with | [_], _ => rfl) fun f fd m k b F => ok_start F T
  have O__law_draw : Own l.prog w K mg base CX0 1 "_law_draw" ["_law_stream", "_law_many"] spDraw := own_of X G d__law_draw (fun _ _ _ _ _ _ us hl => match us, hl with | [_, _], _ => rfl) fun f fd m k b F => ok_draw F T
  have O__law_pick : Own l.prog w K mg base CX0 2 "_law_pick" ["_law_stream", "_law_some"] spPick := own_of X G d__law_pick (fun _ _ _ _ _ _ us hl => match us, hl with | [_, _], _ => rfl) fun f fd m k b F => ok_pick F T O__law_draw
  have O__law_mixed : Own l.prog w K mg base CX0 2 "_law_mixed" ["_law_stream", "_law_some"] spMixed := own_of X G d__law_mixed (fun _ _ _ _ _ _ us hl => match us, hl with | [_, _], _ => rfl) fun f fd m k b F => ok_mixed F T O__law_draw
  have O__law_m_suspects : Own l.prog w K mg base CX0 3 "_law_m_suspects" ["_law_stream", "_law_most"] spMSus := own_of X G d__law_m_suspects (fun _ _ _ _ _ _ us hl => match us, hl with | [_, _], _ => rfl) fun f fd m k b F => ok_m_suspects F T O__law_draw O__law_mixed
  have Fn : Fns l.prog w K mg base C1 C2 C3 C4 C5 := ⟨O_fewest_askings, O_search, O_is_search, O_possible_ones, O_ask_next, O_answers_against, O_are_against, O_never_parted⟩
  have T5 : Five K C1 C2 C3 C4 C5 := ⟨exm_of c1.T.exC i1 c1.T.tyC e11, exm_of c1.T.exC i1 c1.T.tyC e21, exm_of c2.T.exC i2 c2.T.tyC e22, exm_of c1.T.exC i1 c1.T.tyC e31, exm_of c2.T.exC i2 c2.T.tyC e32, exm_of c3.T.exC i3 c3.T.tyC e33, exm_of c1.T.exC i1 c1.T.tyC e41, exm_of c2.T.exC i2 c2.T.tyC e42, exm_of c3.T.exC i3 c3.T.tyC e43, exm_of c4.T.exC i4 c4.T.tyC e44, exm_of c1.T.exC i1 c1.T.tyC e51, exm_of c2.T.exC i2 c2.T.tyC e52, exm_of c3.T.exC i3 c3.T.tyC e53, exm_of c4.T.exC i4 c4.T.tyC e54, exm_of c5.T.exC i5 c5.T.tyC e55⟩
  obtain ⟨ft, fdt, at1, kt, Ft⟩ := d__law_met
  obtain ⟨oct, odt, kVt, dct, pmt, ant, cdt, ctt, slt, rfl, lt, cdIn⟩ := Ft.ex
  have bt := Ft.binds (ps := ["_law_ask"]) fun _ _ _ _ _ _ us hl => match us, hl with | [_], _ => rfl
  let Tb : List (Addr × Str) := [(P_law, ("law" : Str) ++ (".<locals>." : Str) ++ "<lambda>"), (P__law_all, ("_law_all" : Str) ++ (".<locals>." : Str) ++ "<lambda>")]
  obtain ⟨fa2, oc2, kV2, dc2, pm2, ct2, od2, an2, sl2, a2, k2, l2, cc2⟩ := d__law_all
  have B2 : ∀ (A : Around) (outer : List Env) (s : Shared) (H : Hp) (E : XK), Room 8 (A.deeper (envOfC "_law_all" (defScope s__law_all) s.heap.objs.size fa2 (.ref c__law_all))) → TrB (cxOf CX0 l.prog w K mg base n__law_all "_law_all" (defScope s__law_all) fa2 (.ref c__law_all) A outer s H E).nox Tb (TMet (csOf C1 C2 C3 C4 C5)) := fun A outer s H E hr =>
    ⟨⟨ft, c__law_all, P__law_all, _, kVt, dct, pmt, cdt, ctt, oct, ant, odt, slt, PySem.W.mg_of X G at1, kt, lt, cdIn, bt, met_gives E_BadSuspects E_BadAskings E_BadLies E_BadAnswers E_BadMany T5, tb__law_all, rfl, List.mem_cons_of_mem _ List.mem_cons_self, fun p hp e => by
      rcases List.mem_cons.mp hp with rfl | hp
      · exact absurd e.symm ne__law_all_law
      · rw [List.mem_singleton.mp hp]
        rfl⟩, hr⟩
  have O__law_all : Own l.prog w K mg base CX0 9 "_law_all" ["_law_names", "_law_askings", "_law_lies", "_law_rest"] (spAll Tb (csOf C1 C2 C3 C4 C5) C1 C2 C3) :=
    ⟨fa2, _, PySem.W.mg_of X G a2, k2, .all fun us hl => match us, hl with | [_, _, _, _], _ => rfl, ok_all l2 cc2 T Fn B2⟩
  have asks : ∀ f dvs sp, SA fp fq C1 C2 C3 C4 f dvs sp → HeldX l.prog w K mg base 5 f dvs sp := by
    rintro f dvs sp ⟨hf, hd, rfl⟩
    have hp : ∀ {x : Str} {g : Addr}, mg x = some (.ref g) → OwnD l.prog w K mg base 5 x ["suspects", "askings", "answers", "lies"] (spXn 4 (pmPre C1 C2 C3) (pmOut C1 C2 C3 C4)) → HeldX l.prog w K mg base 5 g dvs (spXn 4 (pmPre C1 C2 C3) (pmOut C1 C2 C3 C4)) := fun {x g} hg O => by
      obtain ⟨f', fd, ds, h1, h2, h3, h4, h5, h6⟩ := O.ex
      rw [hg] at h1
      cases h1
      rcases hd with rfl | rfl
      · exact ⟨fd, _, ds, h6, h2, h4, h5⟩
      · exact ⟨fd, _, [], h6, h2, .nil, h3⟩
    rcases hf with rfl | rfl
    · exact hp gp O_possible_ones
    · exact hp gq O_ask_next
  have Lb : Lib l.prog w K mg base Tb fp fq C1 C2 C3 C4 C5 := ⟨T, O__law_start, O__law_draw, O__law_pick, O__law_m_suspects, O__law_all, Fn, asks, gp, gq⟩
  intro s H u v Q E env bind rel sp
  obtain ⟨a, ns, hv, hS, hn, hP, rfl⟩ := sp
  refine run_ofS (k := 9) (N := n_law) (ps := ["_law_script"]) (us := [u]) (vs := [v]) ll lc sc_law ⟨rfl, by decide, by decide⟩ env bind (.cons rel .nil) rfl fun hr => ?_
  have B : TrB (cxOf CX0 l.prog w K mg base n_law "law" (defScope s_law) fa (.ref c) callerA [] s H E).nox Tb (TMet (csOf C1 C2 C3 C4 C5)) :=
    ⟨⟨ft, c, P_law, _, kVt, dct, pmt, cdt, ctt, oct, ant, odt, slt, PySem.W.mg_of X G at1, kt, lt, cdIn, bt, met_gives E_BadSuspects E_BadAskings E_BadLies E_BadAnswers E_BadMany T5, tb_law, rfl, List.mem_cons_self, fun p hp e => by
      rcases List.mem_cons.mp hp with rfl | hp
      · rfl
      · rw [List.mem_singleton.mp hp] at e
        exact absurd e ne__law_all_law⟩, hr.mono (by decide)⟩
  have hTb : Tabs Tb H := fun p hp => by
    rcases List.mem_cons.mp hp with rfl | hp
    · exact TabS.nil (hP _ (by simp))
    · rw [List.mem_singleton.mp hp]
      exact TabS.nil (hP _ (by simp))
  obtain ⟨t, h1, h2⟩ := law_reads Lb hr B hTb hS hn
  cases hv
  exact ⟨t, h1.nox, h2⟩
end K82
open PySem PySem.W PyProof.Rows
set_option maxRecDepth 100000 in
set_option maxHeartbeats 0 in
theorem PySem.Challenge.cw_patchlots_k82_search_refused_holds : PySem.Challenge.rw_patchlots_k82_search_refused.Holds := by
  w_on; o_law; k_head; (case hw => w_witness2)
  k_fill
  refine KD.walk_ofG (l := PySem.Challenge.rw_patchlots_k82_search_refused) (n := 63) (x := "_law_script") (CX := fun _ => L2.CX0) rfl (by decide) rfl (fun w h Y => PySem.W.km_in_of Y) ?F (fun _ _ _ _ _ z => z)
  case F =>
    intro w mg fa h Y KX G hmg
    refine' K82.all_mk (P_law := 397) (P__law_all := 390) KX G hmg ?lw ?c1 ?c2 ?c3 ?c4 ?c5 ?d_is_list ?d_is_integer ?d_is_number ?d_is_truth ?d_is_pair ?d_is_name ?d_first_false ?d_are_names ?d_check_askings ?d_left_in ?d_is_index_of ?d_state_behind ?d_possible_ones ?d_never_parted ?d_is_search ?d_fewest_askings ?d_search ?d_ask_next ?d_check_many ?d_answers_against ?d_are_against ?d__law_m_suspects ?d__law_start ?d__law_draw ?d__law_pick ?d__law_mixed ?d__law_met ?d__law_all ?tab_law ?tabK_law ?hd_law ?tab__law_all ?tabK__law_all ?hd__law_all ?ne__law_all_law ?k_SIGNS ?i1 ?e11 ?i2 ?e21 ?e22 ?i3 ?e31 ?e32 ?e33 ?i4 ?e41 ?e42 ?e43 ?e44 ?i5 ?e51 ?e52 ?e53 ?e54 ?e55 ?z_isinstance ?z_len ?z_list ?z_tuple ?z_dict ?z_int ?z_bool ?z_str ?z_min ?z_all ?z_range ?z_enumerate ?z_zip ?z_repr ?z_set ?z_sum ?z_max
    (case d_is_list => (refine' K82.da ?a ?l ?c ?k; (case a => k_is); (case l => k_is); (case c => k_is); (case k => k_is)))
    (case d_is_integer => (refine' K82.da ?a ?l ?c ?k; (case a => k_is); (case l => k_is); (case c => k_is); (case k => k_is)))
    (case d_is_number => (refine' K82.da ?a ?l ?c ?k; (case a => k_is); (case l => k_is); (case c => k_is); (case k => k_is)))
    (case d_is_truth => (refine' K82.da ?a ?l ?c ?k; (case a => k_is); (case l => k_is); (case c => k_is); (case k => k_is)))
    (case d_is_pair => (refine' K82.da ?a ?l ?c ?k; (case a => k_is); (case l => k_is); (case c => k_is); (case k => k_is)))
    (case d_is_name => (refine' K82.da ?a ?l ?c ?k; (case a => k_is); (case l => k_is); (case c => k_is); (case k => k_is)))
    (case d_first_false => (refine' K82.da ?a ?l ?c ?k; (case a => k_is); (case l => k_is); (case c => k_is); (case k => k_is)))
    (case d_are_names => (refine' K82.da ?a ?l ?c ?k; (case a => k_is); (case l => k_is); (case c => k_is); (case k => k_is)))
    (case d_check_askings => (refine' K82.da ?a ?l ?c ?k; (case a => k_is); (case l => k_is); (case c => k_is); (case k => k_is)))
    (case d_left_in => (refine' K82.da ?a ?l ?c ?k; (case a => k_is); (case l => k_is); (case c => k_is); (case k => k_is)))
    (case d_is_index_of => (refine' K82.da ?a ?l ?c ?k; (case a => k_is); (case l => k_is); (case c => k_is); (case k => k_is)))
    (case d_state_behind => (refine' K82.da ?a ?l ?c ?k; (case a => k_is); (case l => k_is); (case c => k_is); (case k => k_is)))
    (case d_possible_ones => (refine' K82.dd ?a ?l ?c ?k ?e; (case a => k_is); (case l => k_is); (case c => k_is); (case k => k_is); (case e => k_is)))
    (case d_never_parted => (refine' K82.da ?a ?l ?c ?k; (case a => k_is); (case l => k_is); (case c => k_is); (case k => k_is)))
    (case d_is_search => (refine' K82.dd ?a ?l ?c ?k ?e; (case a => k_is); (case l => k_is); (case c => k_is); (case k => k_is); (case e => k_is)))
    (case d_fewest_askings => (refine' K82.dd ?a ?l ?c ?k ?e; (case a => k_is); (case l => k_is); (case c => k_is); (case k => k_is); (case e => k_is)))
    (case d_search => (refine' K82.dd ?a ?l ?c ?k ?e; (case a => k_is); (case l => k_is); (case c => k_is); (case k => k_is); (case e => k_is)))
    (case d_ask_next => (refine' K82.dd ?a ?l ?c ?k ?e; (case a => k_is); (case l => k_is); (case c => k_is); (case k => k_is); (case e => k_is)))
    (case d_check_many => (refine' K82.da ?a ?l ?c ?k; (case a => k_is); (case l => k_is); (case c => k_is); (case k => k_is)))
    (case d_answers_against => (refine' K82.dd ?a ?l ?c ?k ?e; (case a => k_is); (case l => k_is); (case c => k_is); (case k => k_is); (case e => k_is)))
    (case d_are_against => (refine' K82.dd ?a ?l ?c ?k ?e; (case a => k_is); (case l => k_is); (case c => k_is); (case k => k_is); (case e => k_is)))
    (case d__law_m_suspects => (refine' K82.da ?a ?l ?c ?k; (case a => k_is); (case l => k_is); (case c => k_is); (case k => k_is)))
    (case d__law_start => (refine' K82.da ?a ?l ?c ?k; (case a => k_is); (case l => k_is); (case c => k_is); (case k => k_is)))
    (case d__law_draw => (refine' K82.da ?a ?l ?c ?k; (case a => k_is); (case l => k_is); (case c => k_is); (case k => k_is)))
    (case d__law_pick => (refine' K82.da ?a ?l ?c ?k; (case a => k_is); (case l => k_is); (case c => k_is); (case k => k_is)))
    (case d__law_mixed => (refine' K82.da ?a ?l ?c ?k; (case a => k_is); (case l => k_is); (case c => k_is); (case k => k_is)))
    (case d__law_met => (refine' K82.da ?a ?l ?c ?k; (case a => k_is); (case l => k_is); (case c => k_is); (case k => k_is)))
    (case d__law_all => (refine' K82.dc ?a ?k ?l ?c; (case a => k_is); (case k => k_is); (case l => k_is); (case c => k_is)))
    (case lw => (refine' K82.la ?a ?l ?c; (case a => k_is); (case l => k_is); (case c => k_is)))
    (case c1 => (refine' K82.ca ?a ?xL ?rv ?sa ?ga ?gg ?no ?a1 ?t1 ?l1 ?c1 ?k1 ?kC ?eC ?tC ?hC; (case a => k_is); (case xL => k_is); (case rv => decide +kernel); (case sa => k_is); (case ga => k_is); (case gg => k_is); (case no => k_is); (case a1 => k_is); (case t1 => k_is); (case l1 => k_is); (case c1 => k_is); (case k1 => k_is); (case kC => k_is); (case eC => k_is); (case tC => k_is); (case hC => k_is)))
    (case c2 => (refine' K82.ca ?a ?xL ?rv ?sa ?ga ?gg ?no ?a1 ?t1 ?l1 ?c1 ?k1 ?kC ?eC ?tC ?hC; (case a => k_is); (case xL => k_is); (case rv => decide +kernel); (case sa => k_is); (case ga => k_is); (case gg => k_is); (case no => k_is); (case a1 => k_is); (case t1 => k_is); (case l1 => k_is); (case c1 => k_is); (case k1 => k_is); (case kC => k_is); (case eC => k_is); (case tC => k_is); (case hC => k_is)))
    (case c3 => (refine' K82.ca ?a ?xL ?rv ?sa ?ga ?gg ?no ?a1 ?t1 ?l1 ?c1 ?k1 ?kC ?eC ?tC ?hC; (case a => k_is); (case xL => k_is); (case rv => decide +kernel); (case sa => k_is); (case ga => k_is); (case gg => k_is); (case no => k_is); (case a1 => k_is); (case t1 => k_is); (case l1 => k_is); (case c1 => k_is); (case k1 => k_is); (case kC => k_is); (case eC => k_is); (case tC => k_is); (case hC => k_is)))
    (case c4 => (refine' K82.ca ?a ?xL ?rv ?sa ?ga ?gg ?no ?a1 ?t1 ?l1 ?c1 ?k1 ?kC ?eC ?tC ?hC; (case a => k_is); (case xL => k_is); (case rv => decide +kernel); (case sa => k_is); (case ga => k_is); (case gg => k_is); (case no => k_is); (case a1 => k_is); (case t1 => k_is); (case l1 => k_is); (case c1 => k_is); (case k1 => k_is); (case kC => k_is); (case eC => k_is); (case tC => k_is); (case hC => k_is)))
    (case c5 => (refine' K82.ca ?a ?xL ?rv ?sa ?ga ?gg ?no ?a1 ?t1 ?l1 ?c1 ?k1 ?kC ?eC ?tC ?hC; (case a => k_is); (case xL => k_is); (case rv => decide +kernel); (case sa => k_is); (case ga => k_is); (case gg => k_is); (case no => k_is); (case a1 => k_is); (case t1 => k_is); (case l1 => k_is); (case c1 => k_is); (case k1 => k_is); (case kC => k_is); (case eC => k_is); (case tC => k_is); (case hC => k_is)))
    (case tab_law => exact PySem.W.km_tabs_of Y _ (by decide))
    (case tabK_law => first | rfl | decide +kernel)
    (case hd_law => first | rfl | decide +kernel | (simp only [PySem.W.codeHdIn]; rfl))
    (case tab__law_all => exact PySem.W.km_tabs_of Y _ (by decide))
    (case tabK__law_all => first | rfl | decide +kernel)
    (case hd__law_all => first | rfl | decide +kernel | (simp only [PySem.W.codeHdIn]; rfl))
    (case ne__law_all_law => decide)
    (case k_SIGNS => k_is)
    (case i1 => first | k_is | rfl)
    (case e11 => first | k_is | rfl)
    (case i2 => first | k_is | rfl)
    (case e21 => first | k_is | rfl)
    (case e22 => first | k_is | rfl)
    (case i3 => first | k_is | rfl)
    (case e31 => first | k_is | rfl)
    (case e32 => first | k_is | rfl)
    (case e33 => first | k_is | rfl)
    (case i4 => first | k_is | rfl)
    (case e41 => first | k_is | rfl)
    (case e42 => first | k_is | rfl)
    (case e43 => first | k_is | rfl)
    (case e44 => first | k_is | rfl)
    (case i5 => first | k_is | rfl)
    (case e51 => first | k_is | rfl)
    (case e52 => first | k_is | rfl)
    (case e53 => first | k_is | rfl)
    (case e54 => first | k_is | rfl)
    (case e55 => first | k_is | rfl)
    (case z_isinstance => k_is)
    (case z_len => k_is)
    (case z_list => k_is)
    (case z_tuple => k_is)
    (case z_dict => k_is)
    (case z_int => k_is)
    (case z_bool => k_is)
    (case z_str => k_is)
    (case z_min => k_is)
    (case z_all => k_is)
    (case z_range => k_is)
    (case z_enumerate => k_is)
    (case z_zip => k_is)
    (case z_repr => k_is)
    (case z_set => k_is)
    (case z_sum => k_is)
    (case z_max => k_is)

