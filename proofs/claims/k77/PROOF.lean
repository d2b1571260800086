import PyProof.Rows.All
import Wide.All
import OpenK.AllK
import Wide.FinOn
import HandS.ForMost
import HandS.IsInst
import HandS.Style
import HandS.TupAny
import HandS.Deep
import KE.SortData
import HandS.Walk
import PySem.Challenge.RW_patchlots_k77_whole_possible_ones
import HandS.ForExc
import HandS.ExcInit
import HandS.ExcField
import HandS.Evl
import HandS.Zip
import HandS.Set
import HandS.Strs
import KE.GoesMore
import PyProof.EnumMake
import PyProof.Draws
import KE.KBits
import HandS.Text
import HandS.Iter
import HandS.Steps
import HandS.List
import HandS.Defaults
import HandS.NoneIn
import HandS.EndTab
set_option Elab.async false
set_option linter.all false
set_option maxRecDepth 100000
set_option maxHeartbeats 4000000
/-! Data as a whole over the hand layer: DX, what evaluates to what, a def's promise over data. -/
namespace KD
open PySem L2

/-! ### data that stands apart from some addresses -/
def kd : Key → PyData
  | .inl i => .int i
  | .inr x => .str x
mutual
inductive DX (X : Addr → Prop) (H : Hp) : V → PyData → Prop
  | non : DX X H .non .none
  | bl (b : Bool) : DX X H (.bl b) (.bool b)
  | int (i : Int) : DX X H (.int i) (.int i)
  | str (x : Str) : DX X H (.str x) (.str x)
  | lst {a : Addr} {xs : List V} {ds : List PyData} : ¬ X a → H a = some (.lst xs) → DXs X H xs ds → DX X H (.ref a) (.list ds)
  | tup {a : Addr} {xs : List V} {ds : List PyData} : ¬ X a → H a = some (.tup xs) → DXs X H xs ds → DX X H (.ref a) (.tuple ds)
  | dic {a : Addr} {kvs : List (Key × V)} {ks : List (PyData × PyData)} : ¬ X a → H a = some (.dK kvs) → DXk X H kvs ks → DX X H (.ref a) (.dict ks)
inductive DXs (X : Addr → Prop) (H : Hp) : List V → List PyData → Prop
  | nil : DXs X H [] []
  | cons {v : V} {vs : List V} {d : PyData} {ds : List PyData} : DX X H v d → DXs X H vs ds → DXs X H (v :: vs) (d :: ds)
inductive DXk (X : Addr → Prop) (H : Hp) : List (Key × V) → List (PyData × PyData) → Prop
  | nil : DXk X H [] []
  | cons {k : Key} {v : V} {vs : List (Key × V)} {d : PyData} {ds : List (PyData × PyData)} : DX X H v d → DXk X H vs ds → DXk X H ((k, v) :: vs) ((kd k, d) :: ds)
end
/-- what is not of X is kept -/
def Kp (X : Addr → Prop) (H H' : Hp) : Prop := ∀ a o, ¬ X a → H a = some o → H' a = some o
theorem Kp.of {X : Addr → Prop} {H H' : Hp} (h : Same H H') : Kp X H H' := fun a o _ e => h a o e
theorem Kp.refl {X : Addr → Prop} {H : Hp} : Kp X H H := fun _ _ _ e => e
theorem Kp.trans {X : Addr → Prop} {H H1 H2 : Hp} (h : Kp X H H1) (k : Kp X H1 H2) : Kp X H H2 := fun a o n e => k a o n (h a o n e)
section
variable {X : Addr → Prop} {H H' : Hp}
mutual
theorem DX.mono (k : Kp X H H') : ∀ {v : V} {d : PyData}, DX X H v d → DX X H' v d
  | _, _, .non => .non
  | _, _, .bl b => .bl b
  | _, _, .int i => .int i
  | _, _, .str x => .str x
  | _, _, .lst n h r => .lst n (k _ _ n h) (DXs.mono k r)
  | _, _, .tup n h r => .tup n (k _ _ n h) (DXs.mono k r)
  | _, _, .dic n h r => .dic n (k _ _ n h) (DXk.mono k r)
theorem DXs.mono (k : Kp X H H') : ∀ {vs : List V} {ds : List PyData}, DXs X H vs ds → DXs X H' vs ds
  | _, _, .nil => .nil
  | _, _, .cons h r => .cons (DX.mono k h) (DXs.mono k r)
theorem DXk.mono (k : Kp X H H') : ∀ {vs : List (Key × V)} {ds : List (PyData × PyData)}, DXk X H vs ds → DXk X H' vs ds
  | _, _, .nil => .nil
  | _, _, .cons h r => .cons (DX.mono k h) (DXk.mono k r)
end
theorem DXs.length : ∀ {vs : List V} {ds : List PyData}, DXs X H vs ds → vs.length = ds.length
  | _, _, .nil => rfl
  | _, _, .cons _ r => congrArg (· + 1) (DXs.length r)
theorem DXs.get : ∀ {vs : List V} {ds : List PyData} {i : Nat} {d : PyData}, DXs X H vs ds → ds[i]? = some d → ∃ v, vs[i]? = some v ∧ DX X H v d
  | _, _, _, _, .nil, e => by simp at e
  | _, _, 0, _, .cons h _, e => by simp at e; subst e; exact ⟨_, rfl, h⟩
  | _, _, i + 1, d, .cons _ r, e => by
    obtain ⟨v, h1, h2⟩ := DXs.get (i := i) (d := d) r (by simpa using e)
    exact ⟨v, by simpa using h1, h2⟩
theorem DXs.getV : ∀ {vs : List V} {ds : List PyData} {i : Nat} {v : V}, DXs X H vs ds → vs[i]? = some v → ∃ d, ds[i]? = some d ∧ DX X H v d
  | _, _, _, _, .nil, e => by simp at e
  | _, _, 0, _, .cons h _, e => by simp at e; subst e; exact ⟨_, rfl, h⟩
  | _, _, i + 1, d, .cons _ r, e => by
    obtain ⟨v, h1, h2⟩ := DXs.getV (i := i) (v := d) r (by simpa using e)
    exact ⟨v, by simpa using h1, h2⟩
theorem DXs.append : ∀ {vs ws : List V} {ds es : List PyData}, DXs X H vs ds → DXs X H ws es → DXs X H (vs ++ ws) (ds ++ es)
  | _, _, _, _, .nil, s => s
  | _, _, _, _, .cons h r, s => .cons h (DXs.append r s)
theorem DXs.take : ∀ {vs : List V} {ds : List PyData} (n : Nat), DXs X H vs ds → DXs X H (vs.take n) (ds.take n)
  | _, _, 0, _ => .nil
  | _, _, _ + 1, .nil => .nil
  | _, _, n + 1, .cons h r => .cons h (DXs.take n r)
theorem DXs.drop : ∀ {vs : List V} {ds : List PyData} (n : Nat), DXs X H vs ds → DXs X H (vs.drop n) (ds.drop n)
  | _, _, 0, r => r
  | _, _, _ + 1, .nil => .nil
  | _, _, n + 1, .cons _ r => DXs.drop n r
theorem DXs.erase : ∀ {vs : List V} {ds : List PyData} (n : Nat), DXs X H vs ds → DXs X H (vs.eraseIdx n) (ds.eraseIdx n)
  | _, _, _, .nil => .nil
  | _, _, 0, .cons _ r => r
  | _, _, n + 1, .cons h r => .cons h (DXs.erase n r)
theorem DXs.rep {vs : List V} {ds : List PyData} (h : DXs X H vs ds) : ∀ n : Nat, DXs X H (List.replicate n vs).flatten (List.replicate n ds).flatten
  | 0 => .nil
  | n + 1 => by
    rw [List.replicate_succ, List.replicate_succ, List.flatten_cons, List.flatten_cons]
    exact DXs.append h (DXs.rep h n)
theorem DXs.snoc {vs : List V} {ds : List PyData} {v : V} {d : PyData} (h : DXs X H vs ds) (k : DX X H v d) : DXs X H (vs ++ [v]) (ds ++ [d]) := DXs.append h (.cons k .nil)

/-! ### data without dicts is the layer's data -/
mutual
def noDict : PyData → Bool
  | .none => true
  | .bool _ => true
  | .int _ => true
  | .str _ => true
  | .list ds => noDicts ds
  | .tuple ds => noDicts ds
  | .dict _ => false
def noDicts : List PyData → Bool
  | [] => true
  | d :: ds => noDict d && noDicts ds
end
mutual
theorem DX.dp {K : PySem.W.Frag} : ∀ {v : V} {d : PyData}, DX X H v d → noDict d = true → Dp K H v d
  | _, _, .non, _ => .non
  | _, _, .bl b, _ => .bl b
  | _, _, .int i, _ => .int i
  | _, _, .str x, _ => .str x
  | _, _, .lst _ h r, n => .lst (SqL.of h) (DXs.dp r (by simpa [noDict] using n))
  | _, _, .tup _ h r, n => .tup (SqT.of h) (DXs.dp r (by simpa [noDict] using n))
  | _, _, .dic _ _ _, n => by simp [noDict] at n
theorem DXs.dp {K : PySem.W.Frag} : ∀ {vs : List V} {ds : List PyData}, DXs X H vs ds → noDicts ds = true → DpAll K H vs ds
  | _, _, .nil, _ => .nil
  | _, _, .cons (d := d) (ds := ds) h r, n => by
    have n' : noDict d = true ∧ noDicts ds = true := by simpa [noDicts] using n
    exact .cons (DX.dp h n'.1) (DXs.dp r n'.2)
end
end
/-- the addresses of X stand in the heap -/
def Trk (X : Addr → Prop) (H : Hp) : Prop := ∀ a, X a → ∃ o, H a = some o
theorem Trk.mono {X : Addr → Prop} {H H' : Hp} (t : Trk X H) (s : Same H H') : Trk X H' := fun a h => let ⟨o, e⟩ := t a h; ⟨o, s a o e⟩
theorem Trk.new {X : Addr → Prop} {H : Hp} {p : Addr} (t : Trk X H) (h : H p = none) : ¬ X p := fun x => by
  obtain ⟨o, e⟩ := t p x
  rw [h] at e
  cases e
theorem Same.upd {H : Hp} {p : Addr} {o : HO} (h : H p = none) : Same H (upd H p o) := fun b u e => by
  rw [upd_ne (ne_of_none e h)]
  exact e

/-! ### the frame's values as data -/
inductive Sv where
  | dat (d : PyData) | val (v : V) | un
def SvOk (X : Addr → Prop) (H : Hp) : Sv → Option (Option V) → Prop
  | .dat d, o => ∃ v, o = some (some v) ∧ DX X H v d
  | .val v, o => o = some (some v)
  | .un, _ => True
structure EnvOk (X : Addr → Prop) (H : Hp) (σ : St) (Γ : List Sv) : Prop where
  len : σ.length = Γ.length
  get : ∀ (i : Nat) (s : Sv), Γ[i]? = some s → SvOk X H s σ[i]?
section
variable {X : Addr → Prop} {H H' : Hp} {σ : St} {Γ : List Sv}
theorem SvOk.mono (k : Kp X H H') {s : Sv} {o : Option (Option V)} (h : SvOk X H s o) : SvOk X H' s o := by
  cases s with
  | dat d =>
    obtain ⟨v, e, r⟩ := h
    exact ⟨v, e, r.mono k⟩
  | val v => exact h
  | un => trivial
theorem EnvOk.mono (k : Kp X H H') (h : EnvOk X H σ Γ) : EnvOk X H' σ Γ := ⟨h.len, fun i s e => (h.get i s e).mono k⟩
theorem EnvOk.same (k : Same H H') (h : EnvOk X H σ Γ) : EnvOk X H' σ Γ := h.mono (Kp.of k)
theorem EnvOk.put {i : Nat} {v : V} {s : Sv} (h : EnvOk X H σ Γ) (hs : SvOk X H s (some (some v))) : EnvOk X H (σ.set i (some v)) (Γ.set i s) := by
  refine ⟨by rw [List.length_set, List.length_set]; exact h.len, fun j t e => ?_⟩
  by_cases hj : i = j
  · subst hj
    by_cases hl : i < Γ.length
    · rw [List.getElem?_set_self hl] at e
      cases e
      rw [List.getElem?_set_self (by rw [h.len]; exact hl)]
      exact hs
    · rw [List.getElem?_eq_none (by rw [List.length_set]; omega)] at e
      cases e
  · rw [List.getElem?_set_ne hj] at e
    rw [List.getElem?_set_ne hj]
    exact h.get j t e
theorem EnvOk.set {i : Nat} {v : V} {d : PyData} (h : EnvOk X H σ Γ) (hd : DX X H v d) : EnvOk X H (σ.set i (some v)) (Γ.set i (.dat d)) := h.put ⟨v, rfl, hd⟩
theorem EnvOk.setV {i : Nat} {v : V} (h : EnvOk X H σ Γ) : EnvOk X H (σ.set i (some v)) (Γ.set i (.val v)) := h.put rfl
/-- what is not asked any more -/
theorem EnvOk.wipe (h : EnvOk X H σ Γ) : ∀ vs : List Nat, EnvOk X H (wipe σ vs) (vs.foldr (fun v g => g.set v .un) Γ)
  | [] => h
  | v :: vs => by
    have ih := EnvOk.wipe h vs
    show EnvOk X H ((L2.wipe σ vs).set v none) ((vs.foldr (fun v g => g.set v .un) Γ).set v .un)
    refine ⟨by rw [List.length_set, List.length_set]; exact ih.len, fun j t e => ?_⟩
    by_cases hj : v = j
    · subst hj
      by_cases hl : v < (vs.foldr (fun v g => g.set v Sv.un) Γ).length
      · rw [List.getElem?_set_self hl] at e
        cases e
        trivial
      · rw [List.getElem?_eq_none (by rw [List.length_set]; omega)] at e
        cases e
    · rw [List.getElem?_set_ne hj] at e
      rw [List.getElem?_set_ne hj]
      exact ih.get j t e
theorem envOk_start {N : List Str} {vs : List V} {ss : List Sv} (hl : vs.length = ss.length) (hs : ∀ (i : Nat) (s : Sv), ss[i]? = some s → ∀ v, vs[i]? = some v → SvOk X H s (some (some v))) (hN : vs.length ≤ N.length) : EnvOk X H (L2.start N vs) (ss ++ List.replicate (N.length - vs.length) .un) := by
  unfold L2.start
  refine ⟨by simp [hl], fun i s e => ?_⟩
  by_cases hi : i < vs.length
  · rw [List.getElem?_append_left (by omega)] at e
    rw [List.getElem?_append_left (by simpa using hi)]
    rw [List.getElem?_map, List.getElem?_eq_getElem hi]
    exact hs i s e _ (List.getElem?_eq_getElem hi)
  · rw [List.getElem?_append_right (by omega)] at e
    have hu : s = .un := by
      have := List.mem_of_getElem? e
      exact List.eq_of_mem_replicate this
    subst hu
    trivial
end

/-! ### what evaluates to what datum, leaving all as it is -/
def G (X : Addr → Prop) (te : TE) (σ : St) (H : Hp) (d : PyData) : Prop := ∀ H1, Same H H1 → ∀ Q : VK, (∀ v H2, Same H1 H2 → DX X H2 v d → Q v H2) → te σ H1 Q
def GV (te : TE) (σ : St) (H : Hp) (v : V) : Prop := ∀ H1, Same H H1 → ∀ Q : VK, Q v H1 → te σ H1 Q
def GT (tt : TT) (σ : St) (H : Hp) (b : Bool) : Prop := ∀ H1, Same H H1 → ∀ Q : Bool → Hp → Prop, (∀ H2, Same H1 H2 → Q b H2) → tt σ H1 Q
def GA (X : Addr → Prop) (ta : TA) (σ : St) (H : Hp) (ds : List PyData) : Prop := ∀ H1, Same H H1 → ∀ Q : List V → Hp → Prop, (∀ vs H2, Same H1 H2 → DXs X H2 vs ds → Q vs H2) → ta σ H1 Q
def GO (to : TO) (σ : St) (H : Hp) (o : Option Int) : Prop := ∀ H1, Same H H1 → ∀ Q : Option Int → Hp → Prop, (∀ H2, Same H1 H2 → Q o H2) → to σ H1 Q
/-- operations on data -/
def RD (X : Addr → Prop) (r : R2) (x y z : PyData) : Prop := ∀ H u v, Trk X H → DX X H u x → DX X H v y → ∀ Q : VK, (∀ w H2, Same H H2 → DX X H2 w z → Q w H2) → r u v H Q
def RB (X : Addr → Prop) (r : R2) (x y : PyData) (b : Bool) : Prop := ∀ H u v, Trk X H → DX X H u x → DX X H v y → ∀ Q : VK, Q (.bl b) H → r u v H Q
def RF (X : Addr → Prop) (r : List V → Hp → VK → Prop) (xs : List PyData) (z : PyData) : Prop := ∀ H us, Trk X H → DXs X H us xs → ∀ Q : VK, (∀ w H2, Same H H2 → DX X H2 w z → Q w H2) → r us H Q
section
variable {X : Addr → Prop} {σ : St} {H H' : Hp} {te ta tb tc : TE} {tt tu : TT} {x y z d e : PyData} {Γ : List Sv} {K : PySem.W.Frag} {r : R2}
theorem DX.int_inv {v : V} {i : Int} (h : DX X H v (.int i)) : v = .int i := by cases h; rfl
theorem DX.bl_inv {v : V} {b : Bool} (h : DX X H v (.bool b)) : v = .bl b := by cases h; rfl
theorem DX.str_inv {v : V} {s : Str} (h : DX X H v (.str s)) : v = .str s := by cases h; rfl
theorem DX.non_inv {v : V} (h : DX X H v .none) : v = .non := by cases h; rfl
theorem DX.lst_inv {v : V} {ds : List PyData} (h : DX X H v (.list ds)) : ∃ a xs, v = .ref a ∧ ¬ X a ∧ H a = some (.lst xs) ∧ DXs X H xs ds := by
  cases h with | lst n e r => exact ⟨_, _, rfl, n, e, r⟩
theorem DX.tup_inv {v : V} {ds : List PyData} (h : DX X H v (.tuple ds)) : ∃ a xs, v = .ref a ∧ ¬ X a ∧ H a = some (.tup xs) ∧ DXs X H xs ds := by
  cases h with | tup n e r => exact ⟨_, _, rfl, n, e, r⟩
theorem DX.newL {xs : List V} {ds : List PyData} (t : Trk X H) (h : DXs X H xs ds) {p : Addr} (hp : H p = none) : DX X (upd H p (.lst xs)) (.ref p) (.list ds) := .lst (t.new hp) upd_same (h.mono (Kp.of (Same.upd hp)))
theorem DX.newT {xs : List V} {ds : List PyData} (t : Trk X H) (h : DXs X H xs ds) {p : Addr} (hp : H p = none) : DX X (upd H p (.tup xs)) (.ref p) (.tuple ds) := .tup (t.new hp) upd_same (h.mono (Kp.of (Same.upd hp)))
theorem DX.isa_bool {v : V} {b : Bool} (h : DX X H v d) (e : v = .bl b) : d = .bool b := by subst e; cases h; rfl

theorem G.mono (s : Same H H') (h : G X te σ H d) : G X te σ H' d := fun H1 k Q q => h H1 (s.trans k) Q q
theorem GT.mono {b : Bool} (s : Same H H') (h : GT tt σ H b) : GT tt σ H' b := fun H1 k Q q => h H1 (s.trans k) Q q
theorem g_var {i : Nat} (E : EnvOk X H σ Γ) (h : Γ[i]? = some (.dat d)) : G X (tVar i) σ H d := fun H1 s Q q => by
  obtain ⟨v, e, r⟩ := E.get i _ h
  exact ⟨v, e, q v H1 (Same.refl H1) (r.mono (Kp.of s))⟩
theorem gv_var {i : Nat} {v : V} (E : EnvOk X H σ Γ) (h : Γ[i]? = some (.val v)) : GV (tVar i) σ H v := fun H1 s Q q => ⟨v, E.get i _ h, q⟩
theorem g_int {i : Int} : G X (tC (.int i)) σ H (.int i) := fun H1 _ Q q => q _ H1 (Same.refl H1) (.int i)
theorem g_bl {b : Bool} : G X (tC (.bl b)) σ H (.bool b) := fun H1 _ Q q => q _ H1 (Same.refl H1) (.bl b)
theorem g_str {s : Str} : G X (tC (.str s)) σ H (.str s) := fun H1 _ Q q => q _ H1 (Same.refl H1) (.str s)
theorem g_non : G X (tC .non) σ H .none := fun H1 _ Q q => q _ H1 (Same.refl H1) .non
theorem ga_nil : GA X tNil σ H [] := fun H1 _ Q q => q [] H1 (Same.refl H1) .nil
theorem ga_cons {ta : TE} {tr : TA} {ds : List PyData} (h : G X ta σ H d) (k : GA X tr σ H ds) : GA X (tCons ta tr) σ H (d :: ds) := fun H1 s Q q =>
  h H1 s _ fun v H2 s2 r => k H2 (s.trans s2) _ fun vs H3 s3 rs => q _ H3 (s2.trans s3) (.cons (r.mono (Kp.of s3)) rs)
theorem g_lst {ta : TA} {ds : List PyData} (t : Trk X H) (h : GA X ta σ H ds) (hl : ds.length ≤ 1000000) : G X (tLst ta) σ H (.list ds) := fun H1 s Q q =>
  h H1 s _ fun vs H2 s2 rs => ⟨by rw [rs.length, sizeLine_eq]; omega, fun p hp => q _ _ (s2.trans (Same.upd hp)) (DX.newL ((t.mono s).mono s2) rs hp)⟩
theorem g_tup {ta : TA} {ds : List PyData} (t : Trk X H) (h : GA X ta σ H ds) (hl : ds.length ≤ 1000000) : G X (tTup ta) σ H (.tuple ds) := fun H1 s Q q =>
  h H1 s _ fun vs H2 s2 rs => ⟨by rw [rs.length, sizeLine_eq]; omega, fun p hp => q _ _ (s2.trans (Same.upd hp)) (DX.newT ((t.mono s).mono s2) rs hp)⟩
theorem g_op (t : Trk X H) (ha : G X ta σ H x) (hb : G X tb σ H y) (hr : RD X r x y z) : G X (tOp r ta tb) σ H z := fun H1 s Q q =>
  ha H1 s _ fun u H2 s2 ru => hb H2 (s.trans s2) _ fun v H3 s3 rv => hr H3 u v (((t.mono s).mono s2).mono s3) (ru.mono (Kp.of s3)) rv Q fun w H4 s4 rw_ => q w H4 ((s2.trans s3).trans s4) rw_
theorem gt_op {b : Bool} (t : Trk X H) (ha : G X ta σ H x) (hb : G X tb σ H y) (hr : RB X r x y b) : GT (tTest (tOp r ta tb)) σ H b := fun H1 s Q q =>
  ha H1 s _ fun u H2 s2 ru => hb H2 (s.trans s2) _ fun v H3 s3 rv => hr H3 u v (((t.mono s).mono s2).mono s3) (ru.mono (Kp.of s3)) rv _ ⟨b, rfl, q H3 (s2.trans s3)⟩
theorem RB.rd {b : Bool} (h : RB X r x y b) : RD X r x y (.bool b) := fun H u v t ru rv Q q => h H u v t ru rv Q (q _ H (Same.refl H) (.bl b))
theorem RD.or1 {r r' : R2} (h : RD X r x y z) : RD X (fun x y H Q => r x y H Q ∨ r' x y H Q) x y z := fun H u v t ru rv Q q => .inl (h H u v t ru rv Q q)
theorem RD.or2 {r r' : R2} (h : RD X r' x y z) : RD X (fun x y H Q => r x y H Q ∨ r' x y H Q) x y z := fun H u v t ru rv Q q => .inr (h H u v t ru rv Q q)
/-- a test that is a bool's -/
theorem gt_B {b : Bool} (h : G X te σ H (.bool b)) : GT (tB te) σ H b := fun H1 s Q q => h H1 s _ fun v H2 s2 r => ⟨b, r.bl_inv, q H2 s2⟩
theorem gt_test {b : Bool} (h : G X te σ H (.bool b)) : GT (tTest te) σ H b := fun H1 s Q q => h H1 s _ fun v H2 s2 r => ⟨b, r.bl_inv, q H2 s2⟩
theorem gt_not {b : Bool} (h : GT tt σ H b) : GT (tNot tt) σ H (!b) := fun H1 s Q q => h H1 s _ fun H2 s2 => q H2 s2
theorem gt_and {a b : Bool} (h : GT tt σ H a) (k : a = true → GT tu σ H b) : GT (tAnd tt tu) σ H (a && b) := fun H1 s Q q => h H1 s _ fun H2 s2 => by
  cases a with
  | true =>
    show tu σ H2 Q
    exact k rfl H2 (s.trans s2) Q fun H3 s3 => q H3 (s2.trans s3)
  | false =>
    show Q false H2
    exact q H2 s2
theorem gt_or {a b : Bool} (h : GT tt σ H a) (k : a = false → GT tu σ H b) : GT (tOr tt tu) σ H (a || b) := fun H1 s Q q => h H1 s _ fun H2 s2 => by
  cases a with
  | true =>
    show Q true H2
    exact q H2 s2
  | false =>
    show tu σ H2 Q
    exact k rfl H2 (s.trans s2) Q fun H3 s3 => q H3 (s2.trans s3)
theorem gt_is {a b : Bool} (h : GT tt σ H a) (e : a = b) : GT tt σ H b := e ▸ h
theorem g_is (h : G X te σ H d) (e' : d = e) : G X te σ H e := e' ▸ h
theorem g_and {a b : Bool} (h : G X ta σ H (.bool a)) (k : a = true → G X tb σ H (.bool b)) : G X (tAndV ta tb) σ H (.bool (a && b)) := fun H1 s Q q => h H1 s _ fun v H2 s2 r => ⟨a, r.bl_inv, by
  cases a with
  | true =>
    show tb σ H2 Q
    exact k rfl H2 (s.trans s2) Q fun v H3 s3 r3 => q v H3 (s2.trans s3) r3
  | false =>
    show Q (.bl false) H2
    exact q _ H2 s2 (.bl false)⟩
theorem g_or {a b : Bool} (h : G X ta σ H (.bool a)) (k : a = false → G X tb σ H (.bool b)) : G X (tOrV ta tb) σ H (.bool (a || b)) := fun H1 s Q q => h H1 s _ fun v H2 s2 r => ⟨a, r.bl_inv, by
  cases a with
  | true =>
    show Q (.bl true) H2
    exact q _ H2 s2 (.bl true)
  | false =>
    show tb σ H2 Q
    exact k rfl H2 (s.trans s2) Q fun v H3 s3 r3 => q v H3 (s2.trans s3) r3⟩
theorem g_not {a : Bool} (h : G X ta σ H (.bool a)) : G X (tNotV ta) σ H (.bool (!a)) := fun H1 s Q q => h H1 s _ fun v H2 s2 r => ⟨a, r.bl_inv, q _ H2 s2 (.bl _)⟩
theorem g_if {b : Bool} (h : GT tt σ H b) (h1 : b = true → G X ta σ H d) (h2 : b = false → G X tb σ H d) : G X (tIf tt ta tb) σ H d := fun H1 s Q q => h H1 s _ fun H2 s2 => by
  cases b with
  | true =>
    show ta σ H2 Q
    exact h1 rfl H2 (s.trans s2) Q fun v H3 s3 r3 => q v H3 (s2.trans s3) r3
  | false =>
    show tb σ H2 Q
    exact h2 rfl H2 (s.trans s2) Q fun v H3 s3 r3 => q v H3 (s2.trans s3) r3
theorem g_call {sp : Sp} {E : XK} {ta : TA} {ds : List PyData} (h : GA X ta σ H ds) (k : ∀ vs H1, Same H H1 → DXs X H1 vs ds → ∀ Q : VK, (∀ v H2, Same H1 H2 → DX X H2 v d → Q v H2) → sp vs H1 Q E) : G X (tCall sp [] E ta) σ H d := fun H1 s Q q =>
  h H1 s _ fun vs H2 s2 rs => by
    rw [List.append_nil]
    exact k vs H2 (s.trans s2) rs Q fun v H3 s3 r3 => q v H3 (s2.trans s3) r3
theorem g_cb {rr : List V → Hp → VK → Prop} {ta : TA} {ds : List PyData} (t : Trk X H) (h : GA X ta σ H ds) (k : RF X rr ds d) : G X (tCB rr ta) σ H d := fun H1 s Q q =>
  h H1 s _ fun vs H2 s2 rs => k H2 vs ((t.mono s).mono s2) rs Q fun w H3 s3 r3 => q w H3 (s2.trans s3) r3
theorem go_none : GO tNoPart σ H none := fun H1 _ Q q => q H1 (Same.refl H1)
theorem go_some {i : Int} (h : G X te σ H (.int i)) : GO (tPart te) σ H (some i) := fun H1 s Q q => h H1 s _ fun v H2 s2 r => ⟨i, r.int_inv, q H2 s2⟩

/-! ### the operations -/
theorem rd_I0 {g : Int → Int → Int} {i j : Int} : RD X (rI0 fun i j => .int (g i j)) (.int i) (.int j) (.int (g i j)) := fun H u v _ ru rv Q q => ⟨i, j, ru.int_inv, rv.int_inv, q _ H (Same.refl H) (.int _)⟩
theorem rd_I {C : Int → Int → Prop} {g : Int → Int → Int} {i j : Int} (c : C i j) : RD X (rI C fun i j => .int (g i j)) (.int i) (.int j) (.int (g i j)) := fun H u v _ ru rv Q q => ⟨i, j, ru.int_inv, rv.int_inv, c, q _ H (Same.refl H) (.int _)⟩
theorem rb_I0 {g : Int → Int → Bool} {i j : Int} : RB X (rI0 fun i j => .bl (g i j)) (.int i) (.int j) (g i j) := fun H u v _ ru rv Q q => ⟨i, j, ru.int_inv, rv.int_inv, q⟩
theorem rd_cat {xs ys : List PyData} (hl : xs.length + ys.length ≤ 1000000) : RD X rCat (.list xs) (.list ys) (.list (xs ++ ys)) := fun H u v t ru rv Q q => by
  obtain ⟨a, us, rfl, _, ha, rs⟩ := ru.lst_inv
  obtain ⟨b, ws, rfl, _, hb, rt⟩ := rv.lst_inv
  exact ⟨a, b, us, ws, rfl, rfl, ha, hb, by rw [rs.length, rt.length, sizeLine_eq]; omega, fun p hp => q _ _ (Same.upd hp) (DX.newL t (rs.append rt) hp)⟩
theorem rd_rep {xs : List PyData} {k : Int} (h1 : -(2 ^ 63) ≤ k) (h2 : k < 2 ^ 63) (hl : xs.length * k.toNat ≤ 1000000) : RD X rRep (.list xs) (.int k) (.list (List.replicate k.toNat xs).flatten) := fun H u v t ru rv Q q => by
  obtain ⟨a, us, rfl, _, ha, rs⟩ := ru.lst_inv
  exact ⟨a, k, us, rfl, rv.int_inv, ha, h1, h2, by rw [rs.length, sizeLine_eq]; omega, fun p hp => q _ _ (Same.upd hp) (DX.newL t (rs.rep k.toNat) hp)⟩
theorem rd_addS {a b : Str} (hl : a.length + b.length ≤ 1000000) : RD X (fun x y H Q => ∃ i j, x = V.str i ∧ y = V.str j ∧ i.length + j.length ≤ sizeLine ∧ Q (V.str (i ++ j)) H) (.str a) (.str b) (.str (a ++ b)) := fun H u v _ ru rv Q q => ⟨a, b, ru.str_inv, rv.str_inv, by rw [sizeLine_eq]; omega, q _ H (Same.refl H) (.str _)⟩
theorem rb_eqD (hd : noDict x = true) (he : noDict y = true) (hs : SeqAt.shaped x = true) (ht : SeqAt.shaped y = true) : RB X (rEqD K) x y (PyData.eqv x y) := fun H u v _ ru rv Q q => ⟨x, y, ru.dp hd, rv.dp he, hs, ht, q⟩
theorem rb_neD (hd : noDict x = true) (he : noDict y = true) (hs : SeqAt.shaped x = true) (ht : SeqAt.shaped y = true) : RB X (rNeD K) x y (!PyData.eqv x y) := fun H u v _ ru rv Q q => ⟨x, y, ru.dp hd, rv.dp he, hs, ht, q⟩
def isNone : PyData → Bool
  | .none => true
  | _ => false
theorem dx_none {v : V} (h : DX X H v d) : decide (v = .non) = isNone d := by cases h <;> simp [isNone]
theorem rb_isN : RB X (fun x y H Q => y = .non ∧ Q (.bl (decide (x = .non))) H) x .none (isNone x) := fun H u v _ ru rv Q q => ⟨rv.non_inv, by rw [dx_none ru]; exact q⟩
theorem rb_notN : RB X (fun x y H Q => y = .non ∧ Q (.bl (!decide (x = .non))) H) x .none (!isNone x) := fun H u v _ ru rv Q q => ⟨rv.non_inv, by rw [dx_none ru]; exact q⟩
theorem rb_isB {a b : Bool} : RB X rIsB (.bool a) (.bool b) (decide (a = b)) := fun H u v _ ru rv Q q => ⟨a, b, ru.bl_inv, rv.bl_inv, q⟩
theorem rb_notB {a b : Bool} : RB X rNotB (.bool a) (.bool b) (!decide (a = b)) := fun H u v _ ru rv Q q => ⟨a, b, ru.bl_inv, rv.bl_inv, q⟩
/-- an item -/
theorem rd_ixL {ds : List PyData} {i : Int} (h : atI ds i = some z) : RD X (rIx K) (.list ds) (.int i) z := fun H u v _ ru rv Q q => by
  obtain ⟨a, us, rfl, _, ha, rs⟩ := ru.lst_inv
  unfold atI at h
  cases hx : ixN ds.length i with
  | none => rw [hx] at h; cases h
  | some j =>
    rw [hx] at h
    obtain ⟨w, hw, rz⟩ := rs.get (i := j) (show ds[j]? = some z from h)
    exact .inl ⟨a, us, i, w, rfl, rv.int_inv, SqL.of ha, by unfold atI; rw [rs.length, hx]; exact hw, q w H (Same.refl H) rz⟩
theorem rd_ixT {ds : List PyData} {i : Int} (h : atI ds i = some z) : RD X (rIx K) (.tuple ds) (.int i) z := fun H u v _ ru rv Q q => by
  obtain ⟨a, us, rfl, _, ha, rs⟩ := ru.tup_inv
  unfold atI at h
  cases hx : ixN ds.length i with
  | none => rw [hx] at h; cases h
  | some j =>
    rw [hx] at h
    obtain ⟨w, hw, rz⟩ := rs.get (i := j) (show ds[j]? = some z from h)
    exact .inr (.inl ⟨a, us, i, w, rfl, rv.int_inv, SqT.of ha, by unfold atI; rw [rs.length, hx]; exact hw, q w H (Same.refl H) rz⟩)
/-- a slice of a list -/
def cutPD (xs : List PyData) (lo hi : Option Int) : List PyData := (xs.drop (HT.sIx xs.length 0 lo)).take (HT.sIx xs.length xs.length hi - HT.sIx xs.length 0 lo)
theorem DXs.cut {vs : List V} {ds : List PyData} (h : DXs X H vs ds) (lo hi : Option Int) : DXs X H (cutV vs lo hi) (cutPD ds lo hi) := by
  unfold cutV cutPD
  rw [h.length]
  exact (h.drop _).take _
theorem g_sl {tl th : TO} {ds : List PyData} {lo hi : Option Int} (t : Trk X H) (h : G X te σ H (.list ds)) (hl : GO tl σ H lo) (hh : GO th σ H hi) : G X (tSl (rSlL K) te tl th) σ H (.list (cutPD ds lo hi)) := fun H1 s Q q =>
  h H1 s _ fun v H2 s2 r2 => hl H2 (s.trans s2) _ fun H3 s3 => hh H3 ((s.trans s2).trans s3) _ fun H4 s4 => by
    obtain ⟨a, us, rfl, _, ha, rs⟩ := (r2.mono (Kp.of (s3.trans s4))).lst_inv
    exact ⟨a, us, rfl, SqL.of ha, fun p hp => q _ _ (((s2.trans s3).trans s4).trans (Same.upd hp)) (DX.newL (((t.mono s).mono s2).mono (s3.trans s4)) (rs.cut lo hi) hp)⟩

/-! ### functions of the language -/
def lenD : PyData → Nat
  | .str s => s.length
  | .list ds => ds.length
  | .tuple ds => ds.length
  | _ => 0
def hasLen : PyData → Bool
  | .str s => decide (s.length ≤ 1000000)
  | .list _ => true
  | .tuple _ => true
  | _ => false
theorem rf_len (h : hasLen d = true) : RF X (fun xs H Q => ∃ x n, xs = [x] ∧ LenV K x H n ∧ Q (.int n) H) [d] (.int (lenD d : Int)) := fun H us _ rs Q q => by
  cases rs with
  | cons r r2 =>
    cases r2
    cases r with
    | str s => exact ⟨_, s.length, rfl, ⟨by have := of_decide_eq_true (show decide (s.length ≤ 1000000) = true from h); rw [sizeLine_eq]; omega, rfl⟩, q _ H (Same.refl H) (.int _)⟩
    | lst n e r => exact ⟨_, _, rfl, .inl ⟨_, SqL.of e, rfl⟩, q _ H (Same.refl H) (by rw [r.length]; exact .int _)⟩
    | tup n e r => exact ⟨_, _, rfl, .inr ⟨_, SqT.of e, rfl⟩, q _ H (Same.refl H) (by rw [r.length]; exact .int _)⟩
    | _ => exact absurd h (by simp [hasLen])
/-- the items of a list or tuple -/
def itemsD : PyData → List PyData
  | .list ds => ds
  | .tuple ds => ds
  | _ => []
def isSeq : PyData → Bool
  | .list _ => true
  | .tuple _ => true
  | _ => false
theorem rf_list (h : isSeq d = true) : RF X (fun xs H Q => ∃ p ys, xs = [V.ref p] ∧ (SqL K H p ys ∨ SqT K H p ys) ∧ ∀ l, H l = none → Q (.ref l) (upd H l (.lst ys))) [d] (.list (itemsD d)) := fun H us t rs Q q => by
  cases rs with
  | cons r r2 =>
    cases r2
    cases r with
    | lst n e r => exact ⟨_, _, rfl, .inl (SqL.of e), fun l hl => q _ _ (Same.upd hl) (DX.newL t r hl)⟩
    | tup n e r => exact ⟨_, _, rfl, .inr (SqT.of e), fun l hl => q _ _ (Same.upd hl) (DX.newL t r hl)⟩
    | _ => exact absurd h (by simp [isSeq])
theorem rf_tuple (h : isSeq d = true) : RF X (fun xs H Q => ∃ p ys, xs = [V.ref p] ∧ ((SqL K H p ys ∧ ∀ l, H l = none → Q (.ref l) (upd H l (.tup ys))) ∨ (SqT K H p ys ∧ Q (.ref p) H))) [d] (.tuple (itemsD d)) := fun H us t rs Q q => by
  cases rs with
  | cons r r2 =>
    cases r2
    cases r with
    | lst n e r => exact ⟨_, _, rfl, .inl ⟨SqL.of e, fun l hl => q _ _ (Same.upd hl) (DX.newT t r hl)⟩⟩
    | tup n e r => exact ⟨_, _, rfl, .inr ⟨SqT.of e, q _ H (Same.refl H) (.tup n e r)⟩⟩
    | _ => exact absurd h (by simp [isSeq])
theorem DXs.ints : ∀ {vs : List V} {ns : List Int}, DXs X H vs (ns.map PyData.int) → vs = ns.map V.int
  | _, [], .nil => rfl
  | _, n :: ns, .cons h r => by rw [h.int_inv, DXs.ints r]; rfl
theorem DXs.bls : ∀ {vs : List V} {ns : List Bool}, DXs X H vs (ns.map PyData.bool) → vs = ns.map V.bl
  | _, [], .nil => rfl
  | _, n :: ns, .cons h r => by rw [h.bl_inv, DXs.bls r]; rfl
theorem DXs.strs : ∀ {vs : List V} {ns : List Str}, DXs X H vs (ns.map PyData.str) → vs = ns.map V.str
  | _, [], .nil => rfl
  | _, n :: ns, .cons h r => by rw [h.str_inv, DXs.strs r]; rfl
theorem DX.ofInts {p : Addr} {ns : List Int} (n : ¬ X p) (h : H p = some (.lst (ns.map V.int))) : DX X H (.ref p) (.list (ns.map PyData.int)) := by
  refine .lst n h ?_
  clear h
  induction ns with
  | nil => exact .nil
  | cons a r ih => exact .cons (.int a) ih
theorem rf_min {ns : List Int} {m : Int} (h0 : 0 < ns.length) (hm : m ∈ ns) (hl : ∀ y ∈ ns, m ≤ y) : RF X (rMin K) [.list (ns.map PyData.int)] (.int m) := fun H us _ rs Q q => by
  cases rs with
  | cons r r2 =>
    cases r2
    obtain ⟨a, vs, rfl, _, ha, rv⟩ := r.lst_inv
    refine ⟨a, ns, rfl, SqL.of (by rw [← rv.ints]; exact ha), h0, fun m' h1 h2 => ?_⟩
    have e : m' = m := Int.le_antisymm (h2 m hm) (hl m' h1)
    subst e
    exact q _ H (Same.refl H) (.int _)
theorem rf_all {bs : List Bool} : RF X (rAll K) [.list (bs.map PyData.bool)] (.bool (bs.all id)) := fun H us _ rs Q q => by
  cases rs with
  | cons r r2 =>
    cases r2
    obtain ⟨a, vs, rfl, _, ha, rv⟩ := r.lst_inv
    exact ⟨a, bs, rfl, SqL.of (by rw [← rv.bls]; exact ha), q _ H (Same.refl H) (.bl _)⟩
theorem rf_any {bs : List Bool} : RF X (rAny K) [.list (bs.map PyData.bool)] (.bool (bs.any id)) := fun H us _ rs Q q => by
  cases rs with
  | cons r r2 =>
    cases r2
    obtain ⟨a, vs, rfl, _, ha, rv⟩ := r.lst_inv
    exact ⟨a, bs, rfl, SqL.of (by rw [← rv.bls]; exact ha), q _ H (Same.refl H) (.bl _)⟩
theorem rf_int {i : Int} : RF X (fun xs H Q => (∃ i, xs = [V.int i] ∧ Q (.int i) H) ∨ ∃ k, xs = [V.bl k] ∧ Q (.int (if k = true then 1 else 0)) H) [.int i] (.int i) := fun H us _ rs Q q => by
  cases rs with
  | cons r r2 =>
    cases r2
    rw [r.int_inv]
    exact .inl ⟨i, rfl, q _ H (Same.refl H) (.int _)⟩
/-- isinstance -/
def tyD : PyData → String
  | .none => "NoneType"
  | .bool _ => "bool"
  | .int _ => "int"
  | .str _ => "str"
  | .list _ => "list"
  | .tuple _ => "tuple"
  | .dict _ => "dict"
theorem DX.ty {v : V} (h : DX X H v d) : TyX K H v (.type (tyD d)) := by
  cases h with
  | non => exact .base .non
  | bl b => exact .base (.bl b)
  | int i => exact .base (.int i)
  | str s => exact .base (.str s)
  | lst n e r => exact .base (.lst e)
  | tup n e r => exact .base (.tup e)
  | dic n e r => exact .base (.dK e)
def isD (n : String) (d : PyData) : Bool := (kitB (tyD d) n).getD false
theorem kit_d {n : String} (h : (kitB (tyD d) n).isSome = true) : PySem.W.kitOne K (.type (tyD d)) (.type n) = some (isD n d) := by
  unfold isD
  cases e : kitB (tyD d) n with
  | none => rw [e] at h; cases h
  | some b => exact kit_ty e
theorem g_isi {n : String} (h : G X te σ H d) (hk : (kitB (tyD d) n).isSome = true) : G X (tCB (rIsi K) (tCons te (tCons (tC (.ty n)) tNil))) σ H (.bool (isD n d)) := fun H1 s Q q =>
  h H1 s _ fun v H2 s2 r => ⟨v, .ty n, _, _, _, rfl, .ty n, r.ty, kit_d hk, q _ H2 s2 (.bl _)⟩
def isDs (ns : List String) (d : PyData) : Bool := ns.any fun n => isD n d
theorem kit_ds : ∀ {ns : List String}, (∀ n ∈ ns, (kitB (tyD d) n).isSome = true) → PySem.W.kitAny K (.type (tyD d)) (ns.map Value.type) = some (isDs ns d)
  | [], _ => by unfold PySem.W.kitAny; rfl
  | n :: ns, h => by
    have h1 := kit_d (K := K) (h n List.mem_cons_self)
    have h2 := kit_ds (ns := ns) fun m hm => h m (List.mem_cons_of_mem _ hm)
    refine kitAny_cons h1 (fun e => ?_) (fun e => ?_)
    · rw [h2]
      unfold isDs
      rw [List.any_cons, e, Bool.false_or]
    · unfold isDs
      rw [List.any_cons, e, Bool.true_or]
def tyArgs : List String → TA
  | [] => tNil
  | n :: ns => tCons (tC (.ty n)) (tyArgs ns)
theorem tyArgs_run : ∀ (ns : List String) (σ : St) (H : Hp) (Q : List V → Hp → Prop), Q (ns.map V.ty) H → tyArgs ns σ H Q
  | [], _, _, _, q => q
  | n :: ns, σ, H, Q, q => tyArgs_run ns σ H _ q
theorem clsV_all : ∀ ns : List String, Paired ClsV (ns.map V.ty) (ns.map Value.type)
  | [] => .nil
  | n :: ns => .cons (.ty n) (clsV_all ns)
theorem g_isiT {ns : List String} {t2 : TA} (h : G X te σ H d) (e2 : t2 = tyArgs ns) (hl : ns.length ≤ 1000) (hk : ∀ n ∈ ns, (kitB (tyD d) n).isSome = true) : G X (tCB (rIsiT K) (tCons te (tCons (tTup t2) tNil))) σ H (.bool (isDs ns d)) := fun H1 s Q q =>
  h H1 s _ fun v H2 s2 r => by
    subst e2
    refine tyArgs_run ns σ H2 _ ⟨by rw [List.length_map, sizeLine_eq]; omega, fun p hp => ?_⟩
    exact ⟨v, p, ns.map V.ty, _, ns.map Value.type, _, rfl, upd_same, clsV_all ns, (r.mono (Kp.of (Same.upd hp))).ty, kit_ds hk, q _ _ (s2.trans (Same.upd hp)) (.bl _)⟩
end
theorem kb_NoneType_int : kitB "NoneType" "int" = some false := by decide +kernel
theorem kb_bool_int : kitB "bool" "int" = some true := by decide +kernel
theorem kb_int_int : kitB "int" "int" = some true := by decide +kernel
theorem kb_str_int : kitB "str" "int" = some false := by decide +kernel
theorem kb_list_int : kitB "list" "int" = some false := by decide +kernel
theorem kb_tuple_int : kitB "tuple" "int" = some false := by decide +kernel
theorem kb_dict_int : kitB "dict" "int" = some false := by decide +kernel
theorem kb_NoneType_bool : kitB "NoneType" "bool" = some false := by decide +kernel
theorem kb_bool_bool : kitB "bool" "bool" = some true := by decide +kernel
theorem kb_int_bool : kitB "int" "bool" = some false := by decide +kernel
theorem kb_str_bool : kitB "str" "bool" = some false := by decide +kernel
theorem kb_list_bool : kitB "list" "bool" = some false := by decide +kernel
theorem kb_tuple_bool : kitB "tuple" "bool" = some false := by decide +kernel
theorem kb_dict_bool : kitB "dict" "bool" = some false := by decide +kernel
theorem kb_NoneType_str : kitB "NoneType" "str" = some false := by decide +kernel
theorem kb_bool_str : kitB "bool" "str" = some false := by decide +kernel
theorem kb_int_str : kitB "int" "str" = some false := by decide +kernel
theorem kb_str_str : kitB "str" "str" = some true := by decide +kernel
theorem kb_list_str : kitB "list" "str" = some false := by decide +kernel
theorem kb_tuple_str : kitB "tuple" "str" = some false := by decide +kernel
theorem kb_dict_str : kitB "dict" "str" = some false := by decide +kernel
theorem kb_NoneType_list : kitB "NoneType" "list" = some false := by decide +kernel
theorem kb_bool_list : kitB "bool" "list" = some false := by decide +kernel
theorem kb_int_list : kitB "int" "list" = some false := by decide +kernel
theorem kb_str_list : kitB "str" "list" = some false := by decide +kernel
theorem kb_list_list : kitB "list" "list" = some true := by decide +kernel
theorem kb_tuple_list : kitB "tuple" "list" = some false := by decide +kernel
theorem kb_dict_list : kitB "dict" "list" = some false := by decide +kernel
theorem kb_NoneType_tuple : kitB "NoneType" "tuple" = some false := by decide +kernel
theorem kb_bool_tuple : kitB "bool" "tuple" = some false := by decide +kernel
theorem kb_int_tuple : kitB "int" "tuple" = some false := by decide +kernel
theorem kb_str_tuple : kitB "str" "tuple" = some false := by decide +kernel
theorem kb_list_tuple : kitB "list" "tuple" = some false := by decide +kernel
theorem kb_tuple_tuple : kitB "tuple" "tuple" = some true := by decide +kernel
theorem kb_dict_tuple : kitB "dict" "tuple" = some false := by decide +kernel
theorem kb_NoneType_dict : kitB "NoneType" "dict" = some false := by decide +kernel
theorem kb_bool_dict : kitB "bool" "dict" = some false := by decide +kernel
theorem kb_int_dict : kitB "int" "dict" = some false := by decide +kernel
theorem kb_str_dict : kitB "str" "dict" = some false := by decide +kernel
theorem kb_list_dict : kitB "list" "dict" = some false := by decide +kernel
theorem kb_tuple_dict : kitB "tuple" "dict" = some false := by decide +kernel
theorem kb_dict_dict : kitB "dict" "dict" = some true := by decide +kernel
def isa_int : PyData → Bool
  | .bool _ => true
  | .int _ => true
  | _ => false
theorem kis_int (d : PyData) : kitB (tyD d) "int" = some (isa_int d) := by
  cases d
  · exact kb_NoneType_int
  · exact kb_bool_int
  · exact kb_int_int
  · exact kb_str_int
  · exact kb_list_int
  · exact kb_tuple_int
  · exact kb_dict_int
theorem isD_int (d : PyData) : isD "int" d = isa_int d := by unfold isD; rw [kis_int]; rfl
theorem ksm_int (d : PyData) : (kitB (tyD d) "int").isSome = true := by rw [kis_int]; rfl
def isa_bool : PyData → Bool
  | .bool _ => true
  | _ => false
theorem kis_bool (d : PyData) : kitB (tyD d) "bool" = some (isa_bool d) := by
  cases d
  · exact kb_NoneType_bool
  · exact kb_bool_bool
  · exact kb_int_bool
  · exact kb_str_bool
  · exact kb_list_bool
  · exact kb_tuple_bool
  · exact kb_dict_bool
theorem isD_bool (d : PyData) : isD "bool" d = isa_bool d := by unfold isD; rw [kis_bool]; rfl
theorem ksm_bool (d : PyData) : (kitB (tyD d) "bool").isSome = true := by rw [kis_bool]; rfl
def isa_str : PyData → Bool
  | .str _ => true
  | _ => false
theorem kis_str (d : PyData) : kitB (tyD d) "str" = some (isa_str d) := by
  cases d
  · exact kb_NoneType_str
  · exact kb_bool_str
  · exact kb_int_str
  · exact kb_str_str
  · exact kb_list_str
  · exact kb_tuple_str
  · exact kb_dict_str
theorem isD_str (d : PyData) : isD "str" d = isa_str d := by unfold isD; rw [kis_str]; rfl
theorem ksm_str (d : PyData) : (kitB (tyD d) "str").isSome = true := by rw [kis_str]; rfl
def isa_list : PyData → Bool
  | .list _ => true
  | _ => false
theorem kis_list (d : PyData) : kitB (tyD d) "list" = some (isa_list d) := by
  cases d
  · exact kb_NoneType_list
  · exact kb_bool_list
  · exact kb_int_list
  · exact kb_str_list
  · exact kb_list_list
  · exact kb_tuple_list
  · exact kb_dict_list
theorem isD_list (d : PyData) : isD "list" d = isa_list d := by unfold isD; rw [kis_list]; rfl
theorem ksm_list (d : PyData) : (kitB (tyD d) "list").isSome = true := by rw [kis_list]; rfl
def isa_tuple : PyData → Bool
  | .tuple _ => true
  | _ => false
theorem kis_tuple (d : PyData) : kitB (tyD d) "tuple" = some (isa_tuple d) := by
  cases d
  · exact kb_NoneType_tuple
  · exact kb_bool_tuple
  · exact kb_int_tuple
  · exact kb_str_tuple
  · exact kb_list_tuple
  · exact kb_tuple_tuple
  · exact kb_dict_tuple
theorem isD_tuple (d : PyData) : isD "tuple" d = isa_tuple d := by unfold isD; rw [kis_tuple]; rfl
theorem ksm_tuple (d : PyData) : (kitB (tyD d) "tuple").isSome = true := by rw [kis_tuple]; rfl
def isa_dict : PyData → Bool
  | .dict _ => true
  | _ => false
theorem kis_dict (d : PyData) : kitB (tyD d) "dict" = some (isa_dict d) := by
  cases d
  · exact kb_NoneType_dict
  · exact kb_bool_dict
  · exact kb_int_dict
  · exact kb_str_dict
  · exact kb_list_dict
  · exact kb_tuple_dict
  · exact kb_dict_dict
theorem isD_dict (d : PyData) : isD "dict" d = isa_dict d := by unfold isD; rw [kis_dict]; rfl
theorem ksm_dict (d : PyData) : (kitB (tyD d) "dict").isSome = true := by rw [kis_dict]; rfl
end KD

namespace KD
open PySem L2
/-! ### more addresses that stand apart -/
def More (X X' : Addr → Prop) (H : Hp) : Prop := (∀ a, X a → X' a) ∧ ∀ a, X' a → X a ∨ H a = none
section
variable {X X' : Addr → Prop} {H H' : Hp} {σ : St} {Γ : List Sv}
theorem More.refl : More X X H := ⟨fun _ h => h, fun _ h => .inl h⟩
theorem More.one {p : Addr} (h : H p = none) : More X (fun a => X a ∨ a = p) H := ⟨fun _ h => .inl h, fun a k => k.elim .inl fun e => .inr (by rw [e]; exact h)⟩
theorem More.back (s : Same H H') (m : More X X' H') : More X X' H := ⟨m.1, fun a h => (m.2 a h).elim .inl fun e => .inr (s.free e)⟩
mutual
theorem DX.more (m : More X X' H) : ∀ {v : V} {d : PyData}, DX X H v d → DX X' H v d
  | _, _, .non => .non
  | _, _, .bl b => .bl b
  | _, _, .int i => .int i
  | _, _, .str x => .str x
  | _, _, .lst n h r => .lst (fun k => (m.2 _ k).elim n fun e => by rw [h] at e; cases e) h (DXs.more m r)
  | _, _, .tup n h r => .tup (fun k => (m.2 _ k).elim n fun e => by rw [h] at e; cases e) h (DXs.more m r)
  | _, _, .dic n h r => .dic (fun k => (m.2 _ k).elim n fun e => by rw [h] at e; cases e) h (DXk.more m r)
theorem DXs.more (m : More X X' H) : ∀ {vs : List V} {ds : List PyData}, DXs X H vs ds → DXs X' H vs ds
  | _, _, .nil => .nil
  | _, _, .cons h r => .cons (DX.more m h) (DXs.more m r)
theorem DXk.more (m : More X X' H) : ∀ {vs : List (Key × V)} {ds : List (PyData × PyData)}, DXk X H vs ds → DXk X' H vs ds
  | _, _, .nil => .nil
  | _, _, .cons h r => .cons (DX.more m h) (DXk.more m r)
end
mutual
theorem DX.less (m : ∀ a, X a → X' a) : ∀ {v : V} {d : PyData}, DX X' H v d → DX X H v d
  | _, _, .non => .non
  | _, _, .bl b => .bl b
  | _, _, .int i => .int i
  | _, _, .str x => .str x
  | _, _, .lst n h r => .lst (fun k => n (m _ k)) h (DXs.less m r)
  | _, _, .tup n h r => .tup (fun k => n (m _ k)) h (DXs.less m r)
  | _, _, .dic n h r => .dic (fun k => n (m _ k)) h (DXk.less m r)
theorem DXs.less (m : ∀ a, X a → X' a) : ∀ {vs : List V} {ds : List PyData}, DXs X' H vs ds → DXs X H vs ds
  | _, _, .nil => .nil
  | _, _, .cons h r => .cons (DX.less m h) (DXs.less m r)
theorem DXk.less (m : ∀ a, X a → X' a) : ∀ {vs : List (Key × V)} {ds : List (PyData × PyData)}, DXk X' H vs ds → DXk X H vs ds
  | _, _, .nil => .nil
  | _, _, .cons h r => .cons (DX.less m h) (DXk.less m r)
end
theorem EnvOk.more (m : More X X' H) (E : EnvOk X H σ Γ) : EnvOk X' H σ Γ := ⟨E.len, fun i s e => by
  have h := E.get i s e
  cases s with
  | dat d =>
    obtain ⟨v, e1, r⟩ := h
    exact ⟨v, e1, r.more m⟩
  | val v => exact h
  | un => trivial⟩
theorem Trk.one {p : Addr} {o : HO} (t : Trk X H) (h : H p = none) : Trk (fun a => X a ∨ a = p) (upd H p o) := fun a k => k.elim (fun x => (t.mono (Same.upd h)) a x) fun e => by
  subst e
  exact ⟨o, upd_same⟩
theorem Trk.put {p : Addr} {o : HO} (t : Trk X H) : Trk X (upd H p o) := fun a x => by
  by_cases e : a = p
  · subst e
    exact ⟨o, upd_same⟩
  · obtain ⟨u, k⟩ := t a x
    exact ⟨u, by rw [upd_ne e]; exact k⟩
theorem Kp.put {p : Addr} {o : HO} (h : X p) : Kp X H (upd H p o) := fun a u n e => by
  rw [upd_ne (fun z => n (by rw [z]; exact h))]
  exact e
/-- a new object that was changed behind -/
theorem Same.mut {p : Addr} {o : HO} (s : Same H H') (h : H p = none) : Same H (L2.upd H' p o) := fun a u e => by
  rw [upd_ne (ne_of_none e h)]
  exact s a u e
end

/-! ### what is walked, as data -/
def WalkD (X : Addr → Prop) (J : It) (H : Hp) (ds : List PyData) : Prop := ∃ (Gd : Hp → Prop) (Y : Nat → Hp → V → Hp → Prop), Walk J ds.length Gd Y ∧
  ∀ X', (∀ a, X' a → X a ∨ H a = none) → ∀ H3, Kp X' H H3 → Trk X' H3 → Gd H3 ∧ ∀ i x H4, Y i H3 x H4 → Same H3 H4 ∧ ∃ d, ds[i]? = some d ∧ DX X' H4 x d
def GI (X : Addr → Prop) (wi : TI) (σ : St) (H : Hp) (ds : List PyData) : Prop := ∀ H1, Same H H1 → ∀ R : It → Hp → Prop, (∀ J H2, Same H1 H2 → WalkD X J H2 ds → R J H2) → wi σ H1 R
section
variable {X : Addr → Prop} {H H' : Hp} {σ : St} {Γ : List Sv} {te : TE} {K : PySem.W.Frag} {ds es : List PyData}
theorem DX.grow {X' : Addr → Prop} (m : ∀ a, X' a → X a ∨ H a = none) {v : V} {d : PyData} (h : DX X H v d) : DX X' H v d :=
  (h.more (X' := fun a => X a ∨ X' a) ⟨fun _ => .inl, fun a k => k.elim .inl (m a)⟩).less fun _ => .inr
theorem DXs.grow {X' : Addr → Prop} (m : ∀ a, X' a → X a ∨ H a = none) {vs : List V} {ds : List PyData} (h : DXs X H vs ds) : DXs X' H vs ds :=
  (h.more (X' := fun a => X a ∨ X' a) ⟨fun _ => .inl, fun a k => k.elim .inl (m a)⟩).less fun _ => .inr
theorem gi_list (h : G X te σ H (.list ds)) : GI X (iList K te) σ H ds := fun H1 s R r => h H1 s _ fun v H2 s2 rv => by
  obtain ⟨a, xs, rfl, n, e, rx⟩ := rv.lst_inv
  refine ⟨a, rfl, ⟨xs, SqL.of e⟩, r _ H2 s2 ⟨_, _, by rw [← rx.length]; exact walk_list, fun X' m H3 k t => ?_⟩⟩
  have n' : ¬ X' a := fun z => (m a z).elim n fun q => by rw [e] at q; cases q
  refine ⟨SqL.of (k a _ n' e), fun i x H4 y => ?_⟩
  obtain ⟨rfl, hx⟩ := y
  obtain ⟨d, h1, h2⟩ := rx.getV hx
  exact ⟨Same.refl _, d, h1, (h2.grow m).mono k⟩
theorem gi_tup (h : G X te σ H (.tuple ds)) : GI X (iTup K te) σ H ds := fun H1 s R r => h H1 s _ fun v H2 s2 rv => by
  obtain ⟨a, xs, rfl, n, e, rx⟩ := rv.tup_inv
  refine ⟨a, rfl, ⟨xs, SqT.of e⟩, r _ H2 s2 ⟨_, _, by rw [← rx.length]; exact walk_tup, fun X' m H3 k t => ?_⟩⟩
  have n' : ¬ X' a := fun z => (m a z).elim n fun q => by rw [e] at q; cases q
  refine ⟨SqT.of (k a _ n' e), fun i x H4 y => ?_⟩
  obtain ⟨rfl, hx⟩ := y
  obtain ⟨d, h1, h2⟩ := rx.getV hx
  exact ⟨Same.refl _, d, h1, (h2.grow m).mono k⟩
def rangeD (lo : Int) (n : Nat) : List PyData := (List.range n).map fun (i : Nat) => PyData.int (lo + (i : Int))
theorem rangeD_len {lo : Int} {n : Nat} : (rangeD lo n).length = n := by simp [rangeD]
theorem rangeD_get {lo : Int} {n i : Nat} (h : i < n) : (rangeD lo n)[i]? = some (.int (lo + (i : Int))) := by
  unfold rangeD
  rw [List.getElem?_map, List.getElem?_range h]
  rfl
theorem walkD_range {lo : Int} {n : Nat} : WalkD X (Itr lo n) H (rangeD lo n) := by
  refine ⟨fun _ => True, fun i H x H' => (YFn fun i => V.int (lo + i)) i H x H' ∧ i < n, ?_, fun X' m H3 k t => ⟨trivial, fun i x H4 y => ?_⟩⟩
  · rw [rangeD_len]
    exact ⟨fun _ _ hi _ => hi, fun _ _ => Nat.le_refl _, fun _ _ _ _ hi _ y => ⟨y, hi⟩⟩
  · obtain ⟨⟨rfl, rfl⟩, hi⟩ := y
    exact ⟨Same.refl _, _, rangeD_get hi, .int _⟩
theorem gi_range1 {n : Int} (h : G X te σ H (.int n)) (hn : n ≤ 1000000) (hm : -1000000 ≤ n) : GI X (iRng1 (tCons te tNil)) σ H (rangeD 0 n.toNat) := fun H1 s R r => h H1 s _ fun v H2 s2 rv =>
  ⟨n, by rw [rv.int_inv], by omega, by omega, r _ H2 s2 walkD_range⟩
theorem gi_range2 {tb : TE} {a n : Int} (ha : G X te σ H (.int a)) (h : G X tb σ H (.int n)) (hb : -1000000 ≤ a ∧ a ≤ 1000000 ∧ -1000000 ≤ n ∧ n ≤ 1000000) : GI X (iRng2 (tCons te (tCons tb tNil))) σ H (rangeD a (n - a).toNat) := fun H1 s R r =>
  ha H1 s _ fun v H2 s2 rv => h H2 (s.trans s2) _ fun w H3 s3 rw_ => ⟨a, n, by rw [rv.int_inv, rw_.int_inv], by omega, r _ H3 (s2.trans s3) walkD_range⟩
def enumD (ds : List PyData) : List PyData := ds.zipIdx.map fun p => .tuple [.int (p.2 : Nat), p.1]
theorem enumD_len : (enumD ds).length = ds.length := by simp [enumD]
theorem enumD_get {i : Nat} {d : PyData} (h : ds[i]? = some d) : (enumD ds)[i]? = some (.tuple [.int (i : Nat), d]) := by
  unfold enumD
  rw [List.getElem?_map, List.getElem?_zipIdx, h]
  simp
theorem gi_enum (h : G X te σ H (.list ds)) : GI X (iEnum K (tCons te tNil)) σ H (enumD ds) := fun H1 s R r => h H1 s _ fun v H2 s2 rv => by
  obtain ⟨a, xs, rfl, n, e, rx⟩ := rv.lst_inv
  refine ⟨a, xs, rfl, SqL.of e, r _ H2 s2 ⟨_, _, by rw [enumD_len, ← rx.length]; exact walk_enum, fun X' m H3 k t => ?_⟩⟩
  have n' : ¬ X' a := fun z => (m a z).elim n fun q => by rw [e] at q; cases q
  refine ⟨SqL.of (k a _ n' e), fun i x H4 y => ?_⟩
  obtain ⟨T, u, w, rfl, hT, rfl, hu, hw⟩ := y
  cases hu
  obtain ⟨d, h1, h2⟩ := rx.getV hw
  exact ⟨Same.upd hT, _, enumD_get h1, DX.newT t (.cons (.int _) (.cons ((h2.grow m).mono k) .nil)) hT⟩
def zipD (ds es : List PyData) : List PyData := List.zipWith (fun d e => .tuple [d, e]) ds es
theorem gi_zip {tb : TE} (h : G X te σ H (.list ds)) (h' : G X tb σ H (.list es)) : GI X (iZip K (tCons te (tCons tb tNil))) σ H (zipD ds es) := fun H1 s R r => h H1 s _ fun v H2 s2 rv => h' H2 (s.trans s2) _ fun w H3 s3 rw_ => by
  obtain ⟨a, xs, rfl, n, e, rx⟩ := (rv.mono (Kp.of s3)).lst_inv
  obtain ⟨b, ys, rfl, n2, e2, ry⟩ := rw_.lst_inv
  refine ⟨a, b, xs, ys, rfl, SqL.of e, SqL.of e2, r _ H3 (s2.trans s3) ⟨_, _, walk_zip (xs := xs) (ys := ys) (by simp [zipD, rx.length, ry.length]), fun X' m H4 k t => ?_⟩⟩
  have n' : ¬ X' a := fun z => (m a z).elim n fun q => by rw [e] at q; cases q
  have n2' : ¬ X' b := fun z => (m b z).elim n2 fun q => by rw [e2] at q; cases q
  refine ⟨⟨SqL.of (k a _ n' e), SqL.of (k b _ n2' e2)⟩, fun i x H5 y => ?_⟩
  obtain ⟨T, u, w, rfl, hT, rfl, hu, hw⟩ := y
  obtain ⟨d, h1, h2⟩ := rx.getV hu
  obtain ⟨d', h3, h4⟩ := ry.getV hw
  refine ⟨Same.upd hT, .tuple [d, d'], ?_, DX.newT t (.cons ((h2.grow m).mono k) (.cons ((h4.grow m).mono k) .nil)) hT⟩
  unfold zipD
  rw [List.getElem?_zipWith, h1, h3]

/-! ### comprehensions -/
/-- a target takes a datum: what the frame knows behind it -/
def Tgt (X : Addr → Prop) (g : TG) (σ : St) (Γ2 : List Sv) (vs : List Nat) (d : PyData) (H : Hp) : Prop :=
  ∀ X' H3, More X X' H → Kp X' H H3 → Trk X' H3 → ∀ v, DX X' H3 v d → ∀ Ψ : St → Hp → Prop, (∀ σ2, EnvOk X' H3 σ2 Γ2 → wipe σ2 vs = wipe σ vs → Ψ σ2 H3) → g v (wipe σ vs) H3 Ψ
theorem wipe_one {i : Nat} {x : Option V} : wipe ((wipe σ [i]).set i x) [i] = wipe σ [i] := by
  show ((σ.set i none).set i x).set i none = σ.set i none
  rw [List.set_set, List.set_set]
theorem tgt_name {i : Nat} {d : PyData} (E : EnvOk X H σ Γ) : Tgt X (gName i) σ ((Γ.set i .un).set i (.dat d)) [i] d H := fun X' H3 m k t v hd Ψ q =>
  q _ (((E.more m).mono k).wipe [i] |>.set hd) wipe_one
theorem wipe_two {i j : Nat} {x y : Option V} (h : i ≠ j) : wipe (((wipe σ [i, j]).set i x).set j y) [i, j] = wipe σ [i, j] := by
  show ((((((σ.set j none).set i none).set i x).set j y).set j none).set i none) = (σ.set j none).set i none
  apply List.ext_getElem?
  intro n
  simp only [List.getElem?_set, List.length_set]
  split <;> split <;> simp_all
theorem g_pair {i j : Nat} {K : PySem.W.Frag} {v : V} {d e : PyData} (hd : DX X H v (.tuple [d, e])) {Ψ : St → Hp → Prop} (q : ∀ u w, DX X H u d → DX X H w e → Ψ ((σ.set i (some u)).set j (some w)) H) : gTup K 2 (gCons (gName i) (gCons (gName j) gNil)) v σ H Ψ := by
  obtain ⟨a, xs, rfl, n, ea, rx⟩ := hd.tup_inv
  cases rx with
  | cons h1 r1 =>
    cases r1 with
    | cons h2 r2 =>
      cases r2
      exact ⟨a, _, rfl, SqT.of ea, rfl, _, _, rfl, _, _, rfl, rfl, q _ _ h1 h2⟩
theorem g_triple {i j l : Nat} {K : PySem.W.Frag} {v : V} {d e f : PyData} (hd : DX X H v (.tuple [d, e, f])) {Ψ : St → Hp → Prop} (q : ∀ u w z, DX X H u d → DX X H w e → DX X H z f → Ψ (((σ.set i (some u)).set j (some w)).set l (some z)) H) :
    gTup K 3 (gCons (gName i) (gCons (gName j) (gCons (gName l) gNil))) v σ H Ψ := by
  obtain ⟨a, xs, rfl, n, ea, rx⟩ := hd.tup_inv
  cases rx with
  | cons h1 r1 =>
    cases r1 with
    | cons h2 r2 =>
      cases r2 with
      | cons h3 r3 =>
        cases r3
        exact ⟨a, _, rfl, SqT.of ea, rfl, _, _, rfl, _, _, rfl, _, _, rfl, rfl, q _ _ _ h1 h2 h3⟩
theorem tgt_pair {i j : Nat} {d e : PyData} (E : EnvOk X H σ Γ) (hij : i ≠ j) : Tgt X (gTup K 2 (gCons (gName i) (gCons (gName j) gNil))) σ ((((Γ.set j .un).set i .un).set i (.dat d)).set j (.dat e)) [i, j] (.tuple [d, e]) H := fun X' H3 m k t v hd Ψ q =>
  g_pair hd fun u w h1 h2 => q _ ((((E.more m).mono k).wipe [i, j] |>.set h1).set h2) (wipe_two hij)
theorem g_lc {wi : TI} {g : TG} {tt : TT} {te : TE} {vs : List Nat} {Γ2 : PyData → List Sv} (f : PyData → Bool) (h : PyData → PyData) (t : Trk X H) (hi : GI X wi σ H ds) (hl : ds.length ≤ 1000000)
    (hg : ∀ H1, Same H H1 → ∀ d ∈ ds, Tgt X g σ (Γ2 d) vs d H1)
    (ht : ∀ X' H1 σ2 d, d ∈ ds → Trk X' H1 → EnvOk X' H1 σ2 (Γ2 d) → GT tt σ2 H1 (f d))
    (he : ∀ X' H1 σ2 d, d ∈ ds → f d = true → Trk X' H1 → EnvOk X' H1 σ2 (Γ2 d) → G X' te σ2 H1 (h d)) : G X (tLc wi g tt te vs) σ H (.list ((ds.filter f).map h)) := fun H1 s Q q =>
  hi H1 s _ fun J H2 s2 w => by
    intro D hD
    obtain ⟨Gd, Y, w1, w2⟩ := w
    have s02 : Same H H2 := s.trans s2
    have t2 : Trk X H2 := t.mono s02
    let X' : Addr → Prop := fun a => X a ∨ a = D
    have m2 : More X X' H2 := More.one hD
    have key : ∀ H3, Same H2 H3 ∧ Trk X' H3 → Gd H3 := fun H3 p => (w2 X' m2.2 H3 (Kp.of p.1) p.2).1
    refine lc_it w1 (fun i H3 => Same H2 H3 ∧ Trk X' H3 ∧ ∃ acc, H3 D = some (.lst acc) ∧ DXs X' H3 acc (((ds.take i).filter f).map h)) ?_ ?_ ?_ ?_
    · exact ⟨Same.upd hD, t2.one hD, [], upd_same, .nil⟩
    · rintro i H3 _ ⟨p1, p2, _⟩
      exact key H3 ⟨p1, p2⟩
    · rintro i x H3 H4 hi' ⟨p1, p2, acc, p3, p4⟩ y
      obtain ⟨s4, d, hd, dx⟩ := (w2 X' m2.2 H3 (Kp.of p1) p2).2 i x H4 y
      have hmem : d ∈ ds := List.mem_of_getElem? hd
      have k4 : Kp X' H2 H4 := Kp.of (p1.trans s4)
      have t4 : Trk X' H4 := p2.mono s4
      refine hg H2 s02 d hmem X' H4 m2 k4 t4 x dx _ fun σ2 E2 hw => ⟨hw, ?_⟩
      have etake : ds.take (i + 1) = ds.take i ++ [d] := by rw [List.take_succ, hd]; rfl
      refine ht X' H4 σ2 d hmem t4 E2 H4 (Same.refl _) _ fun H5 s5 => ?_
      have lacc : acc.length ≤ 1000000 := by
        rw [p4.length, List.length_map]
        exact Nat.le_trans (List.length_filter_le _ _) (Nat.le_trans (List.length_take_le _ _) (by omega))
      cases hf : f d with
      | true =>
        refine iteT ?_
        refine he X' H4 σ2 d hmem hf t4 E2 H5 s5 _ fun y H6 s6 ry => ?_
        have s36 : Same H3 H6 := (s4.trans s5).trans s6
        refine ⟨acc, s36 D _ p3, by rw [sizeLine_eq]; omega, ?_, ?_, acc ++ [y], upd_same, ?_⟩
        · exact Same.mut (p1.trans s36) hD
        · exact (p2.mono s36).put
        · rw [etake, List.filter_append, List.map_append]
          have ef : List.filter f [d] = [d] := by simp [hf]
          rw [ef]
          exact ((p4.mono (Kp.of s36)).snoc ry).mono (Kp.put (.inr rfl))
      | false =>
        refine iteF ?_
        have s35 : Same H3 H5 := s4.trans s5
        refine ⟨p1.trans s35, p2.mono s35, acc, s35 D _ p3, ?_⟩
        rw [etake, List.filter_append, List.map_append]
        have ef : List.filter f [d] = [] := by simp [hf]
        rw [ef, List.map_nil, List.append_nil]
        exact p4.mono (Kp.of s35)
    · rintro H3 ⟨p1, p2, acc, p3, p4⟩
      rw [List.take_length] at p4
      have nXD : ¬ X D := t2.new hD
      -- D itself is a datum again
      exact q (.ref D) H3 (s2.trans p1) (.lst nXD p3 (p4.less fun a => .inl))
/-- without a test -/
theorem g_lc1 {wi : TI} {g : TG} {te : TE} {vs : List Nat} {Γ2 : PyData → List Sv} (h : PyData → PyData) (t : Trk X H) (hi : GI X wi σ H ds) (hl : ds.length ≤ 1000000)
    (hg : ∀ H1, Same H H1 → ∀ d ∈ ds, Tgt X g σ (Γ2 d) vs d H1)
    (he : ∀ X' H1 σ2 d, d ∈ ds → Trk X' H1 → EnvOk X' H1 σ2 (Γ2 d) → G X' te σ2 H1 (h d)) : G X (tLc wi g tYes te vs) σ H (.list (ds.map h)) := by
  have e : ds.map h = (ds.filter fun _ => true).map h := by rw [List.filter_eq_self.mpr (fun _ _ => rfl)]
  rw [e]
  exact g_lc (fun _ => true) h t hi hl hg (fun X' H2 σ2 z _ _ _ H3 s3 Q3 q3 => q3 H3 (Same.refl _)) fun X' H1 σ2 d m _ t2 E2 => he X' H1 σ2 d m t2 E2
end
end KD

namespace KD
open PySem PySem.Spec PyProof.Rows L2
/-! ### defs of the text that are called by their names -/
structure Own (P : Program) (w : World) (K : PySem.W.Frag) (mg : Str → Option Value) (base : Heap) (CX : CXT) (k : Nat) (x : Str) (ps : List Str) (sp : Sp) : Prop where
  ex : ∃ (f : Addr) (fd : FuncData), mg x = some (.ref f) ∧ PySem.W.keepIn K (.ref f) = true ∧ Binds K fd ps [] ∧ FnOk P w K mg base CX k f fd ps sp
section
variable {X : Cx} {k j : Nat} {x : Str} {ps : List Str} {sp : Sp} {e : Expr} {es : List Expr} {p pos : Pos} {ta : TA}
theorem pe_own (O : Own X.prog X.w X.K X.mg X.base CX0 k x ps sp) (hr : Room j X.A) (hk : k ≤ j) (hg : Gl X x) (ha : PA X (e :: es) ta) (hdb : (x == ("__debug__" : Str)) = false := by decide)
    (he : starEach (e :: es) X.env = (false, eval e X.env) :: starEach es X.env := by rfl) (hpl : (backTo pos (starEach es X.env)).any (·.1) = false := by rfl) : PE X (.Call (.Name x p) (e :: es) [] pos) (tCall sp [] E0 ta) := by
  obtain ⟨f, fd, h1, h2, h3, h4⟩ := O.ex
  exact pe_call h4 (hr.mono hk) hg h1 h2 h3 .nil pass0 ha hdb he hpl
end
/-! ### promises over data -/
def sp1 (pre : PyData → Prop) (f : PyData → PyData) : Sp := fun vs H Q _ => ∃ (X : Addr → Prop) (v : V) (d : PyData), vs = [v] ∧ Trk X H ∧ DX X H v d ∧ pre d ∧ ∀ w H', Same H H' → DX X H' w (f d) → Q w H'
def sp2 (pre : PyData → PyData → Prop) (f : PyData → PyData → PyData) : Sp := fun vs H Q _ => ∃ (X : Addr → Prop) (v1 v2 : V) (d1 d2 : PyData), vs = [v1, v2] ∧ Trk X H ∧ DX X H v1 d1 ∧ DX X H v2 d2 ∧ pre d1 d2 ∧ ∀ w H', Same H H' → DX X H' w (f d1 d2) → Q w H'
def sp3 (pre : PyData → PyData → PyData → Prop) (f : PyData → PyData → PyData → PyData) : Sp := fun vs H Q _ => ∃ (X : Addr → Prop) (v1 v2 v3 : V) (d1 d2 d3 : PyData), vs = [v1, v2, v3] ∧ Trk X H ∧ DX X H v1 d1 ∧ DX X H v2 d2 ∧ DX X H v3 d3 ∧ pre d1 d2 d3 ∧ ∀ w H', Same H H' → DX X H' w (f d1 d2 d3) → Q w H'
section
variable {X : Addr → Prop} {σ : L2.St} {H : Hp} {ta tb tc : TE} {d d1 d2 d3 : PyData} {E : XK}
theorem g_call1 {pre : PyData → Prop} {f : PyData → PyData} (t : Trk X H) (h : G X ta σ H d) (hp : pre d) : G X (tCall (sp1 pre f) [] E (tCons ta tNil)) σ H (f d) :=
  g_call (ga_cons h ga_nil) fun vs H1 s rs Q q => by
    cases rs with
    | cons r1 r2 =>
      cases r2
      exact ⟨X, _, d, rfl, t.mono s, r1, hp, q⟩
theorem g_call2 {pre : PyData → PyData → Prop} {f : PyData → PyData → PyData} (t : Trk X H) (h1 : G X ta σ H d1) (h2 : G X tb σ H d2) (hp : pre d1 d2) : G X (tCall (sp2 pre f) [] E (tCons ta (tCons tb tNil))) σ H (f d1 d2) :=
  g_call (ga_cons h1 (ga_cons h2 ga_nil)) fun vs H1 s rs Q q => by
    cases rs with
    | cons r1 r2 =>
      cases r2 with
      | cons r2 r3 =>
        cases r3
        exact ⟨X, _, _, d1, d2, rfl, t.mono s, r1, r2, hp, q⟩
theorem g_call3 {pre : PyData → PyData → PyData → Prop} {f : PyData → PyData → PyData → PyData} (t : Trk X H) (h1 : G X ta σ H d1) (h2 : G X tb σ H d2) (h3 : G X tc σ H d3) (hp : pre d1 d2 d3) : G X (tCall (sp3 pre f) [] E (tCons ta (tCons tb (tCons tc tNil)))) σ H (f d1 d2 d3) :=
  g_call (ga_cons h1 (ga_cons h2 (ga_cons h3 ga_nil))) fun vs H1 s rs Q q => by
    cases rs with
    | cons r1 r2 =>
      cases r2 with
      | cons r2 r3 =>
        cases r3 with
        | cons r3 r4 =>
          cases r4
          exact ⟨X, _, _, _, d1, d2, d3, rfl, t.mono s, r1, r2, r3, hp, q⟩
end
/-! ### a def's body -/
section
variable {P : Program} {w : World} {K : PySem.W.Frag} {mg : Str → Option Value} {base : Heap} {x qual : Str} {st : Stmt} {f : Addr} {fd : FuncData} {N : List Str} {k : Nat} {a b c : Str}
def pad (N : List Str) (ss : List Sv) : List Sv := ss ++ List.replicate (N.length - ss.length) .un
theorem env1 {X : Addr → Prop} {H : Hp} {v : V} {d : PyData} (h : DX X H v d) (hN : 1 ≤ N.length) : EnvOk X H (L2.start N [v]) (pad N [.dat d]) :=
  envOk_start rfl (fun i s e u e2 => by
    match i, e, e2 with
    | 0, e, e2 => cases e; cases e2; exact ⟨_, rfl, h⟩) hN
theorem env2 {X : Addr → Prop} {H : Hp} {v1 v2 : V} {d1 d2 : PyData} (h1 : DX X H v1 d1) (h2 : DX X H v2 d2) (hN : 2 ≤ N.length) : EnvOk X H (L2.start N [v1, v2]) (pad N [.dat d1, .dat d2]) :=
  envOk_start rfl (fun i s e u e2 => by
    match i, e, e2 with
    | 0, e, e2 => cases e; cases e2; exact ⟨_, rfl, h1⟩
    | 1, e, e2 => cases e; cases e2; exact ⟨_, rfl, h2⟩) hN
theorem env3 {X : Addr → Prop} {H : Hp} {v1 v2 v3 : V} {d1 d2 d3 : PyData} (h1 : DX X H v1 d1) (h2 : DX X H v2 d2) (h3 : DX X H v3 d3) (hN : 3 ≤ N.length) : EnvOk X H (L2.start N [v1, v2, v3]) (pad N [.dat d1, .dat d2, .dat d3]) :=
  envOk_start rfl (fun i s e u e2 => by
    match i, e, e2 with
    | 0, e, e2 => cases e; cases e2; exact ⟨_, rfl, h1⟩
    | 1, e, e2 => cases e; cases e2; exact ⟨_, rfl, h2⟩
    | 2, e, e2 => cases e; cases e2; exact ⟨_, rfl, h3⟩) hN
theorem ok1 {pre : PyData → Prop} {g : PyData → PyData} (F : Fun K x qual st f fd) (S : FnScope N [a] (defScope st)) (hN : 1 ≤ N.length)
    (hbody : ∀ (cdv : Value) (A : Around) (outer : List Env) (s : Shared) (H : Hp) (E : XK) (X : Addr → Prop) (d : PyData) (Q : VK), Room k (A.deeper (envOfC qual (defScope st) s.heap.objs.size f cdv)) → Trk X H → pre d → (∀ w H', Same H H' → DX X H' w (g d) → Q w H') →
      ∃ t, PSs (cxOf CX0 P w K mg base N qual (defScope st) f cdv A outer s H E).nox (defBody st) t ∧ ∀ σ, EnvOk X H σ (pad N [.dat d]) → t { nx := fun _ H' => Q .non H', rt := Q } σ H) : FnOk P w K mg base CX0 (k + 1) f fd [a] (sp1 pre g) := by
  refine F.ok S (fun vs H Q E h => ?_) (fun cdv A outer s H vs Q E hr h => ?_)
  · obtain ⟨X, v, d, rfl, _⟩ := h
    rfl
  · obtain ⟨X, v, d, rfl, t, hd, hp, q⟩ := h
    obtain ⟨tt, h1, h2⟩ := hbody cdv A outer s H E X d Q hr t hp q
    exact ⟨tt, h1, h2 _ (env1 hd hN)⟩
theorem ok2 {pre : PyData → PyData → Prop} {g : PyData → PyData → PyData} (F : Fun K x qual st f fd) (S : FnScope N [a, b] (defScope st)) (hN : 2 ≤ N.length)
    (hbody : ∀ (cdv : Value) (A : Around) (outer : List Env) (s : Shared) (H : Hp) (E : XK) (X : Addr → Prop) (d1 d2 : PyData) (Q : VK), Room k (A.deeper (envOfC qual (defScope st) s.heap.objs.size f cdv)) → Trk X H → pre d1 d2 → (∀ w H', Same H H' → DX X H' w (g d1 d2) → Q w H') →
      ∃ t, PSs (cxOf CX0 P w K mg base N qual (defScope st) f cdv A outer s H E).nox (defBody st) t ∧ ∀ σ, EnvOk X H σ (pad N [.dat d1, .dat d2]) → t { nx := fun _ H' => Q .non H', rt := Q } σ H) : FnOk P w K mg base CX0 (k + 1) f fd [a, b] (sp2 pre g) := by
  refine F.ok S (fun vs H Q E h => ?_) (fun cdv A outer s H vs Q E hr h => ?_)
  · obtain ⟨X, v1, v2, d1, d2, rfl, _⟩ := h
    rfl
  · obtain ⟨X, v1, v2, d1, d2, rfl, t, r1, r2, hp, q⟩ := h
    obtain ⟨tt, h1, h2⟩ := hbody cdv A outer s H E X d1 d2 Q hr t hp q
    exact ⟨tt, h1, h2 _ (env2 r1 r2 hN)⟩
end
/-! ### statements -/
section
variable {X : Addr → Prop} {σ : L2.St} {H : Hp} {te : TE} {tt : TT} {tu tw tz : TS} {d : PyData} {D : Ends} {Γ : List Sv} {Q : VK}
theorem s_ret (h : G X te σ H d) (q : ∀ w H', Same H H' → DX X H' w d → D.rt w H') : tRet te D σ H := h H (Same.refl H) _ q
theorem s_if {b : Bool} (h : GT tt σ H b) (h1 : b = true → ∀ H1, Same H H1 → tu D σ H1) (h2 : b = false → ∀ H1, Same H H1 → tw D σ H1) : tIfS tt tu tw D σ H := h H (Same.refl H) _ fun H1 s => by
  cases b with
  | true => exact iteT (h1 rfl H1 s)
  | false => exact iteF (h2 rfl H1 s)
theorem q_if {b : Bool} (h : GT tt σ H b) (h1 : b = true → ∀ H1, Same H H1 → tu { D with nx := tz D } σ H1) (h2 : b = false → ∀ H1, Same H H1 → tz D σ H1) : tSeq (tIfS tt tu tNext) tz D σ H := s_if (D := { D with nx := tz D }) h h1 h2
theorem q_asg {g : TG} (h : G X te σ H d) (k : ∀ H1 v, Same H H1 → DX X H1 v d → g v σ H1 (fun σ2 H2 => tz D σ2 H2)) : tSeq (tAsg te g) tz D σ H := h H (Same.refl H) _ fun v H1 s r => k H1 v s r
theorem q_set {i : Nat} (En : EnvOk X H σ Γ) (h : G X te σ H d) (k : ∀ H1 v, Same H H1 → EnvOk X H1 (σ.set i (some v)) (Γ.set i (.dat d)) → tz D (σ.set i (some v)) H1) : tSeq (tAsg te (gName i)) tz D σ H := h H (Same.refl H) _ fun v H1 s r => k H1 v s ((En.same s).set r)
end
/-- a for over data: I by the base heap, the turn, the slots, the heap -/
theorem s_forD {X : Addr → Prop} {σ : L2.St} {H : Hp} {wi : TI} {g : TG} {tb : TS} {D : Ends} {ds : List PyData} (hi : GI X wi σ H ds) (I : Hp → Nat → L2.St → Hp → Prop) (h0 : ∀ Hb, Same H Hb → I Hb 0 σ Hb)
    (hk : ∀ Hb i σ' H', I Hb i σ' H' → Kp X Hb H' ∧ Trk X H')
    (hs : ∀ Hb i x d σ' H' H'', Same H Hb → ds[i]? = some d → I Hb i σ' H' → Same H' H'' → DX X H'' x d → g x σ' H'' fun σ2 H2 => tb { D with nx := I Hb (i + 1), ct := I Hb (i + 1), bk := D.nx } σ2 H2)
    (hd : ∀ Hb σ' H', Same H Hb → I Hb ds.length σ' H' → D.nx σ' H') : tFor wi g tb D σ H := hi H (Same.refl H) _ fun J H2 s w => by
  obtain ⟨Gd, Y, w1, w2⟩ := w
  have key : ∀ i σ' H', I H2 i σ' H' → _ := fun i σ' H' p => w2 X (fun _ => .inl) H' (hk H2 i σ' H' p).1 (hk H2 i σ' H' p).2
  refine for_it w1 (I H2) (h0 H2 s) (fun i σ' H' _ p => (key i σ' H' p).1) (fun i x σ' H' H'' _ p y => ?_) (fun σ' H' p => hd H2 σ' H' s p)
  obtain ⟨s4, d, hd1, dx⟩ := (key i σ' H' p).2 i x H'' y
  exact hs H2 i x d σ' H' H'' s hd1 p s4 dx
/-! ### the language's own names; tests of kinds -/
structure Bl (mg : Str → Option Value) : Prop where
  b_isinstance : mg "isinstance" = none
  b_len : mg "len" = none
  b_list : mg "list" = none
  b_tuple : mg "tuple" = none
  b_dict : mg "dict" = none
  b_int : mg "int" = none
  b_bool : mg "bool" = none
  b_str : mg "str" = none
  b_min : mg "min" = none
  b_all : mg "all" = none
  b_range : mg "range" = none
  b_enumerate : mg "enumerate" = none
  b_zip : mg "zip" = none
  b_repr : mg "repr" = none
section
variable {X : Cx}
abbrev rAddA : R2 := fun x y H Q => (rI0 fun i j => V.int (i + j)) x y H Q ∨ (fun x y H Q => rCat x y H Q ∨ (fun x y H Q => ∃ i j, x = V.str i ∧ y = V.str j ∧ i.length + j.length ≤ sizeLine ∧ Q (V.str (i ++ j)) H) x y H Q) x y H Q
abbrev rMulA : R2 := fun x y H Q => (rI CMul fun i j => V.int (i * j)) x y H Q ∨ rRep x y H Q
theorem op_addA : OpR X (binaryOp .Add) rAddA := op_add.or (op_cat.or op_add_str)
theorem op_mulA : OpR X (binaryOp .Mult) rMulA := op_mul.or op_rep
end
section
variable {X : Addr → Prop} {te ta tb : TE} {σ : L2.St} {H : Hp} {d : PyData} {K : PySem.W.Frag}
theorem isDs_seq (d : PyData) : isDs ["list", "tuple"] d = isSeq d := by
  unfold isDs
  rw [List.any_cons, List.any_cons, List.any_nil, isD_list, isD_tuple]
  cases d <;> rfl
theorem g_isSeq (h : G X te σ H d) : G X (tCB (rIsiT K) (tCons te (tCons (tTup (tCons (tC (.ty "list")) (tCons (tC (.ty "tuple")) tNil))) tNil))) σ H (.bool (isSeq d)) := by
  rw [← isDs_seq]
  exact g_isiT (ns := ["list", "tuple"]) h rfl (by decide) fun n hn => by
    simp at hn
    rcases hn with rfl | rfl
    · exact ksm_list d
    · exact ksm_tuple d
theorem g_isInt (h : G X te σ H d) : G X (tCB (rIsi K) (tCons te (tCons (tC (.ty "int")) tNil))) σ H (.bool (isa_int d)) := by
  rw [← isD_int]; exact g_isi h (ksm_int d)
theorem g_isBool (h : G X te σ H d) : G X (tCB (rIsi K) (tCons te (tCons (tC (.ty "bool")) tNil))) σ H (.bool (isa_bool d)) := by
  rw [← isD_bool]; exact g_isi h (ksm_bool d)
theorem g_isStr (h : G X te σ H d) : G X (tCB (rIsi K) (tCons te (tCons (tC (.ty "str")) tNil))) σ H (.bool (isa_str d)) := by
  rw [← isD_str]; exact g_isi h (ksm_str d)
theorem g_isList (h : G X te σ H d) : G X (tCB (rIsi K) (tCons te (tCons (tC (.ty "list")) tNil))) σ H (.bool (isa_list d)) := by
  rw [← isD_list]; exact g_isi h (ksm_list d)
theorem g_isTuple (h : G X te σ H d) : G X (tCB (rIsi K) (tCons te (tCons (tC (.ty "tuple")) tNil))) σ H (.bool (isa_tuple d)) := by
  rw [← isD_tuple]; exact g_isi h (ksm_tuple d)
theorem g_isDict (h : G X te σ H d) : G X (tCB (rIsi K) (tCons te (tCons (tC (.ty "dict")) tNil))) σ H (.bool (isa_dict d)) := by
  rw [← isD_dict]; exact g_isi h (ksm_dict d)
theorem g_len (t : Trk X H) (h : G X te σ H d) (hl : hasLen d = true) : G X (tCB (fun xs H Q => ∃ x n, xs = [x] ∧ LenV K x H n ∧ Q (V.int n) H) (tCons te tNil)) σ H (.int (lenD d : Int)) := g_cb t (ga_cons h ga_nil) (rf_len hl)
theorem g_listOf (t : Trk X H) (h : G X te σ H d) (hl : isSeq d = true) : G X (tCB (fun xs H Q => ∃ p ys, xs = [V.ref p] ∧ (SqL K H p ys ∨ SqT K H p ys) ∧ ∀ l, H l = none → Q (V.ref l) (upd H l (.lst ys))) (tCons te tNil)) σ H (.list (itemsD d)) := g_cb t (ga_cons h ga_nil) (rf_list hl)
theorem g_addI (t : Trk X H) {i j : Int} (ha : G X ta σ H (.int i)) (hb : G X tb σ H (.int j)) : G X (tOp rAddA ta tb) σ H (.int (i + j)) := g_op t ha hb (RD.or1 (rd_I0 (g := fun i j => i + j)))
theorem g_cat (t : Trk X H) {xs ys : List PyData} (ha : G X ta σ H (.list xs)) (hb : G X tb σ H (.list ys)) (hl : xs.length + ys.length ≤ 1000000) : G X (tOp rAddA ta tb) σ H (.list (xs ++ ys)) := g_op t ha hb (RD.or2 (RD.or1 (rd_cat hl)))
theorem g_sub (t : Trk X H) {i j : Int} (ha : G X ta σ H (.int i)) (hb : G X tb σ H (.int j)) : G X (tOp (rI0 fun i j => V.int (i - j)) ta tb) σ H (.int (i - j)) := g_op t ha hb (rd_I0 (g := fun i j => i - j))
theorem g_cmpI (t : Trk X H) {g : Int → Int → Bool} {i j : Int} (ha : G X ta σ H (.int i)) (hb : G X tb σ H (.int j)) : G X (tOp (rI0 fun i j => V.bl (g i j)) ta tb) σ H (.bool (g i j)) := g_op t ha hb rb_I0.rd
theorem gt_cmpI (t : Trk X H) {g : Int → Int → Bool} {i j : Int} (ha : G X ta σ H (.int i)) (hb : G X tb σ H (.int j)) : GT (tTest (tOp (rI0 fun i j => V.bl (g i j)) ta tb)) σ H (g i j) := gt_op t ha hb rb_I0
theorem g_ixL (t : Trk X H) {ds : List PyData} {i : Int} {z : PyData} (ha : G X ta σ H (.list ds)) (hb : G X tb σ H (.int i)) (h : atI ds i = some z) : G X (tOp (rIx K) ta tb) σ H z := g_op t ha hb (rd_ixL h)
theorem g_ixT (t : Trk X H) {ds : List PyData} {i : Int} {z : PyData} (ha : G X ta σ H (.tuple ds)) (hb : G X tb σ H (.int i)) (h : atI ds i = some z) : G X (tOp (rIx K) ta tb) σ H z := g_op t ha hb (rd_ixT h)
/-- an item of a list or tuple -/
theorem g_ix (t : Trk X H) {i : Int} {z : PyData} (ha : G X ta σ H d) (hs : isSeq d = true) (hb : G X tb σ H (.int i)) (h : atI (itemsD d) i = some z) : G X (tOp (rIx K) ta tb) σ H z := by
  cases d with
  | list ds => exact g_ixL t ha hb h
  | tuple ds => exact g_ixT t ha hb h
  | _ => cases hs
theorem g_eqD (t : Trk X H) {x y : PyData} (ha : G X ta σ H x) (hb : G X tb σ H y) (hd : noDict x = true) (he : noDict y = true) (hs : SeqAt.shaped x = true) (ht : SeqAt.shaped y = true) : G X (tOp (rEqD K) ta tb) σ H (.bool (PyData.eqv x y)) := g_op t ha hb (rb_eqD hd he hs ht).rd
theorem gt_eqD (t : Trk X H) {x y : PyData} (ha : G X ta σ H x) (hb : G X tb σ H y) (hd : noDict x = true) (he : noDict y = true) (hs : SeqAt.shaped x = true) (ht : SeqAt.shaped y = true) : GT (tTest (tOp (rEqD K) ta tb)) σ H (PyData.eqv x y) := gt_op t ha hb (rb_eqD hd he hs ht)
theorem gt_neD (t : Trk X H) {x y : PyData} (ha : G X ta σ H x) (hb : G X tb σ H y) (hd : noDict x = true) (he : noDict y = true) (hs : SeqAt.shaped x = true) (ht : SeqAt.shaped y = true) : GT (tTest (tOp (rNeD K) ta tb)) σ H (!PyData.eqv x y) := gt_op t ha hb (rb_neD hd he hs ht)
end
/-! ### a list or a tuple walked -/
def iSeq (K : PySem.W.Frag) (tl : TE) : TI := fun σ H R => tl σ H fun x H1 => ∃ c, x = V.ref c ∧ (((∃ zs, SqL K H1 c zs) ∧ R (Itl K c) H1) ∨ ((∃ zs, SqT K H1 c zs) ∧ R (Itt K c) H1))
theorem pi_seq {Y : Cx} {tg l : Expr} {tl : TE} (hl : PE Y l tl) : PI Y tg l (iSeq Y.K tl) := by
  constructor
  intro pn st sl hh RR inv rd
  refine thn (hl.run pn st sl hh _ inv rd) ?_
  rintro val st1 ⟨x, hh1, inv1, rel, c, rfl, alt⟩
  cases rel
  have fresh := inv1.hok.fresh (Nat.le_refl st1.heap.objs.size)
  have fpk : ∀ b ∈ [st1.heap.objs.size], _ := fun b hb => by
    have eb := List.mem_singleton.mp hb
    exact eb ▸ inv1.fpOk (Nat.le_refl _) fresh
  rcases alt with ⟨⟨zs, sq⟩, rest⟩ | ⟨⟨zs, sq⟩, rest⟩
  · obtain ⟨us, _, pl, _⟩ := inv1.list sq
    exact wpAny_pyIter_list pl.isList
      ⟨_, _, _, _, _, rfl, inv1.kept (t' := st1.toks) (fun _ _ z => Heap.get?_push_of_some _ z), turn_list c _,
        ⟨_, Heap.get?_push_size _ rfl, rfl, rfl⟩, fpk, rest⟩
  · obtain ⟨us, _, pl, _⟩ := inv1.tuple sq
    exact wpAny_pyIter_tuple (items := us.toArray) pl
      ⟨_, _, _, _, _, rfl, inv1.kept (t' := st1.toks) (fun _ _ z => Heap.get?_push_of_some _ z), turn_tuple c _,
        ⟨_, Heap.get?_push_size _ rfl, rfl, rfl⟩, fpk, rest⟩
theorem gi_seq {X : Addr → Prop} {σ : L2.St} {H : Hp} {te : TE} {K : PySem.W.Frag} {d : PyData} (h : G X te σ H d) (hs : isSeq d = true) : GI X (iSeq K te) σ H (itemsD d) := by
  cases d with
  | list ds =>
      intro H1 s R r
      refine h H1 s _ fun v H2 s2 rv => ?_
      obtain ⟨a, xs, rfl, n, e, rx⟩ := rv.lst_inv
      obtain ⟨a', e', _, rr⟩ := gi_list (K := K) (te := fun _ H Q => Q (.ref a) H) (σ := σ) (H := H2) (X := X) (ds := ds) (fun H5 s5 Q5 q5 => q5 _ H5 (Same.refl _) (rv.mono (Kp.of s5))) H2 (Same.refl _) R (fun J H3 s3 => r J H3 (s2.trans s3))
      cases e'
      exact ⟨a, rfl, .inl ⟨⟨xs, SqL.of e⟩, rr⟩⟩
  | tuple ds =>
      intro H1 s R r
      refine h H1 s _ fun v H2 s2 rv => ?_
      obtain ⟨a, xs, rfl, n, e, rx⟩ := rv.tup_inv
      obtain ⟨a', e', _, rr⟩ := gi_tup (K := K) (te := fun _ H Q => Q (.ref a) H) (σ := σ) (H := H2) (X := X) (ds := ds) (fun H5 s5 Q5 q5 => q5 _ H5 (Same.refl _) (rv.mono (Kp.of s5))) H2 (Same.refl _) R (fun J H3 s3 => r J H3 (s2.trans s3))
      cases e'
      exact ⟨a, rfl, .inr ⟨⟨xs, SqT.of e⟩, rr⟩⟩
  | _ => cases hs
/-! ### data that may be compared: words, ints, lists of words -/
theorem shaped_int (i : Int) : SeqAt.shaped (.int i) = true := by simp [SeqAt.shaped, PyData.canLay0, PyData.depth]
theorem shaped_str {s : Str} (h : PyData.strOk s = true) : SeqAt.shaped (.str s) = true := by simp [SeqAt.shaped, PyData.canLay0, PyData.depth, h]
theorem canLay_strs : ∀ {ws : List Str}, (∀ w ∈ ws, PyData.strOk w = true) → PyData.canLayAll0 (ws.map PyData.str) = true
  | [], _ => by simp [PyData.canLayAll0]
  | w :: ws, h => by
    have h1 := h w List.mem_cons_self
    have h2 := canLay_strs (ws := ws) fun v hv => h v (List.mem_cons_of_mem _ hv)
    simp [PyData.canLayAll0, PyData.canLay0, h1, h2]
theorem depth_strs : ∀ ws : List Str, PyData.depthAll (ws.map PyData.str) ≤ 1
  | [] => by simp [PyData.depthAll]
  | w :: ws => by
    have := depth_strs ws
    simp only [List.map_cons, PyData.depthAll, PyData.depth]
    omega
theorem shaped_strs {ws : List Str} (h : ∀ w ∈ ws, PyData.strOk w = true) : SeqAt.shaped (.list (ws.map PyData.str)) = true := by
  have := depth_strs ws
  have h2 : PyData.depth (.list (ws.map PyData.str)) ≤ 64 := by
    simp only [PyData.depth]
    omega
  show ((PyData.list (ws.map PyData.str)).canLay0 && decide ((PyData.list (ws.map PyData.str)).depth ≤ 64)) = true
  rw [Bool.and_eq_true]
  exact ⟨by simp only [PyData.canLay0]; exact canLay_strs h, decide_eq_true h2⟩
theorem noDict_strs : ∀ ws : List Str, noDicts (ws.map PyData.str) = true
  | [] => by simp [noDicts]
  | w :: ws => by simp [noDicts, noDict, noDict_strs ws]
theorem eqv_strs : ∀ ws zs : List Str, PyData.eqvAll (ws.map PyData.str) (zs.map PyData.str) = decide (ws = zs)
  | [], [] => by simp [PyData.eqvAll]
  | [], z :: zs => by simp [PyData.eqvAll]
  | w :: ws, [] => by simp [PyData.eqvAll]
  | w :: ws, z :: zs => by
    simp only [List.map_cons, PyData.eqvAll, PyData.eqv, eqv_strs ws zs]
    by_cases h : w = z
    · subst h
      simp
    · have : (w == z) = false := by simpa using h
      rw [this]
      simp [h]
/-! ### what is new -/
def Nw (H : Hp) (v : V) : Prop := ∀ a, v = .ref a → H a = none
theorem Nw.back {H H1 : Hp} {v : V} (s : Same H H1) (n : Nw H1 v) : Nw H v := fun a e => s.free (n a e)
theorem Nw.of {H : Hp} {p : Addr} (h : H p = none) : Nw H (.ref p) := fun a e => by cases e; exact h
def GN (X : Addr → Prop) (te : TE) (σ : L2.St) (H : Hp) (d : PyData) : Prop := ∀ H1, Same H H1 → ∀ Q : VK, (∀ v H2, Same H1 H2 → DX X H2 v d → Nw H1 v → Q v H2) → te σ H1 Q
def sp2N (pre : PyData → PyData → Prop) (f : PyData → PyData → PyData) : Sp := fun vs H Q _ => ∃ (X : Addr → Prop) (v1 v2 : V) (d1 d2 : PyData), vs = [v1, v2] ∧ Trk X H ∧ DX X H v1 d1 ∧ DX X H v2 d2 ∧ pre d1 d2 ∧ ∀ w H', Same H H' → DX X H' w (f d1 d2) → Nw H w → Q w H'
section
variable {X : Addr → Prop} {σ : L2.St} {H : Hp} {te ta tb tc : TE} {d d1 d2 d3 : PyData} {E : XK} {K : PySem.W.Frag} {D : Ends}
theorem GN.g (h : GN X te σ H d) : G X te σ H d := fun H1 s Q q => h H1 s Q fun v H2 s2 dv _ => q v H2 s2 dv
theorem GN.is {e : PyData} (h : GN X te σ H d) (e' : d = e) : GN X te σ H e := e' ▸ h
theorem gn_lst {ta : TA} {ds : List PyData} (t : Trk X H) (h : GA X ta σ H ds) (hl : ds.length ≤ 1000000) : GN X (tLst ta) σ H (.list ds) := fun H1 s Q q =>
  h H1 s _ fun vs H2 s2 rs => ⟨by rw [rs.length, sizeLine_eq]; omega, fun p hp => q _ _ (s2.trans (Same.upd hp)) (DX.newL ((t.mono s).mono s2) rs hp) (Nw.back s2 (Nw.of hp))⟩
theorem gn_tup {ta : TA} {ds : List PyData} (t : Trk X H) (h : GA X ta σ H ds) (hl : ds.length ≤ 1000000) : GN X (tTup ta) σ H (.tuple ds) := fun H1 s Q q =>
  h H1 s _ fun vs H2 s2 rs => ⟨by rw [rs.length, sizeLine_eq]; omega, fun p hp => q _ _ (s2.trans (Same.upd hp)) (DX.newT ((t.mono s).mono s2) rs hp) (Nw.back s2 (Nw.of hp))⟩
theorem gn_listOf (t : Trk X H) (h : G X te σ H d) (hl : isSeq d = true) : GN X (tCB (fun xs H Q => ∃ p ys, xs = [V.ref p] ∧ (SqL K H p ys ∨ SqT K H p ys) ∧ ∀ l, H l = none → Q (V.ref l) (upd H l (.lst ys))) (tCons te tNil)) σ H (.list (itemsD d)) := fun H1 s Q q =>
  h H1 s _ fun v H2 s2 r => by
    cases r with
    | lst n e r => exact ⟨_, _, rfl, .inl (SqL.of e), fun l hl => q _ _ (s2.trans (Same.upd hl)) (DX.newL ((t.mono s).mono s2) r hl) (Nw.back s2 (Nw.of hl))⟩
    | tup n e r => exact ⟨_, _, rfl, .inr (SqT.of e), fun l hl => q _ _ (s2.trans (Same.upd hl)) (DX.newL ((t.mono s).mono s2) r hl) (Nw.back s2 (Nw.of hl))⟩
    | _ => exact absurd hl (by simp [isSeq])
theorem gn_cat (t : Trk X H) {xs ys : List PyData} (ha : G X ta σ H (.list xs)) (hb : G X tb σ H (.list ys)) (hl : xs.length + ys.length ≤ 1000000) : GN X (tOp rAddA ta tb) σ H (.list (xs ++ ys)) := fun H1 s Q q =>
  ha H1 s _ fun u H2 s2 ru => hb H2 (s.trans s2) _ fun v H3 s3 rv => by
    obtain ⟨a, us, rfl, _, ea, rs⟩ := (ru.mono (Kp.of s3)).lst_inv
    obtain ⟨b, ws, rfl, _, eb, rt⟩ := rv.lst_inv
    exact .inr (.inl ⟨a, b, us, ws, rfl, rfl, ea, eb, by rw [rs.length, rt.length, sizeLine_eq]; omega, fun p hp => q _ _ ((s2.trans s3).trans (Same.upd hp)) (DX.newL (((t.mono s).mono s2).mono s3) (rs.append rt) hp) (Nw.back (s2.trans s3) (Nw.of hp))⟩)
theorem gn_call2 {pre : PyData → PyData → Prop} {f : PyData → PyData → PyData} (t : Trk X H) (h1 : G X ta σ H d1) (h2 : G X tb σ H d2) (hp : pre d1 d2) : GN X (tCall (sp2N pre f) [] E (tCons ta (tCons tb tNil))) σ H (f d1 d2) := fun H1 s Q q =>
  h1 H1 s _ fun v H2 s2 r => h2 H2 (s.trans s2) _ fun v2 H3 s3 r2 => ⟨X, v, v2, d1, d2, rfl, ((t.mono s).mono s2).mono s3, r.mono (Kp.of s3), r2, hp, fun w H' s4 dw nw => q w H' ((s2.trans s3).trans s4) dw (Nw.back (s2.trans s3) nw)⟩
theorem s_retN (h : GN X te σ H d) (q : ∀ w H', Same H H' → DX X H' w d → Nw H w → D.rt w H') : tRet te D σ H := h H (Same.refl H) _ q
end
section
variable {P : Program} {w : World} {K : PySem.W.Frag} {mg : Str → Option Value} {base : Heap} {x qual : Str} {st : Stmt} {f : Addr} {fd : FuncData} {N : List Str} {k : Nat} {a b c : Str}
theorem ok2N {pre : PyData → PyData → Prop} {g : PyData → PyData → PyData} (F : Fun K x qual st f fd) (S : FnScope N [a, b] (defScope st)) (hN : 2 ≤ N.length)
    (hbody : ∀ (cdv : Value) (A : Around) (outer : List Env) (s : Shared) (H : Hp) (E : XK) (X : Addr → Prop) (d1 d2 : PyData) (Q : VK), Room k (A.deeper (envOfC qual (defScope st) s.heap.objs.size f cdv)) → Trk X H → pre d1 d2 → (∀ w H', Same H H' → DX X H' w (g d1 d2) → Nw H w → Q w H') →
      ∃ t, PSs (cxOf CX0 P w K mg base N qual (defScope st) f cdv A outer s H E).nox (defBody st) t ∧ ∀ σ, EnvOk X H σ (pad N [.dat d1, .dat d2]) → t { nx := fun _ H' => Q .non H', rt := Q } σ H) : FnOk P w K mg base CX0 (k + 1) f fd [a, b] (sp2N pre g) := by
  refine F.ok S (fun vs H Q E h => ?_) (fun cdv A outer s H vs Q E hr h => ?_)
  · obtain ⟨X, v1, v2, d1, d2, rfl, _⟩ := h
    rfl
  · obtain ⟨X, v1, v2, d1, d2, rfl, t, r1, r2, hp, q⟩ := h
    obtain ⟨tt, h1, h2⟩ := hbody cdv A outer s H E X d1 d2 Q hr t hp q
    exact ⟨tt, h1, h2 _ (env2 r1 r2 hN)⟩
end
/-! ### a new list is no part of itself -/
mutual
theorem DX.fn {X X' : Addr → Prop} {H : Hp} : ∀ {v : V} {d d' : PyData}, DX X H v d → DX X' H v d' → d = d'
  | _, _, _, .non, k => by cases k; rfl
  | _, _, _, .bl b, k => by cases k; rfl
  | _, _, _, .int i, k => by cases k; rfl
  | _, _, _, .str x, k => by cases k; rfl
  | _, _, _, .lst n e r, k => by
    cases k with
    | lst n2 e2 r2 =>
      rw [e] at e2
      cases e2
      rw [DXs.fn r r2]
    | tup n2 e2 r2 => rw [e] at e2; cases e2
    | dic n2 e2 r2 => rw [e] at e2; cases e2
  | _, _, _, .tup n e r, k => by
    cases k with
    | tup n2 e2 r2 =>
      rw [e] at e2
      cases e2
      rw [DXs.fn r r2]
    | lst n2 e2 r2 => rw [e] at e2; cases e2
    | dic n2 e2 r2 => rw [e] at e2; cases e2
  | _, _, _, .dic n e r, k => by
    cases k with
    | dic n2 e2 r2 =>
      rw [e] at e2
      cases e2
      rw [DXk.fn r r2]
    | lst n2 e2 r2 => rw [e] at e2; cases e2
    | tup n2 e2 r2 => rw [e] at e2; cases e2
theorem DXs.fn {X X' : Addr → Prop} {H : Hp} : ∀ {v : List V} {d d' : List PyData}, DXs X H v d → DXs X' H v d' → d = d'
  | _, _, _, .nil, k => by cases k; rfl
  | _, _, _, .cons h r, k => by
    cases k with
    | cons h2 r2 => rw [DX.fn h h2, DXs.fn r r2]
theorem DXk.fn {X X' : Addr → Prop} {H : Hp} : ∀ {v : List (Key × V)} {d d' : List (PyData × PyData)}, DXk X H v d → DXk X' H v d' → d = d'
  | _, _, _, .nil, k => by cases k; rfl
  | _, _, _, .cons h r, k => by
    cases k with
    | cons h2 r2 => rw [DX.fn h h2, DXk.fn r r2]
end
mutual
theorem DX.apart {X : Addr → Prop} {H : Hp} {a : Addr} {D : PyData} (hD : DX X H (.ref a) D) : ∀ {v : V} {d : PyData}, DX X H v d → sizeOf d < sizeOf D → DX (fun b => X b ∨ b = a) H v d
  | _, _, .non, _ => .non
  | _, _, .bl b, _ => .bl b
  | _, _, .int i, _ => .int i
  | _, _, .str x, _ => .str x
  | .ref b, .list ds, .lst n e r, hs => by
    refine .lst (fun x => x.elim n fun q => ?_) e (DXs.apart hD r (by simp at hs; omega))
    subst q
    have e2 := hD.fn (X' := X) (DX.lst n e r)
    rw [e2] at hs
    omega
  | .ref b, .tuple ds, .tup n e r, hs => by
    refine .tup (fun x => x.elim n fun q => ?_) e (DXs.apart hD r (by simp at hs; omega))
    subst q
    have e2 := hD.fn (X' := X) (DX.tup n e r)
    rw [e2] at hs
    omega
  | .ref b, .dict ds, .dic n e r, hs => by
    refine .dic (fun x => x.elim n fun q => ?_) e (DXk.apart hD r (by simp at hs; omega))
    subst q
    have e2 := hD.fn (X' := X) (DX.dic n e r)
    rw [e2] at hs
    omega
theorem DXs.apart {X : Addr → Prop} {H : Hp} {a : Addr} {D : PyData} (hD : DX X H (.ref a) D) : ∀ {v : List V} {d : List PyData}, DXs X H v d → sizeOf d < sizeOf D → DXs (fun b => X b ∨ b = a) H v d
  | _, _, .nil, _ => .nil
  | _, _, .cons h r, hs => .cons (DX.apart hD h (by simp at hs; omega)) (DXs.apart hD r (by simp at hs; omega))
theorem DXk.apart {X : Addr → Prop} {H : Hp} {a : Addr} {D : PyData} (hD : DX X H (.ref a) D) : ∀ {v : List (Key × V)} {d : List (PyData × PyData)}, DXk X H v d → sizeOf d < sizeOf D → DXk (fun b => X b ∨ b = a) H v d
  | _, _, .nil, _ => .nil
  | _, _, .cons h r, hs => .cons (DX.apart hD h (by simp at hs; omega)) (DXk.apart hD r (by simp at hs; omega))
end
/-- the items of a list, apart from the list itself -/
theorem DX.inner {X : Addr → Prop} {H : Hp} {v : V} {ds : List PyData} (h : DX X H v (.list ds)) : ∃ a xs, v = .ref a ∧ ¬ X a ∧ H a = some (.lst xs) ∧ DXs (fun b => X b ∨ b = a) H xs ds := by
  cases h with
  | lst n e r => exact ⟨_, _, rfl, n, e, DXs.apart (DX.lst n e r) r (by simp)⟩
end KD

namespace K77
open PySem PySem.Spec PyProof.Rows L2 KD
def topS (i : Nat) : Stmt := PySem.Challenge.pw_patchlots_k77_whole_possible_ones.main.body.getD i (.Pass ⟨0, 0, 0, 0⟩)
variable {P : Program} {w : World} {K : PySem.W.Frag} {mg : Str → Option Value} {base : Heap}

abbrev s_is_list : Stmt := topS 8
abbrev n_is_list : List Str := ["thing"]
theorem sc_is_list : FnScope n_is_list ["thing"] (defScope s_is_list) := ⟨rfl, rfl, rfl, by decide +kernel, rfl, by decide +kernel, by decide +kernel⟩
theorem ok_is_list {f : Addr} {fd : FuncData} (F : Fun K "is_list" "is_list" s_is_list f fd) (T : Bl mg) : FnOk P w K mg base CX0 1 f fd ["thing"] (sp1 (fun _ => True) fun d => .bool (isSeq d)) := by
  refine ok1 F sc_is_list (by decide) fun cdv A outer s H E X d Q hr t _ q => ⟨_, (pss_one (ps_ret (pe_callB call_isiT (by rfl) T.b_isinstance boot_isinstance (pa_cons (pv 0) (pa_cons (pe_tup (pa_cons (pe_bltn (v := .ty "list") (by rfl) T.b_list boot_list rfl) (pa_cons (pe_bltn (v := .ty "tuple") (by rfl) T.b_tuple boot_tuple rfl) pa_nil))) pa_nil))))), fun σ En => ?_⟩
  exact s_ret (g_isSeq (g_var En rfl)) q

abbrev s_is_integer : Stmt := topS 9
abbrev n_is_integer : List Str := ["thing"]
theorem sc_is_integer : FnScope n_is_integer ["thing"] (defScope s_is_integer) := ⟨rfl, rfl, rfl, by decide +kernel, rfl, by decide +kernel, by decide +kernel⟩
def isIntD (d : PyData) : Bool := isa_int d && !isa_bool d
theorem ok_is_integer {f : Addr} {fd : FuncData} (F : Fun K "is_integer" "is_integer" s_is_integer f fd) (T : Bl mg) : FnOk P w K mg base CX0 1 f fd ["thing"] (sp1 (fun _ => True) fun d => .bool (isIntD d)) := by
  refine ok1 F sc_is_integer (by decide) fun cdv A outer s H E X d Q hr t _ q => ⟨_, (pss_one (ps_ret (pe_and (pe_callB call_isi (by rfl) T.b_isinstance boot_isinstance (pa_cons (pv 0) (pa_cons (pe_bltn (v := .ty "int") (by rfl) T.b_int boot_int rfl) pa_nil))) (pe_one (pe_not (pe_callB call_isi (by rfl) T.b_isinstance boot_isinstance (pa_cons (pv 0) (pa_cons (pe_bltn (v := .ty "bool") (by rfl) T.b_bool boot_bool rfl) pa_nil)))))))), fun σ En => ?_⟩
  exact s_ret (g_and (g_isInt (g_var En rfl)) fun _ => g_not (g_isBool (g_var En rfl))) q

abbrev s_is_number : Stmt := topS 10
abbrev n_is_number : List Str := ["thing"]
theorem sc_is_number : FnScope n_is_number ["thing"] (defScope s_is_number) := ⟨rfl, rfl, rfl, by decide +kernel, rfl, by decide +kernel, by decide +kernel⟩
def isNumD : PyData → Bool
  | .int i => decide (0 ≤ i)
  | _ => false
theorem isIntD_int {d : PyData} (h : isIntD d = true) : ∃ i, d = .int i := by
  cases d <;> simp [isIntD, isa_int, isa_bool] at h ⊢
theorem isNumD_eq (d : PyData) : (∃ i, d = .int i ∧ isIntD d = true ∧ isNumD d = decide (0 ≤ i)) ∨ (isIntD d = false ∧ isNumD d = false) := by
  cases d <;> simp [isIntD, isa_int, isa_bool, isNumD]
theorem ok_is_number {f : Addr} {fd : FuncData} (F : Fun K "is_number" "is_number" s_is_number f fd) (T : Bl mg) (O_is_integer : Own P w K mg base CX0 1 "is_integer" ["thing"] (sp1 (fun _ => True) fun d => .bool (isIntD d))) : FnOk P w K mg base CX0 2 f fd ["thing"] (sp1 (fun _ => True) fun d => .bool (isNumD d)) := by
  refine ok1 F sc_is_number (by decide) fun cdv A outer s H E X d Q hr t _ q => ⟨_, (pss_one (ps_ret (pe_and (pe_own O_is_integer hr (by decide) (by rfl) (pa_cons (pv 0) pa_nil)) (pe_one (pe_cmpR op_ge (pv 0) pe_int (nomark _)))))), fun σ En => ?_⟩
  refine s_ret ?_ q
  rcases isNumD_eq d with ⟨i, rfl, h1, h2⟩ | ⟨h1, h2⟩
  · rw [h2]
    refine g_is (g_and (a := true) (b := decide (0 ≤ i)) (g_is (g_call1 t (g_var En rfl) trivial) (by rw [h1])) fun _ => ?_) rfl
    exact g_op t (g_var En rfl) g_int rb_I0.rd
  · rw [h2]
    exact g_and (a := false) (b := false) (g_is (g_call1 t (g_var En rfl) trivial) (by rw [h1])) fun z => absurd z (by decide)

-- HINT is_words in op_notIn_sign
def hasFeed (s : Str) : Bool := decide (10 ∈ s.cps.toList)
def isWordsD : PyData → Bool
  | .str s => decide (s.length ≤ 200) && !hasFeed s
  | _ => false
theorem rb_notInSign {X : Addr → Prop} {c : Nat} {s : Str} : RB X (fun x y H Q => ∃ (c : Nat) (z : Str), x = V.str ⟨#[c]⟩ ∧ y = V.str z ∧ Q (V.bl (!decide (c ∈ z.cps.toList))) H) (.str ⟨#[c]⟩) (.str s) (!decide (c ∈ s.cps.toList)) := fun H u v _ ru rv Q q => ⟨c, s, ru.str_inv, rv.str_inv, q⟩
def wordsPre : PyData → Prop
  | .str s => s.length ≤ 1000000
  | _ => True
abbrev s_first_false : Stmt := topS 14
abbrev n_first_false : List Str := ["tests", "index", "test"]
theorem sc_first_false : FnScope n_first_false ["tests"] (defScope s_first_false) := ⟨rfl, rfl, rfl, by decide +kernel, rfl, by decide +kernel, by decide +kernel⟩
def ffD : Nat → List PyData → PyData
  | _, [] => .none
  | i, .bool false :: _ => .int (i : Nat)
  | i, _ :: r => ffD (i + 1) r
def Bools (d : PyData) : Prop := ∃ bs : List Bool, d = .list (bs.map .bool) ∧ bs.length ≤ 100000
theorem ff_true (i : Nat) (r : List PyData) : ffD i (.bool true :: r) = ffD (i + 1) r := by simp [ffD]
theorem ok_first_false {f : Addr} {fd : FuncData} (F : Fun K "first_false" "first_false" s_first_false f fd) (T : Bl mg) : FnOk P w K mg base CX0 1 f fd ["tests"] (sp1 Bools fun d => ffD 0 (itemsD d)) := by
  refine ok1 F sc_first_false (by decide) fun cdv A outer s H E X d Q hr t hp q => ⟨_, (pss_cons (ps_for PassesOwn.never rfl (pi_enum (by rfl) T.b_enumerate (pa_cons (pv 0) pa_nil)) (pg_tup (n := 2) rfl (pgs_cons (pg_name (i := 1) sc_first_false.nd rfl (by first | exact Or.inl rfl | exact Or.inr rfl)) (pgs_cons (pg_name (i := 2) sc_first_false.nd rfl (by first | exact Or.inl rfl | exact Or.inr rfl)) pgs_nil)))
    (pss_one (ps_if (pt_not (pt_val (pv 2)))
    (pss_one (ps_ret (pv 1))) pss_nil)))
    (pss_one (ps_ret pe_non))), fun σ En => ?_⟩
  obtain ⟨bs, rfl, hl⟩ := hp
  have q : ∀ w H', Same H H' → DX X H' w (ffD 0 (bs.map PyData.bool)) → Q w H' := q
  refine s_forD (gi_enum (g_var En rfl)) (fun Hb i σ' H' => Same Hb H' ∧ Trk X H' ∧ EnvOk X H' σ' [.dat (.list (bs.map .bool)), .un, .un] ∧ ffD 0 (bs.map PyData.bool) = ffD i ((bs.drop i).map PyData.bool)) (fun Hb s => ⟨Same.refl _, t.mono s, En.same s, rfl⟩) (fun Hb i σ' H' p => ⟨Kp.of p.1, p.2.1⟩) ?_ ?_
  · rintro Hb i x d σ' H' H'' sb hd ⟨p1, p2, p3, p4⟩ s2 dx
    have hi : i < bs.length := by
      have := (List.getElem?_eq_some_iff.mp hd).1
      rw [enumD_len, List.length_map] at this
      exact this
    have hb : (bs.map PyData.bool)[i]? = some (.bool bs[i]) := by rw [List.getElem?_map, List.getElem?_eq_getElem hi]; rfl
    rw [enumD_get hb] at hd
    cases hd
    have edrop : bs.drop i = bs[i] :: bs.drop (i + 1) := List.drop_eq_getElem_cons hi
    refine g_pair dx fun u w h1 h2 => ?_
    have E2 := ((p3.same s2).set (i := 1) h1).set (i := 2) h2
    refine s_if (gt_not (gt_B (g_var E2 rfl))) (fun hb H1 s3 => ?_) (fun hb H1 s3 => ?_)
    · have e : bs[i] = false := by simpa using hb
      refine s_ret (g_var (E2.same s3) rfl) fun w H2 s4 dw => q w H2 ((((sb.trans p1).trans s2).trans s3).trans s4) ?_
      rw [p4, edrop, e]
      exact dw
    · have e : bs[i] = true := by simpa using hb
      refine ⟨(p1.trans s2).trans s3, (p2.mono s2).mono s3, ?_, ?_⟩
      · have E3 := (E2.same s3)
        exact ⟨E3.len, fun j sv e => by
          match j, e with
          | 0, e => exact E3.get 0 _ e
          | 1, e => cases e; trivial
          | 2, e => cases e; trivial⟩
      · rw [p4, edrop, e]
        exact ff_true i _
  · rintro Hb σ' H' sb ⟨p1, p2, p3, p4⟩
    rw [enumD_len, List.length_map, List.drop_length] at p4
    refine s_ret (σ := σ') (X := X) (D := { nx := fun _ H' => Q .non H', rt := Q }) g_non fun w H2 s4 dw => q w H2 ((sb.trans p1).trans s4) ?_
    rw [p4]
    exact dw

def wordsAll (d : PyData) : Prop := isSeq d = true → (itemsD d).length ≤ 100000 ∧ ∀ z ∈ itemsD d, wordsPre z
def wrongD (d : PyData) : PyData := if isSeq d then ffD 0 ((itemsD d).map fun z => .bool (isWordsD z)) else .int 0
-- HINT wrong_words it pi_seq
def it (d : PyData) (i : Nat) : PyData := (itemsD d).getD i .none
def ch3 (d : PyData) : Bool := isSeq d && (decide ((itemsD d).length = 3) && isNumD (it d 0))
def isChangeD (d : PyData) : Bool := ch3 d && (isNone (wrongD (it d 1)) && isNone (wrongD (it d 2))) && decide (0 < lenD (it d 1) + lenD (it d 2))
def chPre (d : PyData) : Prop := isSeq d = true → (itemsD d).length ≤ 100000 ∧ ∀ z ∈ itemsD d, wordsAll z
theorem lenD_seq {d : PyData} (h : isSeq d = true) : lenD d = (itemsD d).length := by cases d <;> first | rfl | cases h
theorem hasLen_seq {d : PyData} (h : isSeq d = true) : hasLen d = true := by cases d <;> first | rfl | cases h
theorem wrong_seq {d : PyData} (h : isNone (wrongD d) = true) : isSeq d = true := by
  cases e : isSeq d with
  | true => rfl
  | false =>
    unfold wrongD at h
    rw [e] at h
    simp [isNone] at h
theorem it_at {d : PyData} {i : Nat} {k : Int} (hk : k = (i : Int)) (h : i < (itemsD d).length) : atI (itemsD d) k = some (it d i) := by
  subst hk
  refine atI_nat ?_
  unfold it
  rw [List.getElem?_eq_getElem h, List.getD_eq_getElem?_getD, List.getElem?_eq_getElem h]
  rfl
theorem it_mem {d : PyData} {i : Nat} (h : i < (itemsD d).length) : it d i ∈ itemsD d := by
  unfold it
  rw [List.getD_eq_getElem?_getD, List.getElem?_eq_getElem h]
  exact List.getElem_mem h
theorem eqv_int (i j : Int) : PyData.eqv (.int i) (.int j) = decide (i = j) := by
  simp only [PyData.eqv]
  by_cases h : i = j
  · subst h; simp
  · rw [decide_eq_false h]; simpa using h
theorem gt_neI {X : Addr → Prop} {ta tb : TE} {σ : L2.St} {H : Hp} {K : PySem.W.Frag} {i j : Int} (t : Trk X H) (ha : G X ta σ H (.int i)) (hb : G X tb σ H (.int j)) : GT (tTest (tOp (rNeD K) ta tb)) σ H (!decide (i = j)) := by
  rw [← eqv_int]
  exact gt_neD t ha hb rfl rfl (shaped_int i) (shaped_int j)
theorem gt_eqI {X : Addr → Prop} {ta tb : TE} {σ : L2.St} {H : Hp} {K : PySem.W.Frag} {i j : Int} (t : Trk X H) (ha : G X ta σ H (.int i)) (hb : G X tb σ H (.int j)) : GT (tTest (tOp (rEqD K) ta tb)) σ H (decide (i = j)) := by
  rw [← eqv_int]
  exact gt_eqD t ha hb rfl rfl (shaped_int i) (shaped_int j)
def wsD (ws : List Str) : PyData := .list (ws.map .str)
def chD (p : Int) (os ns : List Str) : PyData := .tuple [.int p, wsD os, wsD ns]
def WsOk (ws : List Str) : Prop := ws.length ≤ 1000 ∧ ∀ z ∈ ws, PyData.strOk z = true
theorem sIx_nn {n d : Nat} {p : Int} (h : 0 ≤ p) : HT.sIx n d (some p) = min p.toNat n := by
  show (if p < 0 then (p + (n : Int)).toNat else min p.toNat n) = min p.toNat n
  rw [if_neg (by omega)]
theorem cutD_map (ws : List Str) (lo hi : Option Int) : cutPD (ws.map PyData.str) lo hi = ((ws.drop (HT.sIx ws.length 0 lo)).take (HT.sIx ws.length ws.length hi - HT.sIx ws.length 0 lo)).map PyData.str := by
  unfold cutPD
  rw [List.length_map, List.map_take, List.map_drop]
theorem cut_lo (ws : List Str) {p q : Int} (hp : 0 ≤ p) (hq : p ≤ q) : cutPD (ws.map PyData.str) (some p) (some q) = ((ws.drop p.toNat).take (q.toNat - p.toNat)).map PyData.str := by
  rw [cutD_map, sIx_nn hp, sIx_nn (by omega)]
  congr 1
  by_cases h : p.toNat ≤ ws.length
  · rw [Nat.min_eq_left h]
    apply List.ext_getElem?
    intro n
    simp only [List.getElem?_take, List.getElem?_drop]
    by_cases hn : n < q.toNat - p.toNat
    · rw [if_pos hn]
      split
      · rfl
      · exact (List.getElem?_eq_none (by omega)).symm
    · rw [if_neg hn, if_neg (by omega)]
  · rw [List.drop_eq_nil_of_le (by omega), List.drop_eq_nil_of_le (by omega), List.take_nil, List.take_nil]
theorem cut_hi (ws : List Str) {q : Int} (hq : 0 ≤ q) : cutPD (ws.map PyData.str) none (some q) = (ws.take q.toNat).map PyData.str := by
  rw [cutD_map, sIx_nn hq, HT.sIx_none, List.drop_zero, Nat.sub_zero]
  congr 1
  by_cases h : q.toNat ≤ ws.length
  · rw [Nat.min_eq_left h]
  · rw [Nat.min_eq_right (by omega), List.take_of_length_le (Nat.le_refl _), List.take_of_length_le (by omega)]
theorem cut_from (ws : List Str) {p : Int} (hp : 0 ≤ p) : cutPD (ws.map PyData.str) (some p) none = (ws.drop p.toNat).map PyData.str := by
  rw [cutD_map, sIx_nn hp, HT.sIx_none]
  congr 1
  by_cases h : p.toNat ≤ ws.length
  · rw [Nat.min_eq_left h, List.take_of_length_le (by rw [List.length_drop]; omega)]
  · rw [Nat.min_eq_right (by omega), List.drop_eq_nil_of_le (Nat.le_refl _), List.drop_eq_nil_of_le (by omega), List.take_nil]
theorem sl_from {X : Addr → Prop} {te ta : TE} {σ : L2.St} {H : Hp} {ws : List Str} {p : Int} (t : Trk X H) (h : G X te σ H (wsD ws)) (ha : G X ta σ H (.int p)) (hp : 0 ≤ p) : G X (tSl (rSlL K) te (tPart ta) tNoPart) σ H (wsD (ws.drop p.toNat)) := by
  refine g_is (g_sl t h (go_some ha) go_none) ?_
  rw [cut_from _ hp]
  rfl
theorem sl_to {X : Addr → Prop} {te ta : TE} {σ : L2.St} {H : Hp} {ws : List Str} {p : Int} (t : Trk X H) (h : G X te σ H (wsD ws)) (ha : G X ta σ H (.int p)) (hp : 0 ≤ p) : G X (tSl (rSlL K) te tNoPart (tPart ta)) σ H (wsD (ws.take p.toNat)) := by
  refine g_is (g_sl t h go_none (go_some ha)) ?_
  rw [cut_hi _ hp]
  rfl
theorem sl_mid {X : Addr → Prop} {te ta tb : TE} {σ : L2.St} {H : Hp} {ws : List Str} {p q : Int} (t : Trk X H) (h : G X te σ H (wsD ws)) (ha : G X ta σ H (.int p)) (hb : G X tb σ H (.int q)) (hp : 0 ≤ p) (hq : p ≤ q) : G X (tSl (rSlL K) te (tPart ta) (tPart tb)) σ H (wsD ((ws.drop p.toNat).take (q.toNat - p.toNat))) := by
  refine g_is (g_sl t h (go_some ha) (go_some hb)) ?_
  rw [cut_lo _ hp hq]
  rfl
theorem len_ws {X : Addr → Prop} {te : TE} {σ : L2.St} {H : Hp} {ws : List Str} (t : Trk X H) (h : G X te σ H (wsD ws)) : G X (tCB (fun xs H Q => ∃ x n, xs = [x] ∧ LenV K x H n ∧ Q (V.int n) H) (tCons te tNil)) σ H (.int (ws.length : Int)) := by
  refine g_is (g_len t h rfl) ?_
  show PyData.int (((ws.map PyData.str).length : Nat) : Int) = _
  rw [List.length_map]
theorem cat_ws {X : Addr → Prop} {ta tb : TE} {σ : L2.St} {H : Hp} {ws zs : List Str} (t : Trk X H) (ha : G X ta σ H (wsD ws)) (hb : G X tb σ H (wsD zs)) (hl : ws.length + zs.length ≤ 1000000) : G X (tOp rAddA ta tb) σ H (wsD (ws ++ zs)) := by
  refine g_is (g_cat t ha hb (by rw [List.length_map, List.length_map]; exact hl)) ?_
  rw [← List.map_append]
  rfl
theorem catn_ws {X : Addr → Prop} {ta tb : TE} {σ : L2.St} {H : Hp} {ws zs : List Str} (t : Trk X H) (ha : G X ta σ H (wsD ws)) (hb : G X tb σ H (wsD zs)) (hl : ws.length + zs.length ≤ 1000000) : GN X (tOp rAddA ta tb) σ H (wsD (ws ++ zs)) := by
  refine GN.is (gn_cat t ha hb (by rw [List.length_map, List.length_map]; exact hl)) ?_
  rw [← List.map_append]
  rfl
theorem WsOk.take {ws : List Str} (h : WsOk ws) (n : Nat) : WsOk (ws.take n) := ⟨by rw [List.length_take]; have := h.1; omega, fun z hz => h.2 z (List.mem_of_mem_take hz)⟩
theorem WsOk.drop {ws : List Str} (h : WsOk ws) (n : Nat) : WsOk (ws.drop n) := ⟨by rw [List.length_drop]; have := h.1; omega, fun z hz => h.2 z (List.mem_of_mem_drop hz)⟩

def fitsB (ws : List Str) (p : Int) (os : List Str) : Bool := decide (p ≤ ws.length) && decide ((ws.drop p.toNat).take os.length = os)
/-- a text and a told change -/
def TC (a b : PyData) : Prop := ∃ ws p os ns, a = wsD ws ∧ b = chD p os ns ∧ WsOk ws ∧ WsOk os ∧ WsOk ns ∧ 0 ≤ p
def wsOf (d : PyData) : List Str := (itemsD d).map fun z => match z with | .str s => s | _ => default
theorem wsOf_wsD (ws : List Str) : wsOf (wsD ws) = ws := by
  show (ws.map PyData.str).map _ = ws
  rw [List.map_map]
  exact (List.map_congr_left fun _ _ => rfl).trans (List.map_id ws)
def intOf : PyData → Int
  | .int i => i
  | _ => 0
end K77

namespace KD
open PySem PySem.Spec PyProof.Rows L2
/-! ### own errors with one field -/
def spInit (C : Addr) (f : Str) : Sp := fun vs H Q _ => ∃ (a : Addr) (y : V), vs = [.ref a, y] ∧ H a = some (exo a C none) ∧ ∀ d, H d = none → d ≠ a → Q .non (upd (upd H d (exd d [(f, y)])) a (exo a C (some d)))
structure Ec (P : Program) (w : World) (K : PySem.W.Frag) (mg : Str → Option Value) (base : Heap) (x f : Str) (C : Addr) : Prop where
  gC : mg x = some (.ref C)
  T : OexC K C
  xf : XfC K C
  noF : PySem.W.findIn K (.ref C) f = some none
  ini : ∃ (fI : Addr) (fd : FuncData), PySem.W.findIn K (.ref C) "__init__" = some (some (.ref fI)) ∧ PySem.W.typeIn K (.ref fI) = some (.type "function") ∧ FnOk P w K mg base CX0 1 fI fd ["self", f] (spInit C f) ∧ Binds K fd ["self", f] []
section
variable {P : Program} {w : World} {K : PySem.W.Frag} {mg : Str → Option Value} {base : Heap} {C : Addr} {x f qual : Str} {st : Stmt} {fI : Addr} {fd : FuncData}
theorem ok_initF (F : Fun K "__init__" qual st fI fd) (S : FnScope [("self" : Str), f] [("self" : Str), f] (defScope st)) (T : OexC K C) (hno : PySem.W.findIn K (.ref C) f = some none) {p1 p2 p3 p4 : Pos}
    (hb : defBody st = [.Assign [.Attribute (.Name ("self" : Str) p1) f p2] (.Name f p3) p4]) (v0 : (defScope st).names.lookup ("self" : Str) = some .local) (v1 : (defScope st).names.lookup f = some .local) (hd : (f == ("__debug__" : Str)) = false) (hcd : (f == ("__classdict__" : Str)) = false)
    (hs : ∀ env : Env, swapsWith (.Name f p3) (some (.Attribute (.Name ("self" : Str) p1) f p2)) p4.line env = pure false) : FnOk P w K mg base CX0 1 fI fd ["self", f] (spInit C f) := by
  refine F.ok S (fun vs H Q E h => ?_) (fun cdv A outer s H vs Q E hr h => ?_)
  · obtain ⟨a, y, rfl, _⟩ := h
    rfl
  · obtain ⟨a, y, rfl, ha, k⟩ := h
    refine ⟨_, by
      rw [hb]
      exact pss_one (ps_ost (pe_var (i := 0) rfl (.inl v0) (by decide) (by decide)) (pe_var (i := 1) rfl (.inl v1) hd hcd) (hs _)), ?_⟩
    exact ⟨y, rfl, .ref a, rfl, a, C, rfl, T, hno, .inl ⟨ha, fun d hd hne => k d hd hne⟩⟩
end
inductive Out where
  | val (d : PyData) | err (C : Addr) (f : Str) (d : PyData)
def EndQ (X : Addr → Prop) (H : Hp) (o : Out) (Q : VK) (E : XK) : Prop := (∀ r, o = .val r → ∀ w H', Same H H' → DX X H' w r → Nw H w → Q w H') ∧ (∀ C fl r, o = .err C fl r → ∀ a w H', Same H H' → H' a = some (.xd [(fl, w)]) → DX X H' w r → E (.ref C) (some a) H')
theorem EndQ.mono {X : Addr → Prop} {H H1 : Hp} {o : Out} {Q : VK} {E : XK} (s : Same H H1) (h : EndQ X H o Q E) : EndQ X H1 o Q E := ⟨fun r e w H' k dw nw => h.1 r e w H' (s.trans k) dw (Nw.back s nw), fun C fl r e a w H' k => h.2 C fl r e a w H' (s.trans k)⟩
def spX1 (pre : PyData → Prop) (f : PyData → Out) : Sp := fun vs H Q E => ∃ (X : Addr → Prop) (v : V) (d : PyData), vs = [v] ∧ Trk X H ∧ DX X H v d ∧ pre d ∧ EndQ X H (f d) Q E
def spX2 (pre : PyData → PyData → Prop) (f : PyData → PyData → Out) : Sp := fun vs H Q E => ∃ (X : Addr → Prop) (v1 v2 : V) (d1 d2 : PyData), vs = [v1, v2] ∧ Trk X H ∧ DX X H v1 d1 ∧ DX X H v2 d2 ∧ pre d1 d2 ∧ EndQ X H (f d1 d2) Q E
section
variable {X : Addr → Prop} {σ : L2.St} {H : Hp} {ta tb : TE} {d d1 d2 : PyData} {E : XK} {Γ : List Sv} {D : Ends} {tz : TS}
/-- the reading of «raise C(e)» -/
theorem mk_err {C : Addr} {f : Str} (h : G X ta σ H d) (q : ∀ a w H', Same H H' → H' a = some (.xd [(f, w)]) → DX X H' w d → E (.ref C) (some a) H') : tMkO C (spInit C f) [] (tCons ta tNil) σ H E :=
  h H (Same.refl H) _ fun v H1 s r => ⟨by show 1 ≤ 1000; decide, fun a ha => ⟨a, v, rfl, upd_same, fun dd hd hne => by
    have hd1 : H1 dd = none := by rw [upd_ne hne] at hd; exact hd
    refine ⟨rfl, dd, _, upd_same, by rw [upd_ne hne, upd_same], hd1, q dd v _ (fun b o e => ?_) upd_same (r.mono (Kp.of ?_))⟩
    · have e1 := s b o e
      have hb : b ≠ a := ne_of_none e1 ha
      rw [upd_ne (ne_of_none e1 hd1)]
      show (if b = a then none else _) = some o
      rw [if_neg hb, upd_ne hb, upd_ne (ne_of_none e1 hd1), upd_ne hb]
      exact e1
    · intro b o e1
      have hb : b ≠ a := ne_of_none e1 ha
      rw [upd_ne (ne_of_none e1 hd1)]
      show (if b = a then none else _) = some o
      rw [if_neg hb, upd_ne hb, upd_ne (ne_of_none e1 hd1), upd_ne hb]
      exact e1⟩⟩
/-- a call that may raise -/
theorem c_X1 {pre : PyData → Prop} {f : PyData → Out} {Q : VK} (t : Trk X H) (h : G X ta σ H d) (hp : pre d) (q : EndQ X H (f d) Q E) : tCall (spX1 pre f) [] E (tCons ta tNil) σ H Q :=
  h H (Same.refl H) _ fun v H1 s r => ⟨X, v, d, rfl, t.mono s, r, hp, q.mono s⟩
theorem c_X2 {pre : PyData → PyData → Prop} {f : PyData → PyData → Out} {Q : VK} (t : Trk X H) (h1 : G X ta σ H d1) (h2 : G X tb σ H d2) (hp : pre d1 d2) (q : EndQ X H (f d1 d2) Q E) : tCall (spX2 pre f) [] E (tCons ta (tCons tb tNil)) σ H Q :=
  h1 H (Same.refl H) _ fun v H1 s r => h2 H1 s _ fun v2 H2 s2 r2 => ⟨X, v, v2, d1, d2, rfl, (t.mono s).mono s2, r.mono (Kp.of s2), r2, hp, q.mono (s.trans s2)⟩
theorem q_setX1 {i : Nat} {pre : PyData → Prop} {f : PyData → Out} (En : EnvOk X H σ Γ) (t : Trk X H) (h : G X ta σ H d) (hp : pre d) (k : ∀ r, f d = .val r → ∀ H1 v, Same H H1 → EnvOk X H1 (σ.set i (some v)) (Γ.set i (.dat r)) → tz D (σ.set i (some v)) H1)
    (ke : ∀ C fl r, f d = .err C fl r → ∀ a w H', Same H H' → H' a = some (.xd [(fl, w)]) → DX X H' w r → E (.ref C) (some a) H') : tSeq (tAsg (tCall (spX1 pre f) [] E (tCons ta tNil)) (gName i)) tz D σ H :=
  c_X1 t h hp ⟨fun r e v H1 s dv _ => k r e H1 v s ((En.same s).set dv), ke⟩
theorem gn_X1 {pre : PyData → Prop} {f : PyData → Out} {r : PyData} (t : Trk X H) (h : G X ta σ H d) (hp : pre d) (e : f d = .val r) : GN X (tCall (spX1 pre f) [] E (tCons ta tNil)) σ H r := fun H1 s Q q =>
  c_X1 (t.mono s) (h.mono s) hp ⟨fun r' e' w H' k dw nw => by rw [e] at e'; cases e'; exact q w H' k dw nw, fun C fl r' e' => by rw [e] at e'; cases e'⟩
theorem gn_X2 {pre : PyData → PyData → Prop} {f : PyData → PyData → Out} {r : PyData} (t : Trk X H) (h1 : G X ta σ H d1) (h2 : G X tb σ H d2) (hp : pre d1 d2) (e : f d1 d2 = .val r) : GN X (tCall (spX2 pre f) [] E (tCons ta (tCons tb tNil))) σ H r := fun H1 s Q q =>
  c_X2 (t.mono s) (h1.mono s) (h2.mono s) hp ⟨fun r' e' w H' k dw nw => by rw [e] at e'; cases e'; exact q w H' k dw nw, fun C fl r' e' => by rw [e] at e'; cases e'⟩
/-- .. of which it is known that it doesn't -/
theorem g_X1 {pre : PyData → Prop} {f : PyData → Out} {r : PyData} (t : Trk X H) (h : G X ta σ H d) (hp : pre d) (e : f d = .val r) : G X (tCall (spX1 pre f) [] E (tCons ta tNil)) σ H r := fun H1 s Q q =>
  c_X1 (t.mono s) (h.mono s) hp ⟨fun r' e' w H' k dw _ => by rw [e] at e'; cases e'; exact q w H' k dw, fun C fl r' e' => by rw [e] at e'; cases e'⟩
theorem g_X2 {pre : PyData → PyData → Prop} {f : PyData → PyData → Out} {r : PyData} (t : Trk X H) (h1 : G X ta σ H d1) (h2 : G X tb σ H d2) (hp : pre d1 d2) (e : f d1 d2 = .val r) : G X (tCall (spX2 pre f) [] E (tCons ta (tCons tb tNil))) σ H r := fun H1 s Q q =>
  c_X2 (t.mono s) (h1.mono s) (h2.mono s) hp ⟨fun r' e' w H' k dw _ => by rw [e] at e'; cases e'; exact q w H' k dw, fun C fl r' e' => by rw [e] at e'; cases e'⟩
end
section
variable {P : Program} {w : World} {K : PySem.W.Frag} {mg : Str → Option Value} {base : Heap} {x qual : Str} {st : Stmt} {f : Addr} {fd : FuncData} {N : List Str} {k : Nat} {a b c : Str}
theorem okX1 {pre : PyData → Prop} {g : PyData → Out} (F : Fun K x qual st f fd) (S : FnScope N [a] (defScope st)) (hN : 1 ≤ N.length)
    (hbody : ∀ (cdv : Value) (A : Around) (outer : List Env) (s : Shared) (H : Hp) (E : XK) (X : Addr → Prop) (d : PyData) (Q : VK), Room k (A.deeper (envOfC qual (defScope st) s.heap.objs.size f cdv)) → Trk X H → pre d → EndQ X H (g d) Q E →
      ∃ t, PSs (cxOf (L2.CX P w) P w K mg base N qual (defScope st) f cdv A outer s H E) (defBody st) t ∧ ∀ σ, EnvOk X H σ (pad N [.dat d]) → t { nx := fun _ H' => Q .non H', rt := Q } σ H) : FnOk P w K mg base (L2.CX P w) (k + 1) f fd [a] (spX1 pre g) := by
  refine F.okX S (fun vs H Q E h => ?_) (fun cdv A outer s H vs Q E hr h => ?_)
  · obtain ⟨X, v, d, rfl, _⟩ := h
    rfl
  · obtain ⟨X, v, d, rfl, t, hd, hp, q⟩ := h
    obtain ⟨tt, h1, h2⟩ := hbody cdv A outer s H E X d Q hr t hp q
    exact ⟨tt, h1, h2 _ (env1 hd hN)⟩
theorem okX2 {pre : PyData → PyData → Prop} {g : PyData → PyData → Out} (F : Fun K x qual st f fd) (S : FnScope N [a, b] (defScope st)) (hN : 2 ≤ N.length)
    (hbody : ∀ (cdv : Value) (A : Around) (outer : List Env) (s : Shared) (H : Hp) (E : XK) (X : Addr → Prop) (d1 d2 : PyData) (Q : VK), Room k (A.deeper (envOfC qual (defScope st) s.heap.objs.size f cdv)) → Trk X H → pre d1 d2 → EndQ X H (g d1 d2) Q E →
      ∃ t, PSs (cxOf (L2.CX P w) P w K mg base N qual (defScope st) f cdv A outer s H E) (defBody st) t ∧ ∀ σ, EnvOk X H σ (pad N [.dat d1, .dat d2]) → t { nx := fun _ H' => Q .non H', rt := Q } σ H) : FnOk P w K mg base (L2.CX P w) (k + 1) f fd [a, b] (spX2 pre g) := by
  refine F.okX S (fun vs H Q E h => ?_) (fun cdv A outer s H vs Q E hr h => ?_)
  · obtain ⟨X, v1, v2, d1, d2, rfl, _⟩ := h
    rfl
  · obtain ⟨X, v1, v2, d1, d2, rfl, t, r1, r2, hp, q⟩ := h
    obtain ⟨tt, h1, h2⟩ := hbody cdv A outer s H E X d1 d2 Q hr t hp q
    exact ⟨tt, h1, h2 _ (env2 r1 r2 hN)⟩
end
section
variable {X : Cx} {k j : Nat} {x f : Str} {ps : List Str} {sp : Sp} {e : Expr} {es : List Expr} {p pos pos2 : Pos} {ta : TA} {E : XK} {C : Addr}
/-- a def that may raise, called within one that lets it out -/
theorem pe_ownX (O : Own X.prog X.w X.K X.mg X.base (L2.CX X.prog X.w) k x ps sp) (hr : Room j X.A) (hk : k ≤ j) (tk : Takes X (fun cls d _ H => E cls d H)) (hg : Gl X x) (ha : PA X (e :: es) ta) (hdb : (x == ("__debug__" : Str)) = false := by decide)
    (he : starEach (e :: es) X.env = (false, eval e X.env) :: starEach es X.env := by rfl) (hpl : (backTo pos (starEach es X.env)).any (·.1) = false := by rfl) : PE X (.Call (.Name x p) (e :: es) [] pos) (tCall sp [] E ta) := by
  obtain ⟨g, fd, h1, h2, h3, h4⟩ := O.ex
  exact pe_call h4 (hr.mono hk) hg h1 h2 h3 .nil (passes_call tk fun _ _ _ _ h => h) ha hdb he hpl
/-- raise C(e) -/
theorem ps_err {W : WX} (hc : X.calm = true) (T : Ec X.prog X.w X.K X.mg X.base x f C) (hr : Room j X.A) (hk : 2 ≤ j) (tk : Takes X W) (hg : Gl X x) {ta : TE} (ha : PA X [e] (tCons ta tNil)) (hdb : (x == ("__debug__" : Str)) = false := by decide)
    (he : starEach (e :: []) X.env = (false, eval e X.env) :: starEach [] X.env := by rfl) (hpl : (backTo pos (starEach [] X.env)).any (·.1) = false := by rfl) :
    PS X (.Raise (some (.Call (.Name x p) [e] [] pos)) none pos2) (fun _ σ H => tMkO C (spInit C f) [] (tCons ta tNil) σ H fun cls d H' => W cls d σ H') := by
  obtain ⟨fI, fd, h1, h2, h3, h4⟩ := T.ini
  exact ps_raise hc tk (pmk_oex T.T h1 h2 h3 (hr.mono hk) h4 .nil (pass0) hg T.gC ha hdb he hpl)
end
end KD

namespace K77
open PySem PySem.Spec PyProof.Rows L2 KD
-- RAISES change_of checked_text made_by turned_back
variable {P : Program} {w : World} {K : PySem.W.Frag} {mg : Str → Option Value} {base : Heap}
theorem ffD_none : ∀ {ds : List PyData} {i : Nat}, isNone (ffD i (ds.map fun z => .bool (isWordsD z))) = true → ∀ z ∈ ds, isWordsD z = true
  | [], _, _, z, hz => by cases hz
  | d :: ds, i, h, z, hz => by
    cases e : isWordsD d with
    | false =>
      rw [List.map_cons, e] at h
      simp [ffD, isNone] at h
    | true =>
      rw [List.map_cons, e, ff_true] at h
      rcases List.mem_cons.mp hz with rfl | hm
      · exact e
      · exact ffD_none h z hm
theorem words_str {d : PyData} (h : isWordsD d = true) : ∃ s, d = .str s := by
  cases d <;> first | exact ⟨_, rfl⟩ | cases h
theorem ws_map : ∀ {ds : List PyData}, (∀ z ∈ ds, isWordsD z = true) → ds = (ds.map fun z => match z with | .str s => s | _ => default).map PyData.str
  | [], _ => rfl
  | d :: ds, h => by
    obtain ⟨s, rfl⟩ := words_str (h d List.mem_cons_self)
    rw [List.map_cons, List.map_cons, ← ws_map fun z hz => h z (List.mem_cons_of_mem _ hz)]
theorem ws_of {d : PyData} (h : isNone (wrongD d) = true) : PyData.list (itemsD d) = wsD (wsOf d) := by
  have hs := wrong_seq h
  unfold wrongD at h
  rw [hs] at h
  show PyData.list (itemsD d) = PyData.list ((wsOf d).map PyData.str)
  congr 1
  exact ws_map (ffD_none h)

end K77

/-! The spring of draws. -/
namespace K77
open PySem PySem.Spec PyProof.Rows L2 KD
variable {P : Program} {w : World} {K : PySem.W.Frag} {mg : Str → Option Value} {base : Heap}
/-- the spring at st, its cells at cl: b draws done -/
structure SpAt (st cl : Addr) (ms : List Int) (a b c : Int) (H : Hp) : Prop where
  hs : H st = some (.lst [.ref cl, .int a, .int b, .int c])
  hc : H cl = some (.lst (ms.map V.int))
  ne : st ≠ cl
  a0 : 0 ≤ a
  b0 : 0 ≤ b
  c0 : 0 ≤ c
  c1 : c < 2147483647
  ml : ms.length ≤ 100000
def SpOk (st cl : Addr) (n : Nat) (H : Hp) : Prop := ∃ ms a b c, SpAt st cl ms a b c H ∧ b ≤ (n : Int)
/-- all but the spring stays -/
def KpS (st cl : Addr) (H H' : Hp) : Prop := ∀ a o, a ≠ st → a ≠ cl → H a = some o → H' a = some o
theorem KpS.refl {st cl : Addr} {H : Hp} : KpS st cl H H := fun _ _ _ _ e => e
theorem KpS.trans {st cl : Addr} {H H1 H2 : Hp} (h : KpS st cl H H1) (k : KpS st cl H1 H2) : KpS st cl H H2 := fun a o n m e => k a o n m (h a o n m e)
theorem KpS.of {st cl : Addr} {H H' : Hp} (h : Same H H') : KpS st cl H H' := fun a o _ _ e => h a o e
theorem KpS.kp {X : Addr → Prop} {st cl : Addr} {H H' : Hp} (h : KpS st cl H H') (x1 : X st) (x2 : X cl) : Kp X H H' := fun a o n e => h a o (fun z => n (z ▸ x1)) (fun z => n (z ▸ x2)) e
theorem SpOk.trk {X : Addr → Prop} {st cl : Addr} {n : Nat} {H H' : Hp} (h : SpOk st cl n H') (k : KpS st cl H H') (t : Trk X H) : Trk X H' := fun a x => by
  obtain ⟨ms, a', b, c, S, _⟩ := h
  by_cases h1 : a = st
  · subst h1
    exact ⟨_, S.hs⟩
  · by_cases h2 : a = cl
    · subst h2
      exact ⟨_, S.hc⟩
    · obtain ⟨o, e⟩ := t a x
      exact ⟨o, k a o h1 h2 e⟩
theorem SpAt.same {st cl : Addr} {ms : List Int} {a b c : Int} {H H' : Hp} (S : SpAt st cl ms a b c H) (s : Same H H') : SpAt st cl ms a b c H' := ⟨s _ _ S.hs, s _ _ S.hc, S.ne, S.a0, S.b0, S.c0, S.c1, S.ml⟩
theorem SpOk.same {st cl : Addr} {n : Nat} {H H' : Hp} (h : SpOk st cl n H) (s : Same H H') : SpOk st cl n H' := by
  obtain ⟨ms, a, b, c, S, hb⟩ := h
  exact ⟨ms, a, b, c, S.same s, hb⟩
theorem SpOk.le {st cl : Addr} {n m : Nat} {H : Hp} (h : SpOk st cl n H) (hm : n ≤ m) : SpOk st cl m H := by
  obtain ⟨ms, a, b, c, S, hb⟩ := h
  exact ⟨ms, a, b, c, S, by omega⟩
theorem KpS.put {st cl p : Addr} {H : Hp} {o : HO} (h : p = st ∨ p = cl) : KpS st cl H (upd H p o) := fun a u n m e => by
  rw [upd_ne (fun z => by rcases h with h | h; exact n (z.trans h); exact m (z.trans h))]
  exact e
section
variable {σ : L2.St} {H : Hp} {i : Nat} {p st cl : Addr} {xs : List V} {v : V} {k : Int} {Q : VK} {ms : List Int} {a b c : Int}
theorem ix_at (hv : σ[i]? = some (some (.ref p))) (hp : H p = some (.lst xs)) (hx : atI xs k = some v) (q : Q v H) : tOp (rIx K) (tVar i) (tC (.int k)) σ H Q := ⟨_, hv, .inl ⟨p, xs, k, v, rfl, rfl, SqL.of hp, hx, q⟩⟩
theorem set_at {R : L2.St → Hp → Prop} {j : Nat} (hv : σ[i]? = some (some (.ref p))) (hp : H p = some (.lst xs)) (hx : ixN xs.length k = some j) (q : R σ (upd H p (.lst (xs.set j v)))) : gSub (tVar i) (tC (.int k)) rSetL v σ H R := ⟨_, hv, p, xs, k, j, rfl, rfl, hp, hx, q⟩
theorem op2 {r : R2} {ta tb : TE} (h : ta σ H fun x H1 => tb σ H1 fun y H2 => r x y H2 Q) : tOp r ta tb σ H Q := h
theorem SpAt.put1 (S : SpAt st cl ms a b c H) {z : Int} (h : 0 ≤ z) : SpAt st cl ms z b c (upd H st (.lst [.ref cl, .int z, .int b, .int c])) := ⟨upd_same, by rw [upd_ne (Ne.symm S.ne)]; exact S.hc, S.ne, h, S.b0, S.c0, S.c1, S.ml⟩
theorem SpAt.put2 (S : SpAt st cl ms a b c H) {z : Int} (h : 0 ≤ z) : SpAt st cl ms a z c (upd H st (.lst [.ref cl, .int a, .int z, .int c])) := ⟨upd_same, by rw [upd_ne (Ne.symm S.ne)]; exact S.hc, S.ne, S.a0, h, S.c0, S.c1, S.ml⟩
theorem SpAt.put3 (S : SpAt st cl ms a b c H) {z : Int} (h : 0 ≤ z) (h2 : z < 2147483647) : SpAt st cl ms a b z (upd H st (.lst [.ref cl, .int a, .int b, .int z])) := ⟨upd_same, by rw [upd_ne (Ne.symm S.ne)]; exact S.hc, S.ne, S.a0, S.b0, h, h2, S.ml⟩
theorem SpAt.pop (S : SpAt st cl ms a b c H) {m : Int} {r : List Int} (e : ms = m :: r) : SpAt st cl r a b c (upd H cl (.lst (r.map V.int))) := ⟨by rw [upd_ne S.ne]; exact S.hs, upd_same, S.ne, S.a0, S.b0, S.c0, S.c1, by have := S.ml; rw [e, List.length_cons] at this; omega⟩
end
theorem dp_ints {H : Hp} : ∀ ms : List Int, DpAll K H (ms.map V.int) (ms.map PyData.int)
  | [] => .nil
  | m :: r => .cons (.int m) (dp_ints r)
theorem canLay_ints : ∀ ms : List Int, PyData.canLayAll0 (ms.map PyData.int) = true
  | [] => by simp [PyData.canLayAll0]
  | m :: r => by simp [PyData.canLayAll0, PyData.canLay0, canLay_ints r]
theorem depth_ints : ∀ ms : List Int, PyData.depthAll (ms.map PyData.int) ≤ 1
  | [] => by simp [PyData.depthAll]
  | m :: r => by
    have := depth_ints r
    simp only [List.map_cons, PyData.depthAll, PyData.depth]
    omega
theorem shaped_ints (ms : List Int) : SeqAt.shaped (.list (ms.map PyData.int)) = true := by
  have := depth_ints ms
  have h2 : PyData.depth (.list (ms.map PyData.int)) ≤ 64 := by
    simp only [PyData.depth]
    omega
  show ((PyData.list (ms.map PyData.int)).canLay0 && decide ((PyData.list (ms.map PyData.int)).depth ≤ 64)) = true
  rw [Bool.and_eq_true]
  exact ⟨by simp only [PyData.canLay0]; exact canLay_ints ms, decide_eq_true h2⟩

abbrev s__law_start : Stmt := topS 29
abbrev n__law_start : List Str := ["_law_script"]
theorem sc__law_start : FnScope n__law_start ["_law_script"] (defScope s__law_start) := ⟨rfl, rfl, rfl, by decide +kernel, rfl, by decide +kernel, by decide +kernel⟩
def spStart (K : PySem.W.Frag) : Sp := fun vs H Q _ => ∃ (a : Addr) (ns : List Int), vs = [.ref a] ∧ SqL K H a (ns.map V.int) ∧ ns.length ≤ 63 ∧ ∀ st cl H', Same H H' → H st = none → H cl = none → SpOk st cl 0 H' → Q (.ref st) H'
theorem ok_start {f : Addr} {fd : FuncData} (F : Fun K "_law_start" "_law_start" s__law_start f fd) (T : Bl mg) : FnOk P w K mg base CX0 1 f fd ["_law_script"] (spStart K) := by
  refine F.ok sc__law_start (fun vs H Q E h => ?_) (fun cdv A outer s H vs Q E hr h => ?_)
  · obtain ⟨a, ns, rfl, _⟩ := h
    rfl
  · obtain ⟨a, ns, rfl, hS, hl, k⟩ := h
    refine ⟨_, (pss_one (ps_ret (pe_lst (pa_cons (pe_callTy call_list_of (by rfl) T.b_list boot_list (pa_cons (pv 0) pa_nil)) (pa_cons pe_int (pa_cons pe_int (pa_cons pe_int pa_nil))))))), ?_⟩
    refine ⟨_, rfl, a, _, rfl, .inl hS, fun cl hcl => ⟨by show 4 ≤ sizeLine; decide, fun st hst => ?_⟩⟩
    have hst0 : H st = none := (Same.upd hcl).free hst
    have ne : st ≠ cl := fun e => by
      rw [e, upd_same] at hst
      cases hst
    refine k st cl _ ((Same.upd hcl).trans (Same.upd hst)) hst0 hcl ⟨ns, 0, 0, 11, ⟨upd_same, by rw [upd_ne (Ne.symm ne)]; exact upd_same, ne, by omega, by omega, by omega, by omega, by omega⟩, by omega⟩

abbrev s__law_draw : Stmt := topS 30
abbrev n__law_draw : List Str := ["_law_stream", "_law_many", "_law_cell", "_law_digit", "_law_mixed_here"]
theorem sc__law_draw : FnScope n__law_draw ["_law_stream", "_law_many"] (defScope s__law_draw) := ⟨rfl, rfl, rfl, by decide +kernel, rfl, by decide +kernel, by decide +kernel⟩
def spDraw : Sp := fun vs H Q _ => ∃ (st cl : Addr) (n : Nat) (m : Int), vs = [.ref st, .int m] ∧ SpOk st cl n H ∧ n ≤ 1000000000 ∧ 0 < m ∧ m < 1000000 ∧ ∀ i H', 0 ≤ i → i < m → KpS st cl H H' → SpOk st cl (n + 1) H' → Q (.int i) H'
def lenAt (cl : Addr) (H : Hp) : Nat := match H cl with
  | some (.lst xs) => xs.length
  | _ => 0
theorem ok_draw {f : Addr} {fd : FuncData} (F : Fun K "_law_draw" "_law_draw" s__law_draw f fd) (T : Bl mg) : FnOk P w K mg base CX0 1 f fd ["_law_stream", "_law_many"] spDraw := by
  refine F.ok sc__law_draw (fun vs H Q E h => ?_) (fun cdv A outer s H vs Q E hr h => ?_)
  · obtain ⟨st, cl, n, m, rfl, _⟩ := h
    rfl
  · obtain ⟨st, cl, n, m, rfl, ⟨ms, a, b, c, S, hbn⟩, hn, hm, hm2, k⟩ := h
    refine ⟨_, (pss_cons (ps_asg (pe_op op_addA (pe_ix ix_seq (pv 0) pe_int (fun _ _ => rfl)) pe_int) (pg_sub (pv 0) pe_int set_list))
    (Evl.pss_cut (ps_while PassesOwn.never (PW.pt (pw_and (pt_cmpR (op_eqD hr.units) (pe_ix ix_seq (pv 0) pe_int (fun _ _ => rfl)) pe_int (nomark _)) (pw_and1 (pt_cmpR (op_neD hr.units) (pe_ix ix_seq (pv 0) pe_int (fun _ _ => rfl)) (pe_lst pa_nil) (nomark _)))))
    (pss_cons (ps_set (i := 2) sc__law_draw.nd rfl (by first | exact Or.inl rfl | exact Or.inr rfl) (pe_bm PySem.F.plainAttrs_list PySem.F.slot_list_pop PySem.F.type_list_pop mt_popAt (pe_ix ix_seq (pv 0) pe_int (fun _ _ => rfl)) (pa_cons pe_int pa_nil)))
    (pss_cons (ps_asg (pe_op op_mod (pe_callTy call_int1 (by rfl) T.b_int boot_int (pa_cons (pe_op op_addA (pe_op op_addA (pe_op op_mulA (pe_ix ix_seq (pv 0) pe_int (fun _ _ => rfl)) pe_int) (pv 2)) pe_int) pa_nil)) pe_int) (pg_sub (pv 0) pe_int set_list))
    (pss_one (ps_asg (pe_ifExp (pt_cmpR op_ge (pv 2) (pe_op op_pow pe_int pe_int) (nomark _)) (pv 2) pe_int) (pg_sub (pv 0) pe_int set_list))))))
    (pss_cons (ps_if (pt_cmpR op_gt (pe_ix ix_seq (pv 0) pe_int (fun _ _ => rfl)) pe_int (nomark _))
    (pss_cons (ps_set (i := 3) sc__law_draw.nd rfl (by first | exact Or.inl rfl | exact Or.inr rfl) (pe_op op_mod (pe_callTy call_int1 (by rfl) T.b_int boot_int (pa_cons (pe_ix ix_seq (pv 0) pe_int (fun _ _ => rfl)) pa_nil)) (pv 1)))
    (pss_cons (ps_asg (pe_op op_fdiv (pe_ix ix_seq (pv 0) pe_int (fun _ _ => rfl)) (pv 1)) (pg_sub (pv 0) pe_int set_list))
    (pss_one (ps_ret (pv 3))))) pss_nil)
    (pss_cons (ps_set (i := 4) sc__law_draw.nd rfl (by first | exact Or.inl rfl | exact Or.inr rfl) (pe_op op_mod (pe_callTy call_int1 (by rfl) T.b_int boot_int (pa_cons (pe_op op_pow (pe_op op_addA (pe_op op_addA (pe_ix ix_seq (pv 0) pe_int (fun _ _ => rfl)) (pe_op op_mulA pe_int (pe_ix ix_seq (pv 0) pe_int (fun _ _ => rfl)))) pe_int) pe_int) pa_nil)) pe_int))
    (pss_one (ps_ret (pe_op op_mod (pe_op op_mod (pe_callTy call_int1 (by rfl) T.b_int boot_int (pa_cons (pe_op op_pow (pe_op op_addA (pe_op op_addA (pe_op op_mulA (pv 4) pe_int) (pe_op op_mulA pe_int (pe_ix ix_seq (pv 0) pe_int (fun _ _ => rfl)))) pe_int) pe_int) pa_nil)) pe_int) (pv 1)))))))), ?_⟩
    -- stream[2] = stream[2] + 1
    refine ix_at (i := 0) rfl S.hs (v := .int b) rfl ?_
    refine .inl ⟨b, 1, rfl, rfl, ?_⟩
    refine set_at (i := 0) (j := 2) rfl S.hs rfl ?_
    have S1 : SpAt st cl ms a (b + 1) c (upd H st (.lst [.ref cl, .int a, .int (b + 1), .int c])) := S.put2 (by have := S.b0; omega)
    have k1 : KpS st cl H (upd H st (.lst [.ref cl, .int a, .int (b + 1), .int c])) := KpS.put (.inl rfl)
    -- the loop
    refine ⟨fun σ H' => ∃ ms' a' c' x, σ = [some (.ref st), some (.int m), x, none, none] ∧ SpAt st cl ms' a' (b + 1) c' H' ∧ KpS st cl H H',
      ⟨fun l σ H' => ∃ ms' a' c' x, l = ms'.length ∧ σ = [some (.ref st), some (.int m), x, none, none] ∧ SpAt st cl ms' a' (b + 1) c' H' ∧ KpS st cl H H', ⟨ms.length, ms, a, c, none, rfl, rfl, S1, k1⟩, ?_⟩, ?_⟩
    · rintro l σ H1 ⟨ms1, a1, c1, x1, rfl, rfl, S2, k2⟩
      refine ix_at (i := 0) rfl S2.hs (v := .int a1) rfl ?_
      refine ⟨.int a1, .int 0, .int _, .int _, shaped_int _, shaped_int _, _, rfl, ?_⟩
      rw [eqv_int]
      by_cases ha : a1 = 0
      · rw [decide_eq_true ha]
        refine iteT ?_
        refine ix_at (i := 0) rfl S2.hs (v := .ref cl) rfl ?_
        refine ⟨by show 0 ≤ sizeLine; decide, fun p hp => ?_⟩
        have S3 := S2.same (Same.upd (o := .lst []) hp)
        refine ⟨.list (ms1.map .int), .list [], .lst (SqL.of S3.hc) (dp_ints ms1), .lst (SqL.of upd_same) .nil, shaped_ints ms1, shaped_ints [], _, rfl, ?_⟩
        have k3 : KpS st cl H (upd H1 p (.lst [])) := k2.trans (KpS.of (Same.upd hp))
        cases ms1 with
        | nil =>
          refine iteF ?_
          exact ⟨[], a1, c1, x1, rfl, S3, k3⟩
        | cons m1 r1 =>
          refine iteT ?_
          refine ⟨fun σ H' => ∃ a' c' x, σ = [some (.ref st), some (.int m), x, none, none] ∧ SpAt st cl r1 a' (b + 1) c' H' ∧ KpS st cl H H', fun σ' H' ⟨a', c', x, e, S', k'⟩ => ⟨r1.length, Nat.lt_succ_self _, r1, a', c', x, rfl, e, S', k'⟩, ?_⟩
          -- cell = stream[0].pop(0)
          refine ix_at (i := 0) rfl S3.hs (v := .ref cl) rfl ?_
          refine ⟨.inl ⟨rfl, _, SqL.of S3.hc⟩, cl, _, 0, 0, .int m1, rfl, rfl, S3.hc, by decide, by decide, (by simp [seqIndex?]), rfl, ?_⟩
          have S4 := S3.pop rfl
          have k4 := k3.trans (KpS.put (H := upd H1 p (.lst [])) (o := .lst (r1.map V.int)) (st := st) (.inr rfl))
          -- stream[3] = int(stream[3] * 8191 + cell + 3) % 2147483647
          refine ix_at (i := 0) rfl S4.hs (v := .int c1) rfl ?_
          refine .inl ⟨c1, 8191, rfl, rfl, .inr ⟨by decide, by decide⟩, ?_⟩
          refine ⟨.int m1, rfl, .inl ⟨_, _, rfl, rfl, ?_⟩⟩
          refine .inl ⟨_, _, rfl, rfl, ?_⟩
          refine .inl ⟨_, rfl, ?_⟩
          refine ⟨_, _, rfl, rfl, (by decide : (0 : Int) < 2147483647), ?_⟩
          refine set_at (i := 0) (j := 3) rfl S4.hs rfl ?_
          have S5 := S4.put3 (z := (c1 * 8191 + m1 + 3) % 2147483647) (Int.emod_nonneg _ (by decide)) (Int.emod_lt_of_pos _ (by decide))
          have k5 := k4.trans (KpS.put (H := upd (upd H1 p (.lst [])) cl (.lst (r1.map V.int))) (o := .lst [.ref cl, .int a1, .int (b + 1), .int ((c1 * 8191 + m1 + 3) % 2147483647)]) (st := st) (cl := cl) (.inl rfl))
          -- stream[1] = cell if cell >= 10 ** 18 else 0
          refine ⟨.int m1, rfl, ?_⟩
          refine ⟨10, 18, rfl, rfl, ⟨by decide, by decide, by decide⟩, ?_⟩
          refine ⟨_, _, rfl, rfl, _, rfl, ?_⟩
          by_cases hg : (10 : Int) ^ (18 : Int).toNat ≤ m1
          · rw [decide_eq_true hg]
            refine iteT ?_
            refine ⟨.int m1, rfl, ?_⟩
            refine set_at (i := 0) (j := 1) rfl S5.hs rfl ?_
            exact ⟨m1, _, _, rfl, S5.put1 (Int.le_trans (by decide) hg), k5.trans (KpS.put (.inl rfl))⟩
          · rw [decide_eq_false hg]
            refine iteF ?_
            refine set_at (i := 0) (j := 1) rfl S5.hs rfl ?_
            exact ⟨0, _, _, rfl, S5.put1 (by decide), k5.trans (KpS.put (.inl rfl))⟩
      · rw [decide_eq_false ha]
        refine iteF ?_
        refine iteF ?_
        exact ⟨ms1, a1, c1, x1, rfl, S2, k2⟩
    · rintro σ H1 ⟨ms1, a1, c1, x1, rfl, S2, k2⟩
      -- if stream[1] > 0
      refine ix_at (i := 0) rfl S2.hs (v := .int a1) rfl ?_
      refine ⟨a1, 0, rfl, rfl, _, rfl, ?_⟩
      by_cases ha : 0 < a1
      · rw [decide_eq_true ha]
        refine iteT ?_
        refine ix_at (i := 0) rfl S2.hs (v := .int a1) rfl ?_
        refine .inl ⟨a1, rfl, ?_⟩
        refine ⟨.int m, rfl, a1, m, rfl, rfl, hm, ?_⟩
        refine ix_at (i := 0) rfl S2.hs (v := .int a1) rfl ?_
        refine ⟨.int m, rfl, a1, m, rfl, rfl, ⟨hm, by omega⟩, ?_⟩
        refine set_at (i := 0) (j := 1) rfl S2.hs rfl ?_
        refine ⟨.int (a1 % m), rfl, ?_⟩
        exact k _ _ (Int.emod_nonneg _ (by omega)) (Int.emod_lt_of_pos _ hm) (k2.trans (KpS.put (.inl rfl))) ⟨ms1, _, _, _, S2.put1 (Int.ediv_nonneg (by omega) (by omega)), by omega⟩
      · rw [decide_eq_false ha]
        refine iteF ?_
        -- mixed
        refine ix_at (i := 0) rfl S2.hs (v := .int c1) rfl ?_
        refine ix_at (i := 0) rfl S2.hs (v := .int (b + 1)) rfl ?_
        refine .inl ⟨7919, b + 1, rfl, rfl, .inl ⟨by decide, by decide⟩, ?_⟩
        refine .inl ⟨_, _, rfl, rfl, ?_⟩
        refine .inl ⟨_, _, rfl, rfl, ?_⟩
        have c0 := S2.c0
        have c1' := S2.c1
        have b0 := S.b0
        refine ⟨_, 5, rfl, rfl, ⟨by decide, by decide, by omega⟩, ?_⟩
        refine .inl ⟨_, rfl, ?_⟩
        refine ⟨_, _, rfl, rfl, (by decide : (0 : Int) < 2147483629), ?_⟩
        show gName 4 (V.int ((c1 + 7919 * (b + 1) + 104729) ^ (5 : Int).toNat % 2147483629)) _ _ _
        generalize hx : (c1 + 7919 * (b + 1) + 104729) ^ (5 : Int).toNat % 2147483629 = x
        have x0 : 0 ≤ x := by rw [← hx]; exact Int.emod_nonneg _ (by decide)
        have x1' : x < 2147483629 := by rw [← hx]; exact Int.emod_lt_of_pos _ (by decide)
        refine ⟨.int x, rfl, .inl ⟨x, 48271, rfl, rfl, .inr ⟨by decide, by decide⟩, ?_⟩⟩
        refine ix_at (i := 0) rfl S2.hs (v := .int (b + 1)) rfl ?_
        refine .inl ⟨30011, b + 1, rfl, rfl, .inl ⟨by decide, by decide⟩, ?_⟩
        refine .inl ⟨_, _, rfl, rfl, ?_⟩
        refine .inl ⟨_, _, rfl, rfl, ?_⟩
        refine ⟨_, 3, rfl, rfl, ⟨by decide, by decide, by omega⟩, ?_⟩
        refine .inl ⟨_, rfl, ?_⟩
        refine ⟨_, _, rfl, rfl, (by decide : (0 : Int) < 1000000007), ?_⟩
        refine ⟨.int m, rfl, _, m, rfl, rfl, hm, ?_⟩
        exact k _ _ (Int.emod_nonneg _ (by omega)) (Int.emod_lt_of_pos _ hm) k2 ⟨ms1, _, _, _, S2, by omega⟩
end K77

/-! Draws over data. -/
namespace K77
-- HINT _law_mixed lcte tBM K "list" rPopAt (tVar 2) (tCons (tCall spDraw [] E0 (tCons (tVar 0) (tCons (tCB (fun xs H Q => ∃ x n, xs = [x] ∧ LenV K x H n ∧ Q (V.int n) H) (tCons (tVar 2) tNil)) tNil))) tNil)
open PySem PySem.Spec PyProof.Rows L2 KD
variable {P : Program} {w : World} {K : PySem.W.Frag} {mg : Str → Option Value} {base : Heap}
/-- the spring stands apart from the data -/
structure Sg (X : Addr → Prop) (st cl : Addr) (n : Nat) (H : Hp) : Prop where
  ok : SpOk st cl n H
  x1 : X st
  x2 : X cl
  t : Trk X H
section
variable {X X' : Addr → Prop} {st cl p : Addr} {n m : Nat} {H H' : Hp} {σ : L2.St} {Γ : List Sv}
theorem Sg.same (S : Sg X st cl n H) (s : Same H H') : Sg X st cl n H' := ⟨S.ok.same s, S.x1, S.x2, S.t.mono s⟩
theorem Sg.step (S : Sg X st cl n H) (k : KpS st cl H H') (o : SpOk st cl m H') : Sg X st cl m H' := ⟨o, S.x1, S.x2, o.trk k S.t⟩
theorem Sg.le (S : Sg X st cl n H) (h : n ≤ m) : Sg X st cl m H := ⟨S.ok.le h, S.x1, S.x2, S.t⟩
theorem Sg.kp (S : Sg X st cl n H) (k : KpS st cl H H') : Kp X H H' := k.kp S.x1 S.x2
theorem Sg.more (S : Sg X st cl n H) (m : More X X' H) (t : Trk X' H) : Sg X' st cl n H := ⟨S.ok, m.1 _ S.x1, m.1 _ S.x2, t⟩
theorem Sg.ne1 (S : Sg X st cl n H) (h : H p = none) : p ≠ st := fun e => S.t.new h (e ▸ S.x1)
theorem Sg.ne2 (S : Sg X st cl n H) (h : H p = none) : p ≠ cl := fun e => S.t.new h (e ▸ S.x2)
theorem SpOk.put {o : HO} (h : SpOk st cl n H) (h1 : p ≠ st) (h2 : p ≠ cl) : SpOk st cl n (upd H p o) := by
  obtain ⟨ms, a, b, c, S, hb⟩ := h
  exact ⟨ms, a, b, c, ⟨by rw [upd_ne (Ne.symm h1)]; exact S.hs, by rw [upd_ne (Ne.symm h2)]; exact S.hc, S.ne, S.a0, S.b0, S.c0, S.c1, S.ml⟩, hb⟩
theorem Sg.put {o : HO} (S : Sg X st cl n H) (h1 : p ≠ st) (h2 : p ≠ cl) : Sg X st cl n (upd H p o) := ⟨S.ok.put h1 h2, S.x1, S.x2, S.t.put⟩
theorem _root_.KD.EnvOk.kps (E : EnvOk X H σ Γ) (S : Sg X st cl n H) (k : KpS st cl H H') : EnvOk X H' σ Γ := E.mono (S.kp k)
end
section
variable {σ : L2.St} {H : Hp} {te ta tb : TE} {D : Ends} {r : R2} {Q : VK} {g : TG} {tz : TS} {tt : TT} {tl : TA}
theorem k_ret (h : te σ H D.rt) : tRet te D σ H := h
theorem k_op (h : ta σ H fun x H1 => tb σ H1 fun y H2 => r x y H2 Q) : tOp r ta tb σ H Q := h
theorem k_set {i : Nat} (h : te σ H fun v H1 => tz D (σ.set i (some v)) H1) : tSeq (tAsg te (gName i)) tz D σ H := h
theorem k_asg (h : te σ H fun v H1 => g v σ H1 fun σ2 H2 => tz D σ2 H2) : tSeq (tAsg te g) tz D σ H := h
theorem k_yes {A B : Hp → Prop} (h : A H) : tYes σ H fun b H3 => if b = true then A H3 else B H3 := by
  show (if true = true then A H else B H)
  rw [if_pos rfl]
  exact h
theorem k_lcR {ta : TA} {us : List Nat} (h : ta σ H fun vs H1 => ∃ j : Int, vs = [.int j] ∧ -(2 ^ 62) ≤ j ∧ j < 2 ^ 62 ∧ tLc (fun _ H2 R => R (Itr 0 j.toNat) H2) g tt te us σ H1 Q) : tLc (iRng1 ta) g tt te us σ H Q := h
theorem k_cb {rr : List V → Hp → VK → Prop} (h : tl σ H fun vs H1 => rr vs H1 Q) : tCB rr tl σ H Q := h
theorem k_cons {Qa : List V → Hp → Prop} (h : te σ H fun v H1 => tl σ H1 fun vs H2 => Qa (v :: vs) H2) : tCons te tl σ H Qa := h
theorem k_par {i j : Nat} (h : ta σ H fun x H1 => tb σ H1 fun y H2 => ∃ v w, [x, y] = [v, w] ∧ tz D ((σ.set i (some v)).set j (some w)) H2) : tSeq (tPar i j (tCons ta (tCons tb tNil))) tz D σ H := h
end
theorem at_nat {ds : List PyData} {i : Int} (h0 : 0 ≤ i) (hj : i.toNat < ds.length) : atI ds i = some ds[i.toNat] := by
  unfold atI
  have e : ixN ds.length i = some i.toNat := by
    have h := Evl.ixN_nat hj
    rw [show ((i.toNat : Nat) : Int) = i from by omega] at h
    exact h
  rw [e]
  show ds[i.toNat]? = some _
  rw [List.getElem?_eq_getElem hj]
theorem seqIx_nat {i : Int} {n : Nat} (h0 : 0 ≤ i) (h1 : i.toNat < n) : seqIndex? i n = some i.toNat := by
  unfold seqIndex?
  have h : ¬ i < 0 := by omega
  have h2 : (decide (0 ≤ i) && decide (i < (n : Int))) = true := by
    rw [Bool.and_eq_true]
    exact ⟨decide_eq_true h0, decide_eq_true (by omega)⟩
  simp only [if_neg h]
  rw [if_pos h2]
theorem erase_perm {α : Type} : ∀ (l : List α) (i : Nat) (h : i < l.length), (l[i] :: l.eraseIdx i).Perm l
  | a :: l, 0, _ => List.Perm.refl _
  | a :: l, i + 1, h => (List.Perm.swap _ _ _).trans ((erase_perm l i (by simpa using h)).cons a)
/-- a draw -/
theorem c_draw {X : Addr → Prop} {st cl : Addr} {n : Nat} {H : Hp} {σ : L2.St} {ts tm : TE} {E : XK} {m : Int} {Q : VK} (S : Sg X st cl n H) (hv : GV ts σ H (.ref st)) (hm : G X tm σ H (.int m)) (hn : n ≤ 1000000000) (h0 : 0 < m) (h1 : m < 1000000)
    (k : ∀ i H', 0 ≤ i → i < m → Sg X st cl (n + 1) H' → KpS st cl H H' → Q (.int i) H') : tCall spDraw [] E (tCons ts (tCons tm tNil)) σ H Q :=
  hv H (Same.refl H) _ (hm H (Same.refl H) _ fun v H1 s1 r => ⟨st, cl, n, m, by rw [r.int_inv]; rfl, S.ok.same s1, hn, h0, h1, fun i H' i0 i1 kk so => k i H' i0 i1 ((S.same s1).step kk so) ((KpS.of s1).trans kk)⟩)
abbrev s__law_pick : Stmt := topS 31
abbrev n__law_pick : List Str := ["_law_stream", "_law_some"]
theorem sc__law_pick : FnScope n__law_pick ["_law_stream", "_law_some"] (defScope s__law_pick) := ⟨rfl, rfl, rfl, by decide +kernel, rfl, by decide +kernel, by decide +kernel⟩
def spPick : Sp := fun vs H Q _ => ∃ (X : Addr → Prop) (st cl : Addr) (n : Nat) (v : V) (ds : List PyData), vs = [.ref st, v] ∧ Sg X st cl n H ∧ n ≤ 1000000000 ∧ DX X H v (.list ds) ∧ 0 < ds.length ∧ ds.length < 1000000 ∧
  ∀ w d H', d ∈ ds → Sg X st cl (n + 1) H' → KpS st cl H H' → DX X H' w d → Q w H'
theorem ok_pick {f : Addr} {fd : FuncData} (F : Fun K "_law_pick" "_law_pick" s__law_pick f fd) (T : Bl mg) (O__law_draw : Own P w K mg base CX0 1 "_law_draw" ["_law_stream", "_law_many"] spDraw) : FnOk P w K mg base CX0 2 f fd ["_law_stream", "_law_some"] spPick := by
  refine F.ok sc__law_pick (fun vs H Q E h => ?_) (fun cdv A outer s H vs Q E hr h => ?_)
  · obtain ⟨X, st, cl, n, v, ds, rfl, _⟩ := h
    rfl
  · obtain ⟨X, st, cl, n, v, ds, rfl, S, hn, hd, h0, h1, k⟩ := h
    refine ⟨_, (pss_one (ps_ret (pe_ix ix_seq (pv 1) (pe_own O__law_draw hr (by decide) (by rfl) (pa_cons (pv 0) (pa_cons (pe_callB call_len (by rfl) T.b_len boot_len (pa_cons (pv 1) pa_nil)) pa_nil))) (fun _ _ => rfl)))), ?_⟩
    have En : EnvOk X H (L2.start n__law_pick [.ref st, v]) [.val (.ref st), .dat (.list ds)] := ⟨rfl, fun i s e => by
      match i, e with
      | 0, e => cases e; rfl
      | 1, e => cases e; exact ⟨_, rfl, hd⟩⟩
    refine k_ret (k_op (g_var (i := 1) En rfl H (Same.refl H) _ fun v1 H1 s1 r1 => ?_))
    refine c_draw (S.same s1) (gv_var (En.same s1) rfl) (g_len (S.t.mono s1) (g_var (En.same s1) rfl) rfl) hn (by show 0 < (ds.length : Int); omega) (by show (ds.length : Int) < 1000000; omega) fun i H' i0 i1 S2 k2 => ?_
    have i1 : i < (ds.length : Int) := i1
    have hj : i.toNat < ds.length := by omega
    refine rd_ixL (z := ds[i.toNat]) (at_nat (by omega) hj) H' v1 (.int i) S2.t (r1.mono ((S.same s1).kp k2)) (.int i) _ fun w2 H2 s2 dw => ?_
    exact k w2 _ H2 (List.getElem_mem _) (S2.same s2) (((KpS.of s1).trans k2).trans (KpS.of s2)) dw
theorem c_pick {X : Addr → Prop} {st cl : Addr} {n : Nat} {H : Hp} {σ : L2.St} {ts tm : TE} {E : XK} {ds : List PyData} {Q : VK} (S : Sg X st cl n H) (hv : GV ts σ H (.ref st)) (hm : G X tm σ H (.list ds)) (hn : n ≤ 1000000000) (h0 : 0 < ds.length) (h1 : ds.length < 1000000)
    (k : ∀ w d H', d ∈ ds → Sg X st cl (n + 1) H' → KpS st cl H H' → DX X H' w d → Q w H') : tCall spPick [] E (tCons ts (tCons tm tNil)) σ H Q :=
  hv H (Same.refl H) _ (hm H (Same.refl H) _ fun v H1 s1 r => ⟨X, st, cl, n, v, ds, rfl, S.same s1, hn, r, h0, h1, fun w d H' hd S2 kk dw => k w d H' hd S2 ((KpS.of s1).trans kk) dw⟩)
/-- some things drawn one after the other into a new list -/
theorem lc_draws {X : Addr → Prop} {st cl : Addr} {n : Nat} {H : Hp} {σ : L2.St} {Γ : List Sv} {te : TE} {i m : Nat} {Q : VK} (pr : PyData → Prop) (S : Sg X st cl n H) (En : EnvOk X H σ Γ) (hm : m ≤ 100000)
    (he : ∀ X' H1 σ2 k Q1, k < m → EnvOk X' H1 σ2 ((Γ.set i .un).set i (.dat (.int (k : Nat)))) → Sg X' st cl (n + k) H1 → (∀ w d H', pr d → Sg X' st cl (n + k + 1) H' → KpS st cl H1 H' → DX X' H' w d → Q1 w H') → te σ2 H1 Q1)
    (q : ∀ w ds H', ds.length = m → (∀ d ∈ ds, pr d) → Sg X st cl (n + m) H' → KpS st cl H H' → DX X H' w (.list ds) → Nw H w → Q w H') : tLc (fun σ H R => R (Itr 0 m) H) (gName i) tYes te [i] σ H Q := by
  intro D hD
  have m2 : More X (fun a => X a ∨ a = D) H := More.one hD
  have d1 := S.ne1 hD
  have d2 := S.ne2 hD
  obtain ⟨Gd, Y, w1, w2⟩ := walkD_range (X := X) (H := H) (lo := 0) (n := m)
  rw [rangeD_len] at w1
  have key : ∀ H3, Kp (fun a => X a ∨ a = D) H H3 ∧ Trk (fun a => X a ∨ a = D) H3 → Gd H3 := fun H3 p => (w2 _ m2.2 H3 p.1 p.2).1
  let I : Nat → Hp → Prop := fun k H3 => KpS st cl H H3 ∧ Sg (fun a => X a ∨ a = D) st cl (n + k) H3 ∧ ∃ acc ds, H3 D = some (.lst acc) ∧ DXs (fun a => X a ∨ a = D) H3 acc ds ∧ ds.length = k ∧ ∀ d ∈ ds, pr d
  have ik : ∀ {k H3}, I k H3 → Kp (fun a => X a ∨ a = D) H H3 ∧ Trk (fun a => X a ∨ a = D) H3 := fun {k H3} p => ⟨p.1.kp (.inl S.x1) (.inl S.x2), p.2.1.t⟩
  refine lc_it w1 I ?_ (fun i H3 _ p => key H3 (ik p)) ?_ ?_
  · exact ⟨KpS.of (Same.upd hD), ⟨(S.ok).same (Same.upd hD), .inl S.x1, .inl S.x2, S.t.one hD⟩, [], [], upd_same, .nil, rfl, fun d h => by cases h⟩
  · rintro k x H3 H4 hk p y
    obtain ⟨s4, d, hd, dx⟩ := (w2 _ m2.2 H3 (ik p).1 (ik p).2).2 k x H4 y
    obtain ⟨p1, p2, acc, ds, p3, p4, p5, p6⟩ := p
    rw [rangeD_get hk] at hd
    cases hd
    have S4 := p2.same s4
    have k4 : Kp (fun a => X a ∨ a = D) H H4 := (p1.kp (.inl S.x1) (.inl S.x2)).trans (Kp.of s4)
    refine tgt_name (X := X) (i := i) En _ H4 m2 k4 S4.t x dx _ fun σ2 E2 hw => ⟨hw, ?_⟩
    refine k_yes ?_
    rw [show (0 : Int) + (k : Int) = (k : Nat) from by omega] at E2
    refine he _ H4 σ2 k _ hk E2 S4 fun w d H5 hp S5 k5 dw => ?_
    refine ⟨acc, k5 D _ d1 d2 (s4 D _ p3), by rw [p4.length, p5, sizeLine_eq]; omega, ?_, ?_, acc ++ [w], ds ++ [d], upd_same, ?_, by rw [List.length_append, p5]; rfl, fun z hz => ?_⟩
    · exact fun a o n1 n2 e => by
        have := k5 a o n1 n2 (s4 a _ (p1 a o n1 n2 e))
        rw [upd_ne (ne_of_none e hD)]
        exact this
    · exact S5.put d1 d2
    · exact (((p4.mono (Kp.of s4)).mono (S4.kp k5)).snoc dw).mono (Kp.put (.inr rfl))
    · rcases List.mem_append.mp hz with h | h
      · exact p6 z h
      · rw [List.mem_singleton.mp h]
        exact hp
  · rintro H3 ⟨p1, p2, acc, ds, p3, p4, p5, p6⟩
    have nXD : ¬ X D := S.t.new hD
    exact q (.ref D) ds H3 p5 p6 ⟨p2.ok, S.x1, S.x2, fun a h => p2.t a (.inl h)⟩ p1 (.lst nXD p3 (p4.less fun a => .inl)) (Nw.of hD)
abbrev s__law_mixed : Stmt := topS 32
abbrev n__law_mixed : List Str := ["_law_stream", "_law_some", "_law_left", "_law_k"]
theorem sc__law_mixed : FnScope n__law_mixed ["_law_stream", "_law_some"] (defScope s__law_mixed) := ⟨rfl, rfl, rfl, by decide +kernel, rfl, by decide +kernel, by decide +kernel⟩
def spMixed : Sp := fun vs H Q _ => ∃ (X : Addr → Prop) (st cl : Addr) (n : Nat) (v : V) (ds : List PyData), vs = [.ref st, v] ∧ Sg X st cl n H ∧ n + ds.length ≤ 1000000000 ∧ DX X H v (.list ds) ∧ ds.length < 1000000 ∧
  ∀ w es H', es.Perm ds → Sg X st cl (n + ds.length) H' → KpS st cl H H' → DX X H' w (.list es) → Nw H w → Q w H'
theorem ok_mixed {f : Addr} {fd : FuncData} (F : Fun K "_law_mixed" "_law_mixed" s__law_mixed f fd) (T : Bl mg) (O__law_draw : Own P w K mg base CX0 1 "_law_draw" ["_law_stream", "_law_many"] spDraw) : FnOk P w K mg base CX0 2 f fd ["_law_stream", "_law_some"] spMixed := by
  refine F.ok sc__law_mixed (fun vs H Q E h => ?_) (fun cdv A outer s H vs Q E hr h => ?_)
  · obtain ⟨X, st, cl, n, v, ds, rfl, _⟩ := h
    rfl
  · obtain ⟨X, st, cl, n, v, ds, rfl, S, hn, hd, h1, k⟩ := h
    refine ⟨_, (pss_cons (ps_set (i := 2) sc__law_mixed.nd rfl (by first | exact Or.inl rfl | exact Or.inr rfl) (pe_callTy call_list_of (by rfl) T.b_list boot_list (pa_cons (pv 1) pa_nil)))
    (pss_one (ps_ret (pe_lc (own := [("_law_k", 3)]) (g := (gName 3)) (tt := tYes) (te := tBM K "list" rPopAt (tVar 2) (tCons (tCall spDraw [] E0 (tCons (tVar 0) (tCons (tCB (fun xs H Q => ∃ x n, xs = [x] ∧ LenV K x H n ∧ Q (V.int n) H) (tCons (tVar 2) tNil)) tNil))) tNil)) rfl sc__law_mixed.nd (pi_range1 (by rfl) T.b_range (pa_cons (pe_callB call_len (by rfl) T.b_len boot_len (pa_cons (pv 2) pa_nil)) pa_nil)) (blkOk_by (N := n__law_mixed) (sc := defScope s__law_mixed) (by decide +kernel)) (fun _ _ _ _ _ => (pg_name (i := 3) sc__law_mixed.nd rfl (by first | exact Or.inl rfl | exact Or.inr rfl))) (fun _ _ _ _ _ => pts_nil) (fun _ _ _ _ _ => (pe_bm PySem.F.plainAttrs_list PySem.F.slot_list_pop PySem.F.type_list_pop mt_popAt (pv 2) (pa_cons (pe_own O__law_draw hr (by decide) (by rfl) (pa_cons (pv 0) (pa_cons (pe_callB call_len (by rfl) T.b_len boot_len (pa_cons (pv 2) pa_nil)) pa_nil))) pa_nil))))))), ?_⟩
    have En : EnvOk X H (L2.start n__law_mixed [.ref st, v]) [.val (.ref st), .dat (.list ds), .un, .un] := ⟨rfl, fun i s e => by
      match i, e with
      | 0, e => cases e; rfl
      | 1, e => cases e; exact ⟨_, rfl, hd⟩
      | 2, e => cases e; trivial
      | 3, e => cases e; trivial⟩
    -- left = list(some)
    refine k_set (gn_listOf (d := .list ds) S.t (g_var (i := 1) En rfl) rfl H (Same.refl H) _ fun v1 H1 s1 d1 nw1 => ?_)
    obtain ⟨L, us, rfl, nL, eL, rL⟩ := d1.inner
    have hL : H L = none := nw1 L rfl
    have E1 := (((En.more (More.one hL)).same s1).setV (i := 2) (v := .ref L))
    have t1 : Trk (fun b => X b ∨ b = L) H1 := fun a h => h.elim (fun x => S.t.mono s1 a x) fun e => ⟨_, e ▸ eL⟩
    have S1 : Sg (fun b => X b ∨ b = L) st cl n H1 := ⟨S.ok.same s1, .inl S.x1, .inl S.x2, t1⟩
    have n1 := S.ne1 hL
    have n2 := S.ne2 hL
    -- range(len(left))
    refine k_ret ?_
    refine ⟨_, E1.get 2 _ rfl, ?_⟩
    have xl1 : us.length = ds.length := rL.length
    refine ⟨.ref L, us.length, rfl, .inl ⟨us, SqL.of eL, rfl⟩, ?_⟩
    refine ⟨_, rfl, by omega, by omega, ?_⟩
    rw [show (us.length : Int).toNat = ds.length from by omega]
    intro D hD
    have dL : D ≠ L := fun e => by rw [e, eL] at hD; cases hD
    let X1 : Addr → Prop := fun b => X b ∨ b = L
    let X2 : Addr → Prop := fun a => X1 a ∨ a = D
    have m2 : More X1 X2 H1 := More.one hD
    have d1 := S1.ne1 hD
    have d2 := S1.ne2 hD
    obtain ⟨Gd, Y, w1, w2⟩ := walkD_range (X := X1) (H := H1) (lo := 0) (n := ds.length)
    rw [rangeD_len] at w1
    let I : Nat → Hp → Prop := fun k H3 => (∀ a o, a ≠ st → a ≠ cl → a ≠ L → H1 a = some o → H3 a = some o) ∧ Sg X2 st cl (n + k) H3 ∧ ∃ acc es left xs, H3 D = some (.lst acc) ∧ DXs X2 H3 acc es ∧ H3 L = some (.lst xs) ∧ DXs X2 H3 xs left ∧ es.length = k ∧ (es ++ left).Perm ds
    have ik : ∀ {k H3}, I k H3 → Kp X2 H1 H3 ∧ Trk X2 H3 := fun {k H3} p => ⟨fun a o n e => p.1 a o (fun z => n (z ▸ .inl (.inl S.x1))) (fun z => n (z ▸ .inl (.inl S.x2))) (fun z => n (z ▸ .inl (.inr rfl))) e, p.2.1.t⟩
    refine lc_it w1 I ?_ (fun i H3 _ p => (w2 _ m2.2 H3 (ik p).1 (ik p).2).1) ?_ ?_
    · have sD : Same H1 (upd H1 D (.lst [])) := Same.upd hD
      exact ⟨fun a o _ _ _ e => sD a o e, ⟨S1.ok.same sD, .inl (.inl S.x1), .inl (.inl S.x2), t1.one hD⟩, [], [], ds, us, upd_same, .nil, sD _ _ eL, (rL.more m2).mono (Kp.of sD), rfl, List.Perm.refl _⟩
    · rintro j x H3 H4 hj p y
      obtain ⟨s4, d, hd4, dx⟩ := (w2 _ m2.2 H3 (ik p).1 (ik p).2).2 j x H4 y
      obtain ⟨p1, p2, acc, es, left, xs, p3, p4, p5, p6, p7, p8⟩ := p
      have S4 := p2.same s4
      refine tgt_name (X := X1) (i := 3) E1 _ H4 m2 ((ik ⟨p1, p2, acc, es, left, xs, p3, p4, p5, p6, p7, p8⟩).1.trans (Kp.of s4)) S4.t x dx _ fun σ2 E2 hw => ⟨hw, ?_⟩
      refine k_yes ?_
      have hL4 : H4 L = some (.lst xs) := s4 _ _ p5
      have r4 := p6.mono (Kp.of s4)
      have q4 := p4.mono (Kp.of s4)
      have lt0 : 0 < left.length := by
        have := p8.length_eq
        rw [List.length_append] at this
        omega
      have lt1 : left.length ≤ ds.length := by
        have := p8.length_eq
        rw [List.length_append] at this
        omega
      have lx : xs.length = left.length := r4.length
      refine ⟨_, E2.get 2 _ rfl, .inl ⟨rfl, _, SqL.of hL4⟩, ?_⟩
      refine k_cons (c_draw (m := (left.length : Nat)) S4 (gv_var (i := 0) E2 rfl) ?_ (by omega) (by omega) (by omega) fun i H5 i0 i1 S5 k5 => ?_)
      · intro H5 s5 Q5 q5
        refine ⟨_, E2.get 2 _ rfl, ?_⟩
        refine ⟨.ref L, xs.length, rfl, .inl ⟨xs, SqL.of (s5 _ _ hL4), rfl⟩, ?_⟩
        rw [lx]
        exact q5 _ H5 (Same.refl _) (.int _)
      · have hL5 : H5 L = some (.lst xs) := k5 L _ n1 n2 hL4
        have r5 := r4.mono (S4.kp k5)
        have q5 := q4.mono (S4.kp k5)
        have hi : i.toNat < left.length := by omega
        have hx : i.toNat < xs.length := by omega
        obtain ⟨y, hy, ry⟩ := r5.get (i := i.toNat) (d := left[i.toNat]) (List.getElem?_eq_getElem hi)
        refine ⟨L, xs, i, i.toNat, y, rfl, rfl, hL5, by omega, by omega, ?_, hy, ?_⟩
        · exact seqIx_nat i0 hx
        · have kL : Kp X2 H5 (upd H5 L (.lst (xs.eraseIdx i.toNat))) := Kp.put (.inl (.inr rfl))
          have nD : H5 D = some (.lst acc) := k5 D _ d1 d2 (s4 D _ p3)
          refine ⟨acc, by rw [upd_ne dL]; exact nD, by rw [p4.length, p7, sizeLine_eq]; omega, ?_, ?_, acc ++ [y], es ++ [left[i.toNat]], left.eraseIdx i.toNat, xs.eraseIdx i.toNat, upd_same, ?_, by rw [upd_ne (Ne.symm dL)]; exact upd_same, ?_, by rw [List.length_append, p7]; rfl, ?_⟩
          · intro a o a1 a2 a3 e
            rw [upd_ne (ne_of_none e hD), upd_ne a3]
            exact k5 a o a1 a2 (s4 a _ (p1 a o a1 a2 a3 e))
          · exact (S5.put n1 n2).put d1 d2
          · exact ((q5.snoc ry).mono kL).mono (Kp.put (.inr rfl))
          · exact ((r5.erase i.toNat).mono kL).mono (Kp.put (.inr rfl))
          · rw [List.append_assoc]
            refine List.Perm.trans (List.Perm.append_left es ?_) p8
            exact erase_perm left i.toNat hi
    · rintro H3 ⟨p1, p2, acc, es, left, xs, p3, p4, p5, p6, p7, p8⟩
      have nXD : ¬ X D := t1.new hD ∘ .inl
      have le : left = [] := by
        have := p8.length_eq
        rw [List.length_append] at this
        exact List.eq_nil_of_length_eq_zero (by omega)
      subst le
      rw [List.append_nil] at p8
      exact k (.ref D) es H3 p8 ⟨p2.ok, S.x1, S.x2, fun a h => p2.t a (.inl (.inl h))⟩ (fun a o n3 n4 e => p1 a o n3 n4 (ne_of_none e hL) (s1 a o e)) (.lst nXD p3 (p4.less fun a h => .inl (.inl h))) (fun a e => by cases e; exact s1.free hD)
end K77

namespace K77
open PySem PySem.Spec PyProof.Rows L2 KD
variable {P : Program} {w : World} {K : PySem.W.Frag} {mg : Str → Option Value} {base : Heap}
/-! ### leaves -/
def leaf : PyData → Bool
  | .none => true
  | .bool _ => true
  | .int _ => true
  | .str s => PyData.strOk s
  | _ => false
theorem canLay_leaf : ∀ {ds : List PyData}, (∀ d ∈ ds, leaf d = true) → PyData.canLayAll0 ds = true
  | [], _ => by simp [PyData.canLayAll0]
  | d :: ds, h => by
    have h1 := h d List.mem_cons_self
    have h2 := canLay_leaf fun z hz => h z (List.mem_cons_of_mem _ hz)
    cases d <;> simp_all [PyData.canLayAll0, PyData.canLay0, leaf]
theorem depth_leaf : ∀ {ds : List PyData}, (∀ d ∈ ds, leaf d = true) → PyData.depthAll ds ≤ 1
  | [], _ => by simp [PyData.depthAll]
  | d :: ds, h => by
    have h1 := h d List.mem_cons_self
    have h2 := depth_leaf fun z hz => h z (List.mem_cons_of_mem _ hz)
    cases d <;> simp_all [PyData.depthAll, PyData.depth, leaf]
theorem shaped_leaf {d : PyData} (h : leaf d = true) : SeqAt.shaped d = true := by
  cases d <;> simp_all [SeqAt.shaped, PyData.canLay0, PyData.depth, leaf]
theorem shaped_leafs {ds : List PyData} (h : ∀ d ∈ ds, leaf d = true) : SeqAt.shaped (.list ds) = true := by
  have := depth_leaf h
  have h2 : PyData.depth (.list ds) ≤ 64 := by
    simp only [PyData.depth]
    omega
  show ((PyData.list ds).canLay0 && decide ((PyData.list ds).depth ≤ 64)) = true
  rw [Bool.and_eq_true]
  exact ⟨by simp only [PyData.canLay0]; exact canLay_leaf h, decide_eq_true h2⟩
theorem noDict_leaf {d : PyData} (h : leaf d = true) : noDict d = true := by cases d <;> first | rfl | cases h
theorem noDicts_leaf : ∀ {ds : List PyData}, (∀ d ∈ ds, leaf d = true) → noDicts ds = true
  | [], _ => by simp [noDicts]
  | d :: ds, h => by
    have h1 := noDict_leaf (h d List.mem_cons_self)
    have h2 := noDicts_leaf fun z hz => h z (List.mem_cons_of_mem _ hz)
    simp [noDicts, h1, h2]
theorem rb_inD {X : Addr → Prop} {d : PyData} {ds : List PyData} (h : leaf d = true) (hs : ∀ z ∈ ds, leaf z = true) : RB X (rInD K) d (.list ds) (ds.any fun z => PyData.eqv z d) := fun H u v _ ru rv Q q => ⟨d, ds, ru.dp (noDict_leaf h), rv.dp (by show noDicts ds = true; exact noDicts_leaf hs), shaped_leaf h, shaped_leafs hs, q⟩
def letters : List Str := ["a", "b", "c", "d e", "", "a"]
def spText : Sp := fun vs H Q _ => ∃ (X : Addr → Prop) (st cl : Addr) (n m : Nat), vs = [.ref st, .int m] ∧ Sg X st cl n H ∧ n + m ≤ 1000000000 ∧ m ≤ 1000 ∧
  ∀ w ws H', ws.length = m → (∀ z ∈ ws, z ∈ letters) → Sg X st cl (n + m) H' → KpS st cl H H' → DX X H' w (wsD ws) → Nw H w → Q w H'
theorem strs_of {L : List Str} : ∀ {ds : List PyData}, (∀ d ∈ ds, d ∈ L.map PyData.str) → ∃ ws : List Str, ds = ws.map PyData.str ∧ ∀ z ∈ ws, z ∈ L
  | [], _ => ⟨[], rfl, fun z h => by cases h⟩
  | d :: ds, h => by
    obtain ⟨s, hs, rfl⟩ := List.mem_map.mp (h d List.mem_cons_self)
    obtain ⟨ws, rfl, hw⟩ := strs_of fun z hz => h z (List.mem_cons_of_mem _ hz)
    exact ⟨s :: ws, rfl, fun z hz => (List.mem_cons.mp hz).elim (fun e => e ▸ hs) (hw z)⟩
theorem env_sv {X : Addr → Prop} {H : Hp} {N : List Str} {vs : List V} {ss : List Sv} (hl : vs.length = ss.length) (hs : ∀ (i : Nat) (s : Sv), ss[i]? = some s → ∀ v, vs[i]? = some v → SvOk X H s (some (some v))) (hN : vs.length ≤ N.length) : EnvOk X H (L2.start N vs) (pad N ss) := by
  unfold pad
  rw [← hl]
  exact envOk_start hl hs hN
theorem env_s1 {X : Addr → Prop} {H : Hp} {N : List Str} {st : Addr} {v : V} {s : Sv} (h : SvOk X H s (some (some v))) (hN : 2 ≤ N.length) : EnvOk X H (L2.start N [.ref st, v]) (pad N [.val (.ref st), s]) :=
  env_sv rfl (fun i s e u e2 => by
    match i, e, e2 with
    | 0, e, e2 => cases e; cases e2; rfl
    | 1, e, e2 => cases e; cases e2; exact h) hN
theorem env_s2 {X : Addr → Prop} {H : Hp} {N : List Str} {st : Addr} {v v2 : V} {s s2 : Sv} (h : SvOk X H s (some (some v))) (h2 : SvOk X H s2 (some (some v2))) (hN : 3 ≤ N.length) : EnvOk X H (L2.start N [.ref st, v, v2]) (pad N [.val (.ref st), s, s2]) :=
  env_sv rfl (fun i s e u e2 => by
    match i, e, e2 with
    | 0, e, e2 => cases e; cases e2; rfl
    | 1, e, e2 => cases e; cases e2; exact h
    | 2, e, e2 => cases e; cases e2; exact h2) hN
theorem ga_strs {X : Addr → Prop} {σ : L2.St} {H : Hp} : ∀ L : List Str, GA X (L.foldr (fun s t => tCons (tC (.str s)) t) tNil) σ H (L.map PyData.str)
  | [] => ga_nil
  | s :: L => ga_cons g_str (ga_strs L)
end K77

/-! Whether two things are the same. -/
namespace K77
open PySem PySem.Spec PyProof.Rows L2 KD
variable {P : Program} {w : World} {K : PySem.W.Frag} {mg : Str → Option Value} {base : Heap}
theorem walk_zipT {a b : Addr} {xs ys : List V} {n : Nat} (hn : n = min xs.length ys.length) : Walk (RZ.ItzT K a b) n (fun H => SqT K H a xs ∧ SqT K H b ys) (YPair (fun i => xs[i]?) (fun i => ys[i]?)) := by
  subst hn
  refine ⟨fun i _ hi q => ?_, fun _ q => ⟨xs, ys, q.1, q.2, by omega⟩, fun i H v H' _ q y => ?_⟩
  · have h1 : i < xs.length := by omega
    have h2 : i < ys.length := by omega
    exact ⟨xs, ys, xs[i], ys[i], q.1, q.2, by simp [h1], by simp [h2]⟩
  · obtain ⟨T, x, z, h1, h2, h3, h4, h5⟩ := y
    exact ⟨T, x, z, h1, h2, h3, h4 xs q.1, h5 ys q.2⟩
theorem gi_zipT {X : Addr → Prop} {H : Hp} {σ : L2.St} {te tb : TE} {ds es : List PyData} (h : G X te σ H (.tuple ds)) (h' : G X tb σ H (.tuple es)) : GI X (RZ.iZipA K (tCons te (tCons tb tNil))) σ H (zipD ds es) := fun H1 s R r => h H1 s _ fun v H2 s2 rv => h' H2 (s.trans s2) _ fun w H3 s3 rw_ => by
  obtain ⟨a, xs, rfl, n, e, rx⟩ := (rv.mono (Kp.of s3)).tup_inv
  obtain ⟨b, ys, rfl, n2, e2, ry⟩ := rw_.tup_inv
  refine ⟨a, b, xs, ys, rfl, .inr ⟨SqT.of e, SqT.of e2, r _ H3 (s2.trans s3) ⟨_, _, walk_zipT (xs := xs) (ys := ys) (by simp [zipD, rx.length, ry.length]), fun X' m H4 k t => ?_⟩⟩⟩
  have n' : ¬ X' a := fun z => (m a z).elim n fun q => by rw [e] at q; cases q
  have n2' : ¬ X' b := fun z => (m b z).elim n2 fun q => by rw [e2] at q; cases q
  refine ⟨⟨SqT.of (k a _ n' e), SqT.of (k b _ n2' e2)⟩, fun i x H5 y => ?_⟩
  obtain ⟨T, u, w, rfl, hT, rfl, hu, hw⟩ := y
  obtain ⟨d, h1, h2⟩ := rx.getV hu
  obtain ⟨d', h3, h4⟩ := ry.getV hw
  refine ⟨Same.upd hT, .tuple [d, d'], ?_, DX.newT t (.cons ((h2.grow m).mono k) (.cons ((h4.grow m).mono k) .nil)) hT⟩
  unfold zipD
  rw [List.getElem?_zipWith, h1, h3]
theorem gi_zipL {X : Addr → Prop} {H : Hp} {σ : L2.St} {te tb : TE} {ds es : List PyData} (h : G X te σ H (.list ds)) (h' : G X tb σ H (.list es)) : GI X (RZ.iZipA K (tCons te (tCons tb tNil))) σ H (zipD ds es) := fun H1 s R r => h H1 s _ fun v H2 s2 rv => h' H2 (s.trans s2) _ fun w H3 s3 rw_ => by
  obtain ⟨a, xs, rfl, n, e, rx⟩ := (rv.mono (Kp.of s3)).lst_inv
  obtain ⟨b, ys, rfl, n2, e2, ry⟩ := rw_.lst_inv
  refine ⟨a, b, xs, ys, rfl, .inl ⟨SqL.of e, SqL.of e2, r _ H3 (s2.trans s3) ⟨_, _, walk_zip (xs := xs) (ys := ys) (by simp [zipD, rx.length, ry.length]), fun X' m H4 k t => ?_⟩⟩⟩
  have n' : ¬ X' a := fun z => (m a z).elim n fun q => by rw [e] at q; cases q
  have n2' : ¬ X' b := fun z => (m b z).elim n2 fun q => by rw [e2] at q; cases q
  refine ⟨⟨SqL.of (k a _ n' e), SqL.of (k b _ n2' e2)⟩, fun i x H5 y => ?_⟩
  obtain ⟨T, u, w, rfl, hT, rfl, hu, hw⟩ := y
  obtain ⟨d, h1, h2⟩ := rx.getV hu
  obtain ⟨d', h3, h4⟩ := ry.getV hw
  refine ⟨Same.upd hT, .tuple [d, d'], ?_, DX.newT t (.cons ((h2.grow m).mono k) (.cons ((h4.grow m).mono k) .nil)) hT⟩
  unfold zipD
  rw [List.getElem?_zipWith, h1, h3]
/-- so deep at most, leaves below -/
def sm : Nat → PyData → Prop
  | 0, d => leaf d = true
  | n + 1, .list ds => ds.length ≤ 100000 ∧ ∀ z ∈ ds, sm n z
  | n + 1, .tuple ds => ds.length ≤ 100000 ∧ ∀ z ∈ ds, sm n z
  | _ + 1, d => leaf d = true
def spSame (n : Nat) : Sp := fun vs H Q _ => ∃ (X : Addr → Prop) (v1 v2 : V) (d : PyData), vs = [v1, v2] ∧ Trk X H ∧ DX X H v1 d ∧ DX X H v2 d ∧ sm n d ∧ ∀ H', Same H H' → Q (.bl true) H'
def spPrev : Nat → Sp
  | 0 => fun _ _ _ _ => False
  | n + 1 => spSame n
theorem eqv_leaf {d : PyData} (h : leaf d = true) : PyData.eqv d d = true := by
  cases d <;> simp_all [PyData.eqv, leaf]
-- HINT _law_same never return isinstance(_law_found, dict)
-- HINT _law_same le (Nat.le_refl _)
-- HINT _law_same zip RZ.pi_zipA
abbrev s__law_same : Stmt := topS 33
abbrev n__law_same : List Str := ["_law_found", "_law_due_here", "_law_x", "_law_y"]
theorem sc__law_same : FnScope n__law_same ["_law_found", "_law_due_here"] (defScope s__law_same) := ⟨rfl, rfl, rfl, by decide +kernel, rfl, by decide +kernel, by decide +kernel⟩
theorem ok_same_body {f : Addr} {fd : FuncData} {n : Nat} (F : Fun K "_law_same" "_law_same" s__law_same f fd) (T : Bl mg) (O__law_same : Own P w K mg base CX0 (n + 1) "_law_same" ["_law_found", "_law_due_here"] (spPrev n)) : FnOk P w K mg base CX0 (n + 2) f fd ["_law_found", "_law_due_here"] (spSame n) := by
  refine F.ok sc__law_same (fun vs H Q E h => ?_) (fun cdv A outer s H vs Q E hr h => ?_)
  · obtain ⟨X, v1, v2, d, rfl, _⟩ := h
    rfl
  · obtain ⟨X, v1, v2, d, rfl, t, d1, d2, hs, k⟩ := h
    refine ⟨_, (pss_cons (ps_if (pt_val (pe_callB call_isiT (by rfl) T.b_isinstance boot_isinstance (pa_cons (pv 1) (pa_cons (pe_tup (pa_cons (pe_bltn (v := .ty "list") (by rfl) T.b_list boot_list rfl) (pa_cons (pe_bltn (v := .ty "tuple") (by rfl) T.b_tuple boot_tuple rfl) pa_nil))) pa_nil))))
    (pss_cons (ps_if (PW.pt (pw_or (pt_cmpR (op_neD hr.units) (pe_callB call_isi (by rfl) T.b_isinstance boot_isinstance (pa_cons (pv 0) (pa_cons (pe_bltn (v := .ty "list") (by rfl) T.b_list boot_list rfl) pa_nil))) (pe_callB call_isi (by rfl) T.b_isinstance boot_isinstance (pa_cons (pv 1) (pa_cons (pe_bltn (v := .ty "list") (by rfl) T.b_list boot_list rfl) pa_nil))) (nomark _)) (pw_or1 (pt_cmpR (op_neD hr.units) (pe_callB call_isi (by rfl) T.b_isinstance boot_isinstance (pa_cons (pv 0) (pa_cons (pe_bltn (v := .ty "tuple") (by rfl) T.b_tuple boot_tuple rfl) pa_nil))) (pe_callB call_isi (by rfl) T.b_isinstance boot_isinstance (pa_cons (pv 1) (pa_cons (pe_bltn (v := .ty "tuple") (by rfl) T.b_tuple boot_tuple rfl) pa_nil))) (nomark _)))))
    (pss_one (ps_ret pe_bl)) pss_nil)
    (pss_one (ps_ret (pe_and (pe_cmpR (op_eqD hr.units) (pe_callB call_len (by rfl) T.b_len boot_len (pa_cons (pv 0) pa_nil)) (pe_callB call_len (by rfl) T.b_len boot_len (pa_cons (pv 1) pa_nil)) (nomark _)) (pe_one (pe_callB (cr_all rfl) (by rfl) T.b_all boot_all (pa_cons (pe_lc (own := [("_law_x", 2), ("_law_y", 3)]) (g := (gTup K 2 (gCons (gName 2) (gCons (gName 3) gNil)))) (tt := tYes) rfl sc__law_same.nd (RZ.pi_zipA (by rfl) T.b_zip (pa_cons (pv 0) (pa_cons (pv 1) pa_nil))) (blkOk_by (N := n__law_same) (sc := defScope s__law_same) (by decide +kernel)) (fun _ _ _ _ _ => (pg_tup (n := 2) rfl (pgs_cons (pg_name (i := 2) sc__law_same.nd rfl (by first | exact Or.inl rfl | exact Or.inr rfl)) (pgs_cons (pg_name (i := 3) sc__law_same.nd rfl (by first | exact Or.inl rfl | exact Or.inr rfl)) pgs_nil)))) (fun _ _ _ _ _ => pts_nil) (fun _ _ _ _ _ => (pe_own O__law_same hr (Nat.le_refl _) (by rfl) (pa_cons (pv 2) (pa_cons (pv 3) pa_nil))))) pa_nil))))))) pss_nil)
    (pss_cons (ps_if (pt_val (pe_callB call_isi (by rfl) T.b_isinstance boot_isinstance (pa_cons (pv 1) (pa_cons (pe_bltn (v := .ty "dict") (by rfl) T.b_dict boot_dict rfl) pa_nil))))
    (pss_one ps_never) pss_nil)
    (pss_cons (ps_if (pt_val (pe_callB call_isi (by rfl) T.b_isinstance boot_isinstance (pa_cons (pv 1) (pa_cons (pe_bltn (v := .ty "int") (by rfl) T.b_int boot_int rfl) pa_nil))))
    (pss_one (ps_ret (pe_and (pe_callB call_isi (by rfl) T.b_isinstance boot_isinstance (pa_cons (pv 0) (pa_cons (pe_bltn (v := .ty "int") (by rfl) T.b_int boot_int rfl) pa_nil))) (pe_and (pe_cmpR (op_eqD hr.units) (pe_callB call_isi (by rfl) T.b_isinstance boot_isinstance (pa_cons (pv 0) (pa_cons (pe_bltn (v := .ty "bool") (by rfl) T.b_bool boot_bool rfl) pa_nil))) (pe_callB call_isi (by rfl) T.b_isinstance boot_isinstance (pa_cons (pv 1) (pa_cons (pe_bltn (v := .ty "bool") (by rfl) T.b_bool boot_bool rfl) pa_nil))) (nomark _)) (pe_one (pe_cmpR (op_eqD hr.units) (pv 0) (pv 1) (nomark _))))))) pss_nil)
    (pss_one (ps_ret (pe_and (pe_not (pe_callB call_isiT (by rfl) T.b_isinstance boot_isinstance (pa_cons (pv 0) (pa_cons (pe_tup (pa_cons (pe_bltn (v := .ty "int") (by rfl) T.b_int boot_int rfl) (pa_cons (pe_bltn (v := .ty "list") (by rfl) T.b_list boot_list rfl) (pa_cons (pe_bltn (v := .ty "tuple") (by rfl) T.b_tuple boot_tuple rfl) (pa_cons (pe_bltn (v := .ty "dict") (by rfl) T.b_dict boot_dict rfl) pa_nil))))) pa_nil)))) (pe_one (pe_cmpR (op_eqD hr.units) (pv 0) (pv 1) (nomark _))))))))), ?_⟩
    have En : EnvOk X H (L2.start n__law_same [v1, v2]) (pad n__law_same [.dat d, .dat d]) := env2 d1 d2 (by decide)
    have b1 : PyData.eqv (.bool true) (.bool true) = true := by simp [PyData.eqv]
    have eqb : ∀ b : Bool, PyData.eqv (.bool b) (.bool b) = true := fun b => by simp [PyData.eqv]
    have shb : ∀ b : Bool, SeqAt.shaped (.bool b) = true := fun b => shaped_leaf rfl
    have ndb : ∀ b : Bool, noDict (.bool b) = true := fun b => by simp [noDict]
    refine q_if (gt_B (g_isSeq (g_var (i := 1) En rfl))) (fun hb H1 s1 => ?_) (fun hb H1 s1 => ?_)
    · -- a list or a tuple
      have E1 := En.same s1
      have t1 := t.mono s1
      refine q_if (b := false) (gt_is (gt_or (b := !PyData.eqv (.bool (isa_tuple d)) (.bool (isa_tuple d))) (gt_neD t1 (g_isList (g_var (i := 0) E1 rfl)) (g_isList (g_var (i := 1) E1 rfl)) (ndb _) (ndb _) (shb _) (shb _)) fun _ => gt_neD t1 (g_isTuple (g_var (i := 0) E1 rfl)) (g_isTuple (g_var (i := 1) E1 rfl)) (ndb _) (ndb _) (shb _) (shb _)) (by rw [eqb, eqb]; rfl)) (fun h => by cases h) fun _ H2 s2 => ?_
      have E2 := E1.same s2
      have t2 := t1.mono s2
      have hln : ∀ i : Int, PyData.eqv (.int i) (.int i) = true := fun i => by rw [eqv_int]; simp
      have core : ∀ (m : Nat) (te : TE) (wi : TI) (ds : List PyData), ds.length ≤ 100000 → (∀ z ∈ ds, sm m z) → GI X wi (L2.start n__law_same [v1, v2]) H2 (zipD ds ds) → te = tCall (spSame m) [] E0 (tCons (tVar 2) (tCons (tVar 3) tNil)) → G X (tCB (rAll K) (tCons (tLc wi (gTup K 2 (gCons (gName 2) (gCons (gName 3) gNil))) tYes te [2, 3]) tNil)) (L2.start n__law_same [v1, v2]) H2 (.bool true) := fun m te wi ds hl hz hi hte => by
        subst hte
        have hzip : ∀ p ∈ zipD ds ds, ∃ z ∈ ds, p = .tuple [z, z] := fun p hp => by
          obtain ⟨i, hi, he⟩ := List.mem_iff_getElem.mp hp
          unfold zipD at he hi
          rw [List.length_zipWith] at hi
          rw [List.getElem_zipWith] at he
          exact ⟨_, List.getElem_mem (by omega), he.symm⟩
        refine g_is (g_cb (ds := [.list (((zipD ds ds).map fun _ => true).map PyData.bool)]) t2 (ga_cons (g_is (g_lc1 (ds := zipD ds ds) (Γ2 := fun p => ((((pad n__law_same [.dat d, .dat d]).set 3 .un).set 2 .un).set 2 (.dat (it p 0))).set 3 (.dat (it p 1))) (fun _ => .bool true) t2 hi (by unfold zipD; rw [List.length_zipWith]; omega) (fun H3 s3 p hp => ?_) (fun X' H3 σ2 p hp t3 E3 => ?_)) (by rw [List.map_map]; rfl)) ga_nil) rf_all) (by rw [List.all_map]; simp)
        · obtain ⟨z, hzm, rfl⟩ := hzip p hp
          exact tgt_pair (E2.same s3) (by decide)
        · obtain ⟨z, hzm, rfl⟩ := hzip p hp
          intro H4 s4 Q4 q4
          refine g_var (i := 2) E3 rfl H4 s4 _ fun u H5 s5 r5 => g_var (i := 3) (E3.same (s4.trans s5)) rfl H5 (Same.refl _) _ fun u2 H6 s6 r6 => ?_
          exact ⟨X', u, u2, z, rfl, t3.mono ((s4.trans s5).trans s6), r5.mono (Kp.of s6), r6, hz z hzm, fun H7 s7 => q4 _ H7 ((s5.trans s6).trans s7) (.bl true)⟩
      cases n with
      | zero => cases d with
        | list ds => exact absurd hs (by simp [sm, leaf])
        | tuple ds => exact absurd hs (by simp [sm, leaf])
        | _ => cases hb
      | succ m =>
        cases d with
        | list ds =>
          obtain ⟨hl, hz⟩ := hs
          exact s_ret (X := X) (d := .bool true) (g_is (g_and (b := true) (g_eqD t2 (g_len t2 (g_var (i := 0) E2 rfl) rfl) (g_len t2 (g_var (i := 1) E2 rfl) rfl) rfl rfl (shaped_int _) (shaped_int _)) fun _ => core m _ _ ds hl hz (gi_zipL (g_var (i := 0) E2 rfl) (g_var (i := 1) E2 rfl)) rfl) (by rw [hln]; rfl)) fun w H' s' dw => by rw [dw.bl_inv]; exact k H' ((s1.trans s2).trans s')
        | tuple ds =>
          obtain ⟨hl, hz⟩ := hs
          exact s_ret (X := X) (d := .bool true) (g_is (g_and (b := true) (g_eqD t2 (g_len t2 (g_var (i := 0) E2 rfl) rfl) (g_len t2 (g_var (i := 1) E2 rfl) rfl) rfl rfl (shaped_int _) (shaped_int _)) fun _ => core m _ _ ds hl hz (gi_zipT (g_var (i := 0) E2 rfl) (g_var (i := 1) E2 rfl)) rfl) (by rw [hln]; rfl)) fun w H' s' dw => by rw [dw.bl_inv]; exact k H' ((s1.trans s2).trans s')
        | _ => cases hb
    · -- a leaf
      have hlf : leaf d = true := by
        cases n with
        | zero => exact hs
        | succ m => cases d <;> first | exact hs | cases hb
      have E1 := En.same s1
      have t1 := t.mono s1
      refine q_if (b := false) (gt_is (gt_B (g_isDict (g_var (i := 1) E1 rfl))) (by cases d <;> first | rfl | cases hlf)) (fun h => by cases h) fun _ H2 s2 => ?_
      have E2 := E1.same s2
      have t2 := t1.mono s2
      refine q_if (gt_B (g_isInt (g_var (i := 1) E2 rfl))) (fun hi H3 s3 => ?_) (fun hi H3 s3 => ?_)
      · have E3 := E2.same s3
        have t3 := t2.mono s3
        refine s_ret (X := X) (d := .bool true) (g_is (g_and (b := PyData.eqv (.bool (isa_bool d)) (.bool (isa_bool d)) && PyData.eqv d d) (g_isInt (g_var (i := 0) E3 rfl)) fun _ => g_and (g_eqD t3 (g_isBool (g_var (i := 0) E3 rfl)) (g_isBool (g_var (i := 1) E3 rfl)) (ndb _) (ndb _) (shb _) (shb _)) fun _ => g_eqD t3 (g_var (i := 0) E3 rfl) (g_var (i := 1) E3 rfl) (noDict_leaf hlf) (noDict_leaf hlf) (shaped_leaf hlf) (shaped_leaf hlf)) (by rw [hi, eqb, eqv_leaf hlf]; rfl)) fun w H' s' dw => by rw [dw.bl_inv]; exact k H' (((s1.trans s2).trans s3).trans s')
      · have E3 := E2.same s3
        have t3 := t2.mono s3
        refine s_ret (X := X) (d := .bool true) (g_is (g_and (b := PyData.eqv d d) (g_not (g_isiT (ns := ["int", "list", "tuple", "dict"]) (g_var (i := 0) E3 rfl) rfl (by decide) ?_)) fun _ => g_eqD t3 (g_var (i := 0) E3 rfl) (g_var (i := 1) E3 rfl) (noDict_leaf hlf) (noDict_leaf hlf) (shaped_leaf hlf) (shaped_leaf hlf)) ?_) fun w H' s' dw => by rw [dw.bl_inv]; exact k H' (((s1.trans s2).trans s3).trans s')
        · intro n hn
          simp at hn
          rcases hn with rfl | rfl | rfl | rfl
          · exact ksm_int d
          · exact ksm_list d
          · exact ksm_tuple d
          · exact ksm_dict d
        · have e : isDs ["int", "list", "tuple", "dict"] d = false := by
            unfold isDs
            rw [List.any_cons, List.any_cons, List.any_cons, List.any_cons, List.any_nil, isD_int, isD_list, isD_tuple, isD_dict, hi]
            cases d <;> first | rfl | cases hlf
          rw [e, eqv_leaf hlf]
          rfl
theorem ok_same {f : Addr} {fd : FuncData} (F : Fun K "_law_same" "_law_same" s__law_same f fd) (T : Bl mg) (h1 : mg "_law_same" = some (.ref f)) (h2 : PySem.W.keepIn K (.ref f) = true) (h3 : Binds K fd ["_law_found", "_law_due_here"] []) : ∀ n : Nat, FnOk P w K mg base CX0 (n + 2) f fd ["_law_found", "_law_due_here"] (spSame n)
  | 0 => ok_same_body F T ⟨f, fd, h1, h2, h3, F.ok (k := 0) sc__law_same (fun _ _ _ _ h => h.elim) (fun _ _ _ _ _ _ _ _ _ h => h.elim)⟩
  | n + 1 => ok_same_body F T ⟨f, fd, h1, h2, h3, ok_same F T h1 h2 h3 n⟩
end K77

/-! Lists of one's own. -/
namespace K77
open PySem PySem.Spec PyProof.Rows L2 KD
variable {P : Program} {w : World} {K : PySem.W.Frag} {mg : Str → Option Value} {base : Heap}
/-! ### a list of one's own that is made longer -/
section
variable {X : Addr → Prop} {σ : L2.St} {H : Hp} {te : TE} {Γ : List Sv} {D : Ends} {tz : TS} {L : Addr} {xs : List V} {ds es : List PyData} {d : PyData} {i : Nat}
/-- all but L stays -/
def KpL (L : Addr) (H H' : Hp) : Prop := ∀ a o, a ≠ L → H a = some o → H' a = some o
theorem KpL.of (s : Same H H') : KpL L H H' := fun a o _ e => s a o e
theorem KpL.trans {H H1 H2 : Hp} (h : KpL L H H1) (k : KpL L H1 H2) : KpL L H H2 := fun a o n e => k a o n (h a o n e)
theorem KpL.put {o : HO} : KpL L H (upd H L o) := fun a u n e => by rw [upd_ne n]; exact e
theorem q_extend (En : EnvOk X H σ Γ) (hi : Γ[i]? = some (.val (.ref L))) (x : X L) (t : Trk X H) (hL : H L = some (.lst xs)) (hx : DXs X H xs ds) (h : G X te σ H (.list es)) (hl : ds.length + es.length ≤ 1000000)
    (k : ∀ H2 ys, H2 L = some (.lst ys) → DXs X H2 ys (ds ++ es) → EnvOk X H2 σ Γ → Trk X H2 → KpL L H H2 → tz D σ H2) : tSeq (tDrop (tBM K "list" rExtend (tVar i) (tCons te tNil))) tz D σ H := by
  refine ⟨.ref L, En.get i _ hi, .inl ⟨rfl, _, SqL.of hL⟩, ?_⟩
  refine h H (Same.refl H) _ fun v H1 s1 dv => ?_
  obtain ⟨b, zs, rfl, nb, hb, hz⟩ := dv.lst_inv
  have hL1 := s1 _ _ hL
  have e1 : xs.length = ds.length := hx.length
  have e2 : zs.length = es.length := hz.length
  refine ⟨L, b, xs, zs, rfl, rfl, hL1, hb, by rw [sizeLine_eq]; omega, ?_⟩
  have kp : Kp X H1 (upd H1 L (.lst (xs ++ zs))) := Kp.put x
  exact k _ _ upd_same (((hx.mono (Kp.of s1)).append hz).mono kp) ((En.same s1).mono kp) ((t.mono s1).put) ((KpL.of s1).trans KpL.put)
theorem q_append (En : EnvOk X H σ Γ) (hi : Γ[i]? = some (.val (.ref L))) (x : X L) (t : Trk X H) (hL : H L = some (.lst xs)) (hx : DXs X H xs ds) (h : G X te σ H d) (hl : ds.length < 1000000)
    (k : ∀ H2 ys, H2 L = some (.lst ys) → DXs X H2 ys (ds ++ [d]) → EnvOk X H2 σ Γ → Trk X H2 → KpL L H H2 → tz D σ H2) : tSeq (tDrop (tBM K "list" rAppend (tVar i) (tCons te tNil))) tz D σ H := by
  refine ⟨.ref L, En.get i _ hi, .inl ⟨rfl, _, SqL.of hL⟩, ?_⟩
  refine h H (Same.refl H) _ fun v H1 s1 dv => ?_
  have hL1 := s1 _ _ hL
  have e1 : xs.length = ds.length := hx.length
  refine ⟨L, xs, v, rfl, rfl, hL1, by rw [sizeLine_eq]; omega, ?_⟩
  have kp : Kp X H1 (upd H1 L (.lst (xs ++ [v]))) := Kp.put x
  exact k _ _ upd_same (((hx.mono (Kp.of s1)).snoc dv).mono kp) ((En.same s1).mono kp) ((t.mono s1).put) ((KpL.of s1).trans KpL.put)
/-- a new list becomes one's own -/
theorem k_own (En : EnvOk X H σ Γ) (t : Trk X H) (h : GN X te σ H (.list ds)) (k : ∀ L H1 xs, H L = none → Same H H1 → H1 L = some (.lst xs) → DXs (fun b => X b ∨ b = L) H1 xs ds → EnvOk (fun b => X b ∨ b = L) H1 (σ.set i (some (.ref L))) (Γ.set i (.val (.ref L))) → Trk (fun b => X b ∨ b = L) H1 → tz D (σ.set i (some (.ref L))) H1) :
    tSeq (tAsg te (gName i)) tz D σ H := by
  refine k_set (h H (Same.refl H) _ fun v H1 s1 dv nw => ?_)
  obtain ⟨L, xs, rfl, nL, hL, hx⟩ := dv.inner
  have h0 := nw L rfl
  exact k L H1 xs h0 s1 hL hx (((En.more (More.one h0)).same s1).setV) (fun a e => e.elim (fun z => t.mono s1 a z) fun z => ⟨_, z ▸ hL⟩)

theorem g_dict (t : Trk X H) : G X tDNewK σ H (.dict []) := fun H1 s Q q => fun p hp => q _ _ (Same.upd hp) (.dic ((t.mono s).new hp) upd_same .nil)
theorem _root_.KD.EnvOk.less {X' : Addr → Prop} (m : ∀ a, X a → X' a) (E : EnvOk X' H σ Γ) : EnvOk X H σ Γ := ⟨E.len, fun i s e => by
  have h := E.get i s e
  cases s with
  | dat d =>
    obtain ⟨v, e1, r⟩ := h
    exact ⟨v, e1, r.less m⟩
  | val v => exact h
  | un => trivial⟩
/-- one's own list is a datum again -/
theorem _root_.KD.EnvOk.give (En : EnvOk (fun b => X b ∨ b = L) H σ Γ) (hi : Γ[i]? = some (.val (.ref L))) (n : ¬ X L) (hL : H L = some (.lst xs)) (hx : DXs (fun b => X b ∨ b = L) H xs ds) : EnvOk X H σ (Γ.set i (.dat (.list ds))) := by
  have E2 : EnvOk X H σ Γ := En.less fun _ => .inl
  refine ⟨by rw [List.length_set]; exact E2.len, fun j s e => ?_⟩
  by_cases hj : i = j
  · subst hj
    have hl : i < Γ.length := (List.getElem?_eq_some_iff.mp hi).1
    rw [List.getElem?_set_self hl] at e
    cases e
    exact ⟨.ref L, En.get i _ hi, .lst n hL (hx.less fun _ => .inl)⟩
  · rw [List.getElem?_set_ne hj] at e
    exact E2.get j s e
end
end K77

/-! len(set(xs)), xs a list of unlike texts. -/
namespace KD
open PySem PySem.Spec PyProof.Rows L2
section
variable {P : Program} {w : World} {A : Around} {I S : Addr} {fp wr : List Addr} {G : Array GenState → Array GenState → Prop} {n : Nat} {Pv : Nat → Value → Prop} {St : Nat → Shared → Prop} {R : Result → Shared → Prop}
/-- the loop of set(..) over unlike texts -/
theorem loopU (W : WalksS P w A.in1 I fp wr G n Pv St) (nS : S ∉ fp) {xs : List Str} (nd : xs.Nodup) (ln : xs.length = n) (few : n + 1 < scanBound) (hv : ∀ i v, Pv i v → ∃ t, v = .str (xs.getD i Str.empty) t) :
    ∀ (m i : Nat) (s : Shared), i + m = n → St i s → s.heap.SetOf (PySem.strKind P w) S (fun z => decide (z ∈ xs.take i)) i → (∀ s', Moved (S :: wr) G s s' → s'.heap.SetOf (PySem.strKind P w) S (fun z => decide (z ∈ xs.take n)) n → R (.ok (.ret .none)) s') →
      codeAny (model P w) A (.builtin "set.update.loop" ⟨[.ref S, .ref I], []⟩) R s := by
  have nW : S ∉ wr := fun q => nS (W.sub _ q)
  have up : ∀ b ∈ wr, b ∈ S :: wr := fun b q => .tail _ q
  have kept : ∀ {s s' : Shared} {f : Str → Bool} {c : Nat}, Moved wr G s s' → s.heap.SetOf (PySem.strKind P w) S f c → s'.heap.SetOf (PySem.strKind P w) S f c := fun {s s' f c} mv so => by
    obtain ⟨o, es, ep, t, e1, e2⟩ := so
    exact ⟨o, es, ep, t, mv.heap S _ nW e1, e2⟩
  intro m
  induction m with
  | zero =>
    intro i s hi st so k
    have ei : i = n := by omega
    subst ei
    refine codeAny_builtin PyProof.Rows.F.entry_set_update_loop (?_ : wpAny _ (A.under _) _ _ _ s)
    rw [Around.under_plainId PyProof.Rows.F.plain_set_update_loop]
    exact wpAny_bind (W.done s _ _ st fun s' mv => wpAny_pure (k s' (mv.mono up) (kept mv so)))
  | succ m ih =>
    intro i s hi st so k
    have lt : i < n := by omega
    refine codeAny_builtin PyProof.Rows.F.entry_set_update_loop (?_ : wpAny _ (A.under _) _ _ _ s)
    rw [Around.under_plainId PyProof.Rows.F.plain_set_update_loop]
    refine wpAny_bind (W.item i s _ _ lt st fun v s1 pv st1 mv => ?_)
    obtain ⟨t, rfl⟩ := hv i v pv
    have li : i < xs.length := ln ▸ lt
    have ex : xs.getD i Str.empty = xs[i] := by simp [List.getD_eq_getElem?_getD, List.getElem?_eq_getElem li]
    rw [ex]
    have so1 := kept mv so
    have new : xs[i] ∉ xs.take i := fun q => by
      obtain ⟨j, hj, e⟩ := List.mem_iff_getElem.mp q
      rw [List.length_take] at hj
      rw [List.getElem_take] at e
      have lt2 : j < i := by omega
      exact (List.pairwise_iff_getElem.mp nd j i (by omega) li lt2) e
    show wpAny _ A.in1 (holding [Value.str xs[i] t] (setAdd S (.str xs[i] t)) >>= fun _ => _) _ _ s1
    refine wpAny_bind (wpAny_holding ((?_ : wpAny _ _ (holding _ _) _ _ _)))
    refine wpAny_holding (wpAny_bind ((PySem.strKind P w).pyHash (strKind_is _ _ _ _) ?_))
    refine wpAny_setAddHashed_of (k := xs[i]) (knd := PySem.strKind P w) (s := { s1 with toks := s1.toks + 1 }) (strKind_is _ _ _ _) rfl so1 (by omega) fun h' same so2 => ?_
    have so3 : h'.SetOf (PySem.strKind P w) S (fun z => decide (z ∈ xs.take (i + 1))) (i + 1) := by
      refine PyProof.Rows.SetOf_congr so2 (fun z => ?_) (by rw [if_neg (by simpa using new)])
      rw [List.take_succ, List.getElem?_eq_getElem li, ← Bool.decide_or]
      exact decide_eq_decide.mpr (by rw [List.mem_append]; simp)
    have oth : ∀ b o, b ≠ S → s1.heap.get? b = some o → h'.get? b = some o := fun b o q e => by rw [same.2 b q]; exact e
    refine wpAny_pure ⟨plainId_quiet PyProof.Rows.F.plain_set_update_loop _, ih (i + 1) _ (by omega) (W.frame _ s1 _ _ st1 (Nat.le_succ _) fun b q o e => oth b o (fun z => nS (z ▸ q)) e) so3 fun s2 mv2 so4 => k s2 ?_ so4⟩
    exact Moved.trans W.gtrans ((mv.mono up).then_heap (Nat.le_succ _) fun b o q e => oth b o (fun z => q (z ▸ List.mem_cons_self)) e) mv2
end
section
variable {P : Program} {w : World} {A : Around} {E : Value → Shared → Prop} {s : Shared} {l : Addr} {its : Array Value} {xs : List Str} {Q : Value → Shared → Prop}
/-- set(l), l a list of unlike texts -/
theorem call_setU (hh : A.handled = none) (hl : s.heap.IsList l its) (hx : StrsAre its.toList xs) (nd : xs.Nodup) (few : xs.length + 1 < scanBound)
    (k : ∀ (h' : Heap) (tk : Nat), h'.SetOf (PySem.strKind P w) s.heap.objs.size (fun z => decide (z ∈ xs)) xs.length → (∀ b o, s.heap.get? b = some o → h'.get? b = some o) → Q (.ref s.heap.objs.size) { s with heap := h', toks := tk }) :
    wpAny (model P w) A (call (.type "set") [.ref l]) Q E s := by
  have T := PySem.F.called_set
  obtain ⟨c, tl, e0⟩ := T.mro
  have e1 := T.made
  have e2 := T.sub
  have e3 := T.notType
  have e4 := T.canCreate
  have e5 := PySem.F.typeCall_set_1 (.ref l)
  refine wpAny_call (codeAny_of_tree ((?_ : wpAny _ _ (callAny (.type "set") _) _ _ _)))
  refine wpAny_pure ⟨Code.quiet_builtin _ (by decide +kernel), codeAny_builtin PySem.F.entry_type_call ?_⟩
  rw [Around.under_plain (weight_type_call_type "set" [.ref l] []) rfl]
  repeat (any_goals (first | assumption | wp_step))
  generalize hN : s.heap.objs.size = N at *
  let e : Bool → Heap := fun led => s.heap.push { cls := .type "set", dict := none, data := .set #[] 0 (.fresh 0 0 led) }
  refine codeAny_mono (code_set_new_1 (.ref l) (E := E) (Q₁ := fun v t => ∃ led : Bool, v = .ref N ∧ t = { s with heap := e led }) fun led => ⟨led, by rw [hN], rfl⟩) fun r t hr => ?_
  match r, hr with
  | .error _, hr => exact hr
  | .ok .next, hr => exact hr.elim
  | .ok .brk, hr => exact hr.elim
  | .ok .cont, hr => exact hr.elim
  | .ok (.ret v), hr =>
    obtain ⟨led, rfl, rfl⟩ := hr
    have g0 : (e led).get? N = some { cls := .type "set", dict := none, data := .set #[] 0 (.fresh 0 0 led) } := by rw [← hN]; exact Heap.get?_push_size _ rfl
    have ty : Shared.TypeIs { s with heap := e led } (.ref N) "set" := ⟨_, g0, rfl⟩
    have e6 := T.init.lookup
    have e7 := T.init.bind (.ref N)
    repeat (any_goals (first | assumption | wp_step))
    refine codeAny_mono (codeAny_call_builtin (R := wants (fun r t => r = .none ∧ ∃ h' tk, t = { s with heap := h', toks := tk } ∧ h'.SetOf (PySem.strKind P w) N (fun z => decide (z ∈ xs)) xs.length ∧ ∀ b o, s.heap.get? b = some o → h'.get? b = some o) E) T.init.plain PySem.F.entry_set_init (check_set_init_1 ty ?_)) fun r t hr => ?_
    rotate_left
    · match r, hr with
      | .error _, hr => exact hr
      | .ok .next, hr => exact hr.elim
      | .ok .brk, hr => exact hr.elim
      | .ok .cont, hr => exact hr.elim
      | .ok (.ret v), hr =>
        obtain ⟨rfl, h', tk, rfl, q1, q2⟩ := hr
        repeat (any_goals (first | assumption | wp_step))
        exact k h' tk q1 q2
    · have hl1 : (e led).IsList l its := hl.push _
      obtain ⟨o, ho, hc, nl, hd⟩ := hl1
      have c1 := PySem.F.sub_list_set
      have c2 := PySem.F.sub_list_frozenset
      have c3 : (Value.type "list" == Value.type "dict") = false := by decide
      have hl2 : (e led).IsList l its := ⟨o, ho, hc, nl, hd⟩
      obtain ⟨cl, dc, dt, sl⟩ := o
      simp only at hc hd
      subst hc
      subst hd
      unfold Builtin.«set.__init__» noKeywords Builtin.Frozenset.updateFrom
      generalize hI : pyIter = it
      wp_walk
      subst hI
      refine wpAny_pyIter_list hl2 (wpAny_bind (wpAny_runValue ?_))
      have sz : (e led).objs.size = N + 1 := by rw [← hN]; exact Heap.size_push _ _
      have lN : l < N := by
        obtain ⟨o2, ho2, _⟩ := hl
        rw [← hN]
        exact Heap.lt_size ho2
      have ln : xs.length = its.size := by rw [← StrsAre.len_eq hx, Array.length_toList]
      have hh3 : A.in1.in1.in1.handled = none := hh
      refine loopU ((Walks.list hh3 (e led).objs.size l (by rw [sz]; exact Nat.ne_of_lt (Nat.lt_succ_of_lt lN)) its).toS) (S := N) (fun q => by
        rw [sz] at q
        rcases List.mem_cons.mp q with q | q
        · exact absurd q (Nat.ne_of_lt (Nat.lt_succ_self _))
        · exact absurd (List.mem_singleton.mp q) (Nat.ne_of_gt lN)) nd ln (by omega) (fun i v q => SS.strs_at hx i v (by rw [Array.getElem?_toList]; exact q)) its.size 0 _ (by omega) ⟨⟨_, Heap.get?_push_size _ rfl, rfl, rfl⟩, hl2.push _⟩ ?_ fun t mv so => ?_
      · have g1 : ((e led).push { cls := .type "list_iterator", data := .fields #[.ref l, .int 0 0] }).get? N = some { cls := .type "set", dict := none, data := .set #[] 0 (.fresh 0 0 led) } := Heap.get?_push_of_some _ g0
        exact PyProof.Rows.SetOf_congr ((PyProof.Rows.setObjOf_fresh (knd := PySem.strKind P w) led).setOf g1 (by unfold scanBound; omega)) (fun z => by simp) rfl
      · obtain ⟨h', gs, dr, tk, os⟩ := t
        have m1 : gs = s.gens := mv.gens
        have m2 : dr = s.drawn := mv.drawn
        have m3 : os = s.os := mv.os
        subst m1
        subst m2
        subst m3
        refine wpAny_pure (wpAny_pure ⟨rfl, h', tk, rfl, ?_, fun b o q => ?_⟩)
        · rw [← ln, List.take_length] at so
          exact so
        · have hb : b < N := by rw [← hN]; exact Heap.lt_size q
          exact mv.heap b o (fun z => by
            rw [sz] at z
            rcases List.mem_cons.mp z with z | z
            · exact absurd z (Nat.ne_of_lt hb)
            · exact absurd (List.mem_singleton.mp z) (Nat.ne_of_lt (Nat.lt_succ_of_lt hb))) (Heap.get?_push_of_some _ (Heap.get?_push_of_some _ q))
end
end KD

namespace KD
open PySem PySem.Spec PyProof.Rows L2
/-- how many unlike texts a list has -/
def tUnlike (K : PySem.W.Frag) (ta : TE) : TE := fun σ H Q => ta σ H fun x H1 => ∃ (l : Addr) (xs : List Str), x = .ref l ∧ SqL K H1 l (xs.map V.str) ∧ xs.Nodup ∧ xs.length ≤ 1000 ∧ Q (.int xs.length) H1
section
variable {X : Cx} {a : Expr} {ta : TE} {p p2 q pos : Pos}
theorem pe_unlike (hc : X.calm = true) (g1 : Gl X "len") (m1 : X.mg "len" = none) (g2 : Gl X "set") (m2 : X.mg "set" = none) (ha : PE X a ta)
    (na : starEach [a] X.env = (false, eval a X.env) :: starEach [] X.env := by rfl) : PE X (.Call (.Name "len" p) [.Call (.Name "set" p2) [a] [] q] [] pos) (tUnlike X.K ta) := by
  refine ⟨fun pins s σ H Q I h => Call_ (ld_blt I g1 m1 boot_len (PyProof.Rows.callWith_builtin1 (PyProof.Rows.args_cons (Call_ (ld_blt I g2 m2 boot_set ?_)) rfl) rfl rfl))⟩
  refine PyProof.Rows.callWith_type1 (PyProof.Rows.args_cons (thn (ha.run pins s σ H _ I h) fun v t w => PyProof.Rows.args_nil ?_) na) na rfl
  obtain ⟨x, H1, I1, r1, l, xs, rfl, hq, nd, few, q1⟩ := w
  cases r1
  obtain ⟨its, r, pl, _⟩ := I1.list hq
  refine call_setU (I1.ok.hd hc) pl.isList (by simpa using strsAre_of r) nd (by unfold scanBound; omega) fun h' tk so kp => PyProof.Rows.args_nil ?_
  obtain ⟨o, es, ep, tb, e1, e2, e3, _, _, _, e7, e8⟩ := so
  have I2 : Inv X pins σ H1 { t with heap := h', toks := tk } := I1.kept kp
  exact call_len_set e1 e2 e3 e7 (by rw [e8] <;> omega) ⟨.int xs.length, H1, I2.tok _, ⟨_, by rw [e8]⟩, q1⟩
end
section
variable {X : Addr → Prop} {H : Hp} {σ : L2.St} {te : TE} {K : PySem.W.Frag} {ns : List Str}
theorem g_unlike (h : G X te σ H (.list (ns.map PyData.str))) (nd : ns.Nodup) (few : ns.length ≤ 1000) : G X (tUnlike K te) σ H (.int (ns.length : Nat)) := fun H1 s Q q =>
  h H1 s _ fun v H2 s2 rv => by
    obtain ⟨a, xs, rfl, _, e, rx⟩ := rv.lst_inv
    exact ⟨a, ns, rfl, SqL.of (by rw [← rx.strs]; exact e), nd, few, q _ H2 s2 (.int _)⟩
end
end KD

/-! enumerate of a tuple, and of what is a list or a tuple. -/
namespace KD
open PySem PySem.Spec PyProof.Rows L2
open AutoSeq1 (wpAny_loadPart')
theorem newT (l : Addr) (its : Array Value) (n : Nat) (dc : Option Addr) (sl : Array (Option Value)) : Meets (Builtin.«enumerate.__new__» ⟨[.type "enumerate", .ref l], []⟩) (fun _ R s =>
    s.heap.get? l = some ⟨.type "tuple", dc, .seq its n, sl⟩ ∧ R (.ok (.ret (.ref (s.heap.push ⟨.type "tuple_iterator", none, .fields #[.ref l, .int 0 0], #[]⟩).objs.size))) { s with heap := (s.heap.push ⟨.type "tuple_iterator", none, .fields #[.ref l, .int 0 0], #[]⟩).push ⟨.type "enumerate", none, .fields #[.none, .bool false, .ref s.heap.objs.size, rawInt 0, .none, .none], #[]⟩ }) :=
  .of_wp fun prog w A R s q => by
    obtain ⟨hp, g, d, tk, os⟩ := s
    obtain ⟨e, q⟩ := q
    have hs := sub_enumerate
    have T : Heap.IsTuple (Shared.heap ⟨hp, g, d, tk, os⟩) l its := ⟨_, e, rfl, n, rfl⟩
    wp_walk using wpAny_loadPart' e
    refine wpAny_stack_any fun st => wpAny_pure ?_
    split
    · rename_i c _ _ _ _ _
      cases c == Value.type "enumerate" <;> (wp_walk using wpAny_loadPart' e, wpAny_pyIter_tuple T; exact ⟨_, rfl, q⟩)
    · wp_walk using wpAny_loadPart' e, wpAny_pyIter_tuple T
      exact ⟨_, rfl, q⟩
section
variable {P : Program} {w : World} {A : Around} {E : Value → Shared → Prop} {s : Shared} {l : Addr} {its : Array Value} {Q : Value → Shared → Prop}
theorem call_enumT (T : s.heap.IsTuple l its) (k : ∀ h', IsEnum h' (s.heap.objs.size + 1) s.heap.objs.size 0 .none → h'.IsTupleIter s.heap.objs.size l 0 → (∀ b o, s.heap.get? b = some o → h'.get? b = some o) → Q (.ref (s.heap.objs.size + 1)) { s with heap := h' }) :
    wpAny (model P w) A (call (.type "enumerate") [.ref l]) Q E s := by
  obtain ⟨⟨c, dc, dt, sl⟩, e, hc, n, hd⟩ := T
  simp only at hc hd
  subst hc
  subst hd
  refine callType_new F.called_enumerate (by decide) (F.typeCall_enumerate_1 _) (F.newCall_enumerate_1 _) (fun v => F.args_object_init_2 v _) F.entry_enumerate_new (newT l its n dc sl) ⟨e, (?_ : _ ∧ _)⟩
  have sz : (s.heap.push ⟨.type "tuple_iterator", none, .fields #[.ref l, .int 0 0], #[]⟩).objs.size = s.heap.objs.size + 1 := Heap.size_push ..
  rw [sz]
  have en := Heap.get?_push_size (s.heap.push ⟨.type "tuple_iterator", none, .fields #[.ref l, .int 0 0], #[]⟩) (o := ⟨.type "enumerate", none, .fields #[.none, .bool false, .ref s.heap.objs.size, rawInt 0, .none, .none], #[]⟩) rfl
  rw [sz] at en
  exact ⟨⟨_, en, rfl⟩, k _ en ⟨_, Heap.get?_push_of_some _ (Heap.get?_push_size _ rfl), rfl, rfl⟩ fun b o q => Heap.get?_push_of_some _ (Heap.get?_push_of_some _ q)⟩
end
/-- the tuple at a, each item in a new pair with its place -/
def ItEt (K : PySem.W.Frag) (a : Addr) (n : Nat) : It where
  go := fun i H => ∃ (xs : List V) (x : V), SqT K H a xs ∧ xs.length = n ∧ xs[i]? = some x
  yld := fun i H v H' => ∃ (T : Addr) (x : V), v = .ref T ∧ H T = none ∧ H' = upd H T (.tup [.int (i : Nat), x]) ∧ ∀ xs, SqT K H a xs → xs[i]? = some x
  stop := fun i H => ∃ xs : List V, SqT K H a xs ∧ xs.length = n ∧ xs.length ≤ i
theorem turn_enumT {P : Program} {w : World} {K : PySem.W.Frag} {elts : List Expr} {kk : Nat} {tpos : Pos} (a e it : Addr) (n : Nat) :
    Turn P w K (.Tuple elts kk tpos) (ItEt K a n) [e, it] e (fun i h => (∃ old, IsEnum h e it ((i : Nat) : Int) old) ∧ h.IsTupleIter it a i ∧ e ≠ it ∧ a ≠ it ∧ i ≤ n) where
  mem := List.mem_cons_self
  obj := fun i h st b hb => by
    obtain ⟨⟨old, he⟩, ⟨o, ho, hc, hd⟩, _⟩ := st
    rcases List.mem_cons.mp hb with z | z
    · subst z
      exact ⟨_, he, fun v q => nomatch q⟩
    · rw [List.mem_singleton.mp z]
      exact ⟨o, ho, fun v q => by rw [hd] at q; cases q⟩
  keep := fun i h h' st k => by
    obtain ⟨⟨old, he⟩, hi, h2, h3⟩ := st
    exact ⟨⟨old, k e List.mem_cons_self _ he⟩, hi.at fun o q => k it (.tail _ List.mem_cons_self) o q, h2, h3⟩
  item := by
    intro X hP hw hK hc i pins s σ H E I hf st hg
    subst hP hw hK
    obtain ⟨⟨old, he⟩, hit, hne, hne2, hle⟩ := st
    obtain ⟨xs, x, hq, hn, hx⟩ := hg
    obtain ⟨its, rv, p, hz⟩ := I.tuple hq
    obtain ⟨u, hu, ru⟩ := rv.get hx
    have hel : e < s.heap.objs.size := Heap.lt_size he
    have hil : it < s.heap.objs.size := by
      obtain ⟨_, q, _⟩ := hit
      exact Heap.lt_size q
    have nea : e ∉ [it, a] := fun q => by
      rcases List.mem_cons.mp q with q | q
      · exact hne q
      · obtain ⟨o, e1, e2, _⟩ := p
        rw [← List.mem_singleton.mp q, he] at e1
        cases e1
        exact absurd (show Value.type "enumerate" = Value.type "tuple" from e2) (by decide)
    have hlt : i < its.toArray.size := by
      rw [List.size_toArray]
      exact (List.getElem?_eq_some_iff.mp hu).1
    have D : Draws X.prog X.w X.A.in1 it [it, a] its.toArray.size _ _ := Draws.tuple (A := X.A.in1) (I.ok.hd hc) it a hne2 its.toArray
    refine wpAny_pyNext_enum_itemD D he ⟨hit, p⟩ hlt hne nea fun y h1 tk hy ho st1 hT hsz hk => ?_
    have ey : y = u := by
      rw [List.getElem?_toArray, hu] at hy
      exact (Option.some.inj hy).symm
    subst ey
    refine ⟨_, rfl, wpAny_letOwnedTupleGo_enum (s := { s with heap := h1, toks := tk + 1 }) ho fun h2 he' sb => ?_⟩
    have hT2 : h2.get? s.heap.objs.size = some { cls := .type "tuple", data := .seq #[.int i tk, y] } := (sb.2 _ (Nat.ne_of_gt hel)).trans hT
    have new : ObjOk X.prog X.w (upd H s.heap.objs.size (.tup [.int (i : Nat), x])) h2 s.heap.objs.size (.tup [.int (i : Nat), x]) := ⟨by show 2 ≤ sizeLine; decide, [.int i tk, y], .cons ⟨_, rfl⟩ (.cons ru .nil), ⟨_, hT2, rfl, _, rfl⟩⟩
    have no : ∀ b, b ∉ [e, it] → b ≠ e ∧ b ≠ it := fun b q => ⟨fun z => q (z ▸ List.mem_cons_self), fun z => q (z ▸ .tail _ List.mem_cons_self)⟩
    have I1 := I.turnedNew (t' := tk + 1) (ch := [e, it]) (fun b ob hb q => (sb.2 b (no b hb).1).trans (hk b ob (no b hb).1 (no b hb).2 q)) hf (Nat.le_refl _) new
    refine ⟨.ref s.heap.objs.size, _, I1, rfl, ⟨_, x, rfl, I.hok.fresh (Nat.le_refl _), rfl, fun ys hy => by rw [I.tuple_inj hy hq]; exact hx⟩, ⟨⟨y, ?_⟩, st1.1.at fun o q => (sb.2 it (Ne.symm hne)).trans q, hne, hne2, by
      have := (List.getElem?_eq_some_iff.mp hx).1
      omega⟩, fun b hb => ?_⟩
    · rw [show ((i + 1 : Nat) : Int) = (i : Int) + 1 by omega]
      exact he'
    · have lt : b < s.heap.objs.size := by
        rcases List.mem_cons.mp hb with z | z
        · rw [z]
          exact hel
        · rw [List.mem_singleton.mp z]
          exact hil
      rw [upd_ne (Nat.ne_of_lt lt)]
      exact (hf b hb).1
  done := by
    intro X hP hw hK hc i pins s σ H E I hf st hg
    subst hP hw hK
    obtain ⟨⟨old, he⟩, hit, hne, hne2, hle⟩ := st
    obtain ⟨xs, hq, hn, hx⟩ := hg
    obtain ⟨its, rv, p, hz⟩ := I.tuple hq
    obtain ⟨f0, f1, f2, f3, f4, f5⟩ := hf it (.tail _ List.mem_cons_self)
    have hl := rv.length
    have nea : e ∉ [it, a] := fun q => by
      rcases List.mem_cons.mp q with q | q
      · exact hne q
      · obtain ⟨o, e1, e2, _⟩ := p
        rw [← List.mem_singleton.mp q, he] at e1
        cases e1
        exact absurd (show Value.type "enumerate" = Value.type "tuple" from e2) (by decide)
    have ei : i = its.toArray.size := by
      rw [List.size_toArray]
      omega
    have D : Draws X.prog X.w X.A.in1 it [it, a] its.toArray.size _ _ := Draws.tuple (A := X.A.in1) (I.ok.hd hc) it a hne2 its.toArray
    exact wpAny_pyNext_enum_endD D he (ei ▸ ⟨hit, p⟩) fun h' eb => ⟨rfl, I.turned (t' := s.toks) (fun b o hb q => eb b o hb q) f0 f1 f3 f4 f5⟩
  self := fun A i s Q E st h => let ⟨⟨_, he⟩, _⟩ := st; wpAny_pyIter_enum he h
/-- a list or a tuple, each item with its place -/
def iEnumQ (K : PySem.W.Frag) (ta : TA) : TI := fun σ H R => ta σ H fun vs H1 => ∃ (a : Addr) (xs : List V), vs = [.ref a] ∧ ((SqL K H1 a xs ∧ R (Ite K a) H1) ∨ (SqT K H1 a xs ∧ R (ItEt K a xs.length) H1))
theorem pi_enumQ {X : Cx} {e : Expr} {ta : TA} {p pos tpos : Pos} {elts : List Expr} {kk : Nat} (hg : Gl X "enumerate") (hm : X.mg "enumerate" = none) (ha : PA X [e] ta) (hs : starEach [e] X.env = [(false, eval e X.env)] := by rfl) :
    PI X (.Tuple elts kk tpos) (.Call (.Name "enumerate" p) [e] [] pos) (iEnumQ X.K ta) := by
  refine ⟨fun pins s σ H R I h => Call_ (ld_blt I hg hm boot_enumerate (PyProof.Rows.callWith_type1 (thn (ha.run pos pins s σ H _ I h) fun us s1 w => ?_) hs rfl))⟩
  obtain ⟨vs, H1, I1, r1, a, xs, rfl, q⟩ := w
  cases r1 with
  | cons r rr =>
    cases rr
    cases r
    have fresh : ∀ b, b ∈ [s1.heap.objs.size + 1, s1.heap.objs.size] → s1.heap.objs.size ≤ b := fun b hb => by
      rcases List.mem_cons.mp hb with z | z
      · rw [z]
        exact Nat.le_succ _
      · rw [List.mem_singleton.mp z]
        exact Nat.le_refl _
    rcases q with ⟨hq, q⟩ | ⟨hq, q⟩
    · obtain ⟨its, rv, p', _⟩ := I1.list hq
      refine call_enumerate_list p'.isList fun h' he hit hz hk => wpAny_pyIter_enum he ?_
      exact ⟨_, [s1.heap.objs.size + 1, s1.heap.objs.size], _, _, H1, rfl, I1.kept (t' := s1.toks) hk, turn_enum a _ _, ⟨⟨.none, he⟩, hit, Nat.succ_ne_self _⟩, fun b hb => I1.fpOk (fresh b hb) (I1.hok.fresh (fresh b hb)), q⟩
    · obtain ⟨its, rv, p', _⟩ := I1.tuple hq
      have na : a ≠ s1.heap.objs.size := by
        obtain ⟨o, e1, _⟩ := p'
        exact Nat.ne_of_lt (Heap.lt_size e1)
      refine call_enumT p' fun h' he hit hk => wpAny_pyIter_enum he ?_
      exact ⟨_, [s1.heap.objs.size + 1, s1.heap.objs.size], _, _, H1, rfl, I1.kept (t' := s1.toks) hk, turn_enumT a _ _ xs.length, ⟨⟨.none, he⟩, hit, Nat.succ_ne_self _, na, Nat.zero_le _⟩, fun b hb => I1.fpOk (fresh b hb) (I1.hok.fresh (fresh b hb)), q⟩
section
variable {K : PySem.W.Frag} {a : Addr} {xs : List V}
theorem walk_enumT : Walk (ItEt K a xs.length) xs.length (fun H => SqT K H a xs) (YPair (fun i => some (.int (i : Nat))) (fun i => xs[i]?)) := by
  refine ⟨fun i _ hi q => ⟨xs, xs[i], q, rfl, by simp [hi]⟩, fun _ q => ⟨xs, q, rfl, Nat.le_refl _⟩, fun i H v H' _ q y => ?_⟩
  obtain ⟨T, x, h1, h2, h3, h4⟩ := y
  exact ⟨T, .int (i : Nat), x, h1, h2, h3, rfl, h4 xs q⟩
end
section
variable {X : Addr → Prop} {H : Hp} {σ : L2.St} {te : TE} {K : PySem.W.Frag} {d : PyData}
theorem gi_enumQ (h : G X te σ H d) (hs : isSeq d = true) : GI X (iEnumQ K (tCons te tNil)) σ H (enumD (itemsD d)) := by
  cases d with
  | list ds =>
    exact fun H1 s R r => h H1 s _ fun v H2 s2 rv => by
      obtain ⟨a, xs, rfl, n, e, rx⟩ := rv.lst_inv
      refine ⟨a, xs, rfl, .inl ⟨SqL.of e, r _ H2 s2 ⟨_, _, by rw [enumD_len, show (itemsD (PyData.list ds)).length = ds.length from rfl, ← rx.length]; exact walk_enum, fun X' m H3 k t => ?_⟩⟩⟩
      have n' : ¬ X' a := fun z => (m a z).elim n fun q => by rw [e] at q; cases q
      refine ⟨SqL.of (k a _ n' e), fun i x H4 y => ?_⟩
      obtain ⟨T, u, w, rfl, hT, rfl, hu, hw⟩ := y
      cases hu
      obtain ⟨d, h1, h2⟩ := rx.getV hw
      exact ⟨Same.upd hT, _, enumD_get h1, DX.newT t (.cons (.int _) (.cons ((h2.grow m).mono k) .nil)) hT⟩
  | tuple ds =>
    exact fun H1 s R r => h H1 s _ fun v H2 s2 rv => by
      obtain ⟨a, xs, rfl, n, e, rx⟩ := rv.tup_inv
      refine ⟨a, xs, rfl, .inr ⟨SqT.of e, r _ H2 s2 ⟨_, _, by rw [enumD_len, show (itemsD (PyData.tuple ds)).length = ds.length from rfl, ← rx.length]; exact walk_enumT, fun X' m H3 k t => ?_⟩⟩⟩
      have n' : ¬ X' a := fun z => (m a z).elim n fun q => by rw [e] at q; cases q
      refine ⟨SqT.of (k a _ n' e), fun i x H4 y => ?_⟩
      obtain ⟨T, u, w, rfl, hT, rfl, hu, hw⟩ := y
      cases hu
      obtain ⟨d, h1, h2⟩ := rx.getV hw
      exact ⟨Same.upd hT, _, enumD_get h1, DX.newT t (.cons (.int _) (.cons ((h2.grow m).mono k) .nil)) hT⟩
  | _ => cases hs
end
end KD

/-! Numbers as rows of bits. -/
namespace KB
open PySem
def mk : List Bool → Int
  | [] => 0
  | b :: r => (if b then 1 else 0) + 2 * mk r
theorem mk_half (b : Bool) (r : List Bool) : mk (b :: r) / 2 = mk r := by
  rw [mk]
  cases b <;> simp <;> omega
theorem mk_low (b : Bool) (r : List Bool) : mk (b :: r) % 2 = 1 ↔ b = true := by
  rw [mk]
  cases b <;> simp <;> omega
theorem not_half (b : Bool) (r : List Bool) : Builtin.bitNot (mk (b :: r)) / 2 = Builtin.bitNot (mk r) := by
  unfold Builtin.bitNot
  show (-((if b then 1 else 0) + 2 * mk r) - 1) / 2 = _
  cases b <;> simp <;> omega
theorem not_low (b : Bool) (r : List Bool) : Builtin.bitNot (mk (b :: r)) % 2 = 1 ↔ b = false := by
  unfold Builtin.bitNot
  show (-((if b then 1 else 0) + 2 * mk r) - 1) % 2 = 1 ↔ _
  cases b <;> simp <;> omega
theorem mk_nonneg : ∀ r : List Bool, 0 ≤ mk r
  | [] => by simp [mk]
  | b :: r => by
    have := mk_nonneg r
    rw [mk]
    cases b <;> simp <;> omega
theorem mk_lt : ∀ r : List Bool, mk r < 2 ^ r.length
  | [] => by simp [mk]
  | b :: r => by
    have := mk_lt r
    rw [mk, List.length_cons, Int.pow_succ]
    cases b <;> simp <;> omega
theorem and_mk : ∀ xs ys : List Bool, xs.length = ys.length → Builtin.bitAnd (mk xs) (mk ys) = mk (List.zipWith (fun a b => a && b) xs ys)
  | [], [], _ => by decide
  | a :: xs, b :: ys, h => by
    rw [PySem.W.kbt_halves, mk_half, mk_half, and_mk xs ys (by simpa using h), List.zipWith_cons_cons]
    simp only [mk_low]
    rw [mk]
    cases a <;> cases b <;> simp <;> omega
theorem andn_mk : ∀ xs ys : List Bool, xs.length = ys.length → Builtin.bitAnd (mk xs) (Builtin.bitNot (mk ys)) = mk (List.zipWith (fun a b => a && !b) xs ys)
  | [], [], _ => by decide
  | a :: xs, b :: ys, h => by
    rw [PySem.W.kbt_halves, mk_half, not_half, andn_mk xs ys (by simpa using h), List.zipWith_cons_cons]
    simp only [mk_low, not_low]
    rw [mk]
    cases a <;> cases b <;> simp <;> omega
theorem nor_mk : ∀ xs ys : List Bool, xs.length = ys.length → Builtin.bitAnd (Builtin.bitNot (mk xs)) (Builtin.bitNot (mk ys)) = Builtin.bitNot (mk (List.zipWith (fun a b => a || b) xs ys))
  | [], [], _ => by decide
  | a :: xs, b :: ys, h => by
    rw [PySem.W.kbt_halves, not_half, not_half, nor_mk xs ys (by simpa using h), List.zipWith_cons_cons]
    simp only [not_low]
    unfold Builtin.bitNot
    rw [mk]
    cases a <;> cases b <;> simp <;> omega
theorem not_not (x : Int) : Builtin.bitNot (Builtin.bitNot x) = x := by
  unfold Builtin.bitNot
  omega
theorem or_mk {xs ys : List Bool} (h : xs.length = ys.length) : Builtin.bitOr (mk xs) (mk ys) = mk (List.zipWith (fun a b => a || b) xs ys) := by
  unfold Builtin.bitOr
  rw [nor_mk xs ys h, not_not]
theorem and_zero (x : Int) : Builtin.bitAnd x 0 = 0 := by
  unfold Builtin.bitAnd
  by_cases h : 0 ≤ x <;> simp [h]
theorem or_zero (xs : List Bool) : Builtin.bitOr (mk xs) 0 = mk xs := by
  have h : mk (List.replicate xs.length false) = 0 := by
    generalize xs.length = n
    induction n with
    | zero => rfl
    | succ n ih => rw [List.replicate_succ, mk, ih]; rfl
  rw [← h, or_mk (by simp)]
  congr 1
  apply List.ext_getElem (by simp)
  intro i h1 h2
  simp
theorem shr_mk : ∀ (bs : List Bool) (j : Nat), mk bs / 2 ^ j = mk (bs.drop j)
  | bs, 0 => by simp
  | [], j + 1 => by simp [mk]
  | b :: r, j + 1 => by
    rw [Int.pow_succ, Int.mul_comm, ← Int.ediv_ediv_of_nonneg (by omega), mk_half, shr_mk r j]
    rfl
theorem and_one (b : Bool) (r : List Bool) : Builtin.bitAnd (mk (b :: r)) 1 = if b then 1 else 0 := by
  rw [PySem.W.kbt_halves, show (1 : Int) / 2 = 0 by decide, and_zero]
  have h : (1 : Int) % 2 = 1 := by decide
  simp only [mk_low, h, and_true]
  cases b <;> simp
theorem bit_mk {bs : List Bool} {j : Nat} (h : j < bs.length) : Builtin.bitAnd (mk bs / 2 ^ j) 1 = if bs[j] then 1 else 0 := by
  rw [shr_mk, List.drop_eq_getElem_cons h, and_one]
theorem start_mk : ∀ n : Nat, (2 : Int) ^ n - 1 = mk (List.replicate n true)
  | 0 => by decide
  | n + 1 => by
    have := start_mk n
    rw [List.replicate_succ, mk, ← this, Int.pow_succ]
    simp
    omega
/-- the sum of the powers told -/
theorem sum_mk : ∀ (bs : List Bool) (k : Nat), (((bs.zipIdx k).filter fun p => p.1).map fun p => (2 : Int) ^ p.2).sum = 2 ^ k * mk bs
  | [], k => by simp [mk]
  | b :: r, k => by
    have ih := sum_mk r (k + 1)
    rw [List.zipIdx_cons, mk]
    cases b
    · rw [List.filter_cons_of_neg (by simp), ih, Int.pow_succ]
      simp [Int.mul_assoc]
    · rw [List.filter_cons_of_pos (by simp), List.map_cons, List.sum_cons, ih, Int.pow_succ]
      simp [Int.mul_add, Int.mul_assoc]
end KB

/-! Names, lists of names. -/
namespace K77
open PySem PySem.Spec PyProof.Rows L2 KD
variable {P : Program} {w : World} {K : PySem.W.Frag} {mg : Str → Option Value} {base : Heap}
def SIGNS_S : Str := "abcdefghijklmnopqrstuvwxyz0123456789"
/-! ### texts, sign by sign -/
section
variable {X : Addr → Prop} {σ : L2.St} {H : Hp} {ta tb tc te : TE} {x y z : PyData} {r r' : R2} {a b : Bool}
theorem g_chain (t : Trk X H) (ha : G X ta σ H x) (hb : G X tb σ H y) (hc : a = true → G X tc σ H z) (h1 : RB X r x y a) (h2 : RB X r' y z b) : G X (tChain r r' ta tb tc) σ H (.bool (a && b)) := fun H1 s Q q =>
  ha H1 s _ fun u H2 s2 ru => hb H2 (s.trans s2) _ fun v H3 s3 rv => by
    have t3 := ((t.mono s).mono s2).mono s3
    refine h1 H3 u v t3 (ru.mono (Kp.of s3)) rv _ ⟨a, rfl, ?_⟩
    cases a with
    | false => exact q _ H3 (s2.trans s3) (.bl _)
    | true =>
      refine hc rfl H3 ((s.trans s2).trans s3) _ fun w' H4 s4 rw' => ?_
      exact h2 H4 v w' (t3.mono s4) (rv.mono (Kp.of s4)) rw' _ (q _ H4 ((s2.trans s3).trans s4) (.bl _))
theorem rb_leS {i j : Str} : RB X (fun x y H Q => ∃ i j, x = V.str i ∧ y = V.str j ∧ Q (V.bl (!decide (j.cps.toList < i.cps.toList))) H) (.str i) (.str j) (!decide (j.cps.toList < i.cps.toList)) := fun H u v _ ru rv Q q => ⟨i, j, ru.str_inv, rv.str_inv, q⟩
theorem rb_inS {c : Nat} {z : Str} : RB X rInS (.str ⟨#[c]⟩) (.str z) (decide (c ∈ z.cps.toList)) := fun H u v _ ru rv Q q => ⟨c, z, ru.str_inv, rv.str_inv, q⟩
theorem g_ixS {z : Str} {i : Int} {c : Nat} (ha : G X ta σ H (.str z)) (hb : G X tb σ H (.int i)) (hl : z.length ≤ 1000000) (h : atI z.cps.toList i = some c) : G X (tOp rIxS ta tb) σ H (.str ⟨#[c]⟩) := fun H1 s Q q =>
  ha H1 s _ fun u H2 s2 ru => hb H2 (s.trans s2) _ fun v H3 s3 rv => ⟨z, i, c, ru.str_inv, rv.int_inv, by rw [sizeLine_eq]; omega, h, q _ H3 (s2.trans s3) (.str _)⟩
theorem gi_str {z : Str} (h : G X te σ H (.str z)) : GI X (iStr te) σ H (z.cps.toList.map fun c => .str ⟨#[c]⟩) := fun H1 s R rr => h H1 s _ fun v H2 s2 rv =>
  ⟨z, rv.str_inv, rr _ H2 s2 ⟨_, _, by rw [List.length_map, Array.length_toList]; exact walk_str, fun X' m H3 k t => ⟨trivial, fun i x H4 yy => by
    obtain ⟨rfl, c, hc, rfl⟩ := yy
    exact ⟨Same.refl _, .str ⟨#[c]⟩, by rw [List.getElem?_map, Array.getElem?_toList, hc]; rfl, .str _⟩⟩⟩⟩
theorem g_all {bs : List Bool} (t : Trk X H) (h : G X te σ H (.list (bs.map PyData.bool))) : G X (tCB (rAll K) (tCons te tNil)) σ H (.bool (bs.all id)) := g_cb t (ga_cons h ga_nil) rf_all
end
theorem envUn' {X : Addr → Prop} {H : Hp} {σ : L2.St} {Γ : List Sv} (E : EnvOk X H σ Γ) (i : Nat) : EnvOk X H σ (Γ.set i .un) := ⟨by rw [List.length_set]; exact E.len, fun j s e => by
  rw [List.getElem?_set] at e
  split at e
  · split at e
    · cases e
      trivial
    · cases e
  · exact E.get j s e⟩
abbrev s_is_truth : Stmt := topS 11
abbrev n_is_truth : List Str := ["thing"]
theorem sc_is_truth : FnScope n_is_truth ["thing"] (defScope s_is_truth) := ⟨rfl, rfl, rfl, by decide +kernel, rfl, by decide +kernel, by decide +kernel⟩
theorem ok_is_truth {f : Addr} {fd : FuncData} (F : Fun K "is_truth" "is_truth" s_is_truth f fd) (T : Bl mg) : FnOk P w K mg base CX0 1 f fd ["thing"] (sp1 (fun _ => True) fun d => .bool (isa_bool d)) := by
  refine ok1 F sc_is_truth (by decide) fun cdv A outer s H E X d Q hr t _ q => ⟨_, (pss_one (ps_ret (pe_callB call_isi (by rfl) T.b_isinstance boot_isinstance (pa_cons (pv 0) (pa_cons (pe_bltn (v := .ty "bool") (by rfl) T.b_bool boot_bool rfl) pa_nil))))), fun σ En => ?_⟩
  exact s_ret (g_isBool (g_var En rfl)) q
abbrev s_is_pair : Stmt := topS 12
abbrev n_is_pair : List Str := ["thing"]
theorem sc_is_pair : FnScope n_is_pair ["thing"] (defScope s_is_pair) := ⟨rfl, rfl, rfl, by decide +kernel, rfl, by decide +kernel, by decide +kernel⟩
theorem ok_is_pair {f : Addr} {fd : FuncData} (F : Fun K "is_pair" "is_pair" s_is_pair f fd) (T : Bl mg) (O_is_list : Own P w K mg base CX0 1 "is_list" ["thing"] (sp1 (fun _ => True) fun d => .bool (isSeq d))) : FnOk P w K mg base CX0 2 f fd ["thing"] (sp1 (fun _ => True) fun d => .bool (isSeq d && decide (lenD d = 2))) := by
  refine ok1 F sc_is_pair (by decide) fun cdv A outer s H E X d Q hr t _ q => ⟨_, (pss_one (ps_ret (pe_and (pe_own O_is_list hr (by decide) (by rfl) (pa_cons (pv 0) pa_nil)) (pe_one (pe_cmpR (op_eqD hr.units) (pe_callB call_len (by rfl) T.b_len boot_len (pa_cons (pv 0) pa_nil)) pe_int (nomark _)))))), fun σ En => ?_⟩
  refine s_ret (g_and (g_call1 t (g_var En rfl) trivial) fun hb => g_is (g_eqD t (g_len t (g_var (i := 0) En rfl) (hasLen_seq hb)) g_int rfl rfl (shaped_int _) (shaped_int _)) (by rw [eqv_int]; congr 1; exact decide_eq_decide.mpr (by omega))) q
-- HINT is_name ix ix_str
-- HINT is_name it pi_str
-- HINT is_name in op_inS
def sNames : List Str := ["a", "b", "c1", "d", "zed", "m9", "k", "stranger"]
theorem names_ok : ∀ s ∈ sNames, (decide ((1 : Int) ≤ (s.length : Int)) && decide ((s.length : Int) ≤ 12)) = true ∧ s.length ≤ 1000000 ∧ (∃ c, atI s.cps.toList 0 = some c ∧ (!decide ((⟨#[c]⟩ : Str).cps.toList < ("a" : Str).cps.toList)) = true ∧ (!decide (("z" : Str).cps.toList < (⟨#[c]⟩ : Str).cps.toList)) = true) ∧ (s.cps.toList.map fun c => decide (c ∈ SIGNS_S.cps.toList)).all id = true := by
  intro s hs
  simp only [sNames, List.mem_cons, List.not_mem_nil, or_false] at hs
  rcases hs with rfl | rfl | rfl | rfl | rfl | rfl | rfl | rfl
  all_goals exact ⟨by decide +kernel, by decide +kernel, ⟨_, rfl, by decide +kernel, by decide +kernel⟩, by decide +kernel⟩
abbrev s_is_name : Stmt := topS 13
abbrev n_is_name : List Str := ["thing", "sign"]
theorem sc_is_name : FnScope n_is_name ["thing"] (defScope s_is_name) := ⟨rfl, rfl, rfl, by decide +kernel, rfl, by decide +kernel, by decide +kernel⟩
theorem ok_is_name {f : Addr} {fd : FuncData} {tS : Tok} (F : Fun K "is_name" "is_name" s_is_name f fd) (T : Bl mg) (g_SIGNS : mg "SIGNS" = some (.str SIGNS_S tS)) : FnOk P w K mg base CX0 1 f fd ["thing"] (sp1 (fun d => ∃ s ∈ sNames, d = .str s) fun _ => .bool true) := by
  refine ok1 F sc_is_name (by decide) fun cdv A outer s H E X d Q hr t hp q => ⟨_, (pss_cons (ps_if (PW.pt (pw_or (pt_not (pt_val (pe_callB call_isi (by rfl) T.b_isinstance boot_isinstance (pa_cons (pv 0) (pa_cons (pe_bltn (v := .ty "str") (by rfl) T.b_str boot_str rfl) pa_nil))))) (pw_or1 (pt_not (pt_chain op_le op_le pe_int (pe_callB call_len (by rfl) T.b_len boot_len (pa_cons (pv 0) pa_nil)) pe_int)))))
    (pss_one (ps_ret pe_bl)) pss_nil)
    (pss_one (ps_ret (pe_and (pe_chain op_le_str op_le_str pe_str (pe_ix ix_str (pv 0) pe_int (fun _ _ => rfl)) pe_str) (pe_one (pe_callB (cr_all rfl) (by rfl) T.b_all boot_all (pa_cons (pe_lc (own := [("sign", 1)]) (g := (gName 1)) (tt := tYes) rfl sc_is_name.nd (pi_str (pv 0)) (blkOk_by (N := n_is_name) (sc := defScope s_is_name) (by decide +kernel)) (fun _ _ _ _ _ => (pg_name (i := 1) sc_is_name.nd rfl (by first | exact Or.inl rfl | exact Or.inr rfl))) (fun _ _ _ _ _ => pts_nil) (fun _ _ _ _ _ => (pe_cmpR op_inS (pv 1) (pe_glob (v := .str SIGNS_S) (by rfl) g_SIGNS ⟨_, rfl⟩) (by rfl)))) pa_nil))))))), fun σ En => ?_⟩
  obtain ⟨z, hz, rfl⟩ := hp
  obtain ⟨n1, n2, ⟨c, n3, n4, n5⟩, n6⟩ := names_ok z hz
  refine q_if (b := false) (gt_is (gt_or (gt_not (gt_B (g_isStr (g_var (i := 0) En rfl)))) fun _ => gt_not (gt_test (g_is (g_chain t g_int (g_len t (g_var (i := 0) En rfl) (by simpa [hasLen] using n2)) (fun _ => g_int) rb_I0 rb_I0) (by
    show PyData.bool (decide ((1 : Int) ≤ (z.length : Int)) && decide ((z.length : Int) ≤ 12)) = _
    rw [n1])))) rfl) (fun h => by cases h) fun _ H1 s1 => ?_
  have E1 := En.same s1
  have t1 := t.mono s1
  refine s_ret (X := X) (d := .bool true) (g_is (g_and (g_is (g_chain t1 g_str (g_ixS (g_var (i := 0) E1 rfl) g_int n2 n3) (fun _ => g_str) rb_leS rb_leS) (by rw [n4, n5])) fun _ => g_is (g_all t1 (bs := z.cps.toList.map fun c => decide (c ∈ SIGNS_S.cps.toList)) (g_is (g_lc1 (fun d => match d with | .str s => .bool (decide (s.cps.getD 0 0 ∈ SIGNS_S.cps.toList)) | _ => .none) t1 (gi_str (g_var (i := 0) E1 rfl)) (by rw [List.length_map, Array.length_toList]; exact n2) (fun H1 s d hd => tgt_name (E1.same s)) (fun X' H1 σ2 d hd t E => ?_)) ?_)) (by rw [n6])) rfl) fun w H2 s2 dw => q w H2 (s1.trans s2) dw
  · obtain ⟨c, hc, rfl⟩ := List.mem_map.mp hd
    exact g_op t (g_var (i := 1) E rfl) g_str (RB.rd (b := decide (c ∈ SIGNS_S.cps.toList)) rb_inS)
  · rw [List.map_map, List.map_map]
    rfl
-- HINT are_names it pi_seq
abbrev s_are_names : Stmt := topS 15
abbrev n_are_names : List Str := ["thing", "name"]
theorem sc_are_names : FnScope n_are_names ["thing"] (defScope s_are_names) := ⟨rfl, rfl, rfl, by decide +kernel, rfl, by decide +kernel, by decide +kernel⟩
/-- a list of unlike names -/
def NamesD (d : PyData) : Prop := ∃ ns : List Str, d = wsD ns ∧ ns.Nodup ∧ ∀ z ∈ ns, z ∈ sNames
theorem nodup_le {ns : List Str} (nd : ns.Nodup) (h : ∀ z ∈ ns, z ∈ sNames) : ns.length ≤ 8 := by
  have := List.Nodup.length_le_of_subset nd (l₂ := sNames) h
  exact this
theorem ok_are_names {f : Addr} {fd : FuncData} (F : Fun K "are_names" "are_names" s_are_names f fd) (T : Bl mg) (b_set : mg "set" = none) (O_is_list : Own P w K mg base CX0 1 "is_list" ["thing"] (sp1 (fun _ => True) fun d => .bool (isSeq d)))
    (O_is_name : Own P w K mg base CX0 1 "is_name" ["thing"] (sp1 (fun d => ∃ s ∈ sNames, d = .str s) fun _ => .bool true)) : FnOk P w K mg base CX0 2 f fd ["thing"] (sp1 NamesD fun _ => .bool true) := by
  refine ok1 F sc_are_names (by decide) fun cdv A outer s H E X d Q hr t hp q => ⟨_, (pss_cons (ps_if (PW.pt (pw_or (pt_not (pt_val (pe_own O_is_list hr (by decide) (by rfl) (pa_cons (pv 0) pa_nil)))) (pw_or1 (pt_not (pt_val (pe_callB (cr_all rfl) (by rfl) T.b_all boot_all (pa_cons (pe_lc (own := [("name", 1)]) (g := (gName 1)) (tt := tYes) rfl sc_are_names.nd (pi_seq (pv 0)) (blkOk_by (N := n_are_names) (sc := defScope s_are_names) (by decide +kernel)) (fun _ _ _ _ _ => (pg_name (i := 1) sc_are_names.nd rfl (by first | exact Or.inl rfl | exact Or.inr rfl))) (fun _ _ _ _ _ => pts_nil) (fun _ _ _ _ _ => (pe_own O_is_name hr (by decide) (by rfl) (pa_cons (pv 1) pa_nil)))) pa_nil)))))))
    (pss_one (ps_ret pe_bl)) pss_nil)
    (pss_one (ps_ret (pe_cmpR (op_eqD hr.units) (pe_unlike rfl (by rfl) T.b_len (by rfl) b_set (pv 0)) (pe_callB call_len (by rfl) T.b_len boot_len (pa_cons (pv 0) pa_nil)) (nomark _))))), fun σ En => ?_⟩
  obtain ⟨ns, rfl, nd, hn⟩ := hp
  have few := nodup_le nd hn
  refine q_if (b := false) (gt_is (gt_or (a := false) (gt_is (gt_not (gt_B (g_call1 t (g_var (i := 0) (d := wsD ns) En rfl) trivial))) rfl) fun _ => gt_not (gt_B (g_is (g_all t (bs := ns.map fun _ => true) (g_is (g_lc1 (Γ2 := fun z => [.dat (wsD ns), .dat z]) (fun _ => .bool true) t (gi_seq (g_var (i := 0) (d := wsD ns) En rfl) rfl) (by show (ns.map PyData.str).length ≤ _; rw [List.length_map]; omega) (fun H1 s d hd => tgt_name (En.same s)) (fun X' H1 σ2 d hd t E => ?_)) ?_)) (e := .bool true) (by simp)))) rfl) (fun h => by cases h) fun _ H1 s1 => ?_
  · obtain ⟨z, hz, rfl⟩ := List.mem_map.mp (show d ∈ ns.map PyData.str from hd)
    exact g_call1 t (g_var (i := 1) E rfl) ⟨z, hn z hz, rfl⟩
  · show PyData.list ((ns.map PyData.str).map _) = _
    rw [List.map_map, List.map_map]
    rfl
  · have E1 := En.same s1
    have t1 := t.mono s1
    refine s_ret (X := X) (d := .bool true) (g_is (g_eqD t1 (g_unlike (ns := ns) (g_var (i := 0) (d := wsD ns) E1 rfl) nd (by omega)) (g_len t1 (g_var (i := 0) (d := wsD ns) E1 rfl) rfl) rfl rfl (shaped_int _) (shaped_int _)) ?_) fun w H2 s2 dw => q w H2 (s1.trans s2) dw
    rw [eqv_int]
    show PyData.bool (decide ((ns.length : Int) = ((ns.map PyData.str).length : Int))) = _
    rw [List.length_map]
    simp
end K77

/-! Suspects and askings, looked at. -/
namespace K77
open PySem PySem.Spec PyProof.Rows L2 KD
variable {P : Program} {w : World} {K : PySem.W.Frag} {mg : Str → Option Value} {base : Heap}
/-! ### slices of lists and tuples; in, not in -/
def rSlQ (K : PySem.W.Frag) : V → Option Int → Option Int → Hp → VK → Prop := fun x lo hi H Q => rSlL K x lo hi H Q ∨ rSlA K x lo hi H Q
theorem sl_seq {X : Cx} : SlR X (rSlQ X.K) := SlR.or sl_list sl_tupA
theorem sl_seqK {X : Cx} (h : X.K = K) : SlR X (rSlQ K) := h ▸ sl_seq
theorem g_slQ {X : Addr → Prop} {te : TE} {tl th : TO} {σ : L2.St} {H : Hp} {d : PyData} {lo hi : Option Int} (t : Trk X H) (h : G X te σ H d) (hs : isSeq d = true) (hl : GO tl σ H lo) (hh : GO th σ H hi) : ∃ e, isSeq e = true ∧ itemsD e = cutPD (itemsD d) lo hi ∧ G X (tSl (rSlQ K) te tl th) σ H e := by
  cases d with
  | list ds =>
    refine ⟨.list (cutPD ds lo hi), rfl, rfl, fun H1 s Q q => ?_⟩
    exact h H1 s _ fun v H2 s2 r => hl H2 (s.trans s2) _ fun H3 s3 => hh H3 ((s.trans s2).trans s3) _ fun H4 s4 => by
      obtain ⟨a, xs, rfl, n, e, rx⟩ := (r.mono (Kp.of (s3.trans s4))).lst_inv
      exact .inl ⟨a, xs, rfl, SqL.of e, fun p hp => q _ _ (((s2.trans s3).trans s4).trans (Same.upd hp)) (DX.newL ((((t.mono s).mono s2).mono s3).mono s4) (rx.cut lo hi) hp)⟩
  | tuple ds =>
    refine ⟨.tuple (cutPD ds lo hi), rfl, rfl, fun H1 s Q q => ?_⟩
    exact h H1 s _ fun v H2 s2 r => hl H2 (s.trans s2) _ fun H3 s3 => hh H3 ((s.trans s2).trans s3) _ fun H4 s4 => by
      obtain ⟨a, xs, rfl, n, e, rx⟩ := (r.mono (Kp.of (s3.trans s4))).tup_inv
      have lx := rx.length
      refine .inr ⟨a, xs, rfl, SqT.of e, fun hw => q _ _ ((s2.trans s3).trans s4) ?_, fun _ p hp => q _ _ (((s2.trans s3).trans s4).trans (Same.upd hp)) (DX.newT ((((t.mono s).mono s2).mono s3).mono s4) (rx.cut lo hi) hp)⟩
      have e2 : cutPD ds lo hi = ds := by
        show (ds.drop (HT.sIx ds.length 0 lo)).take (HT.sIx ds.length ds.length hi - HT.sIx ds.length 0 lo) = ds
        rw [← lx, hw.1, hw.2, List.drop_zero, Nat.sub_zero, lx, List.take_length]
      rw [e2]
      exact .tup n e rx
  | _ => cases hs
theorem op_inK {X : Cx} (h : X.K = K) : OpR X (compareOp .In) (rIn K false) := h ▸ op_in_seq
theorem op_notInK {X : Cx} (h : X.K = K) : OpR X (compareOp .NotIn) (rIn K true) := h ▸ op_notIn_seq
theorem inV_strs (x : Str) : ∀ ns : List Str, inV (.str x) (ns.map V.str) = decide (x ∈ ns)
  | [] => rfl
  | n :: ns => by
    have ih := inV_strs x ns
    unfold inV at ih ⊢
    rw [List.map_cons, List.any_cons, ih]
    show ((n == x) || decide (x ∈ ns)) = decide (x ∈ n :: ns)
    rw [Bool.eq_iff_iff, Bool.or_eq_true, decide_eq_true_iff, decide_eq_true_iff, List.mem_cons, beq_iff_eq]
    exact or_congr_left eq_comm
theorem flat_all (ns : List Str) : (ns.map V.str).all flatV = true := by
  rw [List.all_eq_true]
  intro v hv
  obtain ⟨s, _, rfl⟩ := List.mem_map.mp hv
  rfl
theorem rb_inL {X : Addr → Prop} {neg : Bool} {x : Str} {d : PyData} {ns : List Str} (hs : isSeq d = true) (hi : itemsD d = ns.map PyData.str) : RB X (rIn K neg) (.str x) d (if neg then !decide (x ∈ ns) else decide (x ∈ ns)) := fun H u v _ ru rv Q q => by
  rw [← inV_strs] at q
  cases d with
  | list ds =>
    obtain ⟨a, xs, rfl, _, ha, rs⟩ := rv.lst_inv
    have e : ds = ns.map PyData.str := hi
    subst e
    have ex := rs.strs
    subst ex
    exact ⟨a, _, rfl, .inl (SqL.of ha), by rw [ru.str_inv]; rfl, flat_all ns, by rw [ru.str_inv]; exact q⟩
  | tuple ds =>
    obtain ⟨a, xs, rfl, _, ha, rs⟩ := rv.tup_inv
    have e : ds = ns.map PyData.str := hi
    subst e
    have ex := rs.strs
    subst ex
    exact ⟨a, _, rfl, .inr (SqT.of ha), by rw [ru.str_inv]; rfl, flat_all ns, by rw [ru.str_inv]; exact q⟩
  | _ => cases hs
theorem rb_inI {X : Addr → Prop} {neg : Bool} {i : Int} {ds : List Int} : RB X (rIn K neg) (.int i) (.tuple (ds.map PyData.int)) (if neg then !decide (i ∈ ds) else decide (i ∈ ds)) := fun H u v _ ru rv Q q => by
  obtain ⟨a, xs, rfl, _, ha, rs⟩ := rv.tup_inv
  have ex := rs.ints
  subst ex
  have e1 : ∀ ds : List Int, inV (.int i) (ds.map V.int) = decide (i ∈ ds) := by
    intro ds
    induction ds with
    | nil => rfl
    | cons n ns ih =>
      unfold inV at ih ⊢
      rw [List.map_cons, List.any_cons, ih]
      show ((n == i) || decide (i ∈ ns)) = decide (i ∈ n :: ns)
      rw [Bool.eq_iff_iff, Bool.or_eq_true, decide_eq_true_iff, decide_eq_true_iff, List.mem_cons, beq_iff_eq]
      exact or_congr_left eq_comm
  rw [← e1] at q
  refine ⟨a, _, rfl, .inr (SqT.of ha), by rw [ru.int_inv]; rfl, ?_, by rw [ru.int_inv]; exact q⟩
  rw [List.all_eq_true]
  intro v hv
  obtain ⟨s, _, rfl⟩ := List.mem_map.mp hv
  rfl
/-! ### what is asked of whom -/
structure Sus (d : PyData) (ns : List Str) : Prop where
  seq : isSeq d = true
  its : itemsD d = ns.map PyData.str
  nd : ns.Nodup
  ok : ∀ z ∈ ns, z ∈ sNames
  pos : 0 < ns.length
structure Ask (d : PyData) (as : List (List Str)) : Prop where
  seq : isSeq d = true
  its : itemsD d = as.map wsD
  pos : 0 < as.length
  few : as.length ≤ 100
  nd : ∀ a ∈ as, a.Nodup
  ok : ∀ a ∈ as, ∀ z ∈ a, z ∈ sNames
theorem Sus.few {d : PyData} {ns : List Str} (S : Sus d ns) : ns.length ≤ 8 := nodup_le S.nd S.ok
theorem Sus.len {d : PyData} {ns : List Str} (S : Sus d ns) : lenD d = ns.length := by rw [lenD_seq S.seq, S.its, List.length_map]
theorem Ask.len {d : PyData} {as : List (List Str)} (S : Ask d as) : lenD d = as.length := by rw [lenD_seq S.seq, S.its, List.length_map]
theorem ff_none : ∀ (bs : List PyData) (i : Nat), (∀ b ∈ bs, b = .bool true) → ffD i bs = .none
  | [], _, _ => rfl
  | b :: r, i, h => by
    rw [h b List.mem_cons_self, ff_true]
    exact ff_none r (i + 1) fun z hz => h z (List.mem_cons_of_mem _ hz)
theorem nodup_at {ns : List Str} (nd : ns.Nodup) {i : Nat} (h : i < ns.length) : ns[i] ∉ ns.take i := fun q => by
  obtain ⟨j, hj, e⟩ := List.mem_iff_getElem.mp q
  rw [List.length_take] at hj
  rw [List.getElem_take] at e
  have lt2 : j < i := by omega
  exact (List.pairwise_iff_getElem.mp nd j i (by omega) h lt2) e
def lieI (d : PyData) : Prop := d = .int 0 ∨ d = .int 1
section
variable {x qual : Str} {st : Stmt} {f : Addr} {fd : FuncData} {N : List Str} {k : Nat} {a b c : Str}
theorem ok3 {pre : PyData → PyData → PyData → Prop} {g : PyData → PyData → PyData → PyData} (F : Fun K x qual st f fd) (S : FnScope N [a, b, c] (defScope st)) (hN : 3 ≤ N.length)
    (hbody : ∀ (cdv : Value) (A : Around) (outer : List Env) (s : Shared) (H : Hp) (E : XK) (X : Addr → Prop) (d1 d2 d3 : PyData) (Q : VK), Room k (A.deeper (envOfC qual (defScope st) s.heap.objs.size f cdv)) → Trk X H → pre d1 d2 d3 → (∀ w H', Same H H' → DX X H' w (g d1 d2 d3) → Q w H') →
      ∃ t, PSs (cxOf CX0 P w K mg base N qual (defScope st) f cdv A outer s H E).nox (defBody st) t ∧ ∀ σ, EnvOk X H σ (pad N [.dat d1, .dat d2, .dat d3]) → t { nx := fun _ H' => Q .non H', rt := Q } σ H) : FnOk P w K mg base CX0 (k + 1) f fd [a, b, c] (sp3 pre g) := by
  refine F.ok S (fun vs H Q E h => ?_) (fun cdv A outer s H vs Q E hr h => ?_)
  · obtain ⟨X, v1, v2, v3, d1, d2, d3, rfl, _⟩ := h
    rfl
  · obtain ⟨X, v1, v2, v3, d1, d2, d3, rfl, t, r1, r2, r3, hp, q⟩ := h
    obtain ⟨tt, h1, h2⟩ := hbody cdv A outer s H E X d1 d2 d3 Q hr t hp q
    exact ⟨tt, h1, h2 _ (env3 r1 r2 r3 hN)⟩
end
-- HINT check_askings it pi_seq
-- HINT check_askings enum pi_enumQ
-- HINT check_askings in (op_notInK (K := K) rfl)
-- HINT check_askings slice (sl_seqK (K := K) rfl)
abbrev s_check_askings : Stmt := topS 17
abbrev n_check_askings : List Str := ["suspects", "askings", "lies", "index", "place", "name", "names"]
theorem sc_check_askings : FnScope n_check_askings ["suspects", "askings", "lies"] (defScope s_check_askings) := ⟨rfl, rfl, rfl, by decide +kernel, rfl, by decide +kernel, by decide +kernel⟩
theorem ok_check_askings {f : Addr} {fd : FuncData} (F : Fun K "check_askings" "check_askings" s_check_askings f fd) (T : Bl mg) (O_is_list : Own P w K mg base CX0 1 "is_list" ["thing"] (sp1 (fun _ => True) fun d => .bool (isSeq d))) (O_is_integer : Own P w K mg base CX0 1 "is_integer" ["thing"] (sp1 (fun _ => True) fun d => .bool (isIntD d)))
    (O_is_name : Own P w K mg base CX0 1 "is_name" ["thing"] (sp1 (fun d => ∃ s ∈ sNames, d = .str s) fun _ => .bool true)) (O_are_names : Own P w K mg base CX0 2 "are_names" ["thing"] (sp1 NamesD fun _ => .bool true)) (O_first_false : Own P w K mg base CX0 1 "first_false" ["tests"] (sp1 Bools fun d => ffD 0 (itemsD d))) :
    FnOk P w K mg base CX0 3 f fd ["suspects", "askings", "lies"] (sp3 (fun s a l => (∃ ns, Sus s ns) ∧ (∃ as, Ask a as) ∧ lieI l) fun _ _ _ => .none) := by
  refine ok3 F sc_check_askings (by decide) fun cdv A outer s H E X d1 d2 d3 Q hr t hp q => ⟨_, (pss_cons (ps_if (PW.pt (pw_or (pt_not (pt_val (pe_own O_is_list hr (by decide) (by rfl) (pa_cons (pv 0) pa_nil)))) (pw_or1 (pt_cmpR (op_eqD hr.units) (pe_callB call_len (by rfl) T.b_len boot_len (pa_cons (pv 0) pa_nil)) pe_int (nomark _)))))
    (pss_one ps_never) pss_nil)
    (pss_cons (ps_set (i := 3) sc_check_askings.nd rfl (by first | exact Or.inl rfl | exact Or.inr rfl) (pe_own O_first_false hr (by decide) (by rfl) (pa_cons (pe_lc (own := [("place", 4), ("name", 5)]) (g := (gTup K 2 (gCons (gName 4) (gCons (gName 5) gNil)))) (tt := tYes) rfl sc_check_askings.nd (pi_enumQ (by rfl) T.b_enumerate (pa_cons (pv 0) pa_nil)) (blkOk_by (N := n_check_askings) (sc := defScope s_check_askings) (by decide +kernel)) (fun _ _ _ _ _ => (pg_tup (n := 2) rfl (pgs_cons (pg_name (i := 4) sc_check_askings.nd rfl (by first | exact Or.inl rfl | exact Or.inr rfl)) (pgs_cons (pg_name (i := 5) sc_check_askings.nd rfl (by first | exact Or.inl rfl | exact Or.inr rfl)) pgs_nil)))) (fun _ _ _ _ _ => pts_nil) (fun _ _ _ _ _ => (pe_and (pe_own O_is_name hr (by decide) (by rfl) (pa_cons (pv 5) pa_nil)) (pe_one (pe_cmpR (op_notInK (K := K) rfl) (pv 5) (pe_slice (sl_seqK (K := K) rfl) (pv 0) po_none (po_some (pv 4))) (by rfl)))))) pa_nil)))
    (pss_cons (ps_if (pt_cmpR op_notN (pv 3) pe_non (nomark _))
    (pss_one ps_never) pss_nil)
    (pss_cons (ps_if (PW.pt (pw_or (pt_not (pt_val (pe_own O_is_list hr (by decide) (by rfl) (pa_cons (pv 1) pa_nil)))) (pw_or1 (pt_cmpR (op_eqD hr.units) (pe_callB call_len (by rfl) T.b_len boot_len (pa_cons (pv 1) pa_nil)) pe_int (nomark _)))))
    (pss_one ps_never) pss_nil)
    (pss_cons (ps_set (i := 3) sc_check_askings.nd rfl (by first | exact Or.inl rfl | exact Or.inr rfl) (pe_own O_first_false hr (by decide) (by rfl) (pa_cons (pe_lc (own := [("names", 6)]) (g := (gName 6)) (tt := tYes) rfl sc_check_askings.nd (pi_seq (pv 1)) (blkOk_by (N := n_check_askings) (sc := defScope s_check_askings) (by decide +kernel)) (fun _ _ _ _ _ => (pg_name (i := 6) sc_check_askings.nd rfl (by first | exact Or.inl rfl | exact Or.inr rfl))) (fun _ _ _ _ _ => pts_nil) (fun _ _ _ _ _ => (pe_own O_are_names hr (by decide) (by rfl) (pa_cons (pv 6) pa_nil)))) pa_nil)))
    (pss_cons (ps_if (pt_cmpR op_notN (pv 3) pe_non (nomark _))
    (pss_one ps_never) pss_nil)
    (pss_one (ps_if (PW.pt (pw_or (pt_not (pt_val (pe_own O_is_integer hr (by decide) (by rfl) (pa_cons (pv 2) pa_nil)))) (pw_or1 (pt_cmpR (op_notInK (K := K) rfl) (pv 2) (pe_tup (pa_cons pe_int (pa_cons pe_int pa_nil))) (by rfl)))))
    (pss_one ps_never) pss_nil)))))))), fun σ En => ?_⟩
  obtain ⟨⟨ns, S⟩, ⟨as, A2⟩, hl⟩ := hp
  have few := S.few
  have v0 : ∀ {H1 σ1 Γ}, EnvOk X H1 σ1 Γ → Γ[0]? = some (.dat d1) → G X (tVar 0) σ1 H1 d1 := fun E e => g_var E e
  have lenNe : ∀ {H1 σ1 Γ} {i : Nat} {d : PyData} {n : Nat}, Trk X H1 → EnvOk X H1 σ1 Γ → Γ[i]? = some (.dat d) → isSeq d = true → lenD d = n → 0 < n → GT (tTest (tOp (rEqD K) (tCB (fun xs H Q => ∃ x n, xs = [x] ∧ LenV K x H n ∧ Q (V.int n) H) (tCons (tVar i) tNil)) (tC (.int 0)))) σ1 H1 false := fun t E e hs hn h0 => gt_is (gt_eqI t (g_len t (g_var E e) (hasLen_seq hs)) g_int) (by rw [hn]; exact decide_eq_false (by omega))
  refine q_if (b := false) (gt_is (gt_or (a := false) (gt_is (gt_not (gt_B (g_call1 t (g_var (i := 0) En rfl) trivial))) (by rw [S.seq]; rfl)) fun _ => lenNe t En rfl S.seq S.len S.pos) rfl) (fun h => by cases h) fun _ H1 s1 => ?_
  have E1 := En.same s1
  have t1 := t.mono s1
  refine q_set (i := 3) (d := .none) E1 (g_is (g_call1 t1 (d := .list (ns.map fun _ => .bool true)) (g_is (g_lc1 (Γ2 := fun z => [.dat d1, .dat d2, .dat d3, .un, .dat (it z 0), .dat (it z 1), .un]) (fun _ => .bool true) t1 (gi_enumQ (g_var (i := 0) E1 rfl) S.seq) (by rw [enumD_len, S.its, List.length_map]; omega) (fun H2 s2 z hz => ?_) (fun X' H2 σ2 z hz t2 E2 => ?_)) ?_) ⟨ns.map fun _ => true, by simp, by rw [List.length_map]; omega⟩) ?_) fun H2 v2 s2 E2 => ?_
  · obtain ⟨i, hi⟩ := List.mem_iff_getElem?.mp hz
    have lt := (List.getElem?_eq_some_iff.mp hi).1
    rw [enumD_len] at lt
    rw [enumD_get (List.getElem?_eq_getElem lt)] at hi
    cases hi
    exact tgt_pair (E1.same s2) (by decide)
  · obtain ⟨i, hi⟩ := List.mem_iff_getElem?.mp hz
    have lt := (List.getElem?_eq_some_iff.mp hi).1
    rw [enumD_len, S.its, List.length_map] at lt
    have e1 : (itemsD d1)[i]? = some (.str ns[i]) := by rw [S.its, List.getElem?_map, List.getElem?_eq_getElem lt]; rfl
    rw [enumD_get e1] at hi
    cases hi
    obtain ⟨e, es, ei, ge⟩ := g_slQ (K := K) (lo := none) (hi := some (i : Int)) t2 (g_var (i := 0) E2 rfl) S.seq go_none (go_some (g_var (i := 4) (d := .int (i : Int)) E2 rfl))
    refine g_is (g_and (a := true) (b := true) (g_call1 t2 (g_var (i := 5) (d := .str ns[i]) E2 rfl) ⟨_, S.ok _ (List.getElem_mem lt), rfl⟩) fun _ => g_is (g_op t2 (g_var (i := 5) (d := .str ns[i]) E2 rfl) ge (RB.rd (rb_inL (ns := ns.take i) es ?_))) ?_) rfl
    · rw [ei, S.its]
      show ((ns.map PyData.str).drop (HT.sIx _ 0 none)).take (HT.sIx _ _ (some (i : Int)) - HT.sIx _ 0 none) = _
      rw [sIx_nn (by omega)]
      show ((ns.map PyData.str).drop 0).take (min i (ns.map PyData.str).length - 0) = _
      rw [List.drop_zero, Nat.sub_zero, List.length_map, Nat.min_eq_left (by omega), List.map_take]
    · show PyData.bool (!decide (ns[i] ∈ ns.take i)) = _
      rw [decide_eq_false (nodup_at S.nd lt)]
      rfl
  · show PyData.list ((enumD (itemsD d1)).map _) = _
    congr 1
    rw [show (fun _ : PyData => PyData.bool true) = Function.const _ (PyData.bool true) from rfl, show (fun _ : Str => PyData.bool true) = Function.const _ (PyData.bool true) from rfl, List.map_const, List.map_const, enumD_len, S.its, List.length_map]
  · exact ff_none _ 0 fun b hb => by
      obtain ⟨_, _, rfl⟩ := List.mem_map.mp hb
      rfl
  have t2 := t1.mono s2
  refine q_if (b := false) (gt_is (gt_op t2 (g_var (i := 3) E2 rfl) g_non rb_notN) rfl) (fun h => by cases h) fun _ H3 s3 => ?_
  have E3 := E2.same s3
  have t3 := t2.mono s3
  refine q_if (b := false) (gt_is (gt_or (a := false) (gt_is (gt_not (gt_B (g_call1 t3 (g_var (i := 1) (d := d2) E3 rfl) trivial))) (by rw [A2.seq]; rfl)) fun _ => lenNe t3 E3 rfl A2.seq A2.len A2.pos) rfl) (fun h => by cases h) fun _ H4 s4 => ?_
  have E4 := E3.same s4
  have t4 := t3.mono s4
  refine q_set (i := 3) (d := .none) E4 (g_is (g_call1 t4 (d := .list (as.map fun _ => .bool true)) (g_is (g_lc1 (Γ2 := fun z => [.dat d1, .dat d2, .dat d3, .dat .none, .un, .un, .dat z]) (fun _ => .bool true) t4 (gi_seq (g_var (i := 1) (d := d2) E4 rfl) A2.seq) (by rw [A2.its, List.length_map]; have := A2.few; omega) (fun H2 s2 z hz => tgt_name (E4.same s2)) (fun X' H2 σ2 z hz t2 E2 => ?_)) ?_) ⟨as.map fun _ => true, by simp, by rw [List.length_map]; have := A2.few; omega⟩) ?_) fun H5 v5 s5 E5 => ?_
  · rw [A2.its] at hz
    obtain ⟨a, ha, rfl⟩ := List.mem_map.mp hz
    exact g_call1 t2 (g_var (i := 6) (d := wsD a) E2 rfl) ⟨a, rfl, A2.nd a ha, A2.ok a ha⟩
  · show PyData.list ((itemsD d2).map _) = _
    rw [A2.its, List.map_map]
    rfl
  · exact ff_none _ 0 fun b hb => by
      obtain ⟨_, _, rfl⟩ := List.mem_map.mp hb
      rfl
  have t5 := t4.mono s5
  refine q_if (b := false) (gt_is (gt_op t5 (g_var (i := 3) (d := .none) E5 rfl) g_non rb_notN) rfl) (fun h => by cases h) fun _ H6 s6 => ?_
  have E6 := E5.same s6
  have t6 := t5.mono s6
  have fin : ∀ H7, Same H6 H7 → Q .non H7 := fun H7 s7 => q .non H7 (((((((s1.trans s2).trans s3).trans s4).trans s5).trans s6)).trans s7) .non
  refine s_if (b := false) (gt_is (gt_or (a := false) (gt_is (gt_not (gt_B (g_call1 t6 (g_var (i := 2) (d := d3) E6 rfl) trivial))) (by rcases hl with rfl | rfl <;> rfl)) fun _ => ?_) rfl) (fun h => by cases h) fun _ H7 s7 => fin H7 s7
  rcases hl with rfl | rfl
  · exact gt_is (gt_op t6 (g_var (i := 2) (d := .int 0) E6 rfl) (g_tup (ds := ([0, 1] : List Int).map PyData.int) t6 (ga_cons g_int (ga_cons g_int ga_nil)) (by simp)) rb_inI) (by decide)
  · exact gt_is (gt_op t6 (g_var (i := 2) (d := .int 1) E6 rfl) (g_tup (ds := ([0, 1] : List Int).map PyData.int) t6 (ga_cons g_int (ga_cons g_int ga_nil)) (by simp)) rb_inI) (by decide)
end K77

/-! Masks and states. -/
namespace K77
open PySem PySem.Spec PyProof.Rows L2 KD
variable {P : Program} {w : World} {K : PySem.W.Frag} {mg : Str → Option Value} {base : Heap}
def strOf : PyData → Str
  | .str s => s
  | _ => ""
def nsOf (d : PyData) : List Str := (itemsD d).map strOf
def asOf (d : PyData) : List (List Str) := (itemsD d).map nsOf
theorem nsOf_ws (ns : List Str) : nsOf (wsD ns) = ns := by
  show (ns.map PyData.str).map strOf = ns
  rw [List.map_map]
  exact List.map_id' ns
theorem Sus.of {d : PyData} {ns : List Str} (S : Sus d ns) : nsOf d = ns := by
  show (itemsD d).map strOf = ns
  rw [S.its, List.map_map]
  exact List.map_id' ns
theorem Ask.of {d : PyData} {as : List (List Str)} (S : Ask d as) : asOf d = as := by
  show (itemsD d).map nsOf = as
  rw [S.its, List.map_map]
  conv => rhs; rw [← List.map_id as]
  exact List.map_congr_left fun a _ => nsOf_ws a
section
variable {X : Addr → Prop} {H : Hp} {σ : L2.St} {te : TE}
theorem g_sum {ns : List Int} (h : G X te σ H (.list (ns.map PyData.int))) : G X (tCB (rSum K) (tCons te tNil)) σ H (.int ns.sum) := fun H1 s Q q =>
  h H1 s _ fun v H2 s2 r => by
    obtain ⟨a, vs, rfl, _, ha, rv⟩ := r.lst_inv
    exact ⟨a, ns, rfl, SqL.of (by rw [← rv.ints]; exact ha), q _ H2 s2 (.int _)⟩
theorem gt_int {i : Int} (h : G X te σ H (.int i)) : GT (fun σ H Q => te σ H fun x H' => ∃ k, TruV K x H' k ∧ Q k H') σ H (i != 0) := fun H1 s Q q =>
  h H1 s _ fun v H2 s2 r => by
    rw [r.int_inv]
    exact ⟨i != 0, rfl, q H2 s2⟩
theorem g_unI {g : Int → Int} {i : Int} (h : G X te σ H (.int i)) : G X (tUn (rU fun i => .int (g i)) te) σ H (.int (g i)) := fun H1 s Q q =>
  h H1 s _ fun v H2 s2 r => ⟨i, r.int_inv, q _ H2 s2 (.int _)⟩
end
/-- who is named, bit by bit -/
def bitsOf (ns a : List Str) : List Bool := ns.map fun n => decide (n ∈ a)
def maskD (ns : List Str) (as : List (List Str)) : PyData := .list (as.map fun a => .int (KB.mk (bitsOf ns a)))
def scMasks : Scope := { kind := ScopeKind.function, names := [(".0", NameKind.local), ("names", NameKind.cell), ("sum", NameKind.globalImplicit), ("enumerate", NameKind.globalImplicit), ("suspects", NameKind.cell)], isGenerator := false, isCoroutine := false }
theorem call_sumK {X : Cx} (hc : X.calm = true) (h : X.K = K) : CallR X (.builtin "sum") (rSum K) := h ▸ cr_sum hc
-- HINT asked_masks it pi_seq
-- HINT asked_masks enum pi_enumQ
-- HINT asked_masks in (op_inK (K := K) rfl)
-- HINT asked_masks lcsc#2 scMasks
-- HINT asked_masks lcte#1 (tCB (rSum K) (tCons (tLc (iEnumQ K (tCons (tVar 0) tNil)) (gTup K 2 (gCons (gName 3) (gCons (gName 4) gNil))) (tTest (tOp (rIn K false) (tVar 4) (tVar 2))) (tOp (rI CPow fun i j => V.int (i * 2 ^ j.toNat)) (tC (.int 1)) (tVar 3)) [3, 4]) tNil))
abbrev s_asked_masks : Stmt := topS 18
abbrev n_asked_masks : List Str := ["suspects", "askings", "names", "place", "name"]
theorem sc_asked_masks : FnScope n_asked_masks ["suspects", "askings"] (defScope s_asked_masks) := ⟨rfl, rfl, rfl, by decide +kernel, rfl, by decide +kernel, by decide +kernel⟩
theorem mask_sum (ns a : List Str) : ((((enumD (ns.map PyData.str)).filter fun z => decide (strOf (it z 1) ∈ a)).map fun z => (2 : Int) ^ (intOf (it z 0)).toNat)).sum = KB.mk (bitsOf ns a) := by
  have h := KB.sum_mk (bitsOf ns a) 0
  rw [Int.pow_zero, Int.one_mul] at h
  rw [← h]
  unfold enumD bitsOf
  rw [List.zipIdx_map, List.zipIdx_map, List.map_map, List.filter_map, List.filter_map, List.map_map, List.map_map]
  rfl
theorem ok_asked_masks {f : Addr} {fd : FuncData} (F : Fun K "asked_masks" "asked_masks" s_asked_masks f fd) (T : Bl mg) (b_sum : mg "sum" = none) :
    FnOk P w K mg base CX0 1 f fd ["suspects", "askings"] (sp2 (fun s a => (∃ ns, Sus s ns) ∧ ∃ as, Ask a as) fun s a => maskD (nsOf s) (asOf a)) := by
  refine ok2 F sc_asked_masks (by decide) fun cdv A outer s H E X d1 d2 Q hr t hp q => ⟨_, (pss_one (ps_ret (pe_lc (own := [("names", 2)]) (g := (gName 2)) (tt := tYes) (te := (tCB (rSum K) (tCons (tLc (iEnumQ K (tCons (tVar 0) tNil)) (gTup K 2 (gCons (gName 3) (gCons (gName 4) gNil))) (tTest (tOp (rIn K false) (tVar 4) (tVar 2))) (tOp (rI CPow fun i j => V.int (i * 2 ^ j.toNat)) (tC (.int 1)) (tVar 3)) [3, 4]) tNil))) rfl sc_asked_masks.nd (pi_seq (pv 1)) (blkOk_by (N := n_asked_masks) (sc := defScope s_asked_masks) (by decide +kernel)) (fun _ _ _ _ _ => (pg_name (i := 2) sc_asked_masks.nd rfl (by first | exact Or.inl rfl | exact Or.inr rfl))) (fun _ _ _ _ _ => pts_nil) (fun _ _ _ _ _ => (pe_callB (cr_sum rfl) (by rfl) b_sum boot_sum (pa_cons (by exact (pe_lc (own := [("place", 3), ("name", 4)]) (g := (gTup K 2 (gCons (gName 3) (gCons (gName 4) gNil)))) rfl sc_asked_masks.nd (pi_enumQ (by rfl) T.b_enumerate (pa_cons (pv 0) pa_nil)) (blkOk_by (N := n_asked_masks) (sc := scMasks) (by decide +kernel)) (fun _ _ _ _ _ => (pg_tup (n := 2) rfl (pgs_cons (pg_name (i := 3) sc_asked_masks.nd rfl (by first | exact Or.inl rfl | exact Or.inr rfl)) (pgs_cons (pg_name (i := 4) sc_asked_masks.nd rfl (by first | exact Or.inl rfl | exact Or.inr rfl)) pgs_nil)))) (fun _ _ _ _ _ => (pts_one (pt_cmpR (op_inK (K := K) rfl) (pv 4) (pv 2) (by rfl)))) (fun _ _ _ _ _ => (pe_op op_shl pe_int (pv 3))))) pa_nil)))))), fun σ En => ?_⟩
  obtain ⟨⟨ns, S⟩, ⟨as, A2⟩⟩ := hp
  have few := S.few
  rw [S.of, A2.of] at q
  refine s_ret (X := X) (g_is (g_lc1 (Γ2 := fun z => [.dat d1, .dat d2, .dat z, .un, .un]) (fun z => .int (KB.mk (bitsOf ns (nsOf z)))) t (gi_seq (g_var (i := 1) En rfl) A2.seq) (by rw [A2.its, List.length_map]; have := A2.few; omega) (fun H2 s2 z hz => tgt_name (En.same s2)) (fun X' H2 σ2 z hz t2 E2 => ?_)) ?_) q
  · rw [A2.its] at hz
    obtain ⟨a, ha, rfl⟩ := List.mem_map.mp hz
    rw [nsOf_ws, ← mask_sum]
    refine g_sum (g_is (g_lc (ds := enumD (itemsD d1)) (Γ2 := fun z => [.dat d1, .dat d2, .dat (wsD a), .dat (it z 0), .dat (it z 1)]) (fun z => decide (strOf (it z 1) ∈ a)) (fun z => .int (2 ^ (intOf (it z 0)).toNat)) t2 (gi_enumQ (g_var (i := 0) E2 rfl) S.seq) (by rw [enumD_len, S.its, List.length_map]; omega) (fun H3 s3 z hz => ?_) (fun X3 H3 σ3 z hz t3 E3 => ?_) (fun X3 H3 σ3 z hz hf t3 E3 => ?_)) (by rw [S.its, List.map_map]; rfl))
    · obtain ⟨i, hi⟩ := List.mem_iff_getElem?.mp hz
      have lt := (List.getElem?_eq_some_iff.mp hi).1
      rw [enumD_len] at lt
      rw [enumD_get (List.getElem?_eq_getElem lt)] at hi
      cases hi
      exact tgt_pair (E2.same s3) (by decide)
    · obtain ⟨i, hi⟩ := List.mem_iff_getElem?.mp hz
      have lt := (List.getElem?_eq_some_iff.mp hi).1
      rw [enumD_len, S.its, List.length_map] at lt
      have e1 : (itemsD d1)[i]? = some (.str ns[i]) := by rw [S.its, List.getElem?_map, List.getElem?_eq_getElem lt]; rfl
      rw [enumD_get e1] at hi
      cases hi
      exact gt_op t3 (g_var (i := 4) (d := .str ns[i]) E3 rfl) (g_var (i := 2) (d := wsD a) E3 rfl) (rb_inL (neg := false) rfl rfl)
    · obtain ⟨i, hi⟩ := List.mem_iff_getElem?.mp hz
      have lt := (List.getElem?_eq_some_iff.mp hi).1
      rw [enumD_len, S.its, List.length_map] at lt
      have e1 : (itemsD d1)[i]? = some (.str ns[i]) := by rw [S.its, List.getElem?_map, List.getElem?_eq_getElem lt]; rfl
      rw [enumD_get e1] at hi
      cases hi
      refine g_is (g_op t3 g_int (g_var (i := 3) (d := .int (i : Nat)) E3 rfl) (rd_I (i := 1) (j := (i : Nat)) (g := fun i j => i * 2 ^ j.toNat) ⟨by omega, by omega, by decide⟩)) ?_
      show PyData.int (1 * 2 ^ _) = _
      rw [Int.one_mul]
      rfl
  · show PyData.list ((itemsD d2).map _) = _
    rw [A2.its, List.map_map]
    unfold maskD
    congr 1
    exact List.map_congr_left fun a _ => by
      show PyData.int (KB.mk (bitsOf ns (nsOf (wsD a)))) = _
      rw [nsOf_ws]
/-! ### states: how often each one's answers were wrong -/
def stC (l : Int) (cs : List Nat) : PyData := .tuple [.int (KB.mk (cs.map fun c => decide (c = 0))), .int (KB.mk (cs.map fun c => decide (l = 1) && decide (c = 1)))]
abbrev s_start_of : Stmt := topS 19
abbrev n_start_of : List Str := ["suspects"]
theorem sc_start_of : FnScope n_start_of ["suspects"] (defScope s_start_of) := ⟨rfl, rfl, rfl, by decide +kernel, rfl, by decide +kernel, by decide +kernel⟩
theorem mk_false : ∀ n : Nat, KB.mk (List.replicate n false) = 0
  | 0 => rfl
  | n + 1 => by rw [List.replicate_succ, KB.mk, mk_false n]; rfl
theorem start_is (l : Int) (n : Nat) : PyData.tuple [.int ((2 : Int) ^ n - 1), .int 0] = stC l (List.replicate n 0) := by
  unfold stC
  rw [List.map_replicate, List.map_replicate, KB.start_mk]
  have e1 : decide ((0 : Nat) = 0) = true := rfl
  have e2 : (decide (l = 1) && decide ((0 : Nat) = 1)) = false := by simp
  rw [e1, e2, mk_false]
theorem ok_start_of {f : Addr} {fd : FuncData} (F : Fun K "start_of" "start_of" s_start_of f fd) (T : Bl mg) : FnOk P w K mg base CX0 1 f fd ["suspects"] (sp1 (fun s => ∃ ns, Sus s ns) fun s => .tuple [.int ((2 : Int) ^ (nsOf s).length - 1), .int 0]) := by
  refine ok1 F sc_start_of (by decide) fun cdv A outer s H E X d Q hr t hp q => ⟨_, (pss_one (ps_ret (pe_tup (pa_cons (pe_op op_sub (pe_op op_shl pe_int (pe_callB call_len (by rfl) T.b_len boot_len (pa_cons (pv 0) pa_nil))) pe_int) (pa_cons pe_int pa_nil))))), fun σ En => ?_⟩
  obtain ⟨ns, S⟩ := hp
  have few := S.few
  rw [S.of] at q
  refine s_ret (X := X) (g_tup t (ga_cons (g_is (g_sub t (g_op t g_int (g_len t (g_var (i := 0) En rfl) (hasLen_seq S.seq)) (rd_I (i := 1) (g := fun i j => i * 2 ^ j.toNat) ⟨by omega, by rw [S.len]; omega, by decide⟩)) g_int) ?_) (ga_cons g_int ga_nil)) (by simp)) q
  rw [S.len, Int.one_mul]
  rfl
def spAns : Sp := fun vs H Q _ => ∃ (X : Addr → Prop) (v1 v2 v3 v4 : V) (l : Int) (cs : List Nat) (ms : List Bool) (b : Bool), vs = [v1, v2, v3, v4] ∧ Trk X H ∧ DX X H v1 (stC l cs) ∧ DX X H v2 (.int (KB.mk ms)) ∧ DX X H v3 (.bool b) ∧ DX X H v4 (.int l) ∧ cs.length = ms.length ∧ lieI (.int l) ∧
  ∀ w H', Same H H' → DX X H' w (stC l (List.zipWith (fun c m => if m = b then c else c + 1) cs ms)) → Q w H'
theorem env4 {N : List Str} {X : Addr → Prop} {H : Hp} {v1 v2 v3 v4 : V} {d1 d2 d3 d4 : PyData} (h1 : DX X H v1 d1) (h2 : DX X H v2 d2) (h3 : DX X H v3 d3) (h4 : DX X H v4 d4) (hN : 4 ≤ N.length) : EnvOk X H (L2.start N [v1, v2, v3, v4]) (pad N [.dat d1, .dat d2, .dat d3, .dat d4]) :=
  envOk_start rfl (fun i s e u e2 => by
    match i, e, e2 with
    | 0, e, e2 => cases e; cases e2; exact ⟨_, rfl, h1⟩
    | 1, e, e2 => cases e; cases e2; exact ⟨_, rfl, h2⟩
    | 2, e, e2 => cases e; cases e2; exact ⟨_, rfl, h3⟩
    | 3, e, e2 => cases e; cases e2; exact ⟨_, rfl, h4⟩) hN
theorem zip_map {f : Nat → Bool} {g : Bool → Bool → Bool} : ∀ (cs : List Nat) (ms : List Bool), List.zipWith g (cs.map f) ms = List.zipWith (fun c m => g (f c) m) cs ms
  | [], _ => rfl
  | _ :: _, [] => rfl
  | c :: cs, m :: ms => by rw [List.map_cons, List.zipWith_cons_cons, List.zipWith_cons_cons, zip_map cs ms]
theorem map_zip {f : Nat → Bool} {g : Nat → Bool → Nat} : ∀ (cs : List Nat) (ms : List Bool), (List.zipWith g cs ms).map f = List.zipWith (fun c m => f (g c m)) cs ms
  | [], _ => rfl
  | _ :: _, [] => rfl
  | c :: cs, m :: ms => by rw [List.zipWith_cons_cons, List.map_cons, List.zipWith_cons_cons, map_zip cs ms]
theorem zip_zip {f g : Nat → Bool → Bool} : ∀ (cs : List Nat) (ms : List Bool), List.zipWith (fun a b => a || b) (List.zipWith f cs ms) (List.zipWith g cs ms) = List.zipWith (fun c m => f c m || g c m) cs ms
  | [], _ => rfl
  | _ :: _, [] => rfl
  | c :: cs, m :: ms => by rw [List.zipWith_cons_cons, List.zipWith_cons_cons, List.zipWith_cons_cons, List.zipWith_cons_cons, zip_zip cs ms]
theorem zip_len {α β γ : Type} {g : α → β → γ} {cs : List α} {ms : List β} (h : cs.length = ms.length) : (List.zipWith g cs ms).length = cs.length := by rw [List.length_zipWith, h, Nat.min_self]
/-- what the right ones are -/
theorem right_and {cs : List Nat} {ms : List Bool} (f : Nat → Bool) (b : Bool) (h : cs.length = ms.length) : Builtin.bitAnd (KB.mk (cs.map f)) (if b = true then KB.mk ms else Builtin.bitNot (KB.mk ms)) = KB.mk (List.zipWith (fun c m => f c && (m == b)) cs ms) := by
  cases b with
  | true =>
    rw [if_pos rfl, KB.and_mk _ _ (by rw [List.length_map, h]), zip_map]
    congr 2
    funext c m
    cases f c <;> cases m <;> rfl
  | false =>
    rw [if_neg (by simp), KB.andn_mk _ _ (by rw [List.length_map, h]), zip_map]
    congr 2
    funext c m
    cases f c <;> cases m <;> rfl
theorem wrong_and {cs : List Nat} {ms : List Bool} (f : Nat → Bool) (b : Bool) (h : cs.length = ms.length) : Builtin.bitAnd (KB.mk (cs.map f)) (Builtin.bitNot (if b = true then KB.mk ms else Builtin.bitNot (KB.mk ms))) = KB.mk (List.zipWith (fun c m => f c && !(m == b)) cs ms) := by
  cases b with
  | true =>
    rw [if_pos rfl, KB.andn_mk _ _ (by rw [List.length_map, h]), zip_map]
    congr 2
    funext c m
    cases f c <;> cases m <;> rfl
  | false =>
    rw [if_neg (by simp), KB.not_not, KB.and_mk _ _ (by rw [List.length_map, h]), zip_map]
    congr 2
    funext c m
    cases f c <;> cases m <;> rfl
abbrev s_answered : Stmt := topS 20
abbrev n_answered : List Str := ["state", "mask", "answer", "lies", "none", "once", "right"]
theorem sc_answered : FnScope n_answered ["state", "mask", "answer", "lies"] (defScope s_answered) := ⟨rfl, rfl, rfl, by decide +kernel, rfl, by decide +kernel, by decide +kernel⟩
theorem ok_answered {f : Addr} {fd : FuncData} (F : Fun K "answered" "answered" s_answered f fd) (T : Bl mg) : FnOk P w K mg base CX0 1 f fd ["state", "mask", "answer", "lies"] spAns := by
  refine F.ok sc_answered (fun vs H Q E h => ?_) (fun cdv A outer s H vs Q E hr h => ?_)
  · obtain ⟨X, v1, v2, v3, v4, l, cs, ms, b, rfl, _⟩ := h
    rfl
  · obtain ⟨X, v1, v2, v3, v4, l, cs, ms, b, rfl, t, r1, r2, r3, r4, hl, lie, q⟩ := h
    refine ⟨_, (pss_cons (ps_asg (pv 0) (pg_tup (n := 2) rfl (pgs_cons (pg_name (i := 4) sc_answered.nd rfl (by first | exact Or.inl rfl | exact Or.inr rfl)) (pgs_cons (pg_name (i := 5) sc_answered.nd rfl (by first | exact Or.inl rfl | exact Or.inr rfl)) pgs_nil))))
    (pss_cons (ps_set (i := 6) sc_answered.nd rfl (by first | exact Or.inl rfl | exact Or.inr rfl) (pe_ifExp (pt_val (pv 2)) (pv 1) (pe_un un_inv (pv 1))))
    (pss_one (ps_ret (pe_tup (pa_cons (pe_op op_and (pv 4) (pv 6)) (pa_cons (pe_op op_or (pe_op op_and (pv 5) (pv 6)) (pe_ifExp (pt_cmpR (op_eqD hr.units) (pv 3) pe_int (nomark _)) (pe_op op_and (pv 4) (pe_un un_inv (pv 6))) pe_int)) pa_nil))))))), ?_⟩
    have En := env4 (N := n_answered) r1 r2 r3 r4 (by decide)
    refine q_asg (g_var (i := 0) (d := stC l cs) En rfl) fun H1 v s1 dv => ?_
    refine g_pair dv fun u w h1 h2 => ?_
    have E1 := ((En.same s1).set (i := 4) h1).set (i := 5) h2
    have t1 := t.mono s1
    refine q_set (i := 6) (d := .int (if b = true then KB.mk ms else Builtin.bitNot (KB.mk ms))) E1 (g_if (gt_B (g_var (i := 2) (d := .bool b) E1 rfl)) (fun hb => g_is (g_var (i := 1) (d := .int (KB.mk ms)) E1 rfl) (by rw [if_pos hb])) fun hb => g_is (g_unI (g := Builtin.bitNot) (g_var (i := 1) (d := .int (KB.mk ms)) E1 rfl)) (by rw [if_neg (by rw [hb]; simp)])) fun H2 v2 s2 E2 => ?_
    have t2 := t1.mono s2
    refine s_ret (X := X) (d := stC l (List.zipWith (fun c m => if m = b then c else c + 1) cs ms)) (g_is (g_tup t2 (ga_cons (g_op t2 (g_var (i := 4) E2 rfl) (g_var (i := 6) E2 rfl) (rd_I0 (g := Builtin.bitAnd))) (ga_cons (g_op t2 (g_op t2 (g_var (i := 5) E2 rfl) (g_var (i := 6) E2 rfl) (rd_I0 (g := Builtin.bitAnd))) (y := .int (if l = 1 then Builtin.bitAnd (KB.mk (cs.map fun c => decide (c = 0))) (Builtin.bitNot (if b = true then KB.mk ms else Builtin.bitNot (KB.mk ms))) else 0)) (g_if (gt_eqI (j := 1) t2 (g_var (i := 3) (d := .int l) E2 rfl) g_int) (fun h => g_is (g_op t2 (g_var (i := 4) E2 rfl) (g_unI (g := Builtin.bitNot) (g_var (i := 6) E2 rfl)) (rd_I0 (g := Builtin.bitAnd))) (by rw [if_pos (of_decide_eq_true h)])) fun h => g_is g_int (by rw [if_neg (of_decide_eq_false h)])) (rd_I0 (g := Builtin.bitOr))) ga_nil)) (by simp)) ?_) fun w3 H3 s3 dw => q w3 H3 ((s1.trans s2).trans s3) dw
    rw [right_and _ b hl, right_and _ b hl, wrong_and _ b hl]
    unfold stC
    rw [map_zip, map_zip]
    have e1 : (fun c m => decide (c = 0) && (m == b)) = fun (c : Nat) (m : Bool) => decide ((if m = b then c else c + 1) = 0) := by
      funext c m
      by_cases h : m = b <;> simp [h]
    congr 2
    · rw [e1]
    · congr 1
      congr 1
      by_cases h : l = 1
      · rw [if_pos h, KB.or_mk (by rw [zip_len hl, zip_len hl]), zip_zip]
        congr 2
        funext c m
        by_cases h2 : m = b
        · simp [h, h2]
        · have h3 : (m == b) = false := by simpa using h2
          simp [h, h2, h3]
      · rw [if_neg h, KB.or_zero]
        congr 2
        funext c m
        simp [h]
/-- who is possible: at most so many wrong ones -/
def leftL (ns : List Str) (cs : List Nat) (l : Int) : List Str := ((ns.zip cs).filter fun p => decide ((p.2 : Int) ≤ l)).map (·.1)
def spLeft : Sp := fun vs H Q _ => ∃ (X : Addr → Prop) (v1 v2 : V) (d : PyData) (ns : List Str) (l : Int) (cs : List Nat), vs = [v1, v2] ∧ Trk X H ∧ DX X H v1 d ∧ DX X H v2 (stC l cs) ∧ Sus d ns ∧ cs.length = ns.length ∧ lieI (.int l) ∧ ∀ w H', Same H H' → DX X H' w (wsD (leftL ns cs l)) → Q w H'
theorem lie_le {l : Int} (h : lieI (.int l)) (c : Nat) : (decide (c = 0) || (decide (l = 1) && decide (c = 1))) = decide ((c : Int) ≤ l) := by
  rcases h with h | h <;> cases h
  · rw [Bool.eq_iff_iff]
    simp
  · rw [Bool.eq_iff_iff]
    simp
    omega
theorem left_enum : ∀ (ns : List Str) (cs : List Nat) (l : Int) (k : Nat), cs.length = ns.length → ((ns.zipIdx k).filter fun p => decide (((cs.getD (p.2 - k) 0 : Nat) : Int) ≤ l)).map (·.1) = leftL ns cs l
  | [], [], _, _, _ => rfl
  | n :: ns, c :: cs, l, k, h => by
    have ih := left_enum ns cs l (k + 1) (by simpa using h)
    unfold leftL at ih ⊢
    rw [List.zipIdx_cons, List.zip_cons_cons]
    have e : (ns.zipIdx (k + 1)).filter (fun p => decide ((((c :: cs).getD (p.2 - k) 0 : Nat) : Int) ≤ l)) = (ns.zipIdx (k + 1)).filter fun p => decide (((cs.getD (p.2 - (k + 1)) 0 : Nat) : Int) ≤ l) := by
      apply List.filter_congr
      intro p hp
      have := List.le_snd_of_mem_zipIdx hp
      rw [show p.2 - k = (p.2 - (k + 1)) + 1 by omega, List.getD_cons_succ]
    by_cases hc : (c : Int) ≤ l
    · rw [List.filter_cons_of_pos (by simpa using hc), List.filter_cons_of_pos (by simpa using hc), List.map_cons, List.map_cons, e, ih]
    · rw [List.filter_cons_of_neg (by simpa using hc), List.filter_cons_of_neg (by simpa using hc), e, ih]
abbrev tTru (K : PySem.W.Frag) (ta : TE) : TT := fun σ H Q => ta σ H fun x H' => ∃ k, TruV K x H' k ∧ Q k H'
-- HINT left_in enum pi_enumQ
-- HINT left_in lctt#1 tTru K (tOp (rI0 fun i j => V.int (Builtin.bitAnd i j)) (tOp (rI (fun _ j => 0 ≤ j) fun i j => V.int (i / 2 ^ j.toNat)) (tVar 2) (tVar 3)) (tC (.int 1)))
abbrev s_left_in : Stmt := topS 21
abbrev n_left_in : List Str := ["suspects", "state", "possible", "place", "name"]
theorem sc_left_in : FnScope n_left_in ["suspects", "state"] (defScope s_left_in) := ⟨rfl, rfl, rfl, by decide +kernel, rfl, by decide +kernel, by decide +kernel⟩
theorem ok_left_in {f : Addr} {fd : FuncData} (F : Fun K "left_in" "left_in" s_left_in f fd) (T : Bl mg) : FnOk P w K mg base CX0 1 f fd ["suspects", "state"] spLeft := by
  refine F.ok sc_left_in (fun vs H Q E h => ?_) (fun cdv A outer s H vs Q E hr h => ?_)
  · obtain ⟨X, v1, v2, d, ns, l, cs, rfl, _⟩ := h
    rfl
  · obtain ⟨X, v1, v2, d, ns, l, cs, rfl, t, r1, r2, S, hl, lie, q⟩ := h
    refine ⟨_, (pss_cons (ps_set (i := 2) sc_left_in.nd rfl (by first | exact Or.inl rfl | exact Or.inr rfl) (pe_op op_or (pe_ix ix_seq (pv 1) pe_int (fun _ _ => rfl)) (pe_ix ix_seq (pv 1) pe_int (fun _ _ => rfl))))
    (pss_one (ps_ret (pe_lc (own := [("place", 3), ("name", 4)]) (g := (gTup K 2 (gCons (gName 3) (gCons (gName 4) gNil)))) (tt := tTru K (tOp (rI0 fun i j => V.int (Builtin.bitAnd i j)) (tOp (rI (fun _ j => 0 ≤ j) fun i j => V.int (i / 2 ^ j.toNat)) (tVar 2) (tVar 3)) (tC (.int 1)))) rfl sc_left_in.nd (pi_enumQ (by rfl) T.b_enumerate (pa_cons (pv 0) pa_nil)) (blkOk_by (N := n_left_in) (sc := defScope s_left_in) (by decide +kernel)) (fun _ _ _ _ _ => (pg_tup (n := 2) rfl (pgs_cons (pg_name (i := 3) sc_left_in.nd rfl (by first | exact Or.inl rfl | exact Or.inr rfl)) (pgs_cons (pg_name (i := 4) sc_left_in.nd rfl (by first | exact Or.inl rfl | exact Or.inr rfl)) pgs_nil)))) (fun _ _ _ _ _ => (pts_one (pt_truth (pe_op op_and (pe_op op_shr (pv 2) (pv 3)) pe_int) (by intro _; rfl)))) (fun _ _ _ _ _ => (pv 4)))))), ?_⟩
    have En := env2 (N := n_left_in) r1 r2 (by decide)
    have few := S.few
    refine q_set (i := 2) (d := .int (KB.mk (cs.map fun (c : Nat) => decide ((c : Int) ≤ l)))) En (g_is (g_op t (g_ixT t (g_var (i := 1) (d := stC l cs) En rfl) g_int rfl) (g_ixT t (g_var (i := 1) (d := stC l cs) En rfl) g_int rfl) (rd_I0 (g := Builtin.bitOr))) ?_) fun H1 v s1 E1 => ?_
    · rw [KB.or_mk (by rw [List.length_map, List.length_map])]
      congr 2
      rw [List.zipWith_map]
      rw [List.zipWith_self]
      exact List.map_congr_left fun c _ => lie_le lie c
    have t1 := t.mono s1
    refine s_ret (X := X) (g_is (g_lc (ds := enumD (itemsD d)) (Γ2 := fun z => [.dat d, .dat (stC l cs), .dat (.int (KB.mk (cs.map fun (c : Nat) => decide ((c : Int) ≤ l)))), .dat (it z 0), .dat (it z 1)]) (fun z => decide (((cs.getD (intOf (it z 0)).toNat 0 : Nat) : Int) ≤ l)) (fun z => it z 1) t1 (gi_enumQ (g_var (i := 0) E1 rfl) S.seq) (by rw [enumD_len, S.its, List.length_map]; omega) (fun H2 s2 z hz => ?_) (fun X2 H2 σ2 z hz t2 E2 => ?_) (fun X2 H2 σ2 z hz hf t2 E2 => g_var (i := 4) E2 rfl)) ?_) fun w3 H3 s3 dw => q w3 H3 (s1.trans s3) dw
    · obtain ⟨i, hi⟩ := List.mem_iff_getElem?.mp hz
      have lt := (List.getElem?_eq_some_iff.mp hi).1
      rw [enumD_len] at lt
      rw [enumD_get (List.getElem?_eq_getElem lt)] at hi
      cases hi
      exact tgt_pair (E1.same s2) (by decide)
    · obtain ⟨i, hi⟩ := List.mem_iff_getElem?.mp hz
      have lt := (List.getElem?_eq_some_iff.mp hi).1
      rw [enumD_len, S.its, List.length_map] at lt
      have e1 : (itemsD d)[i]? = some (.str ns[i]) := by rw [S.its, List.getElem?_map, List.getElem?_eq_getElem lt]; rfl
      rw [enumD_get e1] at hi
      cases hi
      refine gt_is (gt_int (K := K) (g_op t2 (g_op t2 (g_var (i := 2) E2 rfl) (g_var (i := 3) (d := .int (i : Nat)) E2 rfl) (rd_I (g := fun i j => i / 2 ^ j.toNat) (by show (0 : Int) ≤ _; omega))) g_int (rd_I0 (g := Builtin.bitAnd)))) ?_
      have lt2 : i < cs.length := by omega
      rw [show ((i : Nat) : Int).toNat = i by omega, KB.bit_mk (by rw [List.length_map]; exact lt2)]
      show ((if (cs.map fun (c : Nat) => decide ((c : Int) ≤ l))[i]'(by rw [List.length_map]; exact lt2) = true then (1 : Int) else 0) != 0) = decide (((cs.getD i 0 : Nat) : Int) ≤ l)
      rw [List.getElem_map, List.getD_eq_getElem?_getD, List.getElem?_eq_getElem lt2]
      show ((if decide ((cs[i] : Int) ≤ l) = true then (1 : Int) else 0) != 0) = decide ((cs[i] : Int) ≤ l)
      by_cases h : (cs[i] : Int) ≤ l <;> simp [h]
    · rw [S.its, ← left_enum ns cs l 0 hl]
      unfold enumD wsD
      rw [List.zipIdx_map, List.map_map, List.filter_map, List.map_map, List.map_map]
      rfl
end K77

/-! Who is possible, who is never parted. -/
namespace K77
open PySem PySem.Spec PyProof.Rows L2 KD
variable {P : Program} {w : World} {K : PySem.W.Frag} {mg : Str → Option Value} {base : Heap}
section
variable {X : Addr → Prop} {σ : L2.St} {H : Hp} {te : TE} {tz : TS} {D : Ends} {d : PyData}
theorem q_drop (h : G X te σ H d) (k : ∀ H1, Same H H1 → tz D σ H1) : tSeq (tDrop te) tz D σ H := h H (Same.refl H) _ fun v H1 s _ => k H1 s
theorem k_name {i : Nat} {v : V} {Ψ : L2.St → Hp → Prop} (h : Ψ (σ.set i (some v)) H) : gName i v σ H Ψ := h
theorem k_drop1 (h : tSeq (tDrop te) (fun D σ H => D.nx σ H) D σ H) : tDrop te D σ H := h
theorem k_set1 {i : Nat} (h : te σ H fun v H1 => D.nx (σ.set i (some v)) H1) : tAsg te (gName i) D σ H := h
end
theorem ix_seqK {X : Cx} (h : X.K = K) : IxR X (rIx K) := h ▸ ix_seq
/-! ### a target that takes lists and tuples -/
def gAny (K : PySem.W.Frag) (n : Nat) (t : TGs) : TG := fun v σ H Q => gTup K n t v σ H Q ∨ gUnl K n t v σ H Q
theorem pg_any {X : Cx} {es : List Expr} {k : Nat} {pos : Pos} {n : Nat} {t : TGs} (hc : X.calm = true) (hs : PGs X es t) (hn : (assignEach es X.env).length = n := by rfl) (hst : List.findIdx? (·.1) (assignEach es X.env) = none := by rfl) : PG X (.Tuple es k pos) (gAny X.K n t) := by
  exact ⟨fun pins s σ H v u Q I r h => h.elim (fun h => (pg_tup hc hs hn hst).run pins s σ H v u Q I r h) fun h => (pg_unl hc hs hn hst).run pins s σ H v u Q I r h⟩
theorem g_any2 {X : Addr → Prop} {H : Hp} {σ : L2.St} {K : PySem.W.Frag} {i j : Nat} {v : V} {c d e : PyData} (hd : DX X H v c) (hs : isSeq c = true) (hi : itemsD c = [d, e]) {Ψ : L2.St → Hp → Prop} (q : ∀ u w, DX X H u d → DX X H w e → Ψ ((σ.set i (some u)).set j (some w)) H) :
    gAny K 2 (gCons (gName i) (gCons (gName j) gNil)) v σ H Ψ := by
  cases c with
  | tuple ds =>
    have e : ds = [d, e] := hi
    subst e
    exact .inl (g_pair hd q)
  | list ds =>
    have e : ds = [d, e] := hi
    subst e
    obtain ⟨a, xs, rfl, _, ea, rx⟩ := hd.lst_inv
    cases rx with
    | cons h1 rx =>
      cases rx with
      | cons h2 rx =>
        cases rx
        exact .inr ⟨a, _, rfl, SqL.of ea, rfl, _, _, rfl, _, _, rfl, rfl, q _ _ h1 h2⟩
  | _ => cases hs
abbrev s_is_index_of : Stmt := topS 23
abbrev n_is_index_of : List Str := ["thing", "things"]
theorem sc_is_index_of : FnScope n_is_index_of ["thing", "things"] (defScope s_is_index_of) := ⟨rfl, rfl, rfl, by decide +kernel, rfl, by decide +kernel, by decide +kernel⟩
theorem ok_is_index_of {f : Addr} {fd : FuncData} (F : Fun K "is_index_of" "is_index_of" s_is_index_of f fd) (T : Bl mg) (O_is_number : Own P w K mg base CX0 2 "is_number" ["thing"] (sp1 (fun _ => True) fun d => .bool (isNumD d))) : FnOk P w K mg base CX0 3 f fd ["thing", "things"] (sp2 (fun a b => isSeq b = true) fun a b => .bool (isNumD a && decide (intOf a < (lenD b : Int)))) := by
  refine ok2 F sc_is_index_of (by decide) fun cdv A outer s H E X d1 d2 Q hr t hp q => ⟨_, (pss_one (ps_ret (pe_and (pe_own O_is_number hr (by decide) (by rfl) (pa_cons (pv 0) pa_nil)) (pe_one (pe_cmpR op_lt (pv 0) (pe_callB call_len (by rfl) T.b_len boot_len (pa_cons (pv 1) pa_nil)) (nomark _)))))), fun σ En => ?_⟩
  refine s_ret (X := X) (g_and (g_call1 t (g_var (i := 0) En rfl) trivial) fun hb => ?_) q
  rcases isNumD_eq d1 with ⟨i, rfl, _, h2⟩ | ⟨_, h2⟩
  · exact g_cmpI t (g := fun i j => decide (i < j)) (g_var (i := 0) (d := .int i) En rfl) (g_len t (g_var (i := 1) En rfl) (hasLen_seq hp))
  · rw [h2] at hb
    cases hb
/-! ### answers -/
def blOf : PyData → Bool
  | .bool b => b
  | _ => false
def ansOf (z : PyData) : Nat × Bool := ((intOf (it z 0)).toNat, blOf (it z 1))
structure Ans (d : PyData) (ps : List (Nat × Bool)) (n : Nat) : Prop where
  seq : isSeq d = true
  its : (itemsD d).map ansOf = ps
  few : ps.length ≤ 1000
  ok : ∀ z ∈ itemsD d, isSeq z = true ∧ ∃ (i : Nat) (b : Bool), itemsD z = [.int (i : Int), .bool b] ∧ i < n
theorem Ans.len {d : PyData} {ps : List (Nat × Bool)} {n : Nat} (A : Ans d ps n) : (itemsD d).length = ps.length := by rw [← A.its, List.length_map]
theorem ans_at {z : PyData} {i : Nat} {b : Bool} (h : itemsD z = [.int (i : Int), .bool b]) : ansOf z = (i, b) ∧ it z 0 = .int (i : Int) ∧ it z 1 = .bool b := by
  have h0 : it z 0 = .int (i : Int) := by
    unfold it
    rw [h]
    rfl
  have h1 : it z 1 = .bool b := by
    unfold it
    rw [h]
    rfl
  refine ⟨?_, h0, h1⟩
  unfold ansOf
  rw [h0, h1]
  show ((i : Int).toNat, b) = (i, b)
  rw [show (i : Int).toNat = i by omega]
/-- how many answers were wrong, if it is the one -/
def wrongs (x : Str) (as : List (List Str)) (ps : List (Nat × Bool)) : Nat := (ps.filter fun p => decide (x ∈ as.getD p.1 []) != p.2).length
def wrongL (ns : List Str) (as : List (List Str)) (ps : List (Nat × Bool)) : List Nat := ns.map fun x => wrongs x as ps
theorem wrong_step (ns : List Str) (as : List (List Str)) (ps : List (Nat × Bool)) (i : Nat) (b : Bool) : List.zipWith (fun c m => if m = b then c else c + 1) (wrongL ns as ps) (bitsOf ns (as.getD i [])) = wrongL ns as (ps ++ [(i, b)]) := by
  unfold wrongL bitsOf
  rw [List.zipWith_map, List.zipWith_self]
  refine List.map_congr_left fun x _ => ?_
  unfold wrongs
  rw [List.filter_append, List.length_append]
  by_cases h : decide (x ∈ as.getD i []) = b
  · rw [if_pos h, List.filter_cons_of_neg (by simpa using h)]
    rfl
  · rw [if_neg h, List.filter_cons_of_pos (by simpa using h)]
    rfl
def spState : Sp := fun vs H Q _ => ∃ (X : Addr → Prop) (v1 v2 v3 v4 : V) (s a n : PyData) (l : Int) (ns : List Str) (as : List (List Str)) (ps : List (Nat × Bool)), vs = [v1, v2, v3, v4] ∧ Trk X H ∧ DX X H v1 s ∧ DX X H v2 a ∧ DX X H v3 n ∧ DX X H v4 (.int l) ∧ Sus s ns ∧ Ask a as ∧ Ans n ps as.length ∧ lieI (.int l) ∧
  ∀ w H', Same H H' → DX X H' w (stC l (wrongL ns as ps)) → Q w H'
section
variable {X : Addr → Prop} {H : Hp} {σ : L2.St} {ta tb tc td : TE} {E : XK}
theorem g_ans {l : Int} {cs : List Nat} {ms : List Bool} {b : Bool} (t : Trk X H) (h1 : G X ta σ H (stC l cs)) (h2 : G X tb σ H (.int (KB.mk ms))) (h3 : G X tc σ H (.bool b)) (h4 : G X td σ H (.int l)) (hl : cs.length = ms.length) (lie : lieI (.int l)) :
    G X (tCall spAns [] E (tCons ta (tCons tb (tCons tc (tCons td tNil))))) σ H (stC l (List.zipWith (fun c m => if m = b then c else c + 1) cs ms)) :=
  g_call (ga_cons h1 (ga_cons h2 (ga_cons h3 (ga_cons h4 ga_nil)))) fun vs H1 s rs Q q => by
    cases rs with
    | cons r1 rs =>
      cases rs with
      | cons r2 rs =>
        cases rs with
        | cons r3 rs =>
          cases rs with
          | cons r4 rs =>
            cases rs
            exact ⟨X, _, _, _, _, l, cs, ms, b, rfl, t.mono s, r1, r2, r3, r4, hl, lie, q⟩
end
-- HINT state_behind it pi_seq
-- HINT state_behind tgt pg_any
-- HINT state_behind ix (ix_seqK (K := K) rfl)
abbrev s_state_behind : Stmt := topS 24
abbrev n_state_behind : List Str := ["suspects", "askings", "answers", "lies", "index", "masks", "state", "asking", "answer", "thing"]
theorem sc_state_behind : FnScope n_state_behind ["suspects", "askings", "answers", "lies"] (defScope s_state_behind) := ⟨rfl, rfl, rfl, by decide +kernel, rfl, by decide +kernel, by decide +kernel⟩
theorem ok_state_behind {f : Addr} {fd : FuncData} (F : Fun K "state_behind" "state_behind" s_state_behind f fd) (T : Bl mg) (O_is_list : Own P w K mg base CX0 1 "is_list" ["thing"] (sp1 (fun _ => True) fun d => .bool (isSeq d)))
    (O_is_pair : Own P w K mg base CX0 2 "is_pair" ["thing"] (sp1 (fun _ => True) fun d => .bool (isSeq d && decide (lenD d = 2)))) (O_is_index_of : Own P w K mg base CX0 3 "is_index_of" ["thing", "things"] (sp2 (fun a b => isSeq b = true) fun a b => .bool (isNumD a && decide (intOf a < (lenD b : Int)))))
    (O_is_truth : Own P w K mg base CX0 1 "is_truth" ["thing"] (sp1 (fun _ => True) fun d => .bool (isa_bool d))) (O_first_false : Own P w K mg base CX0 1 "first_false" ["tests"] (sp1 Bools fun d => ffD 0 (itemsD d)))
    (O_asked_masks : Own P w K mg base CX0 1 "asked_masks" ["suspects", "askings"] (sp2 (fun s a => (∃ ns, Sus s ns) ∧ ∃ as, Ask a as) fun s a => maskD (nsOf s) (asOf a)))
    (O_start_of : Own P w K mg base CX0 1 "start_of" ["suspects"] (sp1 (fun s => ∃ ns, Sus s ns) fun s => .tuple [.int ((2 : Int) ^ (nsOf s).length - 1), .int 0])) (O_answered : Own P w K mg base CX0 1 "answered" ["state", "mask", "answer", "lies"] spAns) :
    FnOk P w K mg base CX0 4 f fd ["suspects", "askings", "answers", "lies"] spState := by
  refine F.ok sc_state_behind (fun vs H Q E h => ?_) (fun cdv A outer s H vs Q E hr h => ?_)
  · obtain ⟨X, v1, v2, v3, v4, s, a, n, l, ns, as, ps, rfl, _⟩ := h
    rfl
  · obtain ⟨X, v1, v2, v3, v4, ds, da, dn, l, ns, as, ps, rfl, t, r1, r2, r3, r4, S, A2, N3, lie, q⟩ := h
    refine ⟨_, (pss_cons (ps_if (pt_not (pt_val (pe_own O_is_list hr (by decide) (by rfl) (pa_cons (pv 2) pa_nil))))
    (pss_one ps_never) pss_nil)
    (pss_cons (ps_set (i := 4) sc_state_behind.nd rfl (by first | exact Or.inl rfl | exact Or.inr rfl) (pe_own O_first_false hr (by decide) (by rfl) (pa_cons (pe_lc (own := [("thing", 9)]) (g := (gName 9)) (tt := tYes) rfl sc_state_behind.nd (pi_seq (pv 2)) (blkOk_by (N := n_state_behind) (sc := defScope s_state_behind) (by decide +kernel)) (fun _ _ _ _ _ => (pg_name (i := 9) sc_state_behind.nd rfl (by first | exact Or.inl rfl | exact Or.inr rfl))) (fun _ _ _ _ _ => pts_nil) (fun _ _ _ _ _ => (pe_and (pe_own O_is_pair hr (by decide) (by rfl) (pa_cons (pv 9) pa_nil)) (pe_and (pe_own O_is_index_of hr (by decide) (by rfl) (pa_cons (pe_ix (ix_seqK (K := K) rfl) (pv 9) pe_int (fun _ _ => rfl)) (pa_cons (pv 1) pa_nil))) (pe_one (pe_own O_is_truth hr (by decide) (by rfl) (pa_cons (pe_ix (ix_seqK (K := K) rfl) (pv 9) pe_int (fun _ _ => rfl)) pa_nil))))))) pa_nil)))
    (pss_cons (ps_if (pt_cmpR op_notN (pv 4) pe_non (nomark _))
    (pss_one ps_never) pss_nil)
    (pss_cons (ps_set (i := 5) sc_state_behind.nd rfl (by first | exact Or.inl rfl | exact Or.inr rfl) (pe_own O_asked_masks hr (by decide) (by rfl) (pa_cons (pv 0) (pa_cons (pv 1) pa_nil))))
    (pss_cons (ps_set (i := 6) sc_state_behind.nd rfl (by first | exact Or.inl rfl | exact Or.inr rfl) (pe_own O_start_of hr (by decide) (by rfl) (pa_cons (pv 0) pa_nil)))
    (pss_cons (ps_for PassesOwn.never rfl (pi_seq (pv 2)) (pg_any (n := 2) rfl (pgs_cons (pg_name (i := 7) sc_state_behind.nd rfl (by first | exact Or.inl rfl | exact Or.inr rfl)) (pgs_cons (pg_name (i := 8) sc_state_behind.nd rfl (by first | exact Or.inl rfl | exact Or.inr rfl)) pgs_nil)))
    (pss_one (ps_set (i := 6) sc_state_behind.nd rfl (by first | exact Or.inl rfl | exact Or.inr rfl) (pe_own O_answered hr (by decide) (by rfl) (pa_cons (pv 6) (pa_cons (pe_ix (ix_seqK (K := K) rfl) (pv 5) (pv 7) (fun _ _ => rfl)) (pa_cons (pv 8) (pa_cons (pv 3) pa_nil))))))))
    (pss_one (ps_ret (pv 6))))))))), ?_⟩
    have En : EnvOk X H (L2.start n_state_behind [v1, v2, v3, v4]) [.dat ds, .dat da, .dat dn, .dat (.int l), .un, .un, .un, .un, .un, .un] := env4 (N := n_state_behind) r1 r2 r3 r4 (by decide)
    have lp := N3.len
    have few := N3.few
    refine q_if (b := false) (gt_is (gt_not (gt_B (g_call1 t (g_var (i := 2) En rfl) trivial))) (by rw [N3.seq]; rfl)) (fun h => by cases h) fun _ H1 s1 => ?_
    have E1 := En.same s1
    have t1 := t.mono s1
    refine q_set (i := 4) (d := .none) E1 (g_is (g_call1 t1 (d := .list ((itemsD dn).map fun _ => .bool true)) (g_lc1 (Γ2 := fun z => [.dat ds, .dat da, .dat dn, .dat (.int l), .un, .un, .un, .un, .un, .dat z]) (fun _ => .bool true) t1 (gi_seq (g_var (i := 2) E1 rfl) N3.seq) (by omega) (fun H2 s2 z hz => tgt_name (E1.same s2)) (fun X' H2 σ2 z hz t2 E2 => ?_)) ⟨(itemsD dn).map fun _ => true, by simp, by rw [List.length_map]; omega⟩) ?_) fun H2 v2 s2 E2 => ?_
    · obtain ⟨hs, i, b, hi, hn⟩ := N3.ok z hz
      obtain ⟨_, z0, z1⟩ := ans_at hi
      have lz : lenD z = 2 := by rw [lenD_seq hs, hi]; rfl
      have ix : ∀ (j : Nat) (c : PyData), it z j = c → j < 2 → G X' (tOp (rIx K) (tVar 9) (tC (.int (j : Int)))) σ2 H2 c := fun j c e hj => e ▸ g_ix t2 (g_var (i := 9) (d := z) E2 rfl) hs g_int (it_at (i := j) rfl (by rw [hi]; exact hj))
      refine g_is (g_and (a := true) (b := true) (g_is (g_call1 t2 (g_var (i := 9) (d := z) E2 rfl) trivial) (by rw [hs, lz]; rfl)) fun _ => g_and (a := true) (b := true) (g_is (g_call2 t2 (ix 0 _ z0 (by omega)) (g_var (i := 1) (d := da) E2 rfl) A2.seq) ?_) fun _ => g_is (g_call1 t2 (ix 1 _ z1 (by omega)) trivial) rfl) rfl
      show PyData.bool (decide ((0 : Int) ≤ (i : Int)) && decide ((i : Int) < (lenD da : Int))) = _
      rw [A2.len, decide_eq_true (by omega), decide_eq_true (by omega)]
      rfl
    · exact ff_none _ 0 fun b hb => by
        obtain ⟨_, _, rfl⟩ := List.mem_map.mp hb
        rfl
    have t2 := t1.mono s2
    refine q_if (b := false) (gt_is (gt_op t2 (g_var (i := 4) (d := .none) E2 rfl) g_non rb_notN) rfl) (fun h => by cases h) fun _ H3 s3 => ?_
    have E3 := E2.same s3
    have t3 := t2.mono s3
    refine q_set (i := 5) (d := maskD ns as) E3 (g_is (g_call2 t3 (g_var (i := 0) (d := ds) E3 rfl) (g_var (i := 1) (d := da) E3 rfl) ⟨⟨ns, S⟩, ⟨as, A2⟩⟩) (by rw [S.of, A2.of])) fun H4 v4' s4 E4 => ?_
    have t4 := t3.mono s4
    refine q_set (i := 6) (d := stC l (wrongL ns as [])) E4 (g_is (g_call1 t4 (g_var (i := 0) (d := ds) E4 rfl) ⟨ns, S⟩) ?_) fun H5 v5 s5 E5 => ?_
    · rw [start_is l, S.of]
      congr 1
      show List.replicate ns.length 0 = ns.map fun _ => 0
      rw [List.map_const']
    have t5 := t4.mono s5
    have sA := (((s1.trans s2).trans s3).trans s4).trans s5
    refine s_forD (X := X) (gi_seq (g_var (i := 2) (d := dn) E5 rfl) N3.seq) (fun Hb i σ' H' => Same Hb H' ∧ Trk X H' ∧ EnvOk X H' σ' [.dat ds, .dat da, .dat dn, .dat (.int l), .dat .none, .dat (maskD ns as), .dat (stC l (wrongL ns as (ps.take i))), .un, .un, .un]) (fun Hb sb => ⟨Same.refl _, t5.mono sb, E5.same sb⟩) (fun Hb i σ' H' p => ⟨Kp.of p.1, p.2.1⟩) ?_ ?_
    · rintro Hb i x z σ' H' H'' sb hz ⟨p1, p2, E0⟩ s6 dx
      have hi := (List.getElem?_eq_some_iff.mp hz).1
      obtain ⟨hs, k, b, hk, hn⟩ := N3.ok z (List.mem_of_getElem? hz)
      obtain ⟨z2, _, _⟩ := ans_at hk
      have hp : ps[i]? = some (k, b) := by
        rw [← N3.its, List.getElem?_map, hz]
        exact congrArg some z2
      have t6 := p2.mono s6
      refine g_any2 dx hs hk fun u w6 h1 h2 => ?_
      have E6 := ((E0.same s6).set (i := 7) h1).set (i := 8) h2
      refine k_set1 (g_ans (cs := wrongL ns as (ps.take i)) (ms := bitsOf ns (as.getD k [])) (b := b) (l := l) t6 (g_var (i := 6) E6 rfl) (g_ixL t6 (g_var (i := 5) (d := maskD ns as) E6 rfl) (g_var (i := 7) E6 rfl) (atI_nat ?_)) (g_var (i := 8) E6 rfl) (g_var (i := 3) E6 rfl) (by unfold wrongL bitsOf; rw [List.length_map, List.length_map]) lie H'' (Same.refl _) _ fun v7 H7 s7 r7 => ?_)
      · rw [List.getElem?_map, List.getElem?_eq_getElem hn, List.getD_eq_getElem?_getD, List.getElem?_eq_getElem hn]
        rfl
      · refine ⟨(p1.trans s6).trans s7, t6.mono s7, ?_⟩
        rw [wrong_step] at r7
        rw [List.take_succ, hp]
        exact envUn' (envUn' ((E6.same s7).set (i := 6) r7) 7) 8
    · rintro Hb σ' H' sb ⟨p1, p2, E0⟩
      rw [lp, List.take_length] at E0
      exact s_ret (X := X) (D := { nx := fun _ H' => Q .non H', rt := Q }) (g_var (i := 6) E0 rfl) fun w H2 s6 dw => q w H2 (((sA.trans sb).trans p1).trans s6) dw
/-- who can be the one -/
def possL (ns : List Str) (as : List (List Str)) (ps : List (Nat × Bool)) (l : Int) : List Str := ns.filter fun x => decide ((wrongs x as ps : Int) ≤ l)
theorem left_is (ns : List Str) (as : List (List Str)) (ps : List (Nat × Bool)) (l : Int) : leftL ns (wrongL ns as ps) l = possL ns as ps l := by
  unfold leftL wrongL possL
  induction ns with
  | nil => rfl
  | cons n ns ih =>
    rw [List.map_cons, List.zip_cons_cons]
    by_cases h : (wrongs n as ps : Int) ≤ l
    · rw [List.filter_cons_of_pos (by simpa using h), List.filter_cons_of_pos (by simpa using h), List.map_cons, ih]
    · rw [List.filter_cons_of_neg (by simpa using h), List.filter_cons_of_neg (by simpa using h), ih]
def spPoss : Sp := fun vs H Q _ => ∃ (X : Addr → Prop) (v1 v2 v3 v4 : V) (s a n : PyData) (l : Int) (ns : List Str) (as : List (List Str)) (ps : List (Nat × Bool)), vs = [v1, v2, v3, v4] ∧ Trk X H ∧ DX X H v1 s ∧ DX X H v2 a ∧ DX X H v3 n ∧ DX X H v4 (.int l) ∧ Sus s ns ∧ Ask a as ∧ Ans n ps as.length ∧ lieI (.int l) ∧
  ∀ w H', Same H H' → DX X H' w (wsD (possL ns as ps l)) → Q w H'
abbrev s_possible_ones : Stmt := topS 25
abbrev n_possible_ones : List Str := ["suspects", "askings", "answers", "lies"]
theorem sc_possible_ones : FnScope n_possible_ones ["suspects", "askings", "answers", "lies"] (defScope s_possible_ones) := ⟨rfl, rfl, rfl, by decide +kernel, rfl, by decide +kernel, by decide +kernel⟩
/-- the def that stands behind the top with its default -/
theorem ok_possible_ones {f : Addr} {fd : FuncData} (F : FunD K "possible_ones" "possible_ones" (defArgs s_possible_ones) (defBody s_possible_ones) (defScope s_possible_ones) [.int 0] [] f fd) (T : Bl mg)
    (O_check_askings : Own P w K mg base CX0 3 "check_askings" ["suspects", "askings", "lies"] (sp3 (fun s a l => (∃ ns, Sus s ns) ∧ (∃ as, Ask a as) ∧ lieI l) fun _ _ _ => .none)) (O_state_behind : Own P w K mg base CX0 4 "state_behind" ["suspects", "askings", "answers", "lies"] spState)
    (O_left_in : Own P w K mg base CX0 1 "left_in" ["suspects", "state"] spLeft) : FnOk P w K mg base CX0 5 f fd ["suspects", "askings", "answers", "lies"] spPoss := by
  refine F.ok sc_possible_ones (fun vs H Q E h => ?_) (fun cdv A outer s H vs Q E hr h => ?_)
  · obtain ⟨X, v1, v2, v3, v4, s, a, n, l, ns, as, ps, rfl, _⟩ := h
    rfl
  · obtain ⟨X, v1, v2, v3, v4, ds, da, dn, l, ns, as, ps, rfl, t, r1, r2, r3, r4, S, A2, N3, lie, q⟩ := h
    refine ⟨_, PSs.nox (pss_cons (ps_expr (pe_own O_check_askings hr (by decide) (by rfl) (pa_cons (pv 0) (pa_cons (pv 1) (pa_cons (pv 3) pa_nil)))))
    (pss_one (ps_ret (pe_own O_left_in hr (by decide) (by rfl) (pa_cons (pv 0) (pa_cons (pe_own O_state_behind hr (by decide) (by rfl) (pa_cons (pv 0) (pa_cons (pv 1) (pa_cons (pv 2) (pa_cons (pv 3) pa_nil))))) pa_nil)))))), ?_⟩
    have En : EnvOk X H (L2.start n_possible_ones [v1, v2, v3, v4]) [.dat ds, .dat da, .dat dn, .dat (.int l)] := env4 (N := n_possible_ones) r1 r2 r3 r4 (by decide)
    refine q_drop (g_call3 t (g_var (i := 0) En rfl) (g_var (i := 1) En rfl) (g_var (i := 3) En rfl) ⟨⟨ns, S⟩, ⟨as, A2⟩, lie⟩) fun H1 s1 => ?_
    have E1 := En.same s1
    have t1 := t.mono s1
    refine s_ret (X := X) (d := wsD (possL ns as ps l)) (g_call (ga_cons (g_var (i := 0) (d := ds) E1 rfl) (ga_cons (g_call (d := stC l (wrongL ns as ps)) (ga_cons (g_var (i := 0) (d := ds) E1 rfl) (ga_cons (g_var (i := 1) (d := da) E1 rfl) (ga_cons (g_var (i := 2) (d := dn) E1 rfl) (ga_cons (g_var (i := 3) (d := .int l) E1 rfl) ga_nil)))) fun vs H2 s2 rs Q2 q2 => ?_) ga_nil)) fun vs H2 s2 rs Q2 q2 => ?_) fun w H2 s2 dw => q w H2 (s1.trans s2) dw
    · cases rs with
      | cons u1 rs =>
        cases rs with
        | cons u2 rs =>
          cases rs with
          | cons u3 rs =>
            cases rs with
            | cons u4 rs =>
              cases rs
              exact ⟨X, _, _, _, _, ds, da, dn, l, ns, as, ps, rfl, t1.mono s2, u1, u2, u3, u4, S, A2, N3, lie, q2⟩
    · cases rs with
      | cons u1 rs =>
        cases rs with
        | cons u2 rs =>
          cases rs
          exact ⟨X, _, _, ds, ns, l, wrongL ns as ps, rfl, t1.mono s2, u1, u2, S, by unfold wrongL; rw [List.length_map], lie, fun w H3 s3 dw => q2 w H3 s3 (by rw [← left_is]; exact dw)⟩
end K77

/-! Who is never parted. -/
namespace K77
open PySem PySem.Spec PyProof.Rows L2 KD
variable {P : Program} {w : World} {K : PySem.W.Frag} {mg : Str → Option Value} {base : Heap}
/-- the first pair of which f holds -/
def Fst (n : Nat) (f : Nat → Nat → Bool) : Option (Nat × Nat) → Prop
  | none => ∀ i j, i < j → j < n → f i j = false
  | some (i, j) => i < j ∧ j < n ∧ f i j = true ∧ ∀ i' j', i' < j' → j' < n → f i' j' = true → i < i' ∨ (i = i' ∧ j ≤ j')
theorem Fst.uniq {n : Nat} {f : Nat → Nat → Bool} : ∀ {o o' : Option (Nat × Nat)}, Fst n f o → Fst n f o' → o = o'
  | none, none, _, _ => rfl
  | none, some (i, j), h, k => by
    have := h i j k.1 k.2.1
    rw [k.2.2.1] at this
    cases this
  | some (i, j), none, h, k => by
    have := k i j h.1 h.2.1
    rw [h.2.2.1] at this
    cases this
  | some (i, j), some (i', j'), h, k => by
    have a := h.2.2.2 i' j' k.1 k.2.1 k.2.2.1
    have b := k.2.2.2 i j h.1 h.2.1 h.2.2.1
    have e1 : i = i' := by omega
    have e2 : j = j' := by omega
    rw [e1, e2]
/-- i and j stand in the same askings -/
def sameB (ns : List Str) (as : List (List Str)) (i j : Nat) : Bool := as.all fun a => decide (ns.getD i "" ∈ a) == decide (ns.getD j "" ∈ a)
def optD (ns : List Str) : Option (Nat × Nat) → PyData
  | none => .none
  | some (i, j) => .tuple [.str (ns.getD i ""), .str (ns.getD j "")]
def toldR (n : Str) (as : List (List Str)) : List Int := as.map fun a => if n ∈ a then 1 else 0
def toldD (ns : List Str) (as : List (List Str)) : PyData := .list (ns.map fun n => .list ((toldR n as).map PyData.int))
theorem eqv_ints : ∀ xs ys : List Int, PyData.eqvAll (xs.map PyData.int) (ys.map PyData.int) = decide (xs = ys)
  | [], [] => by simp [PyData.eqvAll]
  | [], _ :: _ => by simp [PyData.eqvAll]
  | _ :: _, [] => by simp [PyData.eqvAll]
  | x :: xs, y :: ys => by
    rw [List.map_cons, List.map_cons, PyData.eqvAll, eqv_ints xs ys, eqv_int]
    by_cases h : x = y <;> by_cases h2 : xs = ys <;> simp [h, h2]
theorem told_same (n m : Str) (as : List (List Str)) : decide (toldR n as = toldR m as) = as.all fun a => decide (n ∈ a) == decide (m ∈ a) := by
  induction as with
  | nil => rfl
  | cons a as ih =>
    have e : toldR n (a :: as) = toldR m (a :: as) ↔ (if n ∈ a then (1 : Int) else 0) = (if m ∈ a then 1 else 0) ∧ toldR n as = toldR m as := by
      unfold toldR
      rw [List.map_cons, List.map_cons, List.cons.injEq]
    rw [decide_eq_decide.mpr e, Bool.decide_and, ih, List.all_cons]
    congr 1
    by_cases h : n ∈ a <;> by_cases h2 : m ∈ a <;> simp [h, h2]
theorem sh_ints (xs : List Int) : noDict (.list (xs.map PyData.int)) = true ∧ SeqAt.shaped (.list (xs.map PyData.int)) = true := by
  have lf : ∀ d ∈ xs.map PyData.int, leaf d = true := fun d hd => by
    obtain ⟨i, _, rfl⟩ := List.mem_map.mp hd
    rfl
  exact ⟨noDicts_leaf lf, shaped_leafs lf⟩
def scTold : Scope := { kind := ScopeKind.function, names := [(".0", NameKind.local), ("place", NameKind.cell), ("masks", NameKind.cell)], isGenerator := false, isCoroutine := false }
def spParted : Sp := fun vs H Q _ => ∃ (X : Addr → Prop) (v1 v2 : V) (s a : PyData) (ns : List Str) (as : List (List Str)), vs = [v1, v2] ∧ Trk X H ∧ DX X H v1 s ∧ DX X H v2 a ∧ Sus s ns ∧ Ask a as ∧ ∀ o w H', Fst ns.length (sameB ns as) o → Same H H' → DX X H' w (optD ns o) → Q w H'
-- HINT never_parted enum pi_enumQ
-- HINT never_parted lcsc#2 scTold
-- HINT never_parted ix (ix_seqK (K := K) rfl)
-- HINT never_parted lcte#1 (tLc (iList K (tVar 2)) (gName 7) tYes (tOp (rI0 fun i j => V.int (Builtin.bitAnd i j)) (tOp (rI (fun _ j => 0 ≤ j) fun i j => V.int (i / 2 ^ j.toNat)) (tVar 7) (tVar 4)) (tC (.int 1))) [7])
abbrev s_never_parted : Stmt := topS 26
abbrev n_never_parted : List Str := ["suspects", "askings", "masks", "told", "place", "name", "other", "mask"]
theorem sc_never_parted : FnScope n_never_parted ["suspects", "askings"] (defScope s_never_parted) := ⟨rfl, rfl, rfl, by decide +kernel, rfl, by decide +kernel, by decide +kernel⟩
theorem ok_never_parted {f : Addr} {fd : FuncData} (F : Fun K "never_parted" "never_parted" s_never_parted f fd) (T : Bl mg) (O_check_askings : Own P w K mg base CX0 3 "check_askings" ["suspects", "askings", "lies"] (sp3 (fun s a l => (∃ ns, Sus s ns) ∧ (∃ as, Ask a as) ∧ lieI l) fun _ _ _ => .none))
    (O_asked_masks : Own P w K mg base CX0 1 "asked_masks" ["suspects", "askings"] (sp2 (fun s a => (∃ ns, Sus s ns) ∧ ∃ as, Ask a as) fun s a => maskD (nsOf s) (asOf a))) : FnOk P w K mg base CX0 4 f fd ["suspects", "askings"] spParted := by
  refine F.ok sc_never_parted (fun vs H Q E h => ?_) (fun cdv A outer s H vs Q E hr h => ?_)
  · obtain ⟨X, v1, v2, s, a, ns, as, rfl, _⟩ := h
    rfl
  · obtain ⟨X, v1, v2, ds, da, ns, as, rfl, t, r1, r2, S, A2, q⟩ := h
    refine ⟨_, (pss_cons (ps_expr (pe_own O_check_askings hr (by decide) (by rfl) (pa_cons (pv 0) (pa_cons (pv 1) (pa_cons pe_int pa_nil)))))
    (pss_cons (ps_set (i := 2) sc_never_parted.nd rfl (by first | exact Or.inl rfl | exact Or.inr rfl) (pe_own O_asked_masks hr (by decide) (by rfl) (pa_cons (pv 0) (pa_cons (pv 1) pa_nil))))
    (pss_cons (ps_setLc (i := 3) (own := [("place", 4)]) (g := (gName 4)) (tt := tYes) (te := (tLc (iList K (tVar 2)) (gName 7) tYes (tOp (rI0 fun i j => V.int (Builtin.bitAnd i j)) (tOp (rI (fun _ j => 0 ≤ j) fun i j => V.int (i / 2 ^ j.toNat)) (tVar 7) (tVar 4)) (tC (.int 1))) [7])) rfl sc_never_parted.nd rfl rfl (sw_true rfl rfl rfl (by decide +kernel)) (pi_range1 (by rfl) T.b_range (pa_cons (pe_callB call_len (by rfl) T.b_len boot_len (pa_cons (pv 0) pa_nil)) pa_nil)) (blkOk_by (N := n_never_parted) (sc := defScope s_never_parted) (by decide +kernel)) (fun _ _ _ _ _ => (pg_name (i := 4) sc_never_parted.nd rfl (by first | exact Or.inl rfl | exact Or.inr rfl))) (fun _ _ _ _ _ => pts_nil) (fun _ _ _ _ _ => (by exact (pe_lc (own := [("mask", 7)]) (g := (gName 7)) (tt := tYes) rfl sc_never_parted.nd (pi_list (pv 2)) (blkOk_by (N := n_never_parted) (sc := scTold) (by decide +kernel)) (fun _ _ _ _ _ => (pg_name (i := 7) sc_never_parted.nd rfl (by first | exact Or.inl rfl | exact Or.inr rfl))) (fun _ _ _ _ _ => pts_nil) (fun _ _ _ _ _ => (pe_op op_and (pe_op op_shr (pv 7) (pv 4)) pe_int))))))
    (pss_cons (ps_for PassesOwn.never rfl (pi_enumQ (by rfl) T.b_enumerate (pa_cons (pv 0) pa_nil)) (pg_tup (n := 2) rfl (pgs_cons (pg_name (i := 4) sc_never_parted.nd rfl (by first | exact Or.inl rfl | exact Or.inr rfl)) (pgs_cons (pg_name (i := 5) sc_never_parted.nd rfl (by first | exact Or.inl rfl | exact Or.inr rfl)) pgs_nil)))
    (pss_one (ps_for PassesOwn.never rfl (pi_range2 (by rfl) T.b_range (pa_cons (pe_op op_addA (pv 4) pe_int) (pa_cons (pe_callB call_len (by rfl) T.b_len boot_len (pa_cons (pv 0) pa_nil)) pa_nil))) (pg_name (i := 6) sc_never_parted.nd rfl (by first | exact Or.inl rfl | exact Or.inr rfl))
    (pss_one (ps_if (pt_cmpR (op_eqD hr.units) (pe_ix (ix_seqK (K := K) rfl) (pv 3) (pv 4) (fun _ _ => rfl)) (pe_ix (ix_seqK (K := K) rfl) (pv 3) (pv 6) (fun _ _ => rfl)) (nomark _))
    (pss_one (ps_ret (pe_tup (pa_cons (pv 5) (pa_cons (pe_ix (ix_seqK (K := K) rfl) (pv 0) (pv 6) (fun _ _ => rfl)) pa_nil))))) pss_nil)))))
    (pss_one (ps_ret pe_non)))))), ?_⟩
    have En : EnvOk X H (L2.start n_never_parted [v1, v2]) [.dat ds, .dat da, .un, .un, .un, .un, .un, .un] := env2 (N := n_never_parted) r1 r2 (by decide)
    have few := S.few
    have few2 := A2.few
    refine q_drop (g_call3 t (g_var (i := 0) En rfl) (g_var (i := 1) En rfl) g_int ⟨⟨ns, S⟩, ⟨as, A2⟩, .inl rfl⟩) fun H1 s1 => ?_
    have E1 := En.same s1
    have t1 := t.mono s1
    refine q_set (i := 2) (d := maskD ns as) E1 (g_is (g_call2 t1 (g_var (i := 0) (d := ds) E1 rfl) (g_var (i := 1) (d := da) E1 rfl) ⟨⟨ns, S⟩, ⟨as, A2⟩⟩) (by rw [S.of, A2.of])) fun H2 v2' s2 E2 => ?_
    have t2 := t1.mono s2
    refine q_set (i := 3) (d := toldD ns as) E2 (g_is (g_lc1 (ds := rangeD 0 ns.length) (Γ2 := fun z => [.dat ds, .dat da, .dat (maskD ns as), .un, .dat z, .un, .un, .un]) (fun z => .list ((toldR (ns.getD (intOf z).toNat "") as).map PyData.int)) t2 (by
        have h := gi_range1 (n := (ns.length : Int)) (g_is (g_len (K := K) t2 (g_var (i := 0) (d := ds) E2 rfl) (hasLen_seq S.seq)) (by rw [S.len])) (by omega) (by omega)
        rw [show ((ns.length : Int)).toNat = ns.length by omega] at h
        exact h) (by rw [rangeD_len]; omega) (fun H3 s3 z hz => tgt_name (E2.same s3)) (fun X' H3 σ2 z hz t3 E3 => ?_)) ?_) fun H3 v3 s3 E3 => ?_
    · obtain ⟨i, hi⟩ := List.mem_iff_getElem?.mp hz
      have lt := (List.getElem?_eq_some_iff.mp hi).1
      rw [rangeD_len] at lt
      rw [rangeD_get lt] at hi
      cases hi
      have ei : (0 : Int) + (i : Int) = (i : Int) := by omega
      rw [ei] at E3 ⊢
      refine g_is (g_lc1 (ds := as.map fun a => .int (KB.mk (bitsOf ns a))) (Γ2 := fun z => [.dat ds, .dat da, .dat (maskD ns as), .un, .dat (.int (i : Int)), .un, .un, .dat z]) (fun z => .int (Builtin.bitAnd (intOf z / 2 ^ i) 1)) t3 (gi_list (g_var (i := 2) (d := maskD ns as) E3 rfl)) (by rw [List.length_map]; omega) (fun H4 s4 z hz => tgt_name (E3.same s4)) (fun X4 H4 σ4 z hz t4 E4 => ?_)) ?_
      · obtain ⟨a, _, rfl⟩ := List.mem_map.mp hz
        exact g_is (g_op t4 (g_op t4 (g_var (i := 7) E4 rfl) (g_var (i := 4) (d := .int (i : Int)) E4 rfl) (rd_I (g := fun i j => i / 2 ^ j.toNat) (by show (0 : Int) ≤ _; omega))) g_int (rd_I0 (g := Builtin.bitAnd))) (by rw [show ((i : Nat) : Int).toNat = i by omega]; rfl)
      · rw [List.map_map]
        unfold toldR
        rw [List.map_map]
        congr 1
        refine List.map_congr_left fun a _ => ?_
        show PyData.int (Builtin.bitAnd (KB.mk (bitsOf ns a) / 2 ^ i) 1) = PyData.int (if ns.getD (i : Int).toNat "" ∈ a then 1 else 0)
        rw [KB.bit_mk (by unfold bitsOf; rw [List.length_map]; exact lt), show ((i : Nat) : Int).toNat = i by omega, List.getD_eq_getElem?_getD, List.getElem?_eq_getElem lt]
        unfold bitsOf
        rw [List.getElem_map]
        show PyData.int (if decide (ns[i] ∈ a) = true then 1 else 0) = PyData.int (if ns[i] ∈ a then 1 else 0)
        by_cases h : ns[i] ∈ a <;> simp [h]
    · unfold toldD rangeD
      rw [List.map_map]
      congr 1
      apply List.ext_getElem (by rw [List.length_map, List.length_map, List.length_range])
      intro i h1 h2
      rw [List.getElem_map, List.getElem_map, List.getElem_range]
      show PyData.list ((toldR (ns.getD (0 + (i : Int)).toNat "") as).map PyData.int) = _
      have lt : i < ns.length := by simpa using h2
      rw [show ((0 : Int) + (i : Nat)).toNat = i by omega, List.getD_eq_getElem?_getD, List.getElem?_eq_getElem lt]
      rfl
    have t3 := t2.mono s3
    have s03 := (s1.trans s2).trans s3
    have sh := sh_ints
    refine s_forD (X := X) (gi_enumQ (g_var (i := 0) (d := ds) E3 rfl) S.seq) (fun Hb i σ' H' => Same Hb H' ∧ Trk X H' ∧ EnvOk X H' σ' [.dat ds, .dat da, .dat (maskD ns as), .dat (toldD ns as), .un, .un, .un, .un] ∧ ∀ a b, a < i → a < b → b < ns.length → sameB ns as a b = false) (fun Hb sb => ⟨Same.refl _, t3.mono sb, E3.same sb, fun a b h => by omega⟩) (fun Hb i σ' H' p => ⟨Kp.of p.1, p.2.1⟩) ?_ ?_
    · rintro Hb i x z σ' H' H'' sb hz ⟨p1, p2, E0, p4⟩ s4 dx
      have lt := (List.getElem?_eq_some_iff.mp hz).1
      rw [enumD_len, S.its, List.length_map] at lt
      have e1 : (itemsD ds)[i]? = some (.str ns[i]) := by rw [S.its, List.getElem?_map, List.getElem?_eq_getElem lt]; rfl
      rw [enumD_get e1] at hz
      cases hz
      have t4 := p2.mono s4
      refine g_pair dx fun u w5 h1 h2 => ?_
      have E4 := ((E0.same s4).set (i := 4) h1).set (i := 5) h2
      refine s_forD (X := X) (ds := rangeD ((i : Int) + 1) (ns.length - (i + 1))) (by
        have h := gi_range2 (a := (i : Int) + 1) (n := (ns.length : Int)) (g_addI t4 (g_var (i := 4) (d := .int (i : Int)) E4 rfl) g_int) (g_is (g_len (K := K) t4 (g_var (i := 0) (d := ds) E4 rfl) (hasLen_seq S.seq)) (by rw [S.len])) (by omega)
        rw [show ((ns.length : Int) - ((i : Int) + 1)).toNat = ns.length - (i + 1) by omega] at h
        exact h) (fun Hc k σ' H9 => Same Hc H9 ∧ Trk X H9 ∧ EnvOk X H9 σ' [.dat ds, .dat da, .dat (maskD ns as), .dat (toldD ns as), .dat (.int (i : Int)), .dat (.str ns[i]), .un, .un] ∧ ∀ b, i < b → b < i + 1 + k → b < ns.length → sameB ns as i b = false) (fun Hc sc => ⟨Same.refl _, t4.mono sc, E4.same sc, fun b h h' => by omega⟩) (fun Hc i σ' H' p => ⟨Kp.of p.1, p.2.1⟩) ?_ ?_
      · rintro Hc k x' z' σ2 H2' H2'' sc hz' ⟨r1', r2', E5, r4'⟩ s5 dx'
        have ltk := (List.getElem?_eq_some_iff.mp hz').1
        rw [rangeD_len] at ltk
        rw [rangeD_get ltk] at hz'
        cases hz'
        have t5 := r2'.mono s5
        refine k_name ?_
        have ej : (i : Int) + 1 + (k : Int) = ((i + 1 + k : Nat) : Int) := by omega
        rw [ej] at dx'
        have E6 := (E5.same s5).set (i := 6) dx'
        have ltj : i + 1 + k < ns.length := by omega
        have row : ∀ {H6 σ6} {Γ : List Sv} {te : TE} {j : Nat}, Trk X H6 → EnvOk X H6 σ6 Γ → Γ[3]? = some (.dat (toldD ns as)) → G X te σ6 H6 (.int (j : Int)) → (hj : j < ns.length) → G X (tOp (rIx K) (tVar 3) te) σ6 H6 (.list ((toldR ns[j] as).map PyData.int)) := fun t E e ge hj => g_ixL (ds := ns.map fun n => .list ((toldR n as).map PyData.int)) t (g_var E e) ge (atI_nat (by rw [List.getElem?_map, List.getElem?_eq_getElem hj]; rfl))
        have gd : ∀ j (hj : j < ns.length), ns.getD j "" = ns[j] := fun j hj => by rw [List.getD_eq_getElem?_getD, List.getElem?_eq_getElem hj]; rfl
        refine s_if (b := sameB ns as i (i + 1 + k)) (gt_is (gt_eqD t5 (row t5 E6 rfl (g_var (i := 4) E6 rfl) lt) (row t5 E6 rfl (g_var (i := 6) E6 rfl) ltj) (sh _).1 (sh _).1 (sh _).2 (sh _).2) ?_) (fun hb H6 s6 => ?_) fun hb H6 s6 => ?_
        · show PyData.eqv (.list _) (.list _) = _
          rw [show PyData.eqv (.list ((toldR ns[i] as).map PyData.int)) (.list ((toldR ns[i + 1 + k] as).map PyData.int)) = PyData.eqvAll ((toldR ns[i] as).map PyData.int) ((toldR ns[i + 1 + k] as).map PyData.int) by simp [PyData.eqv], eqv_ints, told_same]
          unfold sameB
          rw [gd i lt, gd _ ltj]
        · have E7 := E6.same s6
          have t7 := t5.mono s6
          refine s_ret (X := X) (d := optD ns (some (i, i + 1 + k))) (g_is (g_tup t7 (ga_cons (g_var (i := 5) E7 rfl) (ga_cons (g_ix (z := .str ns[i + 1 + k]) t7 (g_var (i := 0) (d := ds) E7 rfl) S.seq (g_var (i := 6) E7 rfl) (atI_nat (by rw [S.its, List.getElem?_map, List.getElem?_eq_getElem ltj]; rfl))) ga_nil)) (by simp)) (by show PyData.tuple [.str ns[i], .str ns[i + 1 + k]] = PyData.tuple [.str (ns.getD i ""), .str (ns.getD (i + 1 + k) "")]; rw [gd i lt, gd _ ltj])) fun w8 H8 s8 dw => q (some (i, i + 1 + k)) w8 H8 ⟨by omega, ltj, hb, fun i' j' k1 k2 k3 => ?_⟩ ((((((((s03.trans sb).trans p1).trans s4).trans sc).trans r1').trans s5).trans s6).trans s8) dw
          by_cases c1 : i' < i
          · rw [p4 i' j' c1 k1 k2] at k3
            cases k3
          · by_cases c2 : i' = i
            · subst c2
              by_cases c3 : j' < i' + 1 + k
              · rw [r4' j' k1 c3 k2] at k3
                cases k3
              · exact .inr ⟨rfl, by omega⟩
            · exact .inl (by omega)
        · refine ⟨(r1'.trans s5).trans s6, t5.mono s6, envUn' (E6.same s6) 6, fun b b1 b2 b3 => ?_⟩
          by_cases c : b = i + 1 + k
          · subst c
            exact hb
          · exact r4' b b1 (by omega) b3
      · rintro Hc σ2 H2' sc ⟨r1', r2', E5, r4'⟩
        rw [rangeD_len] at r4'
        refine ⟨(((p1.trans s4).trans sc).trans r1'), r2', envUn' (envUn' E5 4) 5, fun a b a1 a2 a3 => ?_⟩
        by_cases c : a = i
        · subst c
          exact r4' b a2 (by omega) a3
        · exact p4 a b (by omega) a2 a3
    · rintro Hb σ' H' sb ⟨p1, p2, E0, p4⟩
      rw [enumD_len, S.its, List.length_map] at p4
      exact s_ret (X := X) (σ := σ') (D := { nx := fun _ H' => Q .non H', rt := Q }) (d := .none) g_non fun w H2 s6 dw => q none w H2 (fun a b h1 h2 => p4 a b (by omega) h1 h2) (((s03.trans sb).trans p1).trans s6) dw
end K77

/-! Words for what draws. -/
namespace K77
open PySem PySem.Spec PyProof.Rows L2 KD
variable {K : PySem.W.Frag}
section
variable {X : Addr → Prop} {H : Hp} {σ : L2.St} {Γ : List Sv} {st cl : Addr} {n : Nat} {ta tb tc te : TE} {E : XK} {d : PyData} {Q : VK} {tz tu : TS} {D : Ends} {tt : TT}
theorem c_mixed {ds : List PyData} {ts tm : TE} (S : Sg X st cl n H) (hv : GV ts σ H (.ref st)) (hm : G X tm σ H (.list ds)) (hn : n + ds.length ≤ 1000000000) (h1 : ds.length < 1000000)
    (k : ∀ w es H', es.Perm ds → Sg X st cl (n + ds.length) H' → KpS st cl H H' → DX X H' w (.list es) → Nw H w → Q w H') : tCall spMixed [] E (tCons ts (tCons tm tNil)) σ H Q :=
  hv H (Same.refl H) _ (hm H (Same.refl H) _ fun v H1 s1 r => ⟨X, st, cl, n, v, ds, rfl, S.same s1, hn, r, h1, fun w es H' hp S2 kk dw nw => k w es H' hp S2 ((KpS.of s1).trans kk) dw (Nw.back s1 nw)⟩)
theorem k_sl {to th : TO} {rs : V → Option Int → Option Int → Hp → VK → Prop} (h : te σ H fun x H1 => to σ H1 fun l H2 => th σ H2 fun u H3 => rs x l u H3 Q) : tSl rs te to th σ H Q := h
theorem k_some {Q' : Option Int → Hp → Prop} (h : te σ H fun v H1 => ∃ i : Int, v = .int i ∧ Q' (some i) H1) : tPart te σ H Q' := h
theorem cutP_to (ds : List PyData) {q : Int} (hq : 0 ≤ q) : cutPD ds none (some q) = ds.take q.toNat := by
  show (ds.drop (HT.sIx ds.length 0 none)).take (HT.sIx ds.length ds.length (some q) - HT.sIx ds.length 0 none) = _
  rw [sIx_nn hq]
  show (ds.drop 0).take (min q.toNat ds.length - 0) = _
  rw [List.drop_zero, Nat.sub_zero]
  by_cases h : q.toNat ≤ ds.length
  · rw [Nat.min_eq_left h]
  · rw [Nat.min_eq_right (by omega), List.take_length, List.take_of_length_le (by omega)]
theorem q_ifJ {b : Bool} (h : GT tt σ H b) (J : L2.St → Hp → Prop) (hJ : ∀ σ H, J σ H → tz D σ H) (h1 : b = true → (∀ σ H, J σ H → tz D σ H) → ∀ H1, Same H H1 → tu { D with nx := tz D } σ H1) (h0 : b = false → ∀ H1, Same H H1 → J σ H1) : tSeq (tIfS tt tu tNext) tz D σ H :=
  q_if h (fun e H1 s => h1 e hJ H1 s) fun e H1 s => hJ σ H1 (h0 e H1 s)
/-- a for over a list that is new -/
def ForL (K : PySem.W.Frag) (g : TG) (tb : TS) (D : Ends) (σ : L2.St) (v : V) (H1 : Hp) : Prop := ∃ a, v = .ref a ∧ (∃ xs, SqL K H1 a xs) ∧ tFor (fun _ H R => R (Itl K a) H) g tb D σ H1
theorem k_forL {g : TG} {tu : TS} (h : te σ H fun v H1 => ForL K g tu D σ v H1) : tFor (iList K te) g tu D σ H := h
theorem k_forQ {g : TG} {tu : TS} (h : te σ H fun v H1 => ForL K g tu { D with nx := tz D } σ v H1) : tSeq (tFor (iList K te) g tu) tz D σ H := h
theorem forL_it {g : TG} {tu : TS} {a : Addr} {xs : List V} (Pv : Nat → L2.St → Hp → Prop) (hH : H a = some (.lst xs)) (h0 : Pv 0 σ H) (hG : ∀ i σ' H', Pv i σ' H' → H' a = some (.lst xs))
    (hs : ∀ i x σ' H', xs[i]? = some x → Pv i σ' H' → g x σ' H' fun σ2 H2 => tu { D with nx := Pv (i + 1), ct := Pv (i + 1), bk := D.nx } σ2 H2) (hd : ∀ σ' H', Pv xs.length σ' H' → D.nx σ' H') : ForL K g tu D σ (.ref a) H := by
  refine ⟨a, rfl, ⟨xs, SqL.of hH⟩, ?_⟩
  refine for_it walk_list Pv h0 (fun i σ' H' _ p => SqL.of (hG i σ' H' p)) (fun i x σ' H' H'' _ p y => ?_) hd
  obtain ⟨rfl, hx⟩ := y
  exact hs i x σ' _ hx p
/-- a for over a tuple that is new -/
def ForT (K : PySem.W.Frag) (g : TG) (tb : TS) (D : Ends) (σ : L2.St) (v : V) (H1 : Hp) : Prop := ∃ a, v = .ref a ∧ (∃ xs, SqT K H1 a xs) ∧ tFor (fun _ H R => R (Itt K a) H) g tb D σ H1
theorem k_forT {g : TG} {tu : TS} (h : te σ H fun v H1 => ForT K g tu D σ v H1) : tFor (iTup K te) g tu D σ H := h
theorem k_forTQ {g : TG} {tu : TS} (h : te σ H fun v H1 => ForT K g tu { D with nx := tz D } σ v H1) : tSeq (tFor (iTup K te) g tu) tz D σ H := h
theorem forT_it {g : TG} {tu : TS} {a : Addr} {xs : List V} (Pv : Nat → L2.St → Hp → Prop) (hH : H a = some (.tup xs)) (h0 : Pv 0 σ H) (hG : ∀ i σ' H', Pv i σ' H' → H' a = some (.tup xs))
    (hs : ∀ i x σ' H', xs[i]? = some x → Pv i σ' H' → g x σ' H' fun σ2 H2 => tu { D with nx := Pv (i + 1), ct := Pv (i + 1), bk := D.nx } σ2 H2) (hd : ∀ σ' H', Pv xs.length σ' H' → D.nx σ' H') : ForT K g tu D σ (.ref a) H := by
  refine ⟨a, rfl, ⟨xs, SqT.of hH⟩, ?_⟩
  refine for_it walk_tup Pv h0 (fun i σ' H' _ p => SqT.of (hG i σ' H' p)) (fun i x σ' H' H'' _ p y => ?_) hd
  obtain ⟨rfl, hx⟩ := y
  exact hs i x σ' _ hx p
/-- a for over range(j), j told -/
def ForR (g : TG) (tb : TS) (D : Ends) (σ : L2.St) (vs : List V) (H1 : Hp) : Prop := ∃ j : Int, vs = [.int j] ∧ -(2 ^ 62) ≤ j ∧ j < 2 ^ 62 ∧ tFor (fun _ H R => R (Itr 0 j.toNat) H) g tb D σ H1
theorem k_forR {tl : TA} {g : TG} (h : tl σ H fun vs H1 => ForR g tu { D with nx := tz D } σ vs H1) : tSeq (tFor (iRng1 tl) g tu) tz D σ H := h
theorem k_lst {tl : TA} (h : tl σ H fun vs H1 => vs.length ≤ sizeLine ∧ ∀ p, H1 p = none → Q (.ref p) (upd H1 p (.lst vs))) : tLst tl σ H Q := h
theorem k_tup {tl : TA} (h : tl σ H fun vs H1 => vs.length ≤ sizeLine ∧ ∀ p, H1 p = none → Q (.ref p) (upd H1 p (.tup vs))) : tTup tl σ H Q := h
theorem k_nil {Qa : List V → Hp → Prop} (h : Qa [] H) : tNil σ H Qa := h
theorem walkD_list {a : Addr} {ds : List PyData} (hd : DX X H (.ref a) (.list ds)) : WalkD X (Itl K a) H ds := by
  obtain ⟨a', xs, ea, n, e, rx⟩ := hd.lst_inv
  cases ea
  refine ⟨_, _, by rw [← rx.length]; exact walk_list, fun X' m H3 k t => ?_⟩
  have n' : ¬ X' a := fun z => (m a z).elim n fun q => by rw [e] at q; cases q
  refine ⟨SqL.of (k a _ n' e), fun i x H4 y => ?_⟩
  obtain ⟨rfl, hx⟩ := y
  obtain ⟨d, h1, h2⟩ := rx.getV hx
  exact ⟨Same.refl _, d, h1, (h2.grow m).mono k⟩
theorem k_lcL {g : TG} {us : List Nat} (h : te σ H fun v H1 => ∃ a, v = .ref a ∧ (∃ zs, SqL K H1 a zs) ∧ tLc (fun _ H2 R => R (Itl K a) H2) g tt tb us σ H1 Q) : tLc (iList K te) g tt tb us σ H Q := h
/-- the things of a list that draws let through -/
theorem lc_drawsF {i c : Nat} {a : Addr} {ds : List PyData} (S : Sg X st cl n H) (En : EnvOk X H σ Γ) (hd : DX X H (.ref a) (.list ds)) (hl : ds.length ≤ 1000) (hi : i < Γ.length)
    (ht : ∀ X' H1 σ2 k d Q1, ds[k]? = some d → EnvOk X' H1 σ2 ((Γ.set i .un).set i (.dat d)) → Sg X' st cl (n + c * k) H1 → (∀ b H', Sg X' st cl (n + c * k + c) H' → KpS st cl H1 H' → Q1 b H') → tt σ2 H1 Q1)
    (q : ∀ w es H', es.Sublist ds → Sg X st cl (n + c * ds.length) H' → KpS st cl H H' → DX X H' w (.list es) → Nw H w → Q w H') : tLc (fun _ H2 R => R (Itl K a) H2) (gName i) tt (tVar i) [i] σ H Q := by
  intro D hD
  have m2 : More X (fun a => X a ∨ a = D) H := More.one hD
  have d1 := S.ne1 hD
  have d2 := S.ne2 hD
  obtain ⟨Gd, Y, w1, w2⟩ := walkD_list (K := K) hd
  let I : Nat → Hp → Prop := fun k H3 => KpS st cl H H3 ∧ Sg (fun a => X a ∨ a = D) st cl (n + c * k) H3 ∧ ∃ acc es, H3 D = some (.lst acc) ∧ DXs (fun a => X a ∨ a = D) H3 acc es ∧ es.Sublist (ds.take k)
  have ik : ∀ {k H3}, I k H3 → Kp (fun a => X a ∨ a = D) H H3 ∧ Trk (fun a => X a ∨ a = D) H3 := fun {k H3} p => ⟨p.1.kp (.inl S.x1) (.inl S.x2), p.2.1.t⟩
  refine lc_it w1 I ?_ (fun i H3 _ p => (w2 _ m2.2 H3 (ik p).1 (ik p).2).1) ?_ ?_
  · exact ⟨KpS.of (Same.upd hD), ⟨(S.ok).same (Same.upd hD), .inl S.x1, .inl S.x2, S.t.one hD⟩, [], [], upd_same, .nil, List.nil_sublist _⟩
  · rintro k x H3 H4 hk p y
    obtain ⟨s4, d, hdk, dx⟩ := (w2 _ m2.2 H3 (ik p).1 (ik p).2).2 k x H4 y
    obtain ⟨p1, p2, acc, es, p3, p4, p5⟩ := p
    have S4 := p2.same s4
    have k4 : Kp (fun a => X a ∨ a = D) H H4 := (p1.kp (.inl S.x1) (.inl S.x2)).trans (Kp.of s4)
    refine tgt_name (X := X) (i := i) En _ H4 m2 k4 S4.t x dx _ fun σ2 E2 hw => ⟨hw, ?_⟩
    have etake : ds.take (k + 1) = ds.take k ++ [d] := by rw [List.take_succ, hdk]; rfl
    refine ht _ H4 σ2 k d _ hdk E2 S4 fun b H5 S5 k5 => ?_
    have k35 : KpS st cl H3 H5 := (KpS.of s4).trans k5
    have p15 : KpS st cl H H5 := p1.trans k35
    have p35 : H5 D = some (.lst acc) := k35 D _ d1 d2 p3
    have p45 := p4.mono (p2.kp k35)
    have lacc : acc.length ≤ 1000 := by
      rw [p4.length]
      exact Nat.le_trans p5.length_le (by rw [List.length_take]; omega)
    cases b with
    | true =>
      refine iteT ?_
      have E5 := E2.kps S4 k5
      have he : ((Γ.set i .un).set i (.dat d))[i]? = some (.dat d) := by rw [List.getElem?_set_self (by rw [List.length_set]; exact hi)]
      refine g_var (i := i) E5 he H5 (Same.refl _) _ fun v H6 s6 r6 => ?_
      refine ⟨acc, s6 D _ p35, by rw [sizeLine_eq]; omega, ?_, ?_, acc ++ [v], es ++ [d], upd_same, ?_, ?_⟩
      · exact fun a o n1 n2 e => by
          have := s6 a _ (p15 a o n1 n2 e)
          rw [upd_ne (ne_of_none e hD)]
          exact this
      · rw [Nat.mul_succ, ← Nat.add_assoc]
        exact (S5.same s6).put d1 d2
      · exact ((p45.mono (Kp.of s6)).snoc r6).mono (Kp.put (.inr rfl))
      · rw [etake]
        exact List.Sublist.append p5 (List.Sublist.refl _)
    | false =>
      refine iteF ?_
      refine ⟨p15, by rw [Nat.mul_succ, ← Nat.add_assoc]; exact S5, acc, es, p35, p45, ?_⟩
      rw [etake]
      exact p5.trans (List.sublist_append_left _ _)
  · rintro H3 ⟨p1, p2, acc, es, p3, p4, p5⟩
    rw [List.take_length] at p5
    have nXD : ¬ X D := S.t.new hD
    exact q (.ref D) es H3 p5 ⟨p2.ok, S.x1, S.x2, fun a h => p2.t a (.inl h)⟩ p1 (.lst nXD p3 (p4.less fun a => .inl)) (Nw.of hD)
/-- some things drawn by c draws each -/
theorem lc_drawsC {i m c : Nat} (pr : PyData → Prop) (S : Sg X st cl n H) (En : EnvOk X H σ Γ) (hm : m ≤ 100000)
    (he : ∀ X' H1 σ2 k Q1, k < m → EnvOk X' H1 σ2 ((Γ.set i .un).set i (.dat (.int (k : Nat)))) → Sg X' st cl (n + c * k) H1 → (∀ w d H', pr d → Sg X' st cl (n + c * k + c) H' → KpS st cl H1 H' → DX X' H' w d → Q1 w H') → te σ2 H1 Q1)
    (q : ∀ w ds H', ds.length = m → (∀ d ∈ ds, pr d) → Sg X st cl (n + c * m) H' → KpS st cl H H' → DX X H' w (.list ds) → Nw H w → Q w H') : tLc (fun σ H R => R (Itr 0 m) H) (gName i) tYes te [i] σ H Q := by
  intro D hD
  have m2 : More X (fun a => X a ∨ a = D) H := More.one hD
  have d1 := S.ne1 hD
  have d2 := S.ne2 hD
  obtain ⟨Gd, Y, w1, w2⟩ := walkD_range (X := X) (H := H) (lo := 0) (n := m)
  rw [rangeD_len] at w1
  have key : ∀ H3, Kp (fun a => X a ∨ a = D) H H3 ∧ Trk (fun a => X a ∨ a = D) H3 → Gd H3 := fun H3 p => (w2 _ m2.2 H3 p.1 p.2).1
  let I : Nat → Hp → Prop := fun k H3 => KpS st cl H H3 ∧ Sg (fun a => X a ∨ a = D) st cl (n + c * k) H3 ∧ ∃ acc ds, H3 D = some (.lst acc) ∧ DXs (fun a => X a ∨ a = D) H3 acc ds ∧ ds.length = k ∧ ∀ d ∈ ds, pr d
  have ik : ∀ {k H3}, I k H3 → Kp (fun a => X a ∨ a = D) H H3 ∧ Trk (fun a => X a ∨ a = D) H3 := fun {k H3} p => ⟨p.1.kp (.inl S.x1) (.inl S.x2), p.2.1.t⟩
  refine lc_it w1 I ?_ (fun i H3 _ p => key H3 (ik p)) ?_ ?_
  · exact ⟨KpS.of (Same.upd hD), ⟨(S.ok).same (Same.upd hD), .inl S.x1, .inl S.x2, S.t.one hD⟩, [], [], upd_same, .nil, rfl, fun d h => by cases h⟩
  · rintro k x H3 H4 hk p y
    obtain ⟨s4, d, hd, dx⟩ := (w2 _ m2.2 H3 (ik p).1 (ik p).2).2 k x H4 y
    obtain ⟨p1, p2, acc, ds, p3, p4, p5, p6⟩ := p
    rw [rangeD_get hk] at hd
    cases hd
    have S4 := p2.same s4
    have k4 : Kp (fun a => X a ∨ a = D) H H4 := (p1.kp (.inl S.x1) (.inl S.x2)).trans (Kp.of s4)
    refine tgt_name (X := X) (i := i) En _ H4 m2 k4 S4.t x dx _ fun σ2 E2 hw => ⟨hw, ?_⟩
    refine k_yes ?_
    rw [show (0 : Int) + (k : Int) = (k : Nat) from by omega] at E2
    refine he _ H4 σ2 k _ hk E2 S4 fun w d H5 hp S5 k5 dw => ?_
    refine ⟨acc, k5 D _ d1 d2 (s4 D _ p3), by rw [p4.length, p5, sizeLine_eq]; omega, ?_, ?_, acc ++ [w], ds ++ [d], upd_same, ?_, by rw [List.length_append, p5]; rfl, fun z hz => ?_⟩
    · exact fun a o n1 n2 e => by
        have := k5 a o n1 n2 (s4 a _ (p1 a o n1 n2 e))
        rw [upd_ne (ne_of_none e hD)]
        exact this
    · rw [Nat.mul_succ, ← Nat.add_assoc]
      exact S5.put d1 d2
    · exact (((p4.mono (Kp.of s4)).mono (S4.kp k5)).snoc dw).mono (Kp.put (.inr rfl))
    · rcases List.mem_append.mp hz with h | h
      · exact p6 z h
      · rw [List.mem_singleton.mp h]
        exact hp
  · rintro H3 ⟨p1, p2, acc, ds, p3, p4, p5, p6⟩
    have nXD : ¬ X D := S.t.new hD
    exact q (.ref D) ds H3 p5 p6 ⟨p2.ok, S.x1, S.x2, fun a h => p2.t a (.inl h)⟩ p1 (.lst nXD p3 (p4.less fun a => .inl)) (Nw.of hD)
end
end K77

/-! Suspects and askings, drawn. -/
namespace K77
open PySem PySem.Spec PyProof.Rows L2 KD
variable {P : Program} {w : World} {K : PySem.W.Frag} {mg : Str → Option Value} {base : Heap}
theorem sl_listK {X : Cx} (h : X.K = K) : SlR X (rSlL K) := h ▸ sl_list
def bNames : List Str := ["a", "b", "c1", "d", "zed", "m9", "k"]
theorem base_ok : ∀ z ∈ bNames, z ∈ sNames ∧ z ≠ "stranger" := by decide +kernel
theorem base_nd : bNames.Nodup := by decide +kernel
/-- some of the suspects -/
structure Row (ns a : List Str) : Prop where
  nd : a.Nodup
  ok : ∀ z ∈ a, z ∈ ns
theorem strs_perm {es : List PyData} {ns : List Str} (h : es.Perm (ns.map PyData.str)) : ∃ ms : List Str, es = ms.map PyData.str ∧ ms.Perm ns := by
  refine ⟨es.map strOf, ?_, ?_⟩
  · rw [List.map_map]
    conv => lhs; rw [← List.map_id es]
    refine List.map_congr_left fun d hd => ?_
    obtain ⟨s, _, rfl⟩ := List.mem_map.mp (h.mem_iff.mp hd)
    rfl
  · have := h.map strOf
    rw [List.map_map] at this
    exact this.trans (by rw [show strOf ∘ PyData.str = id from rfl, List.map_id])
theorem strs_sub {es : List PyData} {ns : List Str} (h : es.Sublist (ns.map PyData.str)) : ∃ ms : List Str, es = ms.map PyData.str ∧ ms.Sublist ns := by
  refine ⟨es.map strOf, ?_, ?_⟩
  · rw [List.map_map]
    conv => lhs; rw [← List.map_id es]
    refine List.map_congr_left fun d hd => ?_
    obtain ⟨s, _, rfl⟩ := List.mem_map.mp (h.subset hd)
    rfl
  · have := h.map strOf
    rw [List.map_map, show strOf ∘ PyData.str = id from rfl, List.map_id] at this
    exact this
section
variable {X : Addr → Prop} {H : Hp} {σ : L2.St} {Γ : List Sv} {st cl : Addr} {n : Nat} {ta te : TE} {Q : VK} {g : TG} {tt : TT}
theorem g_neg1 : G X (tUn (rU fun i => .int (-i)) (tC (.int 1))) σ H (.int (-1)) := fun H1 s Q q => ⟨1, rfl, q _ H1 (Same.refl H1) (.int _)⟩
theorem k_lcR2 {tl : TA} {us : List Nat} (h : tl σ H fun vs H1 => ∃ i j : Int, vs = [.int i, .int j] ∧ (-(2 ^ 62) ≤ i ∧ i < 2 ^ 62 ∧ -(2 ^ 62) ≤ j ∧ j < 2 ^ 62) ∧ tLc (fun _ H2 R => R (Itr i (j - i).toNat) H2) g tt te us σ H1 Q) : tLc (iRng2 tl) g tt te us σ H Q := h
theorem k_c {v : V} (h : Q v H) : tC v σ H Q := h
theorem k_test {Q' : Bool → Hp → Prop} (h : te σ H fun v H1 => ∃ k, v = .bl k ∧ Q' k H1) : tTest te σ H Q' := h
theorem k_asg1 {D : Ends} (h : te σ H fun v H1 => g v σ H1 fun σ2 H2 => D.nx σ2 H2) : tAsg te g D σ H := h
theorem kps_none {H' : Hp} {l : Addr} (k : KpS st cl H H') (n1 : l ≠ st) (n2 : l ≠ cl) (h : H' l = none) : H l = none := by
  cases e : H l with
  | none => rfl
  | some o => rw [k l o n1 n2 e] at h; cases h
/-- new things, one for each number -/
theorem lc_new {i m : Nat} {lo : Int} (f : Nat → PyData) (S : Sg X st cl n H) (En : EnvOk X H σ Γ) (hm : m ≤ 100000)
    (he : ∀ X' H1 σ2 k, k < m → EnvOk X' H1 σ2 ((Γ.set i .un).set i (.dat (.int (lo + (k : Nat))))) → Sg X' st cl n H1 → G X' te σ2 H1 (f k))
    (q : ∀ w H', Sg X st cl n H' → Same H H' → DX X H' w (.list ((List.range m).map f)) → Nw H w → Q w H') : tLc (fun σ H R => R (Itr lo m) H) (gName i) tYes te [i] σ H Q := by
  intro D hD
  have m2 : More X (fun a => X a ∨ a = D) H := More.one hD
  have d1 := S.ne1 hD
  have d2 := S.ne2 hD
  obtain ⟨Gd, Y, w1, w2⟩ := walkD_range (X := X) (H := H) (lo := lo) (n := m)
  rw [rangeD_len] at w1
  let I : Nat → Hp → Prop := fun k H3 => Same H H3 ∧ Sg (fun a => X a ∨ a = D) st cl n H3 ∧ ∃ acc, H3 D = some (.lst acc) ∧ DXs (fun a => X a ∨ a = D) H3 acc ((List.range k).map f)
  have ik : ∀ {k H3}, I k H3 → Kp (fun a => X a ∨ a = D) H H3 ∧ Trk (fun a => X a ∨ a = D) H3 := fun {k H3} p => ⟨Kp.of p.1, p.2.1.t⟩
  refine lc_it w1 I ?_ (fun i H3 _ p => (w2 _ m2.2 H3 (ik p).1 (ik p).2).1) ?_ ?_
  · exact ⟨Same.upd hD, ⟨(S.ok).same (Same.upd hD), .inl S.x1, .inl S.x2, S.t.one hD⟩, [], upd_same, .nil⟩
  · rintro k x H3 H4 hk p y
    obtain ⟨s4, d, hd, dx⟩ := (w2 _ m2.2 H3 (ik p).1 (ik p).2).2 k x H4 y
    obtain ⟨p1, p2, acc, p3, p4⟩ := p
    rw [rangeD_get hk] at hd
    cases hd
    have S4 := p2.same s4
    refine tgt_name (X := X) (i := i) En _ H4 m2 (Kp.of (p1.trans s4)) S4.t x dx _ fun σ2 E2 hw => ⟨hw, ?_⟩
    refine k_yes ?_
    refine he _ H4 σ2 k hk E2 S4 H4 (Same.refl _) _ fun w H5 s5 dw => ?_
    refine ⟨acc, s5 D _ (s4 D _ p3), by rw [p4.length, List.length_map, List.length_range, sizeLine_eq]; omega, Same.mut ((p1.trans s4).trans s5) hD, ((S4.same s5).put d1 d2), acc ++ [w], upd_same, ?_⟩
    rw [List.range_succ, List.map_append]
    exact (((p4.mono (Kp.of s4)).mono (Kp.of s5)).snoc dw).mono (Kp.put (.inr rfl))
  · rintro H3 ⟨p1, p2, acc, p3, p4⟩
    have nXD : ¬ X D := S.t.new hD
    exact q (.ref D) H3 ⟨p2.ok, S.x1, S.x2, fun a h => p2.t a (.inl h)⟩ p1 (.lst nXD p3 (p4.less fun a => .inl)) (Nw.of hD)
end
theorem DXs.set {X : Addr → Prop} {H : Hp} : ∀ {vs : List V} {ds : List PyData} (j : Nat) {v : V} {d : PyData}, DXs X H vs ds → DX X H v d → DXs X H (vs.set j v) (ds.set j d)
  | _, _, _, _, _, .nil, _ => .nil
  | _, _, 0, _, _, .cons _ r, k => .cons k r
  | _, _, j + 1, _, _, .cons h r, k => .cons h (DXs.set j r k)
theorem ixN_m1 {n : Nat} (h : 0 < n) : ixN n (-1) = some (n - 1) := by
  unfold ixN
  rw [if_neg (by decide), if_pos (by omega)]
  congr 1
  omega
theorem atI_m1 {α : Type} {xs : List α} (h : 0 < xs.length) : atI xs (-1) = xs[xs.length - 1]? := by
  unfold atI
  rw [ixN_m1 h]
  rfl
structure Row' (a : List Str) : Prop where
  nd : a.Nodup
  ok : ∀ z ∈ a, z ∈ sNames
def spMSus : Sp := fun vs H Q _ => ∃ (X : Addr → Prop) (st cl : Addr) (n m : Nat), vs = [.ref st, .int (m : Int)] ∧ Sg X st cl n H ∧ n + 200 ≤ 1000000000 ∧ 1 ≤ m ∧ m ≤ 7 ∧ ∀ w ns as H', Sus (wsD ns) ns → Ask (.list (as.map wsD)) as → as.length ≤ 5 → Sg X st cl (n + 100) H' → KpS st cl H H' → DX X H' w (.tuple [wsD ns, .list (as.map wsD)]) → Q w H'
-- HINT _law_m_suspects lctt#2 tTest (tOp (rEqD K) (tCall spDraw [] E0 (tCons (tVar 0) (tCons (tC (.int 2)) tNil))) (tC (.int 0)))
-- HINT _law_m_suspects slice (sl_listK (K := K) rfl)
abbrev s__law_m_suspects : Stmt := topS 28
abbrev n__law_m_suspects : List Str := ["_law_stream", "_law_most", "_law_names", "_law_askings", "_law_way", "_law_k", "_law_at", "_law_name"]
theorem sc__law_m_suspects : FnScope n__law_m_suspects ["_law_stream", "_law_most"] (defScope s__law_m_suspects) := ⟨rfl, rfl, rfl, by decide +kernel, rfl, by decide +kernel, by decide +kernel⟩
theorem ok_m_suspects {f : Addr} {fd : FuncData} (F : Fun K "_law_m_suspects" "_law_m_suspects" s__law_m_suspects f fd) (T : Bl mg) (O__law_draw : Own P w K mg base CX0 1 "_law_draw" ["_law_stream", "_law_many"] spDraw) (O__law_mixed : Own P w K mg base CX0 2 "_law_mixed" ["_law_stream", "_law_some"] spMixed) :
    FnOk P w K mg base CX0 3 f fd ["_law_stream", "_law_most"] spMSus := by
  refine F.ok sc__law_m_suspects (fun vs H Q E h => ?_) (fun cdv A outer s H vs Q E hr h => ?_)
  · obtain ⟨X, st, cl, n, m, rfl, _⟩ := h
    rfl
  · obtain ⟨X, st, cl, n, m, rfl, S, hn, m1, m7, k⟩ := h
    refine ⟨_, (pss_cons (ps_set (i := 2) sc__law_m_suspects.nd rfl (by first | exact Or.inl rfl | exact Or.inr rfl) (pe_slice (sl_listK (K := K) rfl) (pe_own O__law_mixed hr (by decide) (by rfl) (pa_cons (pv 0) (pa_cons (pe_lst (pa_cons pe_str (pa_cons pe_str (pa_cons pe_str (pa_cons pe_str (pa_cons pe_str (pa_cons pe_str (pa_cons pe_str pa_nil)))))))) pa_nil))) po_none (po_some (pe_op op_addA pe_int (pe_own O__law_draw hr (by decide) (by rfl) (pa_cons (pv 0) (pa_cons (pv 1) pa_nil)))))))
    (pss_cons (ps_par (i := 3) (j := 4) (by rfl) sc__law_m_suspects.nd rfl rfl (by decide) rfl rfl (pa_cons (pe_lst pa_nil) (pa_cons (pe_own O__law_draw hr (by decide) (by rfl) (pa_cons (pv 0) (pa_cons pe_int pa_nil))) pa_nil)) (by rfl))
    (pss_cons (ps_if (pt_cmpR (op_eqD hr.units) (pv 4) pe_int (nomark _))
    (pss_one (ps_setLc (i := 3) (own := [("_law_at", 6)]) (g := (gName 6)) (tt := tYes) rfl sc__law_m_suspects.nd rfl rfl (sw_true rfl rfl rfl (by decide +kernel)) (pi_range2 (by rfl) T.b_range (pa_cons pe_int (pa_cons (pe_callB call_len (by rfl) T.b_len boot_len (pa_cons (pv 2) pa_nil)) pa_nil))) (blkOk_by (N := n__law_m_suspects) (sc := defScope s__law_m_suspects) (by decide +kernel)) (fun _ _ _ _ _ => (pg_name (i := 6) sc__law_m_suspects.nd rfl (by first | exact Or.inl rfl | exact Or.inr rfl))) (fun _ _ _ _ _ => pts_nil) (fun _ _ _ _ _ => (pe_slice (sl_listK (K := K) rfl) (pv 2) po_none (po_some (pv 6)))))) pss_nil)
    (pss_cons (ps_for PassesOwn.never rfl (pi_range1 (by rfl) T.b_range (pa_cons (pe_op op_addA pe_int (pe_own O__law_draw hr (by decide) (by rfl) (pa_cons (pv 0) (pa_cons pe_int pa_nil)))) pa_nil)) (pg_name (i := 5) sc__law_m_suspects.nd rfl (by first | exact Or.inl rfl | exact Or.inr rfl))
    (pss_one (ps_expr (pe_bm PySem.F.plainAttrs_list PySem.F.slot_list_append PySem.F.type_list_append mt_append (pv 3) (pa_cons (pe_lc (own := [("_law_name", 7)]) (g := (gName 7)) (tt := tTest (tOp (rEqD K) (tCall spDraw [] E0 (tCons (tVar 0) (tCons (tC (.int 2)) tNil))) (tC (.int 0)))) rfl sc__law_m_suspects.nd (pi_list (pe_own O__law_mixed hr (by decide) (by rfl) (pa_cons (pv 0) (pa_cons (pv 2) pa_nil)))) (blkOk_by (N := n__law_m_suspects) (sc := defScope s__law_m_suspects) (by decide +kernel)) (fun _ _ _ _ _ => (pg_name (i := 7) sc__law_m_suspects.nd rfl (by first | exact Or.inl rfl | exact Or.inr rfl))) (fun _ _ _ _ _ => (pts_one (pt_cmpR (op_eqD hr.units) (pe_own O__law_draw hr (by decide) (by rfl) (pa_cons (pv 0) (pa_cons pe_int pa_nil))) pe_int (nomark _)))) (fun _ _ _ _ _ => (pv 7))) pa_nil)))))
    (pss_cons (ps_if (pt_cmpR (op_eqD hr.units) (pv 4) pe_int (nomark _))
    (pss_one (ps_asg (pe_op op_addA (pe_ix ix_seq (pv 3) (pe_un un_neg pe_int) (fun _ _ => rfl)) (pe_lst (pa_cons pe_str pa_nil))) (pg_sub (pv 3) (pe_un un_neg pe_int) set_list))) pss_nil)
    (pss_one (ps_ret (pe_tup (pa_cons (pv 2) (pa_cons (pe_slice (sl_listK (K := K) rfl) (pe_own O__law_mixed hr (by decide) (by rfl) (pa_cons (pv 0) (pa_cons (pv 3) pa_nil))) po_none (po_some pe_int)) pa_nil)))))))))), ?_⟩
    have En : EnvOk X H (L2.start n__law_m_suspects [.ref st, .int (m : Int)]) [.val (.ref st), .dat (.int (m : Int)), .un, .un, .un, .un, .un, .un] := env_s1 (N := n__law_m_suspects) (s := .dat (.int (m : Int))) ⟨_, rfl, .int _⟩ (by decide)
    -- names
    refine k_set (k_sl (c_mixed (ds := bNames.map PyData.str) S (gv_var (i := 0) En rfl) (g_lst S.t (ga_strs bNames) (by decide)) (by show n + 7 ≤ _; omega) (by decide) fun w1 es H1 hp S1 k1 d1 _ => ?_))
    obtain ⟨ms, rfl, hms⟩ := strs_perm hp
    have lms : ms.length = 7 := hms.length_eq
    have E1 := En.kps S k1
    refine k_op (c_draw (m := (m : Int)) S1 (gv_var (i := 0) E1 rfl) (g_var (i := 1) E1 rfl) (by show n + 7 ≤ _; omega) (by omega) (by omega) fun j H2 j0 j1 S2 k2 => ?_)
    have E2 := E1.kps S1 k2
    refine .inl ⟨1, j, rfl, rfl, ?_⟩
    obtain ⟨a, us, rfl, na, ea, ra⟩ := (d1.mono (S1.kp k2)).lst_inv
    refine ⟨1 + j, rfl, a, us, rfl, SqL.of ea, fun p hp2 => ?_⟩
    have sp : Same H2 (upd H2 p (.lst (cutV us none (some (1 + j))))) := Same.upd hp2
    have dn := DX.newL S2.t (ra.cut none (some (1 + j))) hp2
    rw [cutP_to _ (by omega), ← List.map_take] at dn
    obtain ⟨ns, hns⟩ : ∃ ns, ns = ms.take (1 + j).toNat := ⟨_, rfl⟩
    rw [← hns] at dn
    have lns : 0 < ns.length ∧ ns.length ≤ 7 := by rw [hns, List.length_take]; omega
    have nnd : ns.Nodup := by rw [hns]; exact ((List.Perm.nodup_iff hms).mpr base_nd).sublist (List.take_sublist _ _)
    have nbase : ∀ z ∈ ns, z ∈ bNames := fun z hz => hms.mem_iff.mp (List.mem_of_mem_take (by rw [hns] at hz; exact hz))
    have SU : Sus (wsD ns) ns := ⟨rfl, rfl, nnd, fun z hz => (base_ok z (nbase z hz)).1, lns.1⟩
    have S3 := S2.same sp
    have E3 := (E2.same sp).set (i := 2) (d := wsD ns) dn
    have k3 := (k1.trans k2).trans (KpS.of sp)
    clear hns E1 E2 S1 S2 k1 k2 sp dn d1 ea ra
    -- askings, way
    refine k_par ?_
    refine ⟨by show 0 ≤ sizeLine; omega, fun L hL => ?_⟩
    have s4 : Same _ (upd _ L (.lst [])) := Same.upd hL
    have nX : ¬ X L := S3.t.new hL
    have nL1 := S3.ne1 hL
    have nL2 := S3.ne2 hL
    have S4 : Sg (fun b => X b ∨ b = L) st cl (n + 7 + 1) _ := ⟨S3.ok.same s4, .inl S3.x1, .inl S3.x2, S3.t.one hL⟩
    have E4 := (E3.more (More.one hL)).same s4
    refine c_draw (m := 4) S4 (gv_var (i := 0) E4 rfl) g_int (by omega) (by decide) (by decide) fun way H5 y0 y1 S5 k5 => ⟨_, _, rfl, ?_⟩
    have hL5 : H5 L = some (.lst []) := k5 _ _ nL1 nL2 upd_same
    have k35 : KpS st cl H H5 := (k3.trans (KpS.of s4)).trans k5
    let Γ (l : Addr) : List Sv := [.val (.ref st), .dat (.int (m : Int)), .dat (wsD ns), .val (.ref l), .dat (.int way), .un, .un, .un]
    let J (a b : Nat) : L2.St → Hp → Prop := fun σ H' => ∃ (l : Addr) (xs : List V) (as : List (List Str)), H l = none ∧ ¬ X l ∧ l ≠ st ∧ l ≠ cl ∧ Sg (fun b => X b ∨ b = l) st cl (n + a) H' ∧ KpS st cl H H' ∧ H' l = some (.lst xs) ∧ DXs (fun b => X b ∨ b = l) H' xs (as.map wsD) ∧ b ≤ as.length ∧ as.length ≤ b + 6 ∧ (∀ a ∈ as, Row ns a) ∧ EnvOk (fun b => X b ∨ b = l) H' σ (Γ l)
    have E5 : EnvOk (fun b => X b ∨ b = L) H5 _ (Γ L) := ((E4.kps S4 k5).setV (i := 3) (v := .ref L)).set (i := 4) (v := .int way) (d := .int way) (.int _)
    have Hl : H L = none := kps_none k3 nL1 nL2 hL
    -- way 0
    refine q_ifJ (b := PyData.eqv (.int way) (.int 0)) (gt_eqD S5.t (g_var (i := 4) E5 rfl) g_int rfl rfl (shaped_int _) (shaped_int _)) (J 9 0) (fun σ6 H6 pJ => ?_) (fun _ hJ H6 s6 => ?_) fun _ H6 s6 => ⟨L, [], [], Hl, nX, nL1, nL2, (S5.same s6).le (by omega), k35.trans (KpS.of s6), s6 _ _ hL5, .nil, by simp, by simp, (fun a h => by cases h), E5.same s6⟩
    rotate_left
    · have S6 := S5.same s6
      have E6 := E5.same s6
      -- without L
      have S6' : Sg X st cl (n + 7 + 1 + 1) H6 := ⟨S6.ok, S3.x1, S3.x2, fun a h => S6.t a (.inl h)⟩
      have E6' : EnvOk X H6 _ [.val (.ref st), .dat (.int (m : Int)), .dat (wsD ns), .un, .dat (.int way), .un, .un, .un] := envUn' (E6.less fun _ => .inl) 3
      refine k_set1 (k_lcR2 (k_cons (k_c (k_cons (g_len S6'.t (g_var (i := 2) (d := wsD ns) E6' rfl) rfl H6 (Same.refl _) _ fun v H7 s7 r7 => k_nil ?_)))))
      have r7' := r7.int_inv
      subst r7'
      refine ⟨1, _, rfl, by have : lenD (wsD ns) = ns.length := by (show (ns.map PyData.str).length = _; rw [List.length_map])
                            omega, ?_⟩
      have lw : lenD (wsD ns) = ns.length := by show (ns.map PyData.str).length = _; rw [List.length_map]
      rw [lw]
      refine lc_new (lo := 1) (i := 6) (fun kk => wsD (ns.take (kk + 1))) (S6'.same s7) (E6'.same s7) (by omega) (fun X' H1 σ2 kk hk E S => ?_) fun w8 H8 S8 s8 d8 nw8 => ?_
      · refine g_is (g_sl (K := K) (lo := none) (hi := some (1 + (kk : Int))) S.t (g_var (i := 2) (d := wsD ns) E rfl) go_none (go_some (g_var (i := 6) E rfl))) ?_
        rw [cutP_to _ (by omega), show (1 + (kk : Int)).toNat = kk + 1 by omega, ← List.map_take]
        rfl
      · obtain ⟨l, xs, rfl, nl, el, xl⟩ := d8.inner
        have l7 : H7 l = none := nw8 l rfl
        have l6 : H6 l = none := s7.free l7
        refine hJ _ _ ⟨l, xs, (List.range (((ns.length : Nat) : Int) - 1).toNat).map fun kk => ns.take (kk + 1), kps_none (k35.trans (KpS.of s6)) (S6'.ne1 l6) (S6'.ne2 l6) l6, nl, S6'.ne1 l6, S6'.ne2 l6, ?_, ((k35.trans (KpS.of s6)).trans (KpS.of s7)).trans (KpS.of s8), el, by rw [List.map_map]; exact xl, by simp, by rw [List.length_map, List.length_range]; omega, fun a ha => ?_, ?_⟩
        · exact ⟨S8.ok.le (by omega), .inl S8.x1, .inl S8.x2, fun a h => h.elim (fun h => S8.t a h) fun h => ⟨_, h ▸ el⟩⟩
        · obtain ⟨kk, _, rfl⟩ := List.mem_map.mp ha
          exact ⟨nnd.sublist (List.take_sublist _ _), fun z hz => List.mem_of_mem_take hz⟩
        · exact ((E6'.more (More.one l6)).same (s7.trans s8)).setV (i := 3) (v := .ref l)
    -- the loop
    obtain ⟨l, xs, as, l0, nl, l1, l2, S7, k7, h7, x7, a0, a1, ra, E7⟩ := pJ
    clear E5 E4 E3 S3 S4 S5 k3 k5 k35 hL5 s4 hL nX nL1 nL2 Hl
    refine k_forR (k_cons (k_op (g_int (X := X) (i := 1) H6 (Same.refl _) _ fun v4 H8 s8 r8 => ?_)))
    have r8' := r8.int_inv
    subst r8'
    refine c_draw (m := 4) (S7.same s8) (gv_var (i := 0) (E7.same s8) rfl) g_int (by omega) (by decide) (by decide) fun cnt H9 c0 c1 S9 k9 => ?_
    refine .inl ⟨1, cnt, rfl, rfl, k_nil ⟨1 + cnt, rfl, by omega, by omega, ?_⟩⟩
    have k89 := (KpS.of s8).trans k9
    refine for_it walk_range (fun i σ' H' => ∃ (xs : List V) (as : List (List Str)), Sg (fun b => X b ∨ b = l) st cl (n + 10 + 14 * i) H' ∧ KpS st cl H H' ∧ H' l = some (.lst xs) ∧ DXs (fun b => X b ∨ b = l) H' xs (as.map wsD) ∧ i ≤ as.length ∧ as.length ≤ i + 6 ∧ (∀ a ∈ as, Row ns a) ∧ EnvOk (fun b => X b ∨ b = l) H' σ' (Γ l)) ⟨xs, as, S9, k7.trans k89, k89 _ _ l1 l2 h7, x7.mono (S7.kp k89), a0, by omega, ra, E7.kps S7 k89⟩ (fun _ _ _ _ _ => trivial) (fun i x σ' HA HB hi p y => ?_) (fun σ' HA p => ?_)
    · obtain ⟨rfl, rfl⟩ := y
      obtain ⟨xs, as, SA, kA, hA, xA, b0, b1, rA, EA⟩ := p
      have hi4 : i < 4 := by omega
      refine k_name ?_
      have EB := EA.setV (i := 5) (v := .int (0 + (i : Int)))
      -- append
      refine ⟨.ref l, EB.get 3 _ rfl, .inl ⟨rfl, _, SqL.of hA⟩, ?_⟩
      refine k_cons (k_lcL (c_mixed (ds := ns.map PyData.str) SA (gv_var (i := 0) EB rfl) (g_var (i := 2) (d := wsD ns) EB rfl) (by rw [List.length_map]; omega) (by rw [List.length_map]; omega) fun w1 es HC hp SC kC dC _ => ?_))
      obtain ⟨qs, rfl, hqs⟩ := strs_perm hp
      rw [List.length_map] at SC
      have lq : qs.length = ns.length := hqs.length_eq
      have EC := EB.kps SA kC
      obtain ⟨ac, uc, rfl, nc, ec, rc⟩ := dC.lst_inv
      refine ⟨ac, rfl, ⟨_, SqL.of ec⟩, ?_⟩
      refine lc_drawsF (c := 1) SC EC dC (by rw [List.length_map]; omega) (by show 7 < 8; decide) (fun X' H1 σ2 kk d Q1 hd E S q1 => ?_) fun w2 es HD hs SD kD dD _ => ?_
      · refine k_test (k_op (c_draw (m := 2) S (gv_var (i := 0) E rfl) g_int (by have := (List.getElem?_eq_some_iff.mp hd).1; rw [List.length_map] at this; omega) (by decide) (by decide) fun jj H2 z0 z1 S2 k2 => ?_))
        refine g_int (X := X') (i := 0) H2 (Same.refl _) _ fun v3 H3 s3 r3 => ?_
        have r3' := r3.int_inv
        subst r3'
        exact rb_eqD (X := X') (x := .int jj) (y := .int 0) rfl rfl (shaped_int _) (shaped_int _) H3 _ _ (S2.t.mono s3) (.int _) (.int _) _ ⟨_, rfl, q1 _ H3 (S2.same s3) (k2.trans (KpS.of s3))⟩
      · obtain ⟨rs, rfl, hrs⟩ := strs_sub hs
        have kCD := kC.trans kD
        have hD := kCD _ _ l1 l2 hA
        have xD := xA.mono (SA.kp kCD)
        have lx : xs.length = as.length := by rw [xA.length, List.length_map]
        refine k_nil ⟨l, xs, w2, rfl, rfl, hD, by rw [sizeLine_eq]; omega, ?_⟩
        have kp : Kp (fun b => X b ∨ b = l) HD (upd HD l (.lst (xs ++ [w2]))) := Kp.put (.inr rfl)
        refine ⟨xs ++ [w2], as ++ [rs], ?_, fun a o n1 n2 e => ?_, upd_same, ?_, by rw [List.length_append]; simp; omega, by rw [List.length_append]; simp; omega, fun a ha => ?_, ?_⟩
        · rw [List.length_map] at SD
          exact (SD.put l1 l2).le (by omega)
        · have h1 := (kA.trans kCD) a o n1 n2 e
          by_cases c : a = l
          · rw [c, l0] at e
            cases e
          · rw [upd_ne c]
            exact h1
        · rw [List.map_append]
          exact (xD.append (.cons dD .nil)).mono kp
        · rcases List.mem_append.mp ha with h | h
          · exact rA a h
          · rw [List.mem_singleton.mp h]
            exact ⟨((List.Perm.nodup_iff hqs).mpr nnd).sublist hrs, fun z hz => hqs.mem_iff.mp (hrs.subset hz)⟩
        · exact envUn' ((EB.kps SA kCD).mono kp) 5
    · obtain ⟨xs, as, SA, kA, hA, xA, b0, b1, rA, EA⟩ := p
      have lx : xs.length = as.length := by rw [xA.length, List.length_map]
      have hpos : 0 < as.length := by omega
      have hi5 : (1 + cnt).toNat ≤ 4 := by omega
      refine q_ifJ (b := PyData.eqv (.int way) (.int 1)) (gt_eqD SA.t (g_var (i := 4) EA rfl) g_int rfl rfl (shaped_int _) (shaped_int _)) (fun σ' H' => ∃ (xs : List V) (as : List (List Str)), Sg (fun b => X b ∨ b = l) st cl (n + 70) H' ∧ KpS st cl H H' ∧ H' l = some (.lst xs) ∧ DXs (fun b => X b ∨ b = l) H' xs (as.map wsD) ∧ 0 < as.length ∧ as.length ≤ 10 ∧ (∀ a ∈ as, Row' a) ∧ EnvOk (fun b => X b ∨ b = l) H' σ' (Γ l)) (fun σB HB pJ => ?_) (fun _ hJ HB sB => ?_) fun _ HB sB => ⟨xs, as, (SA.same sB).le (by omega), kA.trans (KpS.of sB), sB _ _ hA, xA.mono (Kp.of sB), hpos, by omega, fun a ha => ⟨(rA a ha).nd, fun z hz => SU.ok z ((rA a ha).ok z hz)⟩, EA.same sB⟩
      · obtain ⟨ys, bs, SB, kB, hB, xB, c0, c1, rB, EB⟩ := pJ
        have EG := EnvOk.give (i := 3) EB rfl nl hB xB
        have SG : Sg X st cl (n + 70) HB := ⟨SB.ok, (Or.elim SB.x1 id fun e => absurd e.symm l1), (Or.elim SB.x2 id fun e => absurd e.symm l2), fun a h => SB.t a (.inl h)⟩
        refine k_ret (k_tup (k_cons (g_var (i := 2) (d := wsD ns) EG rfl HB (Same.refl _) _ fun v1 HC sC rC => ?_)))
        have SC := SG.same sC
        have EC := EG.same sC
        refine k_cons (k_sl (c_mixed (ds := bs.map wsD) SC (gv_var (i := 0) EC rfl) (g_var (i := 3) EC rfl) (by rw [List.length_map]; omega) (by rw [List.length_map]; omega) fun w2 es HD hp SD kD dD _ => ?_))
        refine ⟨5, rfl, ?_⟩
        obtain ⟨ac, uc, rfl, nc, ec, rc⟩ := dD.lst_inv
        refine ⟨ac, uc, rfl, SqL.of ec, fun q1 hq => k_nil ⟨by show 2 ≤ sizeLine; decide, fun q2 hq2 => ?_⟩⟩
        have sq : Same HD (upd HD q1 (.lst (cutV uc none (some 5)))) := Same.upd hq
        have sq2 := Same.upd (o := .tup [v1, .ref q1]) hq2
        have dq := DX.newL SD.t (rc.cut none (some 5)) hq
        rw [cutP_to _ (by omega)] at dq
        have ees : ∃ cs : List (List Str), es = cs.map wsD ∧ cs.Perm bs := by
          refine ⟨es.map nsOf, ?_, ?_⟩
          · rw [List.map_map]
            conv => lhs; rw [← List.map_id es]
            refine List.map_congr_left fun d hd => ?_
            obtain ⟨s, _, rfl⟩ := List.mem_map.mp (hp.mem_iff.mp hd)
            show wsD s = wsD (nsOf (wsD s))
            rw [nsOf_ws]
          · have := hp.map nsOf
            rw [List.map_map] at this
            refine this.trans ?_
            rw [show nsOf ∘ wsD = id from funext nsOf_ws, List.map_id]
        obtain ⟨cs, rfl, hcs⟩ := ees
        have lcs := hcs.length_eq
        have rt : DX X (upd (upd HD q1 (.lst (cutV uc none (some 5)))) q2 (.tup [v1, .ref q1])) (.ref q2) (.tuple [wsD ns, .list ((cs.take 5).map wsD)]) := by
          refine DX.newT (SD.t.mono sq) (.cons ((rC.mono (SC.kp kD)).mono (Kp.of sq)) (.cons ?_ .nil)) hq2
          rw [List.map_take]
          exact dq
        refine k (.ref q2) ns (cs.take 5) _ SU ⟨rfl, rfl, by rw [List.length_take]; omega, by rw [List.length_take]; omega, fun a ha => (rB a (hcs.mem_iff.mp (List.mem_of_mem_take ha))).nd, fun a ha => (rB a (hcs.mem_iff.mp (List.mem_of_mem_take ha))).ok⟩ (by rw [List.length_take]; omega) (((SD.same sq).same sq2).le (by rw [List.length_map]; omega)) ((((kB.trans (KpS.of sC)).trans kD).trans (KpS.of sq)).trans (KpS.of sq2)) rt
      · have hB := sB _ _ hA
        have xB := xA.mono (Kp.of sB)
        have SB := SA.same sB
        have EB := EA.same sB
        have hlast : (as.map wsD)[as.length - 1]? = some (wsD as[as.length - 1]) := by rw [List.getElem?_map, List.getElem?_eq_getElem (by omega)]; rfl
        obtain ⟨u, hu, ru⟩ := xB.get hlast
        refine k_asg1 (k_op (k_op ?_))
        refine ⟨_, EB.get 3 _ rfl, g_neg1 (X := X) HB (Same.refl _) _ fun v3 HC sC r3 => ?_⟩
        have r3' := r3.int_inv
        subst r3'
        refine .inl ⟨l, xs, -1, u, rfl, rfl, SqL.of (sC _ _ hB), by rw [atI_m1 (by omega), lx]; exact hu, ?_⟩
        have SC := SB.same sC
        have EC := EB.same sC
        refine g_lst (X := fun b => X b ∨ b = l) (ds := [.str "stranger"]) SC.t (ga_cons g_str ga_nil) (by simp) HC (Same.refl _) _ fun v4 HD sD r4 => ?_
        have lal : as[as.length - 1].length ≤ 8 := nodup_le (rA _ (List.getElem_mem _)).nd fun z hz => SU.ok z ((rA _ (List.getElem_mem _)).ok z hz)
        refine (RD.or2 (RD.or1 (rd_cat (xs := as[as.length - 1].map PyData.str) (ys := [.str "stranger"]) (by rw [List.length_map]; simp; omega))) : RD (fun b => X b ∨ b = l) rAddA _ _ _) HD u v4 (SC.t.mono sD) (ru.mono (Kp.of (sC.trans sD))) r4 _ fun w5 HE sE r5 => ?_
        have sBE := (sC.trans sD).trans sE
        have hE := sBE _ _ hB
        refine ⟨_, (EB.same sBE).get 3 _ rfl, g_neg1 (X := X) HE (Same.refl _) _ fun v6 HF sF r6 => ?_⟩
        have r6' := r6.int_inv
        subst r6'
        have sBF := sBE.trans sF
        refine ⟨l, xs, -1, as.length - 1, rfl, rfl, sBF _ _ hB, by rw [← lx]; exact ixN_m1 (by omega), ?_⟩
        have kp : Kp (fun b => X b ∨ b = l) HF (upd HF l (.lst (xs.set (as.length - 1) w5))) := Kp.put (.inr rfl)
        refine hJ _ _ ⟨xs.set (as.length - 1) w5, as.set (as.length - 1) (as[as.length - 1] ++ [("stranger" : Str)]), (((SB.same sBF).put l1 l2).le (by omega)), fun a o n1 n2 e => ?_, upd_same, ?_, by rw [List.length_set]; omega, by rw [List.length_set]; omega, fun a ha => ?_, ((EB.same sBF).mono kp)⟩
        · have h1 := (kA.trans (KpS.of (sB.trans sBF))) a o n1 n2 e
          by_cases c : a = l
          · rw [c, l0] at e
            cases e
          · rw [upd_ne c]
            exact h1
        · rw [List.map_set]
          refine (DXs.set _ (xB.mono (Kp.of sBF)) ?_).mono kp
          have e7 : wsD (as[as.length - 1] ++ [("stranger" : Str)]) = .list (as[as.length - 1].map PyData.str ++ [.str "stranger"]) := by
            show PyData.list ((as[as.length - 1] ++ [("stranger" : Str)]).map PyData.str) = _
            rw [List.map_append]
            rfl
          rw [e7]
          exact r5.mono (Kp.of sF)
        · rcases List.mem_or_eq_of_mem_set ha with h | h
          · exact ⟨(rA a h).nd, fun z hz => SU.ok z ((rA a h).ok z hz)⟩
          · subst h
            have R := rA _ (List.getElem_mem (show as.length - 1 < as.length by omega))
            refine ⟨List.nodup_append.mpr ⟨R.nd, List.pairwise_singleton _ _, fun a ha b hb e => ?_⟩, fun z hz => ?_⟩
            · rw [List.mem_singleton.mp hb] at e
              exact (base_ok a (nbase a (R.ok a ha))).2 e
            · rcases List.mem_append.mp hz with h | h
              · exact SU.ok z (R.ok z h)
              · rw [List.mem_singleton.mp h]
                decide +kernel
end K77

/-! Who can be the one, by the law. -/
namespace K77
open PySem PySem.Spec PyProof.Rows L2 KD
variable {P : Program} {w : World} {K : PySem.W.Frag} {mg : Str → Option Value} {base : Heap}
def ansD (p : Nat × Bool) : PyData := .tuple [.int (p.1 : Int), .bool p.2]
theorem eqv_bool (a b : Bool) : PyData.eqv (.bool a) (.bool b) = (a == b) := by simp [PyData.eqv]
theorem shaped_bool (b : Bool) : SeqAt.shaped (.bool b) = true := by simp [SeqAt.shaped, PyData.canLay0, PyData.depth]
def spDue : Sp := fun vs H Q _ => ∃ (X : Addr → Prop) (v1 v2 v3 v4 : V) (l : Int) (ns : List Str) (as : List (List Str)) (ps : List (Nat × Bool)), vs = [v1, v2, v3, v4] ∧ Trk X H ∧ DX X H v1 (wsD ns) ∧ DX X H v2 (.list (as.map wsD)) ∧ DX X H v3 (.list (ps.map ansD)) ∧ DX X H v4 (.int l) ∧ ns.length ≤ 100 ∧ ps.length ≤ 1000 ∧ (∀ p ∈ ps, p.1 < as.length) ∧
  ∀ w H', Same H H' → DX X H' w (wsD (possL ns as ps l)) → Q w H'
-- HINT _law_due in (op_inK (K := K) rfl)
-- HINT _law_due ix (ix_seqK (K := K) rfl)
-- HINT _law_due lctt#1 tTest (tOp (rNeD K) (tOp (rIn K false) (tVar 5) (tOp (rIx K) (tVar 1) (tVar 7))) (tVar 8))
abbrev s__law_due : Stmt := topS 34
abbrev n__law_due : List Str := ["_law_names", "_law_askings", "_law_answers", "_law_lies", "_law_found", "_law_name", "_law_wrong", "_law_index", "_law_answer"]
theorem sc__law_due : FnScope n__law_due ["_law_names", "_law_askings", "_law_answers", "_law_lies"] (defScope s__law_due) := ⟨rfl, rfl, rfl, by decide +kernel, rfl, by decide +kernel, by decide +kernel⟩
theorem ok_due {f : Addr} {fd : FuncData} (F : Fun K "_law_due" "_law_due" s__law_due f fd) (T : Bl mg) : FnOk P w K mg base CX0 1 f fd ["_law_names", "_law_askings", "_law_answers", "_law_lies"] spDue := by
  refine F.ok sc__law_due (fun vs H Q E h => ?_) (fun cdv A outer s H vs Q E hr h => ?_)
  · obtain ⟨X, v1, v2, v3, v4, l, ns, as, ps, rfl, _⟩ := h
    rfl
  · obtain ⟨X, v1, v2, v3, v4, l, ns, as, ps, rfl, t, r1, r2, r3, r4, hl, few, ok, q⟩ := h
    refine ⟨_, (pss_cons (ps_set (i := 4) sc__law_due.nd rfl (by first | exact Or.inl rfl | exact Or.inr rfl) (pe_lst pa_nil))
    (pss_cons (ps_for PassesOwn.never rfl (pi_list (pv 0)) (pg_name (i := 5) sc__law_due.nd rfl (by first | exact Or.inl rfl | exact Or.inr rfl))
    (pss_cons (ps_setLc (i := 6) (own := [("_law_index", 7), ("_law_answer", 8)]) (g := (gTup K 2 (gCons (gName 7) (gCons (gName 8) gNil)))) (tt := tTest (tOp (rNeD K) (tOp (rIn K false) (tVar 5) (tOp (rIx K) (tVar 1) (tVar 7))) (tVar 8))) rfl sc__law_due.nd rfl rfl (sw_true rfl rfl rfl (by decide +kernel)) (pi_list (pv 2)) (blkOk_by (N := n__law_due) (sc := defScope s__law_due) (by decide +kernel)) (fun _ _ _ _ _ => (pg_tup (n := 2) rfl (pgs_cons (pg_name (i := 7) sc__law_due.nd rfl (by first | exact Or.inl rfl | exact Or.inr rfl)) (pgs_cons (pg_name (i := 8) sc__law_due.nd rfl (by first | exact Or.inl rfl | exact Or.inr rfl)) pgs_nil)))) (fun _ _ _ _ _ => (pts_one (pt_cmpR (op_neD hr.units) (pe_cmpR (op_inK (K := K) rfl) (pv 5) (pe_ix (ix_seqK (K := K) rfl) (pv 1) (pv 7) (fun _ _ => rfl)) (by rfl)) (pv 8) (nomark _)))) (fun _ _ _ _ _ => pe_int))
    (pss_one (ps_expr (pe_bm PySem.F.plainAttrs_list PySem.F.slot_list_extend PySem.F.type_list_extend mt_extend (pv 4) (pa_cons (pe_ifExp (pt_cmpR op_le (pe_callB call_len (by rfl) T.b_len boot_len (pa_cons (pv 6) pa_nil)) (pv 3) (nomark _)) (pe_lst (pa_cons (pv 5) pa_nil)) (pe_lst pa_nil)) pa_nil))))))
    (pss_one (ps_ret (pv 4))))), ?_⟩
    have En : EnvOk X H (L2.start n__law_due [v1, v2, v3, v4]) [.dat (wsD ns), .dat (.list (as.map wsD)), .dat (.list (ps.map ansD)), .dat (.int l), .un, .un, .un, .un, .un] := env4 (N := n__law_due) r1 r2 r3 r4 (by decide)
    refine k_set (k_lst (k_nil ⟨by show 0 ≤ sizeLine; omega, fun L hL => ?_⟩))
    have nX : ¬ X L := t.new hL
    have s1 : Same H (upd H L (.lst [])) := Same.upd hL
    let X' : Addr → Prop := fun b => X b ∨ b = L
    have t1 : Trk X' (upd H L (.lst [])) := t.one hL
    have E1 : EnvOk X' (upd H L (.lst [])) _ [.dat (wsD ns), .dat (.list (as.map wsD)), .dat (.list (ps.map ansD)), .dat (.int l), .val (.ref L), .un, .un, .un, .un] := ((En.more (More.one hL)).same s1).setV (i := 4) (v := .ref L)
    refine s_forD (X := X') (gi_list (g_var (i := 0) (d := wsD ns) E1 rfl)) (fun Hb i σ' H' => Kp X' Hb H' ∧ Trk X' H' ∧ Same H H' ∧ ∃ ys, H' L = some (.lst ys) ∧ DXs X' H' ys ((possL (ns.take i) as ps l).map PyData.str) ∧ EnvOk X' H' σ' [.dat (wsD ns), .dat (.list (as.map wsD)), .dat (.list (ps.map ansD)), .dat (.int l), .val (.ref L), .un, .un, .un, .un]) ?_ ?_ ?_ ?_
    · intro Hb sb
      exact ⟨Kp.refl, t1.mono sb, s1.trans sb, [], sb _ _ upd_same, .nil, E1.same sb⟩
    · rintro Hb i σ' H' ⟨p1, p2, _⟩
      exact ⟨p1, p2⟩
    · rintro Hb i x d σ' H' H'' sb hd ⟨p1, p2, p3, ys, p4, p5, E⟩ s5 dx
      rw [List.getElem?_map] at hd
      obtain ⟨x0, hx, rfl⟩ := Option.map_eq_some_iff.mp hd
      have hi := (List.getElem?_eq_some_iff.mp hx).1
      have t5 := p2.mono s5
      refine k_name ?_
      have E5 := (E.same s5).set (i := 5) dx
      refine q_set (i := 6) (d := .list ((ps.filter fun p => decide (x0 ∈ as.getD p.1 []) != p.2).map fun _ => .int 1)) E5 (g_is (g_lc (ds := ps.map ansD) (Γ2 := fun z => [.dat (wsD ns), .dat (.list (as.map wsD)), .dat (.list (ps.map ansD)), .dat (.int l), .val (.ref L), .dat (.str x0), .un, .dat (it z 0), .dat (it z 1)]) (fun z => decide (x0 ∈ as.getD (ansOf z).1 []) != (ansOf z).2) (fun _ => .int 1) t5 (gi_list (g_var (i := 2) (d := .list (ps.map ansD)) E5 rfl)) (by rw [List.length_map]; omega) (fun H3 s3 z hz => ?_) (fun X2 H3 σ2 z hz t3 E3 => ?_) (fun X2 H3 σ2 z hz hf t3 E3 => g_int)) ?_) fun H6 v6 s6 E6 => ?_
      · obtain ⟨p, hp, rfl⟩ := List.mem_map.mp hz
        exact tgt_pair (E5.same s3) (by decide)
      · obtain ⟨p, hp, rfl⟩ := List.mem_map.mp hz
        have lt := ok p hp
        refine gt_is (gt_neD t3 (x := .bool (decide (x0 ∈ as.getD p.1 []))) (y := .bool p.2) (g_is (g_op t3 (g_var (i := 5) (d := .str x0) E3 rfl) (g_ixL (z := wsD (as.getD p.1 [])) t3 (g_var (i := 1) (d := .list (as.map wsD)) E3 rfl) (g_var (i := 7) (d := .int (p.1 : Int)) E3 rfl) (atI_nat ?_)) (RB.rd (rb_inL (neg := false) rfl rfl))) rfl) (g_var (i := 8) (d := .bool p.2) E3 rfl) rfl rfl (shaped_bool _) (shaped_bool _)) ?_
        · rw [List.getElem?_map, List.getElem?_eq_getElem lt, List.getD_eq_getElem?_getD, List.getElem?_eq_getElem lt]
          rfl
        · rw [eqv_bool]
          show (!(decide (x0 ∈ as.getD p.1 []) == p.2)) = (decide (x0 ∈ as.getD (p.1 : Int).toNat []) != p.2)
          rw [show (p.1 : Int).toNat = p.1 by omega]
          rfl
      · rw [List.filter_map, List.map_map]
        rfl
      · have t6 := t5.mono s6
        have s56 := s5.trans s6
        have lenw : lenD (.list ((ps.filter fun p => decide (x0 ∈ as.getD p.1 []) != p.2).map fun _ => PyData.int 1)) = wrongs x0 as ps := by
          show ((ps.filter fun p => decide (x0 ∈ as.getD p.1 []) != p.2).map fun _ => PyData.int 1).length = _
          rw [List.length_map]
          rfl
        have etake : possL (ns.take (i + 1)) as ps l = possL (ns.take i) as ps l ++ (if (wrongs x0 as ps : Int) ≤ l then [x0] else []) := by
          unfold possL
          rw [List.take_succ, hx]
          show (ns.take i ++ [x0]).filter _ = _
          rw [List.filter_append]
          congr 1
          by_cases h : (wrongs x0 as ps : Int) ≤ l
          · rw [if_pos h, List.filter_cons_of_pos (by simpa using h)]
            rfl
          · rw [if_neg h, List.filter_cons_of_neg (by simpa using h)]
            rfl
        have lposs : (possL (ns.take i) as ps l).length ≤ 100 := by
          unfold possL
          have := List.length_filter_le (fun x => decide ((wrongs x as ps : Int) ≤ l)) (ns.take i)
          rw [List.length_take] at this
          omega
        refine k_drop1 (q_extend (i := 4) (L := L) (es := (if (wrongs x0 as ps : Int) ≤ l then [x0] else []).map PyData.str) E6 rfl (.inr rfl) t6 (s56 _ _ p4) (p5.mono (Kp.of s56)) (g_if (gt_cmpI t6 (g := fun i j => decide (i ≤ j)) (g_len t6 (g_var (i := 6) E6 rfl) rfl) (g_var (i := 3) (d := .int l) E6 rfl)) (fun hb => ?_) fun hb => ?_) (by rw [List.length_map, List.length_map]; split <;> simp <;> omega) fun H7 ys7 h7 x7 E7 t7 k7 => ?_)
        · rw [lenw] at hb
          rw [if_pos (of_decide_eq_true hb)]
          exact g_lst (ds := [.str x0]) t6 (ga_cons (g_var (i := 5) (d := .str x0) E6 rfl) ga_nil) (by simp)
        · rw [lenw] at hb
          rw [if_neg (of_decide_eq_false hb)]
          exact g_lst (ds := []) t6 ga_nil (by simp)
        · have kx : Kp X' H6 H7 := fun a o n e => k7 a o (fun z => n (.inr z)) e
          refine ⟨(p1.trans (Kp.of s56)).trans kx, t7, fun a o e => ?_, ys7, h7, ?_, envUn' (envUn' E7 5) 6⟩
          · have n1 : a ≠ L := fun z => by rw [z, hL] at e; cases e
            exact k7 a o n1 (s56 a o (p3 a o e))
          · rw [etake, List.map_append]
            exact x7
    · rintro Hb σ' H' sb ⟨p1, p2, p3, ys, p4, p5, E⟩
      rw [List.length_map, List.take_length] at p5
      have E8 := E.give (i := 4) rfl nX p4 p5
      exact k_ret (g_var (i := 4) (d := wsD (possL ns as ps l)) E8 rfl H' (Same.refl _) _ fun w H9 s9 dw => q w H9 (p3.trans s9) dw)
end K77

/-! A def with a default, called. -/
namespace K77
open PySem PySem.Spec PyProof.Rows L2 KD
variable {P : Program} {w : World} {K : PySem.W.Frag} {mg : Str → Option Value} {base : Heap}
structure OwnD (P : Program) (w : World) (K : PySem.W.Frag) (mg : Str → Option Value) (base : Heap) (k : Nat) (x : Str) (ps : List Str) (n : Nat) (ks : List Str) (dv : V) (sp : Sp) : Prop where
  ex : ∃ (f : Addr) (fd : FuncData) (ds : List Value), mg x = some (.ref f) ∧ PySem.W.keepIn K (.ref f) = true ∧ Binds K fd ps [] ∧ Vals [dv] ds ∧ Binds K fd ps ds ∧ KBn K fd ps n ks (fun us ws => us ++ ws) (fun vs zs => vs ++ zs) ∧ FnOk P w K mg base CX0 k f fd ps sp
section
variable {X : Cx} {k j n : Nat} {x : Str} {ps ks : List Str} {sp : Sp} {dv : V} {e : Expr} {es : List Expr} {p pos : Pos} {ta tk : TA} {kws : List Keyword}
theorem pe_ownA (O : OwnD X.prog X.w X.K X.mg X.base k x ps n ks dv sp) (hr : Room j X.A) (hk : k ≤ j) (hg : Gl X x) (ha : PA X (e :: es) ta) (hdb : (x == ("__debug__" : Str)) = false := by decide)
    (he : starEach (e :: es) X.env = (false, eval e X.env) :: starEach es X.env := by rfl) (hpl : (backTo pos (starEach es X.env)).any (·.1) = false := by rfl) : PE X (.Call (.Name x p) (e :: es) [] pos) (tCall sp [] E0 ta) := by
  obtain ⟨f, fd, ds, h1, h2, h3, h4, h5, h6, h7⟩ := O.ex
  exact pe_call h7 (hr.mono hk) hg h1 h2 h3 .nil pass0 ha hdb he hpl
theorem pe_ownF (O : OwnD X.prog X.w X.K X.mg X.base k x ps n ks dv sp) (hr : Room j X.A) (hk : k ≤ j) (hg : Gl X x) (ha : PA X (e :: es) ta) (hdb : (x == ("__debug__" : Str)) = false := by decide)
    (he : starEach (e :: es) X.env = (false, eval e X.env) :: starEach es X.env := by rfl) (hpl : (backTo pos (starEach es X.env)).any (·.1) = false := by rfl) : PE X (.Call (.Name x p) (e :: es) [] pos) (tCall sp [dv] E0 ta) := by
  obtain ⟨f, fd, ds, h1, h2, h3, h4, h5, h6, h7⟩ := O.ex
  exact pe_call h7 (hr.mono hk) hg h1 h2 h5 h4 pass0 ha hdb he hpl
theorem pe_ownK (O : OwnD X.prog X.w X.K X.mg X.base k x ps n ks dv sp) (hr : Room j X.A) (hk : k ≤ j) (hg : Gl X x) (ha : PA X (e :: es) ta) (hkw : PK X kws tk)
    (hall : (backToKw pos (keywordEach kws X.env)).all (·.1.isSome) = true := by rfl) (hks : (backToKw pos (keywordEach kws X.env)).filterMap (·.1) = ks := by rfl)
    (hdb : (x == ("__debug__" : Str)) = false := by decide) (he : starEach (e :: es) X.env = (false, eval e X.env) :: starEach es X.env := by rfl)
    (hpl : ((backTo pos (starEach (e :: es) X.env)).any (·.1) || (backToKw pos (keywordEach kws X.env)).any (·.1.isNone)) = false := by rfl) :
    PE X (.Call (.Name x p) (e :: es) kws pos) (tCallN n ks.length sp (fun vs zs => vs ++ zs) E0 ta tk) := by
  obtain ⟨f, fd, ds, h1, h2, h3, h4, h5, h6, h7⟩ := O.ex
  exact pe_callN h7 (hr.mono hk) hg h1 h2 h6 pass0 ha hkw hall hks hdb he hpl
end
theorem own_possible {f : Addr} {fd : FuncData} (F : FunD K "possible_ones" "possible_ones" (defArgs s_possible_ones) (defBody s_possible_ones) (defScope s_possible_ones) [.int 0] [] f fd) (h1 : mg "possible_ones" = some (.ref f))
    (ok : FnOk P w K mg base CX0 5 f fd ["suspects", "askings", "answers", "lies"] spPoss) : OwnD P w K mg base 5 "possible_ones" ["suspects", "askings", "answers", "lies"] 3 ["lies"] (.int 0) spPoss := by
  obtain ⟨ds, r1, b1⟩ := F.binds1 (ps := ["suspects", "askings", "answers", "lies"]) 3 0 (by simp) rfl fun T kV doc pm an cdv ct us its hu hi => match us, its, hu, hi with
    | [_, _, _], [_], _, _ => ⟨_, rfl, rfl⟩
  obtain ⟨ds0, r0, b0⟩ := F.binds1 (ps := ["suspects", "askings", "answers", "lies"]) 4 1 (by simp) rfl fun T kV doc pm an cdv ct us its hu hi => match us, its, hu, hi with
    | [_, _, _, _], [_], _, _ => ⟨_, rfl, rfl⟩
  cases r0
  refine ⟨f, fd, ds, h1, F.kp, b0, r1, b1, ⟨fun s us ws X l1 l2 => ?_, fun r s => r.append s⟩, ok⟩
  obtain ⟨oc, od, dV, kV, doc, pm, an, cdv, ct, osl, rfl, lk, hcd, hD, hK⟩ := F.ex
  rcases hD with ⟨e, _⟩ | ⟨_, T, o, its, m, rfl, lT, oT, rT⟩
  · cases e
  refine BindsTo.of_looks fun M => ?_
  match us, ws, l1, l2 with
  | [_, _, _], [_], _, _ =>
    cases rT with
    | cons _ r =>
      cases r
      exact looks_items X lT oT (.of_pure rfl)
end K77

/-! Words for the law. -/
namespace K77
open PySem PySem.Spec PyProof.Rows L2 KD
variable {P : Program} {w : World} {K : PySem.W.Frag} {mg : Str → Option Value} {base : Heap}
section
variable {X : Addr → Prop} {H : Hp} {σ : L2.St} {Γ : List Sv} {st cl L : Addr} {n m : Nat} {ta tb tc td te : TE} {E : XK} {d : PyData} {Q : VK} {xs : List V} {ds : List PyData} {l : Int} {ns : List Str} {as : List (List Str)} {ps : List (Nat × Bool)} {D : Ends} {tz : TS} {i j k : Nat}
theorem c_msus (S : Sg X st cl n H) (hv : GV ta σ H (.ref st)) (hn : n + 200 ≤ 1000000000) (m1 : 1 ≤ m) (m7 : m ≤ 7)
    (k : ∀ w ns as H', Sus (wsD ns) ns → Ask (.list (as.map wsD)) as → as.length ≤ 5 → Sg X st cl (n + 100) H' → KpS st cl H H' → DX X H' w (.tuple [wsD ns, .list (as.map wsD)]) → Q w H') : tCall spMSus [] E (tCons ta (tCons (tC (.int (m : Int))) tNil)) σ H Q :=
  hv H (Same.refl H) _ ⟨X, st, cl, n, m, rfl, S, hn, m1, m7, k⟩
theorem g_same (t : Trk X H) (h1 : G X ta σ H d) (h2 : G X tb σ H d) (hs : sm 4 d) : G X (tCall (spSame 4) [] E (tCons ta (tCons tb tNil))) σ H (.bool true) :=
  g_call (ga_cons h1 (ga_cons h2 ga_nil)) fun vs H1 s rs Q q => by
    cases rs with
    | cons r1 r2 =>
      cases r2 with
      | cons r2 r3 =>
        cases r3
        exact ⟨X, _, _, d, rfl, t.mono s, r1, r2, hs, fun H' s' => q _ H' s' (.bl true)⟩
theorem g_due (t : Trk X H) (h1 : G X ta σ H (wsD ns)) (h2 : G X tb σ H (.list (as.map wsD))) (h3 : G X tc σ H (.list (ps.map ansD))) (h4 : G X td σ H (.int l)) (hl : ns.length ≤ 100) (few : ps.length ≤ 1000) (ok : ∀ p ∈ ps, p.1 < as.length) :
    G X (tCall spDue [] E (tCons ta (tCons tb (tCons tc (tCons td tNil))))) σ H (wsD (possL ns as ps l)) :=
  g_call (ga_cons h1 (ga_cons h2 (ga_cons h3 (ga_cons h4 ga_nil)))) fun vs H1 s rs Q q => by
    cases rs with
    | cons r1 rs =>
      cases rs with
      | cons r2 rs =>
        cases rs with
        | cons r3 rs =>
          cases rs with
          | cons r4 rs =>
            cases rs
            exact ⟨X, _, _, _, _, l, ns, as, ps, rfl, t.mono s, r1, r2, r3, r4, hl, few, ok, q⟩
/-- a list of one's own, read -/
theorem g_ixO {c : Int} {z : PyData} (En : EnvOk X H σ Γ) (hi : Γ[i]? = some (.val (.ref L))) (hL : H L = some (.lst xs)) (hx : DXs X H xs ds) (hb : G X tb σ H (.int c)) (h : atI ds c = some z) : G X (tOp (rIx K) (tVar i) tb) σ H z := fun H1 s Q q =>
  ⟨_, En.get i _ hi, hb H1 s _ fun v H2 s2 r2 => by
    rw [r2.int_inv]
    unfold atI at h
    cases hj : ixN ds.length c with
    | none => rw [hj] at h; cases h
    | some j =>
      rw [hj] at h
      obtain ⟨u, hu, ru⟩ := hx.get (i := j) (show ds[j]? = some z from h)
      refine .inl ⟨L, xs, c, u, rfl, rfl, SqL.of ((s.trans s2) _ _ hL), ?_, q _ H2 s2 (ru.mono (Kp.of (s.trans s2)))⟩
      unfold atI
      rw [hx.length, hj]
      exact hu⟩
/-- what suspects and askings are, as they are passed -/
theorem Sus.tup (S : Sus (wsD ns) ns) : Sus (.tuple (ns.map PyData.str)) ns := ⟨rfl, rfl, S.nd, S.ok, S.pos⟩
theorem Ask.tup (A : Ask (.list (as.map wsD)) as) : Ask (.tuple (as.map wsD)) as := ⟨rfl, rfl, A.pos, A.few, A.nd, A.ok⟩
def ansL (p : Nat × Bool) : PyData := .list [.int (p.1 : Int), .bool p.2]
theorem ans_of {d : PyData} (hs : isSeq d = true) (hi : itemsD d = ps.map ansD ∨ itemsD d = ps.map ansL) (few : ps.length ≤ 1000) (ok : ∀ p ∈ ps, p.1 < n) : Ans d ps n := by
  refine ⟨hs, ?_, few, fun z hz => ?_⟩
  · rcases hi with h | h
    all_goals
      rw [h, List.map_map]
      conv => rhs; rw [← List.map_id ps]
      exact List.map_congr_left fun p _ => by
        show ((p.1 : Int).toNat, p.2) = p
        rw [show (p.1 : Int).toNat = p.1 by omega]
  · rcases hi with h | h
    all_goals
      rw [h] at hz
      obtain ⟨p, hp, rfl⟩ := List.mem_map.mp hz
      exact ⟨rfl, p.1, p.2, rfl, ok p hp⟩
theorem poss_pre {s a q : PyData} {v1 v2 v3 v4 : V} (t : Trk X H) (r1 : DX X H v1 s) (r2 : DX X H v2 a) (r3 : DX X H v3 q) (r4 : DX X H v4 (.int l)) (S : Sus s ns) (A : Ask a as) (N : Ans q ps as.length) (lie : lieI (.int l)) (k : ∀ w H', Same H H' → DX X H' w (wsD (possL ns as ps l)) → Q w H') : spPoss [v1, v2, v3, v4] H Q E :=
  ⟨X, v1, v2, v3, v4, s, a, q, l, ns, as, ps, rfl, t, r1, r2, r3, r4, S, A, N, lie, k⟩
/-- with the default -/
theorem g_possF {s a q : PyData} (t : Trk X H) (h1 : G X ta σ H s) (h2 : G X tb σ H a) (h3 : G X tc σ H q) (S : Sus s ns) (A : Ask a as) (N : Ans q ps as.length) : G X (tCall spPoss [.int 0] E (tCons ta (tCons tb (tCons tc tNil)))) σ H (wsD (possL ns as ps 0)) := fun H1 s1 Q q1 =>
  (ga_cons h1 (ga_cons h2 (ga_cons h3 ga_nil))) H1 s1 _ fun vs H2 s2 rs => by
    cases rs with
    | cons r1 rs =>
      cases rs with
      | cons r2 rs =>
        cases rs with
        | cons r3 rs =>
          cases rs
          exact poss_pre (t.mono (s1.trans s2)) r1 r2 r3 (.int 0) S A N (.inl rfl) fun w H3 s3 dw => q1 w H3 (s2.trans s3) dw
/-- by the name -/
theorem g_possK {s a q : PyData} (t : Trk X H) (h1 : G X ta σ H s) (h2 : G X tb σ H a) (h3 : G X tc σ H q) (h4 : G X td σ H (.int l)) (S : Sus s ns) (A : Ask a as) (N : Ans q ps as.length) (lie : lieI (.int l)) :
    G X (tCallN 3 1 spPoss (fun vs zs => vs ++ zs) E (tCons ta (tCons tb (tCons tc tNil))) (tCons td tNil)) σ H (wsD (possL ns as ps l)) := fun H1 s1 Q q1 =>
  (ga_cons h1 (ga_cons h2 (ga_cons h3 ga_nil))) H1 s1 _ fun vs H2 s2 rs => h4 H2 (s1.trans s2) _ fun v4 H3 s3 r4 => by
    cases rs with
    | cons r1 rs =>
      cases rs with
      | cons r2 rs =>
        cases rs with
        | cons r3 rs =>
          cases rs
          exact ⟨rfl, rfl, poss_pre (t.mono ((s1.trans s2).trans s3)) (r1.mono (Kp.of s3)) (r2.mono (Kp.of s3)) (r3.mono (Kp.of s3)) r4 S A N lie fun w H4 s4 dw => q1 w H4 ((s2.trans s3).trans s4) dw⟩
theorem g_tupOf (t : Trk X H) (h : G X te σ H d) (hs : isSeq d = true) : G X (tCB (fun xs H Q => ∃ p ys, xs = [V.ref p] ∧ ((SqL K H p ys ∧ ∀ l, H l = none → Q (.ref l) (upd H l (.tup ys))) ∨ (SqT K H p ys ∧ Q (.ref p) H))) (tCons te tNil)) σ H (.tuple (itemsD d)) := g_cb t (ga_cons h ga_nil) (rf_tuple hs)
theorem k_par3 {i j l : Nat} (h : ta σ H fun x H1 => tb σ H1 fun y H2 => tc σ H2 fun z H3 => ∃ u v w, [x, y, z] = [u, v, w] ∧ tz D (((σ.set i (some u)).set j (some v)).set l (some w)) H3) : tSeq (tPar3 i j l (tCons ta (tCons tb (tCons tc tNil)))) tz D σ H := h
theorem sm_ns (S : Sus (wsD ns) ns) (as : List (List Str)) (ps : List (Nat × Bool)) (l : Int) : sm 4 (wsD (possL ns as ps l)) := by
  have few := S.few
  refine ⟨?_, fun z hz => ?_⟩
  · have := List.length_filter_le (fun x => decide ((wrongs x as ps : Int) ≤ l)) ns
    show ((possL ns as ps l).map PyData.str).length ≤ _
    rw [List.length_map]
    unfold possL
    omega
  · obtain ⟨s, hs, rfl⟩ := List.mem_map.mp (show z ∈ (possL ns as ps l).map PyData.str from hz)
    have h := S.ok s (List.mem_filter.mp hs).1
    have all : ∀ s ∈ sNames, PyData.strOk s = true := by decide +kernel
    exact all s h
theorem wrong_set (x : Str) (as : List (List Str)) : ∀ (ps : List (Nat × Bool)) (i : Nat) (q : Nat × Bool), wrongs x as (ps.set i q) ≤ wrongs x as ps + 1
  | [], _, _ => by simp [wrongs]
  | p :: ps, 0, q => by
    unfold wrongs
    rw [List.set_cons_zero, List.filter_cons, List.filter_cons]
    split <;> split <;> (repeat rw [List.length_cons]) <;> omega
  | p :: ps, i + 1, q => by
    have ih := wrong_set x as ps i q
    unfold wrongs at ih ⊢
    rw [List.set_cons_succ, List.filter_cons, List.filter_cons]
    split <;> (repeat rw [List.length_cons]) <;> omega
theorem _root_.KD.EnvOk.weak {Δ : List Sv} (E : EnvOk X H σ Γ) (hl : Γ.length = Δ.length) (h : ∀ (i : Nat) (s : Sv), Δ[i]? = some s → s = .un ∨ Γ[i]? = some s) : EnvOk X H σ Δ := ⟨E.len.trans hl, fun i s e => by
  rcases h i s e with rfl | q
  · trivial
  · exact E.get i s q⟩
theorem Sg.kpl {H' : Hp} (S : Sg X st cl n H) (k : KpL L H H') (n1 : L ≠ st) (n2 : L ≠ cl) (t : Trk X H') : Sg X st cl n H' := by
  obtain ⟨ms, a, b, c, SS, hb⟩ := S.ok
  exact ⟨⟨ms, a, b, c, ⟨k _ _ (Ne.symm n1) SS.hs, k _ _ (Ne.symm n2) SS.hc, SS.ne, SS.a0, SS.b0, SS.c0, SS.c1, SS.ml⟩, hb⟩, S.x1, S.x2, t⟩
theorem Sg.back (S : Sg (fun b => X b ∨ b = L) st cl n H) (n1 : L ≠ st) (n2 : L ≠ cl) : Sg X st cl n H := ⟨S.ok, S.x1.elim id fun e => absurd e.symm n1, S.x2.elim id fun e => absurd e.symm n2, fun a h => S.t a (.inl h)⟩
theorem g_lenO (En : EnvOk X H σ Γ) (hi : Γ[i]? = some (.val (.ref L))) (hL : H L = some (.lst xs)) (hx : DXs X H xs ds) : G X (tCB (fun xs H Q => ∃ x n, xs = [x] ∧ LenV K x H n ∧ Q (V.int n) H) (tCons (tVar i) tNil)) σ H (.int (ds.length : Nat)) := fun H1 s Q q =>
  ⟨_, En.get i _ hi, ⟨.ref L, xs.length, rfl, .inl ⟨xs, SqL.of (s _ _ hL), rfl⟩, q _ H1 (Same.refl _) (by rw [hx.length]; exact .int _)⟩⟩
theorem k_callS {sp : Sp} {tl : TA} (h : tl σ H fun vs H1 => sp (vs ++ []) H1 Q E) : tCall sp [] E tl σ H Q := h
theorem g_parted {o : Option (Nat × Nat)} {s a : PyData} (t : Trk X H) (h1 : G X ta σ H s) (h2 : G X tb σ H a) (S : Sus s ns) (A : Ask a as) (ho : Fst ns.length (sameB ns as) o) : G X (tCall spParted [] E (tCons ta (tCons tb tNil))) σ H (optD ns o) :=
  g_call (ga_cons h1 (ga_cons h2 ga_nil)) fun vs H1 s rs Q q => by
    cases rs with
    | cons r1 r2 =>
      cases r2 with
      | cons r2 r3 =>
        cases r3
        exact ⟨X, _, _, _, _, ns, as, rfl, t.mono s, r1, r2, S, A, fun o' w H' ho' s' dw => q w H' s' (by rw [ho.uniq ho']; exact dw)⟩
/-- what has been looked at so far -/
def Upt (n : Nat) (f : Nat → Nat → Bool) (o : Option (Nat × Nat)) (a b : Nat) : Prop := (o = none ∧ ∀ i j, i < j → j < n → (i < a ∨ (i = a ∧ j < b)) → f i j = false) ∨ ∃ q, o = some q ∧ Fst n f (some q)
theorem nd_all : ∀ {ds : List PyData}, (∀ z ∈ ds, noDict z = true) → noDicts ds = true
  | [], _ => by simp [noDicts]
  | d :: ds, h => by simp [noDicts, h d List.mem_cons_self, nd_all fun z hz => h z (List.mem_cons_of_mem _ hz)]
theorem lay_all : ∀ {ds : List PyData}, (∀ z ∈ ds, z.canLay0 = true) → PyData.canLayAll0 ds = true
  | [], _ => by simp [PyData.canLayAll0]
  | d :: ds, h => by simp [PyData.canLayAll0, h d List.mem_cons_self, lay_all fun z hz => h z (List.mem_cons_of_mem _ hz)]
theorem dep_all {k : Nat} : ∀ {ds : List PyData}, (∀ z ∈ ds, z.depth ≤ k) → PyData.depthAll ds ≤ k
  | [], _ => by simp [PyData.depthAll]
  | d :: ds, h => by
    have a := h d List.mem_cons_self
    have b := dep_all fun z hz => h z (List.mem_cons_of_mem _ hz)
    simp only [PyData.depthAll]
    omega
theorem shaped_mk {d : PyData} (h : d.canLay0 = true) (h2 : d.depth ≤ 64) : SeqAt.shaped d = true := by
  show (d.canLay0 && decide (d.depth ≤ 64)) = true
  rw [h, decide_eq_true h2]
  rfl
theorem ans_sh (ps : List (Nat × Bool)) : noDict (.list (ps.map ansD)) = true ∧ SeqAt.shaped (.list (ps.map ansD)) = true := by
  have mk : ∀ {z : PyData}, z ∈ ps.map ansD → ∃ p, z = ansD p := fun h => by
    obtain ⟨p, _, rfl⟩ := List.mem_map.mp h
    exact ⟨p, rfl⟩
  refine ⟨nd_all fun z hz => ?_, shaped_mk ?_ ?_⟩
  · obtain ⟨p, rfl⟩ := mk hz
    simp [ansD, noDict, noDicts]
  · show PyData.canLay0 (.list (ps.map ansD)) = true
    simp only [PyData.canLay0]
    refine lay_all fun z hz => ?_
    obtain ⟨p, rfl⟩ := mk hz
    simp [ansD, PyData.canLay0, PyData.canLayAll0]
  · have : PyData.depthAll (ps.map ansD) ≤ 1 := dep_all fun z hz => by
      obtain ⟨p, rfl⟩ := mk hz
      simp [ansD, PyData.depth, PyData.depthAll]
    show PyData.depth (.list (ps.map ansD)) ≤ 64
    simp only [PyData.depth]
    omega
theorem eqv_nil {ds : List PyData} : PyData.eqv (.list ds) (.list []) = decide (ds = []) := by
  cases ds <;> simp [PyData.eqv, PyData.eqvAll]
theorem wrong_none {x : Str} (h : ∀ p ∈ ps, p.2 = decide (x ∈ as.getD p.1 [])) : wrongs x as ps = 0 := by
  unfold wrongs
  rw [List.filter_eq_nil_iff.mpr fun p hp => by rw [h p hp]; simp]
  rfl
theorem ans_list : ∀ {ds : List PyData}, (∀ d ∈ ds, ∃ p : Nat × Bool, d = ansD p ∧ p.1 < n) → ∃ qs : List (Nat × Bool), ds = qs.map ansD ∧ ∀ p ∈ qs, p.1 < n
  | [], _ => ⟨[], rfl, fun p h => by cases h⟩
  | d :: ds, h => by
    obtain ⟨p, rfl, hp⟩ := h d List.mem_cons_self
    obtain ⟨qs, rfl, hq⟩ := ans_list fun z hz => h z (List.mem_cons_of_mem _ hz)
    exact ⟨p :: qs, rfl, fun z hz => (List.mem_cons.mp hz).elim (fun e => e ▸ hp) (hq z)⟩
theorem opt_sm (S : Sus (wsD ns) ns) {o : Option (Nat × Nat)} (ho : Fst ns.length (sameB ns as) o) : sm 4 (.list [optD ns o]) := by
  have all : ∀ s ∈ sNames, PyData.strOk s = true := by decide +kernel
  have at' : ∀ i, i < ns.length → PyData.strOk (ns.getD i "") = true := fun i hi => by
    rw [List.getD_eq_getElem?_getD, List.getElem?_eq_getElem hi]
    exact all _ (S.ok _ (List.getElem_mem hi))
  refine ⟨by simp, fun z hz => ?_⟩
  rw [List.mem_singleton.mp hz]
  match o, ho with
  | none, _ => rfl
  | some (i, j), h =>
    refine ⟨by simp, fun z hz => ?_⟩
    rcases List.mem_cons.mp hz with rfl | hz
    · exact at' i (Nat.lt_trans h.1 h.2.1)
    · rw [List.mem_singleton.mp hz]
      exact at' j h.2.1
end
end K77

/-! The law. -/
namespace K77
open PySem PySem.Spec PyProof.Rows L2 KD
-- HINT law inIn (op_inK (K := K) rfl)
-- HINT law inNotIn (op_notInK (K := K) rfl)
-- HINT law lcte#1 (tTup (tCons (tCall spDraw [] E0 (tCons (tVar 1) (tCons (tCB (fun xs H Q => ∃ x n, xs = [x] ∧ LenV K x H n ∧ Q (V.int n) H) (tCons (tVar 4) tNil)) tNil))) (tCons (tOp (rEqD K) (tCall spDraw [] E0 (tCons (tVar 1) (tCons (tC (.int 2)) tNil))) (tC (.int 0))) tNil)))
-- HINT law lcte#2 (tCB (fun xs H Q => ∃ p ys, xs = [V.ref p] ∧ (SqL K H p ys ∨ SqT K H p ys) ∧ ∀ l, H l = none → Q (.ref l) (upd H l (.lst ys))) (tCons (tVar 18) tNil))
-- HINT law lcte#3 (tOp (rEqD K) (tOp (rIn K false) (tVar 16) (tVar 19)) (tOp (rIn K false) (tVar 17) (tVar 19)))
section
variable {P : Program} {w : World} {K : PySem.W.Frag} {mg : Str → Option Value} {base : Heap}
abbrev s_law : Stmt := topS 35
abbrev n_law : List Str := ["_law_script", "_law_stream", "_law_turn", "_law_names", "_law_askings", "_law_one", "_law_lies", "_law_answers", "_law_k", "_law_index", "_law_at", "_law_drawn", "_law_some", "_law_handed", "_law_told", "_law_due_here", "_law_name", "_law_other", "_law_pair", "_law_row"]
theorem sc_law : FnScope n_law ["_law_script"] (defScope s_law) := ⟨rfl, rfl, rfl, by decide +kernel, rfl, by decide +kernel, by decide +kernel⟩
/-- what the law's text leans on -/
structure Lib (P : Program) (w : World) (K : PySem.W.Frag) (mg : Str → Option Value) (base : Heap) : Prop where
  T : Bl mg
  start : Own P w K mg base CX0 1 "_law_start" ["_law_script"] (spStart K)
  draw : Own P w K mg base CX0 1 "_law_draw" ["_law_stream", "_law_many"] spDraw
  pick : Own P w K mg base CX0 2 "_law_pick" ["_law_stream", "_law_some"] spPick
  msus : Own P w K mg base CX0 3 "_law_m_suspects" ["_law_stream", "_law_most"] spMSus
  same : Own P w K mg base CX0 6 "_law_same" ["_law_found", "_law_due_here"] (spSame 4)
  due : Own P w K mg base CX0 1 "_law_due" ["_law_names", "_law_askings", "_law_answers", "_law_lies"] spDue
  poss : OwnD P w K mg base 5 "possible_ones" ["suspects", "askings", "answers", "lies"] 3 ["lies"] (.int 0) spPoss
  part : Own P w K mg base CX0 4 "never_parted" ["suspects", "askings"] spParted
def Gm0 (st : Addr) : List Sv := .un :: .val (.ref st) :: List.replicate 18 .un
def Gm1 (st : Addr) (ns : List Str) (as : List (List Str)) (one : Str) (l : Int) (x : Sv) : List Sv := [.un, .val (.ref st), .un, .dat (wsD ns), .dat (.list (as.map wsD)), .dat (.str one), .dat (.int l), x, .un, .un, .un, .un, .un, .un, .un, .un, .un, .un, .un, .un]
def Gm2 (st : Addr) (ns : List Str) (as : List (List Str)) (one : Str) (l : Int) (ps ds : List (Nat × Bool)) : List Sv := [.un, .val (.ref st), .un, .dat (wsD ns), .dat (.list (as.map wsD)), .dat (.str one), .dat (.int l), .dat (.list (ps.map ansD)), .un, .un, .un, .dat (.list (ds.map ansD)), .un, .un, .un, .un, .un, .un, .un, .un]
def Gm3 (st : Addr) (ns : List Str) (as : List (List Str)) (x y z : Sv) : List Sv := [.un, .val (.ref st), .un, .dat (wsD ns), .dat (.list (as.map wsD)), .un, .un, .un, .un, .un, y, .un, .un, .un, .un, x, z, .un, .un, .un]
theorem law_reads {f a : Addr} {cdv : Value} {s : Shared} {H : Hp} {E : XK} {ns : List Int} (L : Lib P w K mg base) (hr : Room 8 (callerA.deeper (envOfC "law" (defScope s_law) s.heap.objs.size f cdv))) (hS : SqL K H a (ns.map V.int)) (hl : ns.length ≤ 63) :
    ∃ t, PSs (cxOf CX0 P w K mg base n_law "law" (defScope s_law) f cdv callerA [] s H E).nox (defBody s_law) t ∧ t { nx := fun _ _ => V.non = V.bl true, rt := fun v _ => v = V.bl true } (L2.start n_law [.ref a]) H := by
  obtain ⟨T, O__law_start, O__law_draw, O__law_pick, O__law_m_suspects, O__law_same, O__law_due, O_possible_ones, O_never_parted⟩ := L
  refine ⟨_, (pss_cons (ps_set (i := 1) sc_law.nd rfl (by first | exact Or.inl rfl | exact Or.inr rfl) (pe_own O__law_start hr (by decide) (by rfl) (pa_cons (pv 0) pa_nil)))
    (pss_cons (ps_for PassesOwn.never rfl (pi_range1 (by rfl) T.b_range (pa_cons pe_int pa_nil)) (pg_name (i := 2) sc_law.nd rfl (by first | exact Or.inl rfl | exact Or.inr rfl))
    (pss_cons (ps_asg (pe_own O__law_m_suspects hr (by decide) (by rfl) (pa_cons (pv 1) (pa_cons pe_int pa_nil))) (pg_tup (n := 2) rfl (pgs_cons (pg_name (i := 3) sc_law.nd rfl (by first | exact Or.inl rfl | exact Or.inr rfl)) (pgs_cons (pg_name (i := 4) sc_law.nd rfl (by first | exact Or.inl rfl | exact Or.inr rfl)) pgs_nil))))
    (pss_cons (ps_par3 (i := 5) (j := 6) (l := 7) (by rfl) sc_law.nd rfl rfl rfl (by decide) (by decide) (by decide) rfl rfl rfl (pa_cons (pe_own O__law_pick hr (by decide) (by rfl) (pa_cons (pv 1) (pa_cons (pv 3) pa_nil))) (pa_cons (pe_own O__law_draw hr (by decide) (by rfl) (pa_cons (pv 1) (pa_cons pe_int pa_nil))) (pa_cons (pe_lst pa_nil) pa_nil))) (by rfl))
    (pss_cons (ps_for PassesOwn.never rfl (pi_range1 (by rfl) T.b_range (pa_cons (pe_own O__law_draw hr (by decide) (by rfl) (pa_cons (pv 1) (pa_cons pe_int pa_nil))) pa_nil)) (pg_name (i := 8) sc_law.nd rfl (by first | exact Or.inl rfl | exact Or.inr rfl))
    (pss_cons (ps_set (i := 9) sc_law.nd rfl (by first | exact Or.inl rfl | exact Or.inr rfl) (pe_own O__law_draw hr (by decide) (by rfl) (pa_cons (pv 1) (pa_cons (pe_callB call_len (by rfl) T.b_len boot_len (pa_cons (pv 4) pa_nil)) pa_nil))))
    (pss_one (ps_expr (pe_bm PySem.F.plainAttrs_list PySem.F.slot_list_append PySem.F.type_list_append mt_append (pv 7) (pa_cons (pe_tup (pa_cons (pv 9) (pa_cons (pe_cmpR (op_inK (K := K) rfl) (pv 5) (pe_ix ix_seq (pv 4) (pv 9) (fun _ _ => rfl)) (by rfl)) pa_nil))) pa_nil))))))
    (pss_cons (ps_if (PW.pt (pw_and (pt_cmpR (op_eqD hr.units) (pv 6) pe_int (nomark _)) (pw_and1 (pt_cmpR (op_neD hr.units) (pv 7) (pe_lst pa_nil) (nomark _)))))
    (pss_cons (ps_set (i := 10) sc_law.nd rfl (by first | exact Or.inl rfl | exact Or.inr rfl) (pe_own O__law_draw hr (by decide) (by rfl) (pa_cons (pv 1) (pa_cons (pe_callB call_len (by rfl) T.b_len boot_len (pa_cons (pv 7) pa_nil)) pa_nil))))
    (pss_one (ps_asg (pe_tup (pa_cons (pe_ix ix_seq (pe_ix ix_seq (pv 7) (pv 10) (fun _ _ => rfl)) pe_int (fun _ _ => rfl)) (pa_cons (pe_not (pe_ix ix_seq (pe_ix ix_seq (pv 7) (pv 10) (fun _ _ => rfl)) pe_int (fun _ _ => rfl))) pa_nil))) (pg_sub (pv 7) (pv 10) set_list)))) pss_nil)
    (pss_cons (ps_setLc (i := 11) (own := [("_law_k", 8)]) (g := (gName 8)) (tt := tYes) (te := (tTup (tCons (tCall spDraw [] E0 (tCons (tVar 1) (tCons (tCB (fun xs H Q => ∃ x n, xs = [x] ∧ LenV K x H n ∧ Q (V.int n) H) (tCons (tVar 4) tNil)) tNil))) (tCons (tOp (rEqD K) (tCall spDraw [] E0 (tCons (tVar 1) (tCons (tC (.int 2)) tNil))) (tC (.int 0))) tNil)))) rfl sc_law.nd rfl rfl (sw_true rfl rfl rfl (by decide +kernel)) (pi_range1 (by rfl) T.b_range (pa_cons (pe_own O__law_draw hr (by decide) (by rfl) (pa_cons (pv 1) (pa_cons pe_int pa_nil))) pa_nil)) (blkOk_by (N := n_law) (sc := defScope s_law) (by decide +kernel)) (fun _ _ _ _ _ => (pg_name (i := 8) sc_law.nd rfl (by first | exact Or.inl rfl | exact Or.inr rfl))) (fun _ _ _ _ _ => pts_nil) (fun _ _ _ _ _ => (pe_tup (pa_cons (pe_own O__law_draw hr (by decide) (by rfl) (pa_cons (pv 1) (pa_cons (pe_callB call_len (by rfl) T.b_len boot_len (pa_cons (pv 4) pa_nil)) pa_nil))) (pa_cons (pe_cmpR (op_eqD hr.units) (pe_own O__law_draw hr (by decide) (by rfl) (pa_cons (pv 1) (pa_cons pe_int pa_nil))) pe_int (nomark _)) pa_nil)))))
    (pss_cons (ps_for PassesOwn.never rfl (pi_tup (pe_tup (pa_cons (pv 7) (pa_cons (pv 11) (pa_cons (pe_lst pa_nil) pa_nil))))) (pg_name (i := 12) sc_law.nd rfl (by first | exact Or.inl rfl | exact Or.inr rfl))
    (pss_cons (ps_set (i := 13) sc_law.nd rfl (by first | exact Or.inl rfl | exact Or.inr rfl) (pe_own O__law_pick hr (by decide) (by rfl) (pa_cons (pv 1) (pa_cons (pe_lst (pa_cons (pv 12) (pa_cons (pe_callTy call_tuple_of (by rfl) T.b_tuple boot_tuple (pa_cons (pv 12) pa_nil)) (pa_cons (pe_lc (own := [("_law_pair", 18)]) (g := (gName 18)) (tt := tYes) (te := (tCB (fun xs H Q => ∃ p ys, xs = [V.ref p] ∧ (SqL K H p ys ∨ SqT K H p ys) ∧ ∀ l, H l = none → Q (.ref l) (upd H l (.lst ys))) (tCons (tVar 18) tNil))) rfl sc_law.nd (pi_list (pv 12)) (blkOk_by (N := n_law) (sc := defScope s_law) (by decide +kernel)) (fun _ _ _ _ _ => (pg_name (i := 18) sc_law.nd rfl (by first | exact Or.inl rfl | exact Or.inr rfl))) (fun _ _ _ _ _ => pts_nil) (fun _ _ _ _ _ => (pe_callTy call_list_of (by rfl) T.b_list boot_list (pa_cons (pv 18) pa_nil)))) pa_nil)))) pa_nil))))
    (pss_cons (ps_set (i := 14) sc_law.nd rfl (by first | exact Or.inl rfl | exact Or.inr rfl) (pe_ownA O_possible_ones hr (by decide) (by rfl) (pa_cons (pe_callTy call_tuple_of (by rfl) T.b_tuple boot_tuple (pa_cons (pv 3) pa_nil)) (pa_cons (pe_own O__law_pick hr (by decide) (by rfl) (pa_cons (pv 1) (pa_cons (pe_lst (pa_cons (pv 4) (pa_cons (pe_callTy call_tuple_of (by rfl) T.b_tuple boot_tuple (pa_cons (pv 4) pa_nil)) pa_nil))) pa_nil))) (pa_cons (pv 13) (pa_cons (pv 6) pa_nil))))))
    (pss_cons (ps_if (pt_not (pt_val (pe_own O__law_same hr (by decide) (by rfl) (pa_cons (pv 14) (pa_cons (pe_own O__law_due hr (by decide) (by rfl) (pa_cons (pv 3) (pa_cons (pv 4) (pa_cons (pv 12) (pa_cons (pv 6) pa_nil))))) pa_nil)))))
    (pss_one (ps_ret pe_bl)) pss_nil)
    (pss_one (ps_if (PW.pt (pw_and (pt_cmpR (op_eqD hr.units) (pv 6) pe_int (nomark _)) (pw_and1 (pt_not (pt_val (pe_own O__law_same hr (by decide) (by rfl) (pa_cons (pe_ownF O_possible_ones hr (by decide) (by rfl) (pa_cons (pv 3) (pa_cons (pv 4) (pa_cons (pv 12) pa_nil)))) (pa_cons (pv 14) pa_nil))))))))
    (pss_one (ps_ret pe_bl)) pss_nil))))))
    (pss_cons (ps_if (pt_cmpR (op_notInK (K := K) rfl) (pv 5) (pe_ownK O_possible_ones hr (by decide) (by rfl) (pa_cons (pv 3) (pa_cons (pv 4) (pa_cons (pv 7) pa_nil))) (pk_cons (pv 6) pk_nil)) (by rfl))
    (pss_one (ps_ret pe_bl)) pss_nil)
    (pss_cons (ps_set (i := 15) sc_law.nd rfl (by first | exact Or.inl rfl | exact Or.inr rfl) pe_non)
    (pss_cons (ps_for PassesOwn.never rfl (pi_enum (by rfl) T.b_enumerate (pa_cons (pv 3) pa_nil)) (pg_tup (n := 2) rfl (pgs_cons (pg_name (i := 10) sc_law.nd rfl (by first | exact Or.inl rfl | exact Or.inr rfl)) (pgs_cons (pg_name (i := 16) sc_law.nd rfl (by first | exact Or.inl rfl | exact Or.inr rfl)) pgs_nil)))
    (pss_one (ps_for PassesOwn.never rfl (pi_list (pe_slice sl_list (pv 3) (po_some (pe_op op_addA (pv 10) pe_int)) po_none)) (pg_name (i := 17) sc_law.nd rfl (by first | exact Or.inl rfl | exact Or.inr rfl))
    (pss_one (ps_if (PW.pt (pw_and (pt_cmpR op_isN (pv 15) pe_non (nomark _)) (pw_and1 (pt_val (pe_callB (cr_all rfl) (by rfl) T.b_all boot_all (pa_cons (pe_lc (own := [("_law_row", 19)]) (g := (gName 19)) (tt := tYes) (te := (tOp (rEqD K) (tOp (rIn K false) (tVar 16) (tVar 19)) (tOp (rIn K false) (tVar 17) (tVar 19)))) rfl sc_law.nd (pi_list (pv 4)) (blkOk_by (N := n_law) (sc := defScope s_law) (by decide +kernel)) (fun _ _ _ _ _ => (pg_name (i := 19) sc_law.nd rfl (by first | exact Or.inl rfl | exact Or.inr rfl))) (fun _ _ _ _ _ => pts_nil) (fun _ _ _ _ _ => (pe_cmpR (op_eqD hr.units) (pe_cmpR (op_inK (K := K) rfl) (pv 16) (pv 19) (by rfl)) (pe_cmpR (op_inK (K := K) rfl) (pv 17) (pv 19) (by rfl)) (nomark _)))) pa_nil))))))
    (pss_one (ps_set (i := 15) sc_law.nd rfl (by first | exact Or.inl rfl | exact Or.inr rfl) (pe_tup (pa_cons (pv 16) (pa_cons (pv 17) pa_nil))))) pss_nil)))))
    (pss_one (ps_if (pt_not (pt_val (pe_own O__law_same hr (by decide) (by rfl) (pa_cons (pe_lst (pa_cons (pe_own O_never_parted hr (by decide) (by rfl) (pa_cons (pv 3) (pa_cons (pv 4) pa_nil))) pa_nil)) (pa_cons (pe_lst (pa_cons (pv 15) pa_nil)) pa_nil)))))
    (pss_one (ps_ret pe_bl)) pss_nil))))))))))))
    (pss_one (ps_ret pe_bl)))), ?_⟩
  -- the spring
  refine k_set ?_
  refine ⟨.ref a, rfl, a, ns, rfl, hS, hl, fun st cl H1 s1 h1 h2 so => ?_⟩
  have hst : ∃ ms x y z, SpAt st cl ms x y z H1 := by
    obtain ⟨ms, x, y, z, S, _⟩ := so
    exact ⟨ms, x, y, z, S⟩
  let X : Addr → Prop := fun b => b = st ∨ b = cl
  have Z1 : Sg X st cl 0 H1 := ⟨so, .inl rfl, .inr rfl, fun b hb => by
    obtain ⟨ms, x, y, z, S⟩ := hst
    rcases hb with rfl | rfl
    · exact ⟨_, S.hs⟩
    · exact ⟨_, S.hc⟩⟩
  have E1 : EnvOk X H1 ((L2.start n_law [.ref a]).set 1 (some (.ref st))) (Gm0 st) := ⟨rfl, fun i s e => by
    rcases i with _ | _ | _ | _ | _ | _ | _ | _ | _ | _ | _ | _ | _ | _ | _ | _ | _ | _ | _ | _ | i
    all_goals first | (cases e; first | rfl | trivial) | cases e⟩
  clear hst so h1 h2 s1
  refine ⟨6, rfl, by decide, by decide, ?_⟩
  refine for_it walk_range (fun i σ H' => Sg X st cl (i * 1000) H' ∧ EnvOk X H' σ (Gm0 st)) ⟨Z1, E1⟩ (fun _ _ _ _ _ => trivial) (fun i x σ H2 H3 hi p y => ?_) (fun σ H2 p => rfl)
  obtain ⟨rfl, rfl⟩ := y
  obtain ⟨Z2, E2⟩ := p
  have hi6 : i < 6 := hi
  clear Z1 E1 H1
  refine k_name ?_
  have E3 := E2.setV (i := 2) (v := .int (0 + (i : Int)))
  clear E2
  -- suspects, askings
  refine k_asg (c_msus Z2 (gv_var (i := 1) E3 rfl) (by omega) (by decide) (by decide) fun w4 ns as H4 SU AS l5 S4 k4 d4 => ?_)
  have E4 := E3.kps Z2 k4
  refine g_pair d4 fun u4 v4 r4 q4 => ?_
  have E5 := (E4.set (i := 3) r4).set (i := 4) q4
  have few := SU.few
  clear E3 E4 Z2 d4 r4 q4 k4
  -- one, lies, answers
  refine k_par3 (c_pick (ds := ns.map PyData.str) S4 (gv_var (i := 1) E5 rfl) (g_var (i := 3) E5 rfl) (by omega) (by rw [List.length_map]; exact SU.pos) (by rw [List.length_map]; omega) fun w6 d6 H6 hd6 S6 k6 r6 => ?_)
  obtain ⟨one, hone, rfl⟩ := List.mem_map.mp hd6
  have E6 := E5.kps S4 k6
  refine c_draw (m := 2) S6 (gv_var (i := 1) E6 rfl) g_int (by omega) (by decide) (by decide) fun l H7 l0 l1 S7 k7 => ?_
  have E7 := E6.kps S6 k7
  have r7 := r6.mono (S6.kp k7)
  have lie : lieI (.int l) := by
    by_cases h : l = 0
    · subst h; exact .inl rfl
    · have : l = 1 := by omega
      subst this; exact .inr rfl
  refine ⟨by show 0 ≤ sizeLine; omega, fun L hL => ⟨_, _, _, rfl, ?_⟩⟩
  have s8 : Same H7 (upd H7 L (.lst [])) := Same.upd hL
  have nX : ¬ X L := S7.t.new hL
  have nL1 := S7.ne1 hL
  have nL2 := S7.ne2 hL
  let X' : Addr → Prop := fun b => X b ∨ b = L
  have S8 : Sg X' st cl (i * 1000 + 102) (upd H7 L (.lst [])) := ⟨S7.ok.same s8, .inl S7.x1, .inl S7.x2, S7.t.one hL⟩
  have E8 : EnvOk X' (upd H7 L (.lst [])) _ (Gm1 st ns as one l (.val (.ref L))) := (((((E7.set (i := 5) r7).set (i := 6) (v := .int l) (d := .int l) (.int _)).more (More.one hL)).same s8).setV (i := 7) (v := .ref L)).weak rfl fun i s e => by
    rcases i with _ | _ | _ | _ | _ | _ | _ | _ | _ | _ | _ | _ | _ | _ | _ | _ | _ | _ | _ | _ | i
    all_goals first | (cases e; first | exact .inl rfl | exact .inr rfl) | cases e
  clear E5 E6 E7 S4 S6 S7 k6 k7 r6 r7 hd6
  -- answers
  refine k_forR (k_cons (c_draw (m := 9) S8 (gv_var (i := 1) E8 rfl) g_int (by omega) (by decide) (by decide) fun cnt H9 c0 c1 S9 k9 => k_nil ⟨cnt, rfl, by omega, by omega, ?_⟩))
  refine for_it walk_range (fun j σ' H' => ∃ (xs : List V) (ps : List (Nat × Bool)), Sg X' st cl (i * 1000 + 103 + j) H' ∧ H' L = some (.lst xs) ∧ DXs X' H' xs (ps.map ansD) ∧ ps.length = j ∧ (∀ p ∈ ps, p.1 < as.length ∧ p.2 = decide (one ∈ as.getD p.1 [])) ∧ EnvOk X' H' σ' (Gm1 st ns as one l (.val (.ref L)))) ⟨[], [], S9, k9 _ _ nL1 nL2 upd_same, .nil, rfl, (fun p h => by cases h), E8.kps S8 k9⟩ (fun _ _ _ _ _ => trivial) (fun j x σ' HA HB hj p y => ?_) (fun σ' HA p => ?_)
  · obtain ⟨rfl, rfl⟩ := y
    obtain ⟨xs, ps, SA, hA, xA, lp, okp, EA⟩ := p
    have hj9 : j < 9 := by omega
    refine k_name ?_
    have EB := EA.setV (i := 8) (v := .int (0 + (j : Int)))
    refine k_set (c_draw (m := ((as.length : Nat) : Int)) SA (gv_var (i := 1) EB rfl) (g_is (g_len (K := K) SA.t (g_var (i := 4) (d := .list (as.map wsD)) EB rfl) rfl) (by show PyData.int (((as.map wsD).length : Nat) : Int) = _; rw [List.length_map])) (by omega) (by have := AS.pos; omega) (by omega) fun idx HC i0 i1 SC kC => ?_)
    obtain ⟨k, rfl⟩ : ∃ k : Nat, idx = (k : Int) := ⟨idx.toNat, by omega⟩
    have EC := (EB.kps SA kC).set (i := 9) (v := .int (k : Int)) (d := .int (k : Int)) (.int _)
    have hk : k < as.length := by omega
    refine k_drop1 (q_append (i := 7) (L := L) (d := ansD (k, decide (one ∈ as.getD k []))) EC rfl (.inr rfl) SC.t (kC _ _ nL1 nL2 hA) (xA.mono (SA.kp kC)) (g_tup SC.t (ga_cons (g_var (i := 9) (d := .int (k : Int)) EC rfl) (ga_cons (g_op (z := .bool (decide (one ∈ as.getD k []))) SC.t (g_var (i := 5) (d := .str one) EC rfl) (g_ixL (z := wsD (as.getD k [])) SC.t (g_var (i := 4) (d := .list (as.map wsD)) EC rfl) (g_var (i := 9) (d := .int (k : Int)) EC rfl) (atI_nat ?_)) (RB.rd (rb_inL (neg := false) rfl rfl))) ga_nil)) (by simp)) (by rw [List.length_map]; omega) fun HD ys hD xD ED tD kD => ?_)
    · rw [List.getElem?_map, List.getElem?_eq_getElem hk, List.getD_eq_getElem?_getD, List.getElem?_eq_getElem hk]
      rfl
    · refine ⟨ys, ps ++ [(k, decide (one ∈ as.getD k []))], (Sg.kpl SC kD nL1 nL2 tD).le (by omega), hD, by rw [List.map_append]; exact xD, by rw [List.length_append, lp]; rfl, fun p hp => ?_, envUn' (envUn' ED 8) 9⟩
      rcases List.mem_append.mp hp with h | h
      · exact okp p h
      · rw [List.mem_singleton.mp h]
        exact ⟨hk, rfl⟩
  obtain ⟨xs, ps, SA, hA, xA, lp, okp, EA⟩ := p
  have hc9 : cnt.toNat ≤ 8 := by omega
  have w0 : wrongs one as ps = 0 := wrong_none fun p hp => (okp p hp).2
  have EG := EnvOk.give (i := 7) EA rfl nX hA xA
  have SG := Sg.back SA nL1 nL2
  clear S8 E8 S9 k9 hL s8
  -- one of them wrong
  refine q_ifJ (b := decide (l = 1) && !PyData.eqv (.list (ps.map ansD)) (.list [])) (gt_and (gt_eqI SG.t (g_var (i := 6) (d := .int l) EG rfl) g_int) fun _ => gt_neD SG.t (g_var (i := 7) (d := .list (ps.map ansD)) EG rfl) (g_lst SG.t ga_nil (by simp)) (ans_sh ps).1 rfl (ans_sh ps).2 rfl) (fun σ H' => ∃ (xs : List V) (ps : List (Nat × Bool)), Sg X' st cl (i * 1000 + 120) H' ∧ H' L = some (.lst xs) ∧ DXs X' H' xs (ps.map ansD) ∧ ps.length ≤ 9 ∧ (∀ p ∈ ps, p.1 < as.length) ∧ (wrongs one as ps : Int) ≤ l ∧ EnvOk X' H' σ (Gm1 st ns as one l (.val (.ref L)))) (fun σB HB pJ => ?_) (fun hb hJ HB sB => ?_) fun _ HB sB => ⟨xs, ps, (SA.same sB).le (by omega), sB _ _ hA, xA.mono (Kp.of sB), by omega, fun p hp => (okp p hp).1, by omega, EA.same sB⟩
  rotate_left
  · have hb' : l = 1 ∧ ps ≠ [] := by
      rw [eqv_nil] at hb
      simpa using hb
    have hpos : 0 < ps.length := List.length_pos_iff.mpr hb'.2
    have SB := SA.same sB
    have EB := EA.same sB
    have hB := sB _ _ hA
    have xB := xA.mono (Kp.of sB)
    refine k_set (c_draw (m := ((ps.length : Nat) : Int)) SB (gv_var (i := 1) EB rfl) (g_is (g_lenO (K := K) (i := 7) EB rfl hB xB) (by rw [List.length_map])) (by omega) (by omega) (by omega) fun idx HC i0 i1 SC kC => ?_)
    obtain ⟨k, rfl⟩ : ∃ k : Nat, idx = (k : Int) := ⟨idx.toNat, by omega⟩
    have hk : k < ps.length := by omega
    have EC := (EB.kps SB kC).set (i := 10) (v := .int (k : Int)) (d := .int (k : Int)) (.int _)
    have hC := kC _ _ nL1 nL2 hB
    have xC := xB.mono (SB.kp kC)
    have gp : G X' (tOp (rIx K) (tVar 7) (tVar 10)) _ HC (ansD ps[k]) := g_ixO EC rfl hC xC (g_var (i := 10) (d := .int (k : Int)) EC rfl) (atI_nat (by rw [List.getElem?_map, List.getElem?_eq_getElem hk]; rfl))
    refine k_asg1 (g_tup (ds := [.int (ps[k].1 : Int), .bool (!ps[k].2)]) SC.t (ga_cons (g_ixT SC.t gp g_int rfl) (ga_cons (g_not (g_ixT SC.t gp g_int rfl)) ga_nil)) (by simp) HC (Same.refl _) _ fun v HD sD rD => ?_)
    refine ⟨_, (EC.same sD).get 7 _ rfl, g_var (i := 10) (d := .int (k : Int)) (EC.same sD) rfl HD (Same.refl _) _ fun v2 HE sE rE => ?_⟩
    have rE' := rE.int_inv
    subst rE'
    have sDE := sD.trans sE
    have lx : xs.length = ps.length := by rw [xA.length, List.length_map]
    refine ⟨L, xs, (k : Int), k, rfl, rfl, sDE _ _ hC, Evl.ixN_nat (by omega), ?_⟩
    have kp : Kp X' HE (upd HE L (.lst (xs.set k v))) := Kp.put (.inr rfl)
    refine hJ _ _ ⟨xs.set k v, ps.set k (ps[k].1, !ps[k].2), ((SC.same sDE).put nL1 nL2).le (by omega), upd_same, ?_, by rw [List.length_set]; omega, fun p hp => ?_, ?_, envUn' ((EC.same sDE).mono kp) 10⟩
    · rw [List.map_set]
      exact (DXs.set _ (xC.mono (Kp.of sDE)) (rD.mono (Kp.of sE))).mono kp
    · rcases List.mem_or_eq_of_mem_set hp with h | h
      · exact (okp p h).1
      · subst h
        exact (okp _ (List.getElem_mem hk)).1
    · have := wrong_set one as ps k (ps[k].1, !ps[k].2)
      omega
  clear SA EA hA xA EG SG w0 okp lp
  obtain ⟨xs, ps, SA, hA, xA, lp, okp, wl, EA⟩ := pJ
  have EB : EnvOk X HB σB (Gm1 st ns as one l (.dat (.list (ps.map ansD)))) := EnvOk.give (i := 7) EA rfl nX hA xA
  have SB := Sg.back SA nL1 nL2
  clear SA EA hA xA nX nL1 nL2
  -- drawn
  refine k_set (k_lcR (k_cons (c_draw (m := 6) SB (gv_var (i := 1) EB rfl) g_int (by omega) (by decide) (by decide) fun m6 HC d0 d1 SC kC => k_nil ⟨m6, rfl, by omega, by omega, ?_⟩)))
  have EC := EB.kps SB kC
  refine lc_drawsC (c := 2) (i := 8) (m := m6.toNat) (fun d => ∃ p : Nat × Bool, d = ansD p ∧ p.1 < as.length) SC EC (by omega) (fun X2 Ha σ2 kk Q1 hk E S q1 => ?_) fun w8 ds HD l8 o8 SD kD d8 _ => ?_
  · refine k_tup (k_cons (c_draw (m := ((as.length : Nat) : Int)) S (gv_var (i := 1) E rfl) (g_is (g_len (K := K) S.t (g_var (i := 4) (d := .list (as.map wsD)) E rfl) rfl) (by show PyData.int (((as.map wsD).length : Nat) : Int) = _; rw [List.length_map])) (by omega) (by have := AS.pos; omega) (by omega) fun idx Hb i0 i1 S2 k2 => ?_))
    obtain ⟨k, rfl⟩ : ∃ k : Nat, idx = (k : Int) := ⟨idx.toNat, by omega⟩
    have E2 := E.kps S k2
    refine k_cons (k_op (c_draw (m := 2) S2 (gv_var (i := 1) E2 rfl) g_int (by omega) (by decide) (by decide) fun b Hc b0 b1 S3 k3 => ?_))
    refine g_int (X := X2) (i := 0) Hc (Same.refl _) _ fun v3 Hd s3 r3 => ?_
    have r3' := r3.int_inv
    subst r3'
    refine rb_eqD (X := X2) (x := .int b) (y := .int 0) rfl rfl (shaped_int _) (shaped_int _) Hd _ _ (S3.t.mono s3) (.int _) (.int _) _ (k_nil ⟨by show 2 ≤ sizeLine; decide, fun p hp => ?_⟩)
    have sp : Same Hd (upd Hd p (.tup [.int (k : Int), .bl (PyData.eqv (.int b) (.int 0))])) := Same.upd hp
    exact q1 _ _ _ ⟨(k, PyData.eqv (.int b) (.int 0)), rfl, by show k < as.length; omega⟩ (((S3.same s3).same sp).le (by omega)) ((k2.trans k3).trans ((KpS.of s3).trans (KpS.of sp))) (DX.newT (S3.t.mono s3) (.cons (.int _) (.cons (.bl _) .nil)) hp)
  obtain ⟨qs, rfl, okq⟩ := ans_list o8
  rw [List.length_map] at l8
  have ED : EnvOk X HD _ (Gm2 st ns as one l ps qs) := ((EC.kps SC kD).set (i := 11) d8).weak rfl fun i s e => by
    rcases i with _ | _ | _ | _ | _ | _ | _ | _ | _ | _ | _ | _ | _ | _ | _ | _ | _ | _ | _ | _ | i
    all_goals first | (cases e; first | exact .inl rfl | exact .inr rfl) | cases e
  have hm6 : m6.toNat ≤ 5 := by omega
  replace SD : Sg X st cl (i * 1000 + 140) HD := SD.le (by omega)
  clear EB SB EC SC kC kD d8 o8
  -- each of them
  refine k_forTQ (g_tup (ds := [.list (ps.map ansD), .list (qs.map ansD), .list (([] : List (Nat × Bool)).map ansD)]) SD.t (ga_cons (g_var (i := 7) ED rfl) (ga_cons (g_var (i := 11) ED rfl) (ga_cons (g_lst (ds := []) SD.t ga_nil (by simp)) ga_nil))) (by simp) HD (Same.refl _) _ fun vT Hq sT rT => ?_)
  obtain ⟨aT, xT, rfl, nT, eT, rxT⟩ := rT.tup_inv
  have nT1 : aT ≠ st := fun e => nT (.inl e)
  have nT2 : aT ≠ cl := fun e => nT (.inr e)
  refine forT_it (fun j σ' H' => Sg X st cl (i * 1000 + 140 + 2 * j) H' ∧ EnvOk X H' σ' (Gm2 st ns as one l ps qs) ∧ KpS st cl Hq H') eT ⟨SD.same sT, ED.same sT, KpS.refl⟩ (fun j σ' H' p => p.2.2 _ _ nT1 nT2 eT) (fun j x σ' HA hx p => ?_) (fun σ' HA p => ?_)
  · obtain ⟨SA, EA, kA⟩ := p
    obtain ⟨d, hd, dx⟩ := rxT.getV hx
    have hrs : ∃ rs : List (Nat × Bool), d = .list (rs.map ansD) ∧ rs.length ≤ 9 ∧ ∀ p ∈ rs, p.1 < as.length := by
      rcases j with _ | _ | _ | j
      · cases hd; exact ⟨ps, rfl, lp, okp⟩
      · cases hd; exact ⟨qs, rfl, by omega, okq⟩
      · cases hd; exact ⟨[], rfl, by simp, fun p h => by cases h⟩
      · cases hd
    obtain ⟨rs, rfl, lr, okr⟩ := hrs
    have hj3 : j < 3 := (List.getElem?_eq_some_iff.mp hd).1
    have ST := SD.same sT
    refine k_name ?_
    have EB := EA.set (i := 12) (dx.mono (ST.kp kA))
    clear hd hx dx
    -- handed
    refine k_set (c_pick (ds := [.list (rs.map ansD), .tuple (rs.map ansD), .list (rs.map ansL)]) SA (gv_var (i := 1) EB rfl) (g_lst SA.t (ga_cons (g_var (i := 12) EB rfl) (ga_cons (g_tupOf (K := K) SA.t (g_var (i := 12) (d := .list (rs.map ansD)) EB rfl) rfl) (ga_cons (g_is (g_lc1 (ds := rs.map ansD) (fun z => .list (itemsD z)) SA.t (gi_list (g_var (i := 12) (d := .list (rs.map ansD)) EB rfl)) (by rw [List.length_map]; omega) (fun H3 s3 z hz => tgt_name (EB.same s3)) (fun X2 H3 σ2 z hz t3 E3 => ?_)) (by rw [List.map_map]; rfl)) ga_nil))) (by simp)) (by omega) (by simp) (by simp) fun w d HC hd SC kC dC => ?_)
    · obtain ⟨p, _, rfl⟩ := List.mem_map.mp hz
      exact g_listOf t3 (g_var (i := 18) (d := ansD p) E3 rfl) rfl
    have AN : Ans d rs as.length := by
      rcases List.mem_cons.mp hd with rfl | hd
      · exact ans_of rfl (.inl rfl) (by omega) okr
      · rcases List.mem_cons.mp hd with rfl | hd
        · exact ans_of rfl (.inl rfl) (by omega) okr
        · rw [List.mem_singleton.mp hd]
          exact ans_of rfl (.inr rfl) (by omega) okr
    have EC := (EB.kps SA kC).set (i := 13) dC
    have kAC := kA.trans kC
    clear EB SA EA kC kA dC hd
    -- told
    refine k_set (k_callS (k_cons (g_tupOf (K := K) SC.t (g_var (i := 3) (d := wsD ns) EC rfl) rfl HC (Same.refl _) _ fun v1 Ha sa ra => ?_)))
    have Sa := SC.same sa
    have Ea := EC.same sa
    refine k_cons (c_pick (ds := [.list (as.map wsD), .tuple (as.map wsD)]) Sa (gv_var (i := 1) Ea rfl) (g_lst Sa.t (ga_cons (g_var (i := 4) Ea rfl) (ga_cons (g_tupOf (K := K) Sa.t (g_var (i := 4) (d := .list (as.map wsD)) Ea rfl) rfl) ga_nil)) (by simp)) (by omega) (by simp) (by simp) fun w2 d2 Hb hd2 Sb kb rb => ?_)
    have AK : Ask d2 as := by
      rcases List.mem_cons.mp hd2 with rfl | hd2
      · exact AS
      · rw [List.mem_singleton.mp hd2]
        exact AS.tup
    have Eb := Ea.kps Sa kb
    have ra' := ra.mono (Sa.kp kb)
    refine k_cons (g_var (i := 13) Eb rfl Hb (Same.refl _) _ fun v3 Hc sc rc => k_cons (g_var (i := 6) (d := .int l) (Eb.same sc) rfl Hc (Same.refl _) _ fun v4 Hd sd rd => k_nil ?_))
    have Sd := (Sb.same sc).same sd
    have scd := sc.trans sd
    refine poss_pre Sd.t (ra'.mono (Kp.of scd)) (rb.mono (Kp.of scd)) (rc.mono (Kp.of sd)) rd SU.tup AK AN lie fun w5 He se de => ?_
    have Ee := ((Eb.same scd).same se).set (i := 14) de
    have Se := Sd.same se
    have kE : KpS st cl Hq He := ((kAC.trans (KpS.of sa)).trans kb).trans (KpS.of (scd.trans se))
    clear EC SC Ea Sa Eb Sb ra ra' rb rc rd de Sd kAC kb
    have t5 := Se.t
    refine q_if (b := false) (gt_is (gt_not (gt_B (g_same t5 (g_var (i := 14) Ee rfl) (g_due t5 (g_var (i := 3) Ee rfl) (g_var (i := 4) Ee rfl) (g_var (i := 12) Ee rfl) (g_var (i := 6) Ee rfl) (by omega) (by omega) okr) (sm_ns SU as rs l)))) rfl) (fun h => by cases h) fun _ Hf sf => ?_
    have Ef := Ee.same sf
    have Sf := Se.same sf
    have t6 := Sf.t
    refine s_if (b := false) (gt_is (gt_and (a := decide (l = 0)) (b := false) (gt_eqI t6 (g_var (i := 6) (d := .int l) Ef rfl) g_int) fun h => ?_) (by simp)) (fun h => by cases h) fun _ Hg sg => ?_
    · have hl0 := of_decide_eq_true h
      subst hl0
      exact gt_is (gt_not (gt_B (g_same t6 (g_possF t6 (g_var (i := 3) Ef rfl) (g_var (i := 4) Ef rfl) (g_var (i := 12) Ef rfl) SU AS (ans_of rfl (.inl rfl) (by omega) okr)) (g_var (i := 14) Ef rfl) (sm_ns SU as rs 0)))) rfl
    · refine ⟨(Sf.same sg).le (by omega), (Ef.same sg).weak rfl fun i s e => ?_, kE.trans (KpS.of (sf.trans sg))⟩
      rcases i with _ | _ | _ | _ | _ | _ | _ | _ | _ | _ | _ | _ | _ | _ | _ | _ | _ | _ | _ | _ | i
      all_goals first | (cases e; first | exact .inl rfl | exact .inr rfl) | cases e
  obtain ⟨SA, EA, _⟩ := p
  have lT : xT.length = 3 := rxT.length
  rw [lT] at SA
  clear SD ED sT rT eT rxT
  -- the one is among them
  have tA := SA.t
  refine q_if (b := false) (gt_is (gt_op tA (g_var (i := 5) (d := .str one) EA rfl) (g_possK tA (g_var (i := 3) EA rfl) (g_var (i := 4) EA rfl) (g_var (i := 7) EA rfl) (g_var (i := 6) EA rfl) SU AS (ans_of rfl (.inl rfl) (by omega) okp) lie) (rb_inL (neg := true) rfl rfl)) ?_) (fun h => by cases h) fun _ HB sB => ?_
  · show (!decide (one ∈ possL ns as ps l)) = false
    rw [decide_eq_true (show one ∈ possL ns as ps l from List.mem_filter.mpr ⟨hone, by simpa using wl⟩)]
    rfl
  have SB := SA.same sB
  have EB := EA.same sB
  refine q_set (i := 15) (d := optD ns none) EB g_non fun HC vC sC EC0 => ?_
  have SC := SB.same sC
  have EC : EnvOk X HC _ (Gm3 st ns as (.dat (optD ns none)) .un .un) := EC0.weak rfl fun i s e => by
    rcases i with _ | _ | _ | _ | _ | _ | _ | _ | _ | _ | _ | _ | _ | _ | _ | _ | _ | _ | _ | _ | i
    all_goals first | (cases e; first | exact .inl rfl | exact .inr rfl) | cases e
  clear EC0 EB SB SA EA tA sB sC
  have tC := SC.t
  -- the first that are never parted
  refine s_forD (X := X) (gi_enum (g_var (i := 3) (d := wsD ns) EC rfl)) (fun Hb a σ' H' => Same Hb H' ∧ Sg X st cl (i * 1000 + 146) H' ∧ ∃ o, Upt ns.length (sameB ns as) o a 0 ∧ EnvOk X H' σ' (Gm3 st ns as (.dat (optD ns o)) .un .un)) (fun Hb sb => ⟨Same.refl _, SC.same sb, none, .inl ⟨rfl, fun i j _ _ h => by omega⟩, EC.same sb⟩) (fun Hb a σ' H' p => ⟨Kp.of p.1, p.2.1.t⟩) ?_ ?_
  · rintro Hb a x z σ' H' H'' sb hz ⟨p1, p2, o, p3, E0⟩ s4 dx
    have lt := (List.getElem?_eq_some_iff.mp hz).1
    rw [enumD_len, List.length_map] at lt
    have e1 : (ns.map PyData.str)[a]? = some (.str ns[a]) := by rw [List.getElem?_map, List.getElem?_eq_getElem lt]; rfl
    rw [enumD_get e1] at hz
    cases hz
    have S4 := p2.same s4
    have t4 := S4.t
    refine g_pair dx fun u w5 h1 h2 => ?_
    have E4 : EnvOk X H'' _ (Gm3 st ns as (.dat (optD ns o)) (.dat (.int (a : Int))) (.dat (.str ns[a]))) := ((E0.same s4).set (i := 10) h1).set (i := 16) h2
    have hcut : cutPD (ns.map PyData.str) (some ((a : Int) + 1)) none = (ns.drop (a + 1)).map PyData.str := by
      show ((ns.map PyData.str).drop (HT.sIx _ 0 (some ((a : Int) + 1)))).take ((ns.map PyData.str).length - HT.sIx _ 0 (some ((a : Int) + 1))) = _
      rw [sIx_nn (by omega), List.length_map, show min ((a : Int) + 1).toNat ns.length = a + 1 by omega, List.take_of_length_le (by rw [List.length_drop, List.length_map]; omega), List.map_drop]
    refine s_forD (X := X) (ds := (ns.drop (a + 1)).map PyData.str) (gi_list (g_is (g_sl (K := K) t4 (g_var (i := 3) (d := wsD ns) E4 rfl) (go_some (g_addI t4 (g_var (i := 10) (d := .int (a : Int)) E4 rfl) g_int)) go_none) (by rw [hcut]))) (fun Hc k σ' H9 => Same Hc H9 ∧ Sg X st cl (i * 1000 + 146) H9 ∧ ∃ o, Upt ns.length (sameB ns as) o a (a + 1 + k) ∧ EnvOk X H9 σ' (Gm3 st ns as (.dat (optD ns o)) (.dat (.int (a : Int))) (.dat (.str ns[a])))) (fun Hc sc => ⟨Same.refl _, S4.same sc, o, ?_, E4.same sc⟩) (fun Hc k σ' H' p => ⟨Kp.of p.1, p.2.1.t⟩) ?_ ?_
    · rcases p3 with ⟨rfl, p3⟩ | p3
      · exact .inl ⟨rfl, fun i j h1 h2 h3 => p3 i j h1 h2 (by omega)⟩
      · exact .inr p3
    · rintro Hc k x' z' σ2 H2' H2'' sc hz' ⟨r1, r2, o, r3, E5⟩ s5 dx'
      rw [List.getElem?_map] at hz'
      obtain ⟨m, hm, rfl⟩ := Option.map_eq_some_iff.mp hz'
      rw [List.getElem?_drop] at hm
      have ltj := (List.getElem?_eq_some_iff.mp hm).1
      have em : ns[a + 1 + k] = m := (List.getElem?_eq_some_iff.mp hm).2
      have S5 := r2.same s5
      have t5 := S5.t
      refine k_name ?_
      have E6 := (E5.same s5).set (i := 17) dx'
      have gd : ∀ j (hj : j < ns.length), ns.getD j "" = ns[j] := fun j hj => by rw [List.getD_eq_getElem?_getD, List.getElem?_eq_getElem hj]; rfl
      have hall : G X (tCB (rAll K) (tCons (tLc (iList K (tVar 4)) (gName 19) tYes (tOp (rEqD K) (tOp (rIn K false) (tVar 16) (tVar 19)) (tOp (rIn K false) (tVar 17) (tVar 19))) [19]) tNil)) (List.set σ2 17 (some x')) H2'' (.bool (sameB ns as a (a + 1 + k))) := by
        refine g_is (g_all t5 (bs := as.map fun r => decide (ns[a] ∈ r) == decide (m ∈ r)) (g_is (g_lc1 (ds := as.map wsD) (fun z => .bool (decide (ns[a] ∈ nsOf z) == decide (m ∈ nsOf z))) t5 (gi_list (g_var (i := 4) (d := .list (as.map wsD)) E6 rfl)) (by rw [List.length_map]; omega) (fun H3 s3 z hz => tgt_name (E6.same s3)) (fun X2 H3 σ3 z hz t3 E3 => ?_)) ?_)) ?_
        · obtain ⟨r, _, rfl⟩ := List.mem_map.mp hz
          rw [nsOf_ws]
          refine g_is (g_eqD t3 (x := .bool (decide (ns[a] ∈ r))) (y := .bool (decide (m ∈ r))) (g_op t3 (g_var (i := 16) (d := .str ns[a]) E3 rfl) (g_var (i := 19) (d := wsD r) E3 rfl) (RB.rd (rb_inL (neg := false) rfl rfl))) (g_op t3 (g_var (i := 17) (d := .str m) E3 rfl) (g_var (i := 19) (d := wsD r) E3 rfl) (RB.rd (rb_inL (neg := false) rfl rfl))) rfl rfl (shaped_bool _) (shaped_bool _)) (by rw [eqv_bool])
        · rw [List.map_map, List.map_map]
          congr 1
          exact List.map_congr_left fun r _ => by
            show PyData.bool (decide (ns[a] ∈ nsOf (wsD r)) == decide (m ∈ nsOf (wsD r))) = _
            rw [nsOf_ws]
            rfl
        · unfold sameB
          rw [gd a lt, gd _ ltj, em, List.all_map]
          rfl
      refine s_if (b := isNone (optD ns o) && sameB ns as a (a + 1 + k)) (gt_and (gt_op t5 (g_var (i := 15) E6 rfl) g_non rb_isN) fun _ => gt_B hall) (fun hb H6 s6 => ?_) fun hb H6 s6 => ?_
      · rw [Bool.and_eq_true] at hb
        have S6 := S5.same s6
        have E7 := E6.same s6
        refine k_set1 (g_tup (ds := [.str ns[a], .str m]) S6.t (ga_cons (g_var (i := 16) E7 rfl) (ga_cons (g_var (i := 17) E7 rfl) ga_nil)) (by simp) H6 (Same.refl _) _ fun v7 H7 s7 r7 => ?_)
        refine ⟨((r1.trans s5).trans s6).trans s7, S6.same s7, some (a, a + 1 + k), .inr ⟨_, rfl, by omega, ltj, hb.2, fun i' j' k1 k2 k3 => ?_⟩, ?_⟩
        · rcases r3 with ⟨rfl, r3⟩ | ⟨q, rfl, _⟩
          · by_cases c1 : i' < a ∨ (i' = a ∧ j' < a + 1 + k)
            · rw [r3 i' j' k1 k2 c1] at k3
              cases k3
            · omega
          · cases hb.1
        · have eo : optD ns (some (a, a + 1 + k)) = .tuple [.str ns[a], .str m] := by
            show PyData.tuple [.str (ns.getD a ""), .str (ns.getD (a + 1 + k) "")] = _
            rw [gd a lt, gd _ ltj, em]
          rw [eo]
          exact envUn' ((E7.same s7).set (i := 15) r7) 17
      · refine ⟨(r1.trans s5).trans s6, S5.same s6, o, ?_, envUn' (E6.same s6) 17⟩
        rcases r3 with ⟨rfl, r3⟩ | r3
        · refine .inl ⟨rfl, fun i' j' k1 k2 k3 => ?_⟩
          by_cases c : i' = a ∧ j' = a + 1 + k
          · rw [c.1, c.2]
            exact hb
          · exact r3 i' j' k1 k2 (by omega)
        · exact .inr r3
    · rintro Hc σ2 H2' sc ⟨r1, r2, o, r3, E5⟩
      rw [List.length_map, List.length_drop] at r3
      refine ⟨((p1.trans s4).trans sc).trans r1, r2, o, ?_, envUn' (envUn' E5 10) 16⟩
      rcases r3 with ⟨rfl, r3⟩ | r3
      · exact .inl ⟨rfl, fun i' j' k1 k2 k3 => r3 i' j' k1 k2 (by omega)⟩
      · exact .inr r3
  · rintro Hb σ' H' sb ⟨p1, p2, o, p3, E0⟩
    rw [enumD_len, List.length_map] at p3
    have ho : Fst ns.length (sameB ns as) o := by
      rcases p3 with ⟨rfl, p3⟩ | ⟨q, rfl, p3⟩
      · exact fun i' j' k1 k2 => p3 i' j' k1 k2 (by omega)
      · exact p3
    have t6 := p2.t
    refine s_if (b := false) (gt_is (gt_not (gt_B (g_same t6 (g_lst t6 (ga_cons (g_parted t6 (g_var (i := 3) (d := wsD ns) E0 rfl) (g_var (i := 4) (d := .list (as.map wsD)) E0 rfl) SU AS ho) ga_nil) (by simp)) (g_lst t6 (ga_cons (g_var (i := 15) E0 rfl) ga_nil) (by simp)) (opt_sm SU ho)))) rfl) (fun h => by cases h) fun _ H6 s6 => ?_
    refine ⟨(p2.same s6).le (by omega), (E0.same s6).weak rfl fun i s e => ?_⟩
    rcases i with _ | _ | _ | _ | _ | _ | _ | _ | _ | _ | _ | _ | _ | _ | _ | _ | _ | _ | _ | _ | i
    all_goals first | (cases e; first | exact .inl rfl | exact .inr rfl) | cases e
end
end K77

/-! The end of a law whose def is known for the caller of claims alone (its guards are empty). -/
namespace KD
open PySem PySem.Spec PyProof.Rows L2 LamX
/-- a def's promise, called from A -/
def FnAt (P : Program) (w : World) (K : PySem.W.Frag) (mg : Str → Option Value) (base : Heap) (CX : CXT) (A : Around) (f : Addr) (fd : FuncData) (x : Str) (sp : Sp) : Prop :=
  ∀ (s : Shared) (H : Hp) (u : Value) (v : V) (Q : VK) (E : XK), Env0 P w K mg base A [] s H → BindsTo s fd ⟨[u], []⟩ [(x, u)] → RelV v u → sp [v] H Q E → codeAny (model P w) A (.call (.ref f) ⟨[u], []⟩) (CR CX [] P w H s Q E) s
/-- where the law begins: the script as it is passed, tables without code -/
def beginH (K : PySem.W.Frag) (T : List Addr) (a : Addr) (o : Obj) (ns : List Int) : Hp := fun b => if b ∈ T then some (.tbl #[]) else if b = a ∧ K.lookup a = none then some (.frz o (.lst (ns.map V.int))) else none
section
variable {K : PySem.W.Frag} {T : List Addr} {a b : Addr} {o : Obj} {ns : List Int}
theorem beginH_tab (h : b ∈ T) : beginH K T a o ns b = some (.tbl #[]) := if_pos h
theorem beginH_arg (h : a ∉ T) (k : K.lookup a = none) : beginH K T a o ns a = some (.frz o (.lst (ns.map V.int))) := (if_neg h).trans (if_pos ⟨rfl, k⟩)
theorem beginH_none (h : b ∉ T) (k : b = a → K.lookup a ≠ none) : beginH K T a o ns b = none := (if_neg h).trans (if_neg fun z => k z.1 z.2)
theorem beginH_some {u : HO} (h : beginH K T a o ns b = some u) : (b ∈ T ∧ u = .tbl #[]) ∨ (b ∉ T ∧ b = a ∧ K.lookup a = none ∧ u = .frz o (.lst (ns.map V.int))) := by
  unfold beginH at h
  by_cases h1 : b ∈ T
  · rw [if_pos h1] at h
    exact .inl ⟨h1, (Option.some.inj h).symm⟩
  · rw [if_neg h1] at h
    by_cases h2 : b = a ∧ K.lookup a = none
    · rw [if_pos h2] at h
      exact .inr ⟨h1, h2.1, h2.2, (Option.some.inj h).symm⟩
    · rw [if_neg h2] at h
      cases h
end
theorem law_callG {P : Program} {w : World} {K : PySem.W.Frag} {mg mb : Str → Option Value} {CX : CXT} {fa a : Addr} {cs : List (Addr × Addr)} {fd : FuncData} {x : Str} {sp : Sp} {s : Shared} {vs : List Value} {ns : List Int}
    (kin : K.In s.heap) (glob : s.heap.Ns mainGlobals mg) (blt : s.heap.Ns builtinsNs mb) (boot : ∀ y : Str, y ≠ "__name__" → mb y = bootBuiltins y) (nolim : s.heap.NoLimit) (gens : s.gens = #[])
    (tabs : ∀ p ∈ cs, s.heap.get? p.2 = some { cls := .none, data := .fields #[] }) (tabK : ∀ p ∈ cs, K.lookup p.2 = none) (codes : ∀ p ∈ cs, PySem.W.CodeHd s.heap p.1 p.2)
    (bmod : ∃ bm ob, mg "__builtins__" = some (.ref bm) ∧ bm ≠ builtinsNs ∧ s.heap.get? bm = some ob ∧ ob.cls = .type "module" ∧ ob.dict = some builtinsNs ∧ ob.data = .plain)
    (arg : s.heap.get? a = some { cls := .type "list", data := .seq vs.toArray }) (intsA : IntsAre vs ns) (few : ns.length ≤ sizeLine)
    (F : ∀ base : Heap, K.In base → base.Ns mainGlobals mg → (∀ p ∈ cs, TabB base mg p.1 p.2) → FnAt P w K mg base CX callerA fa fd x sp) (bind : ∀ (s : Shared) (u : Value), BindsTo s fd ⟨[u], []⟩ [(x, u)])
    (begin_ : ∀ H : Hp, (∀ p ∈ cs, H p.2 = some (.tbl #[])) → SqL K H a (ns.map V.int) → sp [.ref a] H (fun v _ => v = .bl true) fun _ _ _ => False) (noerr : ∀ H e s', CX [] H s (fun _ _ _ => False) e s' → False) :
    codeAny (model P w) callerA (.call (.ref fa) ⟨[.ref a], []⟩) (fun r s' => r = .ok (.ret (.bool true)) ∧ OldK s.heap s'.heap ∧ s'.os = s.os ∧ AllBare s'.gens) s := by
  have vals := vals_ints intsA
  have many := intsA.length
  let T : List Addr := cs.map (·.2)
  let ao : Obj := { cls := .type "list", data := .seq vs.toArray }
  let H : Hp := beginH K T a ao ns
  have inT : ∀ {b : Addr}, b ∈ T → ∃ p ∈ cs, p.2 = b := fun hb => List.mem_map.mp hb
  have emp : ∀ {b : Addr}, b ∈ T → s.heap.get? b = some { cls := .none, data := .fields #[] } := fun hb => by
    obtain ⟨p, hp, rfl⟩ := inT hb
    exact tabs p hp
  have toT : ∀ {p : Addr × Addr}, p ∈ cs → p.2 ∈ T := fun hp => List.mem_map.mpr ⟨_, hp, rfl⟩
  have aT : a ∉ T := fun hb => by
    have e := (emp hb).symm.trans arg
    cases e
  have HT : ∀ p ∈ cs, H p.2 = some (.tbl #[]) := fun p hp => beginH_tab (toT hp)
  have script : SqL K H a (ns.map V.int) := by
    cases k : K.lookup a with
    | none => exact .inl (.inr ⟨ao, beginH_arg aT k⟩)
    | some o =>
      have same := (kin a o k).symm.trans arg
      cases same
      exact .inr ⟨_, vs.toArray, _, k, rfl, rfl, rfl, by rw [List.size_toArray, many]; exact few, by simpa using vals⟩
  have ok : HOk P w H s.heap := fun b u e => by
    rcases beginH_some e with ⟨hb, rfl⟩ | ⟨_, rfl, _, rfl⟩
    · exact emp hb
    · exact ⟨arg, by rw [List.length_map]; exact few, vs, _, vals, arg⟩
  -- what is neither a list nor an empty table is not of H
  have other : ∀ {b : Addr} {o : Obj}, s.heap.get? b = some o → (∀ q n, o.data ≠ .seq q n) → o.data ≠ .fields #[] → H b = none := fun {b o} e h1 h2 => by
    cases q : H b with
    | none => rfl
    | some u =>
      rcases beginH_some q with ⟨hb, _⟩ | ⟨_, rfl, _, _⟩
      · rw [emp hb] at e
        cases e
        exact absurd rfl h2
      · rw [arg] at e
        cases e
        exact absurd rfl (h1 _ _)
  have hid : ∀ {b : Addr} {o : Obj}, s.heap.get? b = some o → (∀ q n, o.data ≠ .seq q n) → o.data ≠ .fields #[] → (hidT s.heap H).get? b = some o := fun e h1 h2 => hidT_get e (other e h1 h2)
  have names : ∀ {b : Addr} {m : Str → Option Value}, s.heap.Ns b m → (hidT s.heap H).Ns b m := fun {b m} z => by
    obtain ⟨o, es, ep, e, hd, r⟩ := z
    refine ⟨o, es, ep, hid e (fun _ _ q => ?_) (fun q => ?_), hd, r⟩ <;> (rw [hd] at q; cases q)
  have kin2 : K.In (hidT s.heap H) := fun b o e => hidT_get (kin b o e) (by
    cases q : H b with
    | none => rfl
    | some u =>
      rcases beginH_some q with ⟨hb, _⟩ | ⟨_, rfl, k, _⟩
      · obtain ⟨p, hp, rfl⟩ := inT hb
        rw [tabK p hp] at e
        cases e
      · rw [k] at e
        cases e)
  have glob2 := names glob
  have notGlob : ∀ {b : Addr} {o : Obj}, s.heap.get? b = some o → (∀ es ep, o.data ≠ .dict es ep) → b ≠ mainGlobals := fun {b o} e h q => by
    obtain ⟨o2, es, ep, e2, hd, _⟩ := glob
    rw [q, e2] at e
    cases e
    exact h _ _ hd
  have tabB : ∀ p ∈ cs, TabB (hidT s.heap H) mg p.1 p.2 := fun p hp => by
    refine ⟨?_, ?_, fun q => notGlob (tabs p hp) (fun _ _ z => by cases z) q.symm⟩
    · obtain ⟨o, us, file, tf, flags, tg, inF, text, tt, e1, r1, r2, r3, r4, r5, r6, r7, r8, r9⟩ := codes p hp
      refine ⟨o, us, file, tf, flags, tg, inF, text, tt, hid e1 (fun _ _ q => ?_) (fun q => ?_), r1, r2, r3, r4, r5, r6, r7, r8, r9⟩
      · rw [r2] at q
        cases q
      · rw [r2] at q
        cases q
        simp at r3
    · obtain ⟨bm, ob, b1, b2, b3, b4, b5, b6⟩ := bmod
      have n1 : bm ≠ mainGlobals := notGlob b3 fun _ _ q => by rw [b6] at q; cases q
      have n2 : bm ≠ p.2 := fun q => by
        rw [q, tabs p hp] at b3
        cases b3
        cases b6
      refine ⟨bm, ob, b1, b2, n1, n2, hid b3 (fun _ _ q => ?_) (fun q => ?_), b4, b5, b6⟩ <;> (rw [b6] at q; cases q)
  have md : L2.Mod K mg (hidT s.heap H) := by
    obtain ⟨mc, h1, h2⟩ := nolim
    exact ⟨kin2, glob2, ⟨mb, names blt, boot⟩, ⟨mc, names h1, h2⟩⟩
  have env : Env0 P w K mg (hidT s.heap H) callerA [] s H := ⟨rfl, md, fun _ _ e => of_hidT e, Nat.le_of_eq (hidT_size _ _), trivial, fun _ hb => (nomatch hb), ok, .of_eq gens⟩
  have run := F _ kin2 glob2 tabB s H (.ref a) (.ref a) _ _ env (bind s (.ref a)) rfl (begin_ H HT script)
  refine codeAny_mono run fun r s' hr => ?_
  match r, hr with
  | .error e, hr => exact (noerr H e s' hr).elim
  | .ok .next, hr => exact hr.elim
  | .ok .brk, hr => exact hr.elim
  | .ok .cont, hr => exact hr.elim
  | .ok (.ret u), hr =>
    obtain ⟨v, H2, os, bare, un, ok2, rel, hv⟩ := hr
    have hv : v = V.bl true := hv
    subst hv
    obtain rfl : u = Value.bool true := rel
    have still : ∀ {b : Addr} {o : Obj}, b ∉ T → s.heap.get? b = some o → s'.heap.get? b = some o := fun {b o} nb e => by
      cases q : H b with
      | none => exact un.keep b o e q (by intro z; exact (nomatch (show b ∈ ([] : List Addr) from z))) (by simp)
      | some u =>
        rcases beginH_some q with ⟨hb, _⟩ | ⟨_, rfl, k, rfl⟩
        · exact absurd hb nb
        · have q2 := un.frzs b _ _ q
          have e2 : s'.heap.get? b = some ao := (ok2 b _ q2).1
          rw [arg] at e
          cases e
          exact e2
    have more : ∀ {b : Addr}, b ∈ T → ∃ m : Array Value, s'.heap.get? b = some { cls := .none, data := .fields m } := fun {b} hb => by
      obtain ⟨m, z⟩ := un.tbls b #[] (beginH_tab hb)
      exact ⟨_, ok2 b _ z⟩
    refine ⟨rfl, ⟨fun b o e => ?_, fun b o e => ?_⟩, os, bare⟩
    · by_cases hb : b ∈ T
      · obtain ⟨m, hm⟩ := more hb
        obtain ⟨p, hp, rfl⟩ := inT hb
        rw [tabs p hp] at e
        cases e
        exact .inr (.inl ⟨((codes p hp).tab (tabs p hp)).isCodeTable, rfl, #[], m, rfl, by rw [Array.empty_append]; exact hm⟩)
      · exact .inl (still hb e)
    · by_cases hb : b ∈ T
      · obtain ⟨m, hm⟩ := more hb
        exact ⟨_, hm⟩
      · exact ⟨o, still hb e⟩
/-- what is known of the law at the head's heap -/
def LawG (l : PySem.W.OpenLaw) (w : World) (K : PySem.W.Frag) (CX : CXT) (n : Nat) (x : Str) (mg : Str → Option Value) (fa : Addr) (h : Heap) : Prop :=
  ∃ (fd : FuncData) (cs : List (Addr × Addr)) (sp : Sp), (∀ p ∈ cs, h.get? p.2 = some { cls := .none, data := .fields #[] }) ∧ (∀ p ∈ cs, K.lookup p.2 = none) ∧ (∀ p ∈ cs, PySem.W.CodeHd h p.1 p.2) ∧ (∀ s u, BindsTo s fd ⟨[u], []⟩ [(x, u)]) ∧
    (∀ (H : Hp) (a : Addr) (ns : List Int), ns.length ≤ n → (∀ z ∈ ns, Builtin.Int.intBits z ≤ 1048576) → (∀ p ∈ cs, H p.2 = some (.tbl #[])) → SqL K H a (ns.map V.int) → sp [.ref a] H (fun v _ => v = .bl true) fun _ _ _ => False) ∧
    ∀ base : Heap, K.In base → base.Ns mainGlobals mg → (∀ p ∈ cs, TabB base mg p.1 p.2) → FnAt l.prog w K mg base CX callerA fa fd x sp
theorem walk_ofG {l : PySem.W.OpenLaw} {n : Nat} {q : Program} {loose : List Str} {XP : (Str → Option Value) → Heap → Prop} {YP : World → Heap → Prop} {d : DefRec} {K : Params → PySem.W.Frag} {CX : World → CXT} {x : Str}
    (hn : l.most = some n) (few : n ≤ sizeLine) (nodef : d.params.defaults = []) (kin : ∀ w h, YP w h → (K w.params).In h)
    (F : ∀ w mg fa h, YP w h → (K w.params).In h → h.Ns mainGlobals mg → mg d.name = some (.ref fa) → LawG l w (K w.params) (CX w) n x mg fa h) (noerr : ∀ w H s e s', CX w [] H s (fun _ _ _ => False) e s' → False) :
    PySem.W.WalkO q loose XP YP l.row.toRowW d [] (fun f vs => PySem.call f vs) :=
  Att.attach_callB hn nodef fun w s0 s1 mg mb fa o pm cd doc a vs ns G Y _ _ _ hmg hobj hints hlen hbits hg => by
    obtain ⟨fd, cs, sp, h1, h2, h3, h4, h5, h6⟩ := F w mg fa _ Y (kin w _ Y) G.T.g hmg
    exact law_callG (kin w _ Y) G.T.g G.T.b G.T.builtins G.T.nolimit hg h1 h2 h3 G.T.bmain hobj hints (Nat.le_trans hlen few) h6 h4 (fun H a1 a2 => h5 H a ns hlen hbits a1 a2) fun H e s' => noerr w H s1 e s'
end KD

/-! What the top has written; the law's own head. -/
namespace K77
open PySem PySem.Spec PyProof.Rows L2 KD LamX
/-- a def of the text -/
def DefA (K : PySem.W.Frag) (x : Str) (st : Stmt) : Prop := ∃ (f : Addr) (fd : FuncData), PySem.W.nsIn K mainGlobals x = some (some (.ref f)) ∧ PySem.W.keepIn K (.ref f) = true ∧ Fun K x x st f fd
theorem da {K : PySem.W.Frag} {x : Str} {st : Stmt} {f : Addr} {oc kV dc pm cd ct : Value} {od an : Option Addr} {sl : Array (Option Value)} (a : PySem.W.nsIn K mainGlobals x = some (some (.ref f)))
    (l : K.lookup f = some ⟨oc, od, .func (PySem.W.fnOf x x (defArgs st) (defBody st) (defScope st) .none kV dc pm an cd ct), sl⟩) (c : PySem.W.codeIn K cd x = true) (k : PySem.W.keepIn K (.ref f) = true) : DefA K x st := ⟨f, _, a, k, fun_mk l c k⟩
/-- a def with a default -/
def DefD (K : PySem.W.Frag) (x : Str) (st : Stmt) (d : Int) : Prop := ∃ (f : Addr) (fd : FuncData), PySem.W.nsIn K mainGlobals x = some (some (.ref f)) ∧ FunD K x x (defArgs st) (defBody st) (defScope st) [.int d] [] f fd
theorem dd {K : PySem.W.Frag} {x : Str} {st : Stmt} {d : Int} {f D : Addr} {oc kV dc pm cd ct tc : Value} {od an td : Option Addr} {sl ts : Array (Option Value)} {n : Nat} {t : Tok} (a : PySem.W.nsIn K mainGlobals x = some (some (.ref f)))
    (l : K.lookup f = some ⟨oc, od, .func (PySem.W.fnOf x x (defArgs st) (defBody st) (defScope st) (.ref D) kV dc pm an cd ct), sl⟩) (c : PySem.W.codeIn K cd x = true) (k : PySem.W.keepIn K (.ref f) = true) (e : K.lookup D = some ⟨tc, td, .seq #[.int d t] n, ts⟩) : DefD K x st d :=
  ⟨f, _, a, ⟨⟨oc, od, .ref D, kV, dc, pm, an, cd, ct, sl, rfl, l, c, .inr ⟨by simp, D, _, [.int d t], n, rfl, e, rfl, .cons ⟨t, rfl⟩ .nil⟩, .inl rfl⟩, k⟩⟩
/-- the law's own def -/
def LawA (K : PySem.W.Frag) (c : Addr) : Prop := ∃ (f : Addr) (oc kV dc pm ct : Value) (od an : Option Addr) (sl : Array (Option Value)), PySem.W.nsIn K mainGlobals "law" = some (some (.ref f)) ∧
  K.lookup f = some ⟨oc, od, .func (PySem.W.fnOf "law" "law" (defArgs s_law) (defBody s_law) (defScope s_law) .none kV dc pm an (.ref c) ct), sl⟩ ∧ PySem.W.codeIn K (.ref c) "law" = true
theorem la {K : PySem.W.Frag} {f c : Addr} {oc kV dc pm ct : Value} {od an : Option Addr} {sl : Array (Option Value)} (a : PySem.W.nsIn K mainGlobals "law" = some (some (.ref f)))
    (l : K.lookup f = some ⟨oc, od, .func (PySem.W.fnOf "law" "law" (defArgs s_law) (defBody s_law) (defScope s_law) .none kV dc pm an (.ref c) ct), sl⟩) (cc : PySem.W.codeIn K (.ref c) "law" = true) : LawA K c := ⟨f, oc, kV, dc, pm, ct, od, an, sl, a, l, cc⟩
def spLaw (K : PySem.W.Frag) : Sp := fun vs H Q _ => ∃ (a : Addr) (ns : List Int), vs = [.ref a] ∧ SqL K H a (ns.map V.int) ∧ ns.length ≤ 63 ∧ Q = fun v _ => v = V.bl true
section
variable {P : Program} {w : World} {K : PySem.W.Frag} {mg : Str → Option Value} {base h : Heap}
theorem own_of {CX : CXT} {k : Nat} {x : Str} {st : Stmt} {ps : List Str} {sp : Sp} (X : K.In h) (G : h.Ns mainGlobals mg) (D : DefA K x st) (b : ∀ (kV doc pm : Value) (an : Option Addr) (cdv ct : Value) (us : List Value), us.length = ps.length → bindArgs (PySem.W.fnOf x x (defArgs st) (defBody st) (defScope st) .none kV doc pm an cdv ct) ⟨us, []⟩ = pure (ps.zip us))
    (F : ∀ f fd, mg x = some (.ref f) → PySem.W.keepIn K (.ref f) = true → Binds K fd ps [] → Fun K x x st f fd → FnOk P w K mg base CX k f fd ps sp) : Own P w K mg base CX k x ps sp := by
  obtain ⟨f, fd, a, kp, Fn⟩ := D
  exact ⟨f, fd, PySem.W.mg_of X G a, kp, Fn.binds b, F f fd (PySem.W.mg_of X G a) kp (Fn.binds b) Fn⟩
end
theorem all_mk {l : PySem.W.OpenLaw} {w : World} {K : PySem.W.Frag} {h : Heap} {mg : Str → Option Value} {fa c : Addr} {tS : Tok} (X : K.In h) (G : h.Ns mainGlobals mg) (hfa : mg "law" = some (.ref fa))
    (lw : LawA K c) (sg : PySem.W.nsIn K mainGlobals "SIGNS" = some (some (.str SIGNS_S tS)))
    (d_is_list : DefA K "is_list" s_is_list)
    (d_is_integer : DefA K "is_integer" s_is_integer)
    (d_is_number : DefA K "is_number" s_is_number)
    (d_is_truth : DefA K "is_truth" s_is_truth)
    (d_is_pair : DefA K "is_pair" s_is_pair)
    (d_is_name : DefA K "is_name" s_is_name)
    (d_first_false : DefA K "first_false" s_first_false)
    (d_are_names : DefA K "are_names" s_are_names)
    (d_check_askings : DefA K "check_askings" s_check_askings)
    (d_asked_masks : DefA K "asked_masks" s_asked_masks)
    (d_start_of : DefA K "start_of" s_start_of)
    (d_answered : DefA K "answered" s_answered)
    (d_left_in : DefA K "left_in" s_left_in)
    (d_is_index_of : DefA K "is_index_of" s_is_index_of)
    (d_state_behind : DefA K "state_behind" s_state_behind)
    (d_possible_ones : DefD K "possible_ones" s_possible_ones 0)
    (d_never_parted : DefA K "never_parted" s_never_parted)
    (d__law_m_suspects : DefA K "_law_m_suspects" s__law_m_suspects)
    (d__law_start : DefA K "_law_start" s__law_start)
    (d__law_draw : DefA K "_law_draw" s__law_draw)
    (d__law_pick : DefA K "_law_pick" s__law_pick)
    (d__law_mixed : DefA K "_law_mixed" s__law_mixed)
    (d__law_same : DefA K "_law_same" s__law_same)
    (d__law_due : DefA K "_law_due" s__law_due)
    (z_isinstance : PySem.W.nsIn K mainGlobals "isinstance" = some none)
    (z_len : PySem.W.nsIn K mainGlobals "len" = some none)
    (z_list : PySem.W.nsIn K mainGlobals "list" = some none)
    (z_tuple : PySem.W.nsIn K mainGlobals "tuple" = some none)
    (z_dict : PySem.W.nsIn K mainGlobals "dict" = some none)
    (z_int : PySem.W.nsIn K mainGlobals "int" = some none)
    (z_bool : PySem.W.nsIn K mainGlobals "bool" = some none)
    (z_str : PySem.W.nsIn K mainGlobals "str" = some none)
    (z_min : PySem.W.nsIn K mainGlobals "min" = some none)
    (z_all : PySem.W.nsIn K mainGlobals "all" = some none)
    (z_range : PySem.W.nsIn K mainGlobals "range" = some none)
    (z_enumerate : PySem.W.nsIn K mainGlobals "enumerate" = some none)
    (z_zip : PySem.W.nsIn K mainGlobals "zip" = some none)
    (z_repr : PySem.W.nsIn K mainGlobals "repr" = some none)
    (z_sum : PySem.W.nsIn K mainGlobals "sum" = some none)
    (z_set : PySem.W.nsIn K mainGlobals "set" = some none) :
    LawG l w K CX0 63 "_law_script" mg fa h := by
  obtain ⟨f, oc, kV, dc, pm, ct, od, an, sl, la, ll, lc⟩ := lw
  have e := hfa.symm.trans (PySem.W.mg_of X G la)
  cases e
  have T : Bl mg := ⟨PySem.W.mg_none_of X G z_isinstance, PySem.W.mg_none_of X G z_len, PySem.W.mg_none_of X G z_list, PySem.W.mg_none_of X G z_tuple, PySem.W.mg_none_of X G z_dict, PySem.W.mg_none_of X G z_int, PySem.W.mg_none_of X G z_bool, PySem.W.mg_none_of X G z_str, PySem.W.mg_none_of X G z_min, PySem.W.mg_none_of X G z_all, PySem.W.mg_none_of X G z_range, PySem.W.mg_none_of X G z_enumerate, PySem.W.mg_none_of X G z_zip, PySem.W.mg_none_of X G z_repr⟩
  have gS := PySem.W.mg_of X G sg
  refine ⟨PySem.W.fnOf "law" "law" (defArgs s_law) (defBody s_law) (defScope s_law) .none kV dc pm an (.ref c) ct, [], spLaw K, fun p hp => (by cases hp), fun p hp => (by cases hp), fun p hp => (by cases hp), fun s u => .of_eq rfl, fun H a ns hn _ hT hS => ⟨a, ns, rfl, hS, hn, rfl⟩, fun base kin glob tb => ?_⟩
  have O_is_list : Own l.prog w K mg base CX0 1 "is_list" ["thing"] (sp1 (fun _ => True) fun d => .bool (isSeq d)) := own_of X G d_is_list (fun _ _ _ _ _ _ us hl => match us, hl with | [_], _ => rfl) fun f fd m k b F => ok_is_list F T
  have O_is_integer : Own l.prog w K mg base CX0 1 "is_integer" ["thing"] (sp1 (fun _ => True) fun d => .bool (isIntD d)) := own_of X G d_is_integer (fun _ _ _ _ _ _ us hl => match us, hl with | [_], _ => rfl) fun f fd m k b F => ok_is_integer F T
  have O_is_number : Own l.prog w K mg base CX0 2 "is_number" ["thing"] (sp1 (fun _ => True) fun d => .bool (isNumD d)) := own_of X G d_is_number (fun _ _ _ _ _ _ us hl => match us, hl with | [_], _ => rfl) fun f fd m k b F => ok_is_number F T O_is_integer
  have O_is_truth : Own l.prog w K mg base CX0 1 "is_truth" ["thing"] (sp1 (fun _ => True) fun d => .bool (isa_bool d)) := own_of X G d_is_truth (fun _ _ _ _ _ _ us hl => match us, hl with | [_], _ => rfl) fun f fd m k b F => ok_is_truth F T
  have O_is_pair : Own l.prog w K mg base CX0 2 "is_pair" ["thing"] (sp1 (fun _ => True) fun d => .bool (isSeq d && decide (lenD d = 2))) := own_of X G d_is_pair (fun _ _ _ _ _ _ us hl => match us, hl with | [_], _ => rfl) fun f fd m k b F => ok_is_pair F T O_is_list
  have O_is_name : Own l.prog w K mg base CX0 1 "is_name" ["thing"] (sp1 (fun d => ∃ s ∈ sNames, d = .str s) fun _ => .bool true) := own_of X G d_is_name (fun _ _ _ _ _ _ us hl => match us, hl with | [_], _ => rfl) fun f fd m k b F => ok_is_name F T gS
  have O_first_false : Own l.prog w K mg base CX0 1 "first_false" ["tests"] (sp1 Bools fun d => ffD 0 (itemsD d)) := own_of X G d_first_false (fun _ _ _ _ _ _ us hl => match us, hl with | [_], _ => rfl) fun f fd m k b F => ok_first_false F T
  have O_are_names : Own l.prog w K mg base CX0 2 "are_names" ["thing"] (sp1 NamesD fun _ => .bool true) := own_of X G d_are_names (fun _ _ _ _ _ _ us hl => match us, hl with | [_], _ => rfl) fun f fd m k b F => ok_are_names F T (PySem.W.mg_none_of X G z_set) O_is_list O_is_name
  have O_check_askings : Own l.prog w K mg base CX0 3 "check_askings" ["suspects", "askings", "lies"] (sp3 (fun s a l => (∃ ns, Sus s ns) ∧ (∃ as, Ask a as) ∧ lieI l) fun _ _ _ => .none) := own_of X G d_check_askings (fun _ _ _ _ _ _ us hl => match us, hl with | [_, _, _], _ => rfl) fun f fd m k b F => ok_check_askings F T O_is_list O_is_integer O_is_name O_are_names O_first_false
  have O_asked_masks : Own l.prog w K mg base CX0 1 "asked_masks" ["suspects", "askings"] (sp2 (fun s a => (∃ ns, Sus s ns) ∧ ∃ as, Ask a as) fun s a => maskD (nsOf s) (asOf a)) := own_of X G d_asked_masks (fun _ _ _ _ _ _ us hl => match us, hl with | [_, _], _ => rfl) fun f fd m k b F => ok_asked_masks F T (PySem.W.mg_none_of X G z_sum)
  have O_start_of : Own l.prog w K mg base CX0 1 "start_of" ["suspects"] (sp1 (fun s => ∃ ns, Sus s ns) fun s => .tuple [.int ((2 : Int) ^ (nsOf s).length - 1), .int 0]) := own_of X G d_start_of (fun _ _ _ _ _ _ us hl => match us, hl with | [_], _ => rfl) fun f fd m k b F => ok_start_of F T
  have O_answered : Own l.prog w K mg base CX0 1 "answered" ["state", "mask", "answer", "lies"] spAns := own_of X G d_answered (fun _ _ _ _ _ _ us hl => match us, hl with | [_, _, _, _], _ => rfl) fun f fd m k b F => ok_answered F T
  have O_left_in : Own l.prog w K mg base CX0 1 "left_in" ["suspects", "state"] spLeft := own_of X G d_left_in (fun _ _ _ _ _ _ us hl => match us, hl with | [_, _], _ => rfl) fun f fd m k b F => ok_left_in F T
  have O_is_index_of : Own l.prog w K mg base CX0 3 "is_index_of" ["thing", "things"] (sp2 (fun a b => isSeq b = true) fun a b => .bool (isNumD a && decide (intOf a < (lenD b : Int)))) := own_of X G d_is_index_of (fun _ _ _ _ _ _ us hl => match us, hl with | [_, _], _ => rfl) fun f fd m k b F => ok_is_index_of F T O_is_number
  have O_state_behind : Own l.prog w K mg base CX0 4 "state_behind" ["suspects", "askings", "answers", "lies"] spState := own_of X G d_state_behind (fun _ _ _ _ _ _ us hl => match us, hl with | [_, _, _, _], _ => rfl) fun f fd m k b F => ok_state_behind F T O_is_list O_is_pair O_is_index_of O_is_truth O_first_false O_asked_masks O_start_of O_answered
  have O_never_parted : Own l.prog w K mg base CX0 4 "never_parted" ["suspects", "askings"] spParted := own_of X G d_never_parted (fun _ _ _ _ _ _ us hl => match us, hl with | [_, _], _ => rfl) fun f fd m k b F => ok_never_parted F T O_check_askings O_asked_masks
  have O__law_start : Own l.prog w K mg base CX0 1 "_law_start" ["_law_script"] (spStart K) := own_of X G d__law_start (fun _ _ _ _ _ _ us hl => match us, hl with | [_], _ => rfl) fun f fd m k b F => ok_start F T
  have O__law_draw : Own l.prog w K mg base CX0 1 "_law_draw" ["_law_stream", "_law_many"] spDraw := own_of X G d__law_draw (fun _ _ _ _ _ _ us hl => match us, hl with | [_, _], _ => rfl) fun f fd m k b F => ok_draw F T
  have O__law_pick : Own l.prog w K mg base CX0 2 "_law_pick" ["_law_stream", "_law_some"] spPick := own_of X G d__law_pick (fun _ _ _ _ _ _ us hl => match us, hl with | [_, _], _ => rfl) fun f fd m k b F => ok_pick F T O__law_draw
  have O__law_mixed : Own l.prog w K mg base CX0 2 "_law_mixed" ["_law_stream", "_law_some"] spMixed := own_of X G d__law_mixed (fun _ _ _ _ _ _ us hl => match us, hl with | [_, _], _ => rfl) fun f fd m k b F => ok_mixed F T O__law_draw
  have O__law_m_suspects : Own l.prog w K mg base CX0 3 "_law_m_suspects" ["_law_stream", "_law_most"] spMSus := own_of X G d__law_m_suspects (fun _ _ _ _ _ _ us hl => match us, hl with | [_, _], _ => rfl) fun f fd m k b F => ok_m_suspects F T O__law_draw O__law_mixed
  have O__law_same : Own l.prog w K mg base CX0 6 "_law_same" ["_law_found", "_law_due_here"] (spSame 4) := own_of X G d__law_same (fun _ _ _ _ _ _ us hl => match us, hl with | [_, _], _ => rfl) fun f fd m k b F => ok_same F T m k b 4
  have O__law_due : Own l.prog w K mg base CX0 1 "_law_due" ["_law_names", "_law_askings", "_law_answers", "_law_lies"] spDue := own_of X G d__law_due (fun _ _ _ _ _ _ us hl => match us, hl with | [_, _, _, _], _ => rfl) fun f fd m k b F => ok_due F T
  have O_possible_ones : OwnD l.prog w K mg base 5 "possible_ones" ["suspects", "askings", "answers", "lies"] 3 ["lies"] (.int 0) spPoss := by
    obtain ⟨f, fd, a, F⟩ := d_possible_ones
    exact own_possible F (PySem.W.mg_of X G a) (ok_possible_ones F T O_check_askings O_state_behind O_left_in)
  have Lb : Lib l.prog w K mg base := ⟨T, O__law_start, O__law_draw, O__law_pick, O__law_m_suspects, O__law_same, O__law_due, O_possible_ones, O_never_parted⟩
  intro s H u v Q E env bind rel sp
  obtain ⟨a, ns, hv, hS, hn, rfl⟩ := sp
  refine run_ofS (k := 8) (N := n_law) (ps := ["_law_script"]) (us := [u]) (vs := [v]) ll lc sc_law ⟨rfl, by decide, by decide⟩ env bind (.cons rel .nil) rfl fun hr => ?_
  obtain ⟨t, h1, h2⟩ := law_reads Lb hr hS hn
  cases hv
  exact ⟨t, h1.nox, h2⟩
end K77
open PySem PySem.W PyProof.Rows
set_option maxRecDepth 100000 in
set_option maxHeartbeats 0 in
theorem PySem.Challenge.cw_patchlots_k77_whole_possible_ones_holds : PySem.Challenge.rw_patchlots_k77_whole_possible_ones.Holds := by
  w_on; o_law; k_head; (case hw => w_witness2)
  k_fill
  refine KD.walk_ofG (l := PySem.Challenge.rw_patchlots_k77_whole_possible_ones) (n := 63) (x := "_law_script") (CX := fun _ => L2.CX0) rfl (by decide) rfl (fun w h Y => PySem.W.kIn_of Y) ?F (fun _ _ _ _ _ z => z)
  case F =>
    intro w mg fa h Y KX G hmg
    refine' K77.all_mk KX G hmg ?lw ?sg ?d_is_list ?d_is_integer ?d_is_number ?d_is_truth ?d_is_pair ?d_is_name ?d_first_false ?d_are_names ?d_check_askings ?d_asked_masks ?d_start_of ?d_answered ?d_left_in ?d_is_index_of ?d_state_behind ?d_possible_ones ?d_never_parted ?d__law_m_suspects ?d__law_start ?d__law_draw ?d__law_pick ?d__law_mixed ?d__law_same ?d__law_due ?z_isinstance ?z_len ?z_list ?z_tuple ?z_dict ?z_int ?z_bool ?z_str ?z_min ?z_all ?z_range ?z_enumerate ?z_zip ?z_repr ?z_sum ?z_set
    (case d_is_list => (refine' K77.da ?a ?l ?c ?k; (case a => k_is); (case l => k_is); (case c => k_is); (case k => k_is)))
    (case d_is_integer => (refine' K77.da ?a ?l ?c ?k; (case a => k_is); (case l => k_is); (case c => k_is); (case k => k_is)))
    (case d_is_number => (refine' K77.da ?a ?l ?c ?k; (case a => k_is); (case l => k_is); (case c => k_is); (case k => k_is)))
    (case d_is_truth => (refine' K77.da ?a ?l ?c ?k; (case a => k_is); (case l => k_is); (case c => k_is); (case k => k_is)))
    (case d_is_pair => (refine' K77.da ?a ?l ?c ?k; (case a => k_is); (case l => k_is); (case c => k_is); (case k => k_is)))
    (case d_is_name => (refine' K77.da ?a ?l ?c ?k; (case a => k_is); (case l => k_is); (case c => k_is); (case k => k_is)))
    (case d_first_false => (refine' K77.da ?a ?l ?c ?k; (case a => k_is); (case l => k_is); (case c => k_is); (case k => k_is)))
    (case d_are_names => (refine' K77.da ?a ?l ?c ?k; (case a => k_is); (case l => k_is); (case c => k_is); (case k => k_is)))
    (case d_check_askings => (refine' K77.da ?a ?l ?c ?k; (case a => k_is); (case l => k_is); (case c => k_is); (case k => k_is)))
    (case d_asked_masks => (refine' K77.da ?a ?l ?c ?k; (case a => k_is); (case l => k_is); (case c => k_is); (case k => k_is)))
    (case d_start_of => (refine' K77.da ?a ?l ?c ?k; (case a => k_is); (case l => k_is); (case c => k_is); (case k => k_is)))
    (case d_answered => (refine' K77.da ?a ?l ?c ?k; (case a => k_is); (case l => k_is); (case c => k_is); (case k => k_is)))
    (case d_left_in => (refine' K77.da ?a ?l ?c ?k; (case a => k_is); (case l => k_is); (case c => k_is); (case k => k_is)))
    (case d_is_index_of => (refine' K77.da ?a ?l ?c ?k; (case a => k_is); (case l => k_is); (case c => k_is); (case k => k_is)))
    (case d_state_behind => (refine' K77.da ?a ?l ?c ?k; (case a => k_is); (case l => k_is); (case c => k_is); (case k => k_is)))
    (case d_possible_ones => (refine' K77.dd ?a ?l ?c ?k ?e; (case a => k_is); (case l => k_is); (case c => k_is); (case k => k_is); (case e => k_is)))
    (case d_never_parted => (refine' K77.da ?a ?l ?c ?k; (case a => k_is); (case l => k_is); (case c => k_is); (case k => k_is)))
    (case d__law_m_suspects => (refine' K77.da ?a ?l ?c ?k; (case a => k_is); (case l => k_is); (case c => k_is); (case k => k_is)))
    (case d__law_start => (refine' K77.da ?a ?l ?c ?k; (case a => k_is); (case l => k_is); (case c => k_is); (case k => k_is)))
    (case d__law_draw => (refine' K77.da ?a ?l ?c ?k; (case a => k_is); (case l => k_is); (case c => k_is); (case k => k_is)))
    (case d__law_pick => (refine' K77.da ?a ?l ?c ?k; (case a => k_is); (case l => k_is); (case c => k_is); (case k => k_is)))
    (case d__law_mixed => (refine' K77.da ?a ?l ?c ?k; (case a => k_is); (case l => k_is); (case c => k_is); (case k => k_is)))
    (case d__law_same => (refine' K77.da ?a ?l ?c ?k; (case a => k_is); (case l => k_is); (case c => k_is); (case k => k_is)))
    (case d__law_due => (refine' K77.da ?a ?l ?c ?k; (case a => k_is); (case l => k_is); (case c => k_is); (case k => k_is)))
    (case lw => (refine' K77.la ?a ?l ?c; (case a => k_is); (case l => k_is); (case c => k_is)))
    (case sg => k_is)
    (case z_isinstance => k_is)
    (case z_len => k_is)
    (case z_list => k_is)
    (case z_tuple => k_is)
    (case z_dict => k_is)
    (case z_int => k_is)
    (case z_bool => k_is)
    (case z_str => k_is)
    (case z_min => k_is)
    (case z_all => k_is)
    (case z_range => k_is)
    (case z_enumerate => k_is)
    (case z_zip => k_is)
    (case z_repr => k_is)
    (case z_sum => k_is)
    (case z_set => k_is)

