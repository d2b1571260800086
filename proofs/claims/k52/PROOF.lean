import PyProof.Rows.All
import Wide.All
import OpenK.AllK
import Wide.FinOn
import HandS.ForMost
import HandS.IsInst
import HandS.Style
import HandS.TupAny
import HandS.Deep
import KE.SortData
import HandS.Walk
import PySem.Challenge.RW_patchlots_k52_whole_covers
import HandS.ForExc
import HandS.ExcInit
import HandS.ExcField
import HandS.Evl
import HandS.Zip
import KE.GoesMore
import PyProof.EnumMake
import PyProof.Draws
import KE.DataMinMax
import HandS.SortKw
import HandS.Dict
import HandS.Small
import HandS.DictComp
import KE.KEqDict
import HandS.DictTup
import HandS.Conv
import KE.KDictCopyH
import HandS.NoneIn
import HandS.WordsExc
import HandS.Iter
import HandS.Comp
import HandS.SortInts
import HandS.List
import HandS.ExcOwn
import HandS.ExcValue
import PyProof.SumAny
import PyProof.WalkInts
import HandS.Lambda
import HandS.EndTab
set_option Elab.async false
set_option linter.all false
set_option maxRecDepth 100000
set_option maxHeartbeats 4000000
/-! Data as a whole over the hand layer: DX, what evaluates to what, a def's promise over data. -/
namespace KD
open PySem L2

/-! ### data that stands apart from some addresses -/
def kd : Key → PyData
  | .inl i => .int i
  | .inr x => .str x
mutual
inductive DX (X : Addr → Prop) (H : Hp) : V → PyData → Prop
  | non : DX X H .non .none
  | bl (b : Bool) : DX X H (.bl b) (.bool b)
  | int (i : Int) : DX X H (.int i) (.int i)
  | str (x : Str) : DX X H (.str x) (.str x)
  | lst {a : Addr} {xs : List V} {ds : List PyData} : ¬ X a → H a = some (.lst xs) → DXs X H xs ds → DX X H (.ref a) (.list ds)
  | tup {a : Addr} {xs : List V} {ds : List PyData} : ¬ X a → H a = some (.tup xs) → DXs X H xs ds → DX X H (.ref a) (.tuple ds)
  | dic {a : Addr} {kvs : List (Key × V)} {ks : List (PyData × PyData)} : ¬ X a → H a = some (.dK kvs) → DXk X H kvs ks → DX X H (.ref a) (.dict ks)
inductive DXs (X : Addr → Prop) (H : Hp) : List V → List PyData → Prop
  | nil : DXs X H [] []
  | cons {v : V} {vs : List V} {d : PyData} {ds : List PyData} : DX X H v d → DXs X H vs ds → DXs X H (v :: vs) (d :: ds)
inductive DXk (X : Addr → Prop) (H : Hp) : List (Key × V) → List (PyData × PyData) → Prop
  | nil : DXk X H [] []
  | cons {k : Key} {v : V} {vs : List (Key × V)} {d : PyData} {ds : List (PyData × PyData)} : DX X H v d → DXk X H vs ds → DXk X H ((k, v) :: vs) ((kd k, d) :: ds)
end
/-- what is not of X is kept -/
def Kp (X : Addr → Prop) (H H' : Hp) : Prop := ∀ a o, ¬ X a → H a = some o → H' a = some o
theorem Kp.of {X : Addr → Prop} {H H' : Hp} (h : Same H H') : Kp X H H' := fun a o _ e => h a o e
theorem Kp.refl {X : Addr → Prop} {H : Hp} : Kp X H H := fun _ _ _ e => e
theorem Kp.trans {X : Addr → Prop} {H H1 H2 : Hp} (h : Kp X H H1) (k : Kp X H1 H2) : Kp X H H2 := fun a o n e => k a o n (h a o n e)
section
variable {X : Addr → Prop} {H H' : Hp}
mutual
theorem DX.mono (k : Kp X H H') : ∀ {v : V} {d : PyData}, DX X H v d → DX X H' v d
  | _, _, .non => .non
  | _, _, .bl b => .bl b
  | _, _, .int i => .int i
  | _, _, .str x => .str x
  | _, _, .lst n h r => .lst n (k _ _ n h) (DXs.mono k r)
  | _, _, .tup n h r => .tup n (k _ _ n h) (DXs.mono k r)
  | _, _, .dic n h r => .dic n (k _ _ n h) (DXk.mono k r)
theorem DXs.mono (k : Kp X H H') : ∀ {vs : List V} {ds : List PyData}, DXs X H vs ds → DXs X H' vs ds
  | _, _, .nil => .nil
  | _, _, .cons h r => .cons (DX.mono k h) (DXs.mono k r)
theorem DXk.mono (k : Kp X H H') : ∀ {vs : List (Key × V)} {ds : List (PyData × PyData)}, DXk X H vs ds → DXk X H' vs ds
  | _, _, .nil => .nil
  | _, _, .cons h r => .cons (DX.mono k h) (DXk.mono k r)
end
theorem DXs.length : ∀ {vs : List V} {ds : List PyData}, DXs X H vs ds → vs.length = ds.length
  | _, _, .nil => rfl
  | _, _, .cons _ r => congrArg (· + 1) (DXs.length r)
theorem DXs.get : ∀ {vs : List V} {ds : List PyData} {i : Nat} {d : PyData}, DXs X H vs ds → ds[i]? = some d → ∃ v, vs[i]? = some v ∧ DX X H v d
  | _, _, _, _, .nil, e => by simp at e
  | _, _, 0, _, .cons h _, e => by simp at e; subst e; exact ⟨_, rfl, h⟩
  | _, _, i + 1, d, .cons _ r, e => by
    obtain ⟨v, h1, h2⟩ := DXs.get (i := i) (d := d) r (by simpa using e)
    exact ⟨v, by simpa using h1, h2⟩
theorem DXs.getV : ∀ {vs : List V} {ds : List PyData} {i : Nat} {v : V}, DXs X H vs ds → vs[i]? = some v → ∃ d, ds[i]? = some d ∧ DX X H v d
  | _, _, _, _, .nil, e => by simp at e
  | _, _, 0, _, .cons h _, e => by simp at e; subst e; exact ⟨_, rfl, h⟩
  | _, _, i + 1, d, .cons _ r, e => by
    obtain ⟨v, h1, h2⟩ := DXs.getV (i := i) (v := d) r (by simpa using e)
    exact ⟨v, by simpa using h1, h2⟩
theorem DXs.append : ∀ {vs ws : List V} {ds es : List PyData}, DXs X H vs ds → DXs X H ws es → DXs X H (vs ++ ws) (ds ++ es)
  | _, _, _, _, .nil, s => s
  | _, _, _, _, .cons h r, s => .cons h (DXs.append r s)
theorem DXs.take : ∀ {vs : List V} {ds : List PyData} (n : Nat), DXs X H vs ds → DXs X H (vs.take n) (ds.take n)
  | _, _, 0, _ => .nil
  | _, _, _ + 1, .nil => .nil
  | _, _, n + 1, .cons h r => .cons h (DXs.take n r)
theorem DXs.drop : ∀ {vs : List V} {ds : List PyData} (n : Nat), DXs X H vs ds → DXs X H (vs.drop n) (ds.drop n)
  | _, _, 0, r => r
  | _, _, _ + 1, .nil => .nil
  | _, _, n + 1, .cons _ r => DXs.drop n r
theorem DXs.erase : ∀ {vs : List V} {ds : List PyData} (n : Nat), DXs X H vs ds → DXs X H (vs.eraseIdx n) (ds.eraseIdx n)
  | _, _, _, .nil => .nil
  | _, _, 0, .cons _ r => r
  | _, _, n + 1, .cons h r => .cons h (DXs.erase n r)
theorem DXs.rep {vs : List V} {ds : List PyData} (h : DXs X H vs ds) : ∀ n : Nat, DXs X H (List.replicate n vs).flatten (List.replicate n ds).flatten
  | 0 => .nil
  | n + 1 => by
    rw [List.replicate_succ, List.replicate_succ, List.flatten_cons, List.flatten_cons]
    exact DXs.append h (DXs.rep h n)
theorem DXs.snoc {vs : List V} {ds : List PyData} {v : V} {d : PyData} (h : DXs X H vs ds) (k : DX X H v d) : DXs X H (vs ++ [v]) (ds ++ [d]) := DXs.append h (.cons k .nil)

/-! ### data without dicts is the layer's data -/
mutual
def noDict : PyData → Bool
  | .none => true
  | .bool _ => true
  | .int _ => true
  | .str _ => true
  | .list ds => noDicts ds
  | .tuple ds => noDicts ds
  | .dict _ => false
def noDicts : List PyData → Bool
  | [] => true
  | d :: ds => noDict d && noDicts ds
end
mutual
theorem DX.dp {K : PySem.W.Frag} : ∀ {v : V} {d : PyData}, DX X H v d → noDict d = true → Dp K H v d
  | _, _, .non, _ => .non
  | _, _, .bl b, _ => .bl b
  | _, _, .int i, _ => .int i
  | _, _, .str x, _ => .str x
  | _, _, .lst _ h r, n => .lst (SqL.of h) (DXs.dp r (by simpa [noDict] using n))
  | _, _, .tup _ h r, n => .tup (SqT.of h) (DXs.dp r (by simpa [noDict] using n))
  | _, _, .dic _ _ _, n => by simp [noDict] at n
theorem DXs.dp {K : PySem.W.Frag} : ∀ {vs : List V} {ds : List PyData}, DXs X H vs ds → noDicts ds = true → DpAll K H vs ds
  | _, _, .nil, _ => .nil
  | _, _, .cons (d := d) (ds := ds) h r, n => by
    have n' : noDict d = true ∧ noDicts ds = true := by simpa [noDicts] using n
    exact .cons (DX.dp h n'.1) (DXs.dp r n'.2)
end
end
/-- the addresses of X stand in the heap -/
def Trk (X : Addr → Prop) (H : Hp) : Prop := ∀ a, X a → ∃ o, H a = some o
theorem Trk.mono {X : Addr → Prop} {H H' : Hp} (t : Trk X H) (s : Same H H') : Trk X H' := fun a h => let ⟨o, e⟩ := t a h; ⟨o, s a o e⟩
theorem Trk.new {X : Addr → Prop} {H : Hp} {p : Addr} (t : Trk X H) (h : H p = none) : ¬ X p := fun x => by
  obtain ⟨o, e⟩ := t p x
  rw [h] at e
  cases e
theorem Same.upd {H : Hp} {p : Addr} {o : HO} (h : H p = none) : Same H (upd H p o) := fun b u e => by
  rw [upd_ne (ne_of_none e h)]
  exact e

/-! ### the frame's values as data -/
inductive Sv where
  | dat (d : PyData) | val (v : V) | un
def SvOk (X : Addr → Prop) (H : Hp) : Sv → Option (Option V) → Prop
  | .dat d, o => ∃ v, o = some (some v) ∧ DX X H v d
  | .val v, o => o = some (some v)
  | .un, _ => True
structure EnvOk (X : Addr → Prop) (H : Hp) (σ : St) (Γ : List Sv) : Prop where
  len : σ.length = Γ.length
  get : ∀ (i : Nat) (s : Sv), Γ[i]? = some s → SvOk X H s σ[i]?
section
variable {X : Addr → Prop} {H H' : Hp} {σ : St} {Γ : List Sv}
theorem SvOk.mono (k : Kp X H H') {s : Sv} {o : Option (Option V)} (h : SvOk X H s o) : SvOk X H' s o := by
  cases s with
  | dat d =>
    obtain ⟨v, e, r⟩ := h
    exact ⟨v, e, r.mono k⟩
  | val v => exact h
  | un => trivial
theorem EnvOk.mono (k : Kp X H H') (h : EnvOk X H σ Γ) : EnvOk X H' σ Γ := ⟨h.len, fun i s e => (h.get i s e).mono k⟩
theorem EnvOk.same (k : Same H H') (h : EnvOk X H σ Γ) : EnvOk X H' σ Γ := h.mono (Kp.of k)
theorem EnvOk.put {i : Nat} {v : V} {s : Sv} (h : EnvOk X H σ Γ) (hs : SvOk X H s (some (some v))) : EnvOk X H (σ.set i (some v)) (Γ.set i s) := by
  refine ⟨by rw [List.length_set, List.length_set]; exact h.len, fun j t e => ?_⟩
  by_cases hj : i = j
  · subst hj
    by_cases hl : i < Γ.length
    · rw [List.getElem?_set_self hl] at e
      cases e
      rw [List.getElem?_set_self (by rw [h.len]; exact hl)]
      exact hs
    · rw [List.getElem?_eq_none (by rw [List.length_set]; omega)] at e
      cases e
  · rw [List.getElem?_set_ne hj] at e
    rw [List.getElem?_set_ne hj]
    exact h.get j t e
theorem EnvOk.set {i : Nat} {v : V} {d : PyData} (h : EnvOk X H σ Γ) (hd : DX X H v d) : EnvOk X H (σ.set i (some v)) (Γ.set i (.dat d)) := h.put ⟨v, rfl, hd⟩
theorem EnvOk.setV {i : Nat} {v : V} (h : EnvOk X H σ Γ) : EnvOk X H (σ.set i (some v)) (Γ.set i (.val v)) := h.put rfl
/-- what is not asked any more -/
theorem EnvOk.wipe (h : EnvOk X H σ Γ) : ∀ vs : List Nat, EnvOk X H (wipe σ vs) (vs.foldr (fun v g => g.set v .un) Γ)
  | [] => h
  | v :: vs => by
    have ih := EnvOk.wipe h vs
    show EnvOk X H ((L2.wipe σ vs).set v none) ((vs.foldr (fun v g => g.set v .un) Γ).set v .un)
    refine ⟨by rw [List.length_set, List.length_set]; exact ih.len, fun j t e => ?_⟩
    by_cases hj : v = j
    · subst hj
      by_cases hl : v < (vs.foldr (fun v g => g.set v Sv.un) Γ).length
      · rw [List.getElem?_set_self hl] at e
        cases e
        trivial
      · rw [List.getElem?_eq_none (by rw [List.length_set]; omega)] at e
        cases e
    · rw [List.getElem?_set_ne hj] at e
      rw [List.getElem?_set_ne hj]
      exact ih.get j t e
theorem envOk_start {N : List Str} {vs : List V} {ss : List Sv} (hl : vs.length = ss.length) (hs : ∀ (i : Nat) (s : Sv), ss[i]? = some s → ∀ v, vs[i]? = some v → SvOk X H s (some (some v))) (hN : vs.length ≤ N.length) : EnvOk X H (L2.start N vs) (ss ++ List.replicate (N.length - vs.length) .un) := by
  unfold L2.start
  refine ⟨by simp [hl], fun i s e => ?_⟩
  by_cases hi : i < vs.length
  · rw [List.getElem?_append_left (by omega)] at e
    rw [List.getElem?_append_left (by simpa using hi)]
    rw [List.getElem?_map, List.getElem?_eq_getElem hi]
    exact hs i s e _ (List.getElem?_eq_getElem hi)
  · rw [List.getElem?_append_right (by omega)] at e
    have hu : s = .un := by
      have := List.mem_of_getElem? e
      exact List.eq_of_mem_replicate this
    subst hu
    trivial
end

/-! ### what evaluates to what datum, leaving all as it is -/
def G (X : Addr → Prop) (te : TE) (σ : St) (H : Hp) (d : PyData) : Prop := ∀ H1, Same H H1 → ∀ Q : VK, (∀ v H2, Same H1 H2 → DX X H2 v d → Q v H2) → te σ H1 Q
def GV (te : TE) (σ : St) (H : Hp) (v : V) : Prop := ∀ H1, Same H H1 → ∀ Q : VK, Q v H1 → te σ H1 Q
def GT (tt : TT) (σ : St) (H : Hp) (b : Bool) : Prop := ∀ H1, Same H H1 → ∀ Q : Bool → Hp → Prop, (∀ H2, Same H1 H2 → Q b H2) → tt σ H1 Q
def GA (X : Addr → Prop) (ta : TA) (σ : St) (H : Hp) (ds : List PyData) : Prop := ∀ H1, Same H H1 → ∀ Q : List V → Hp → Prop, (∀ vs H2, Same H1 H2 → DXs X H2 vs ds → Q vs H2) → ta σ H1 Q
def GO (to : TO) (σ : St) (H : Hp) (o : Option Int) : Prop := ∀ H1, Same H H1 → ∀ Q : Option Int → Hp → Prop, (∀ H2, Same H1 H2 → Q o H2) → to σ H1 Q
/-- operations on data -/
def RD (X : Addr → Prop) (r : R2) (x y z : PyData) : Prop := ∀ H u v, Trk X H → DX X H u x → DX X H v y → ∀ Q : VK, (∀ w H2, Same H H2 → DX X H2 w z → Q w H2) → r u v H Q
def RB (X : Addr → Prop) (r : R2) (x y : PyData) (b : Bool) : Prop := ∀ H u v, Trk X H → DX X H u x → DX X H v y → ∀ Q : VK, Q (.bl b) H → r u v H Q
def RF (X : Addr → Prop) (r : List V → Hp → VK → Prop) (xs : List PyData) (z : PyData) : Prop := ∀ H us, Trk X H → DXs X H us xs → ∀ Q : VK, (∀ w H2, Same H H2 → DX X H2 w z → Q w H2) → r us H Q
section
variable {X : Addr → Prop} {σ : St} {H H' : Hp} {te ta tb tc : TE} {tt tu : TT} {x y z d e : PyData} {Γ : List Sv} {K : PySem.W.Frag} {r : R2}
theorem DX.int_inv {v : V} {i : Int} (h : DX X H v (.int i)) : v = .int i := by cases h; rfl
theorem DX.bl_inv {v : V} {b : Bool} (h : DX X H v (.bool b)) : v = .bl b := by cases h; rfl
theorem DX.str_inv {v : V} {s : Str} (h : DX X H v (.str s)) : v = .str s := by cases h; rfl
theorem DX.non_inv {v : V} (h : DX X H v .none) : v = .non := by cases h; rfl
theorem DX.lst_inv {v : V} {ds : List PyData} (h : DX X H v (.list ds)) : ∃ a xs, v = .ref a ∧ ¬ X a ∧ H a = some (.lst xs) ∧ DXs X H xs ds := by
  cases h with | lst n e r => exact ⟨_, _, rfl, n, e, r⟩
theorem DX.tup_inv {v : V} {ds : List PyData} (h : DX X H v (.tuple ds)) : ∃ a xs, v = .ref a ∧ ¬ X a ∧ H a = some (.tup xs) ∧ DXs X H xs ds := by
  cases h with | tup n e r => exact ⟨_, _, rfl, n, e, r⟩
theorem DX.newL {xs : List V} {ds : List PyData} (t : Trk X H) (h : DXs X H xs ds) {p : Addr} (hp : H p = none) : DX X (upd H p (.lst xs)) (.ref p) (.list ds) := .lst (t.new hp) upd_same (h.mono (Kp.of (Same.upd hp)))
theorem DX.newT {xs : List V} {ds : List PyData} (t : Trk X H) (h : DXs X H xs ds) {p : Addr} (hp : H p = none) : DX X (upd H p (.tup xs)) (.ref p) (.tuple ds) := .tup (t.new hp) upd_same (h.mono (Kp.of (Same.upd hp)))
theorem DX.isa_bool {v : V} {b : Bool} (h : DX X H v d) (e : v = .bl b) : d = .bool b := by subst e; cases h; rfl

theorem G.mono (s : Same H H') (h : G X te σ H d) : G X te σ H' d := fun H1 k Q q => h H1 (s.trans k) Q q
theorem GT.mono {b : Bool} (s : Same H H') (h : GT tt σ H b) : GT tt σ H' b := fun H1 k Q q => h H1 (s.trans k) Q q
theorem g_var {i : Nat} (E : EnvOk X H σ Γ) (h : Γ[i]? = some (.dat d)) : G X (tVar i) σ H d := fun H1 s Q q => by
  obtain ⟨v, e, r⟩ := E.get i _ h
  exact ⟨v, e, q v H1 (Same.refl H1) (r.mono (Kp.of s))⟩
theorem gv_var {i : Nat} {v : V} (E : EnvOk X H σ Γ) (h : Γ[i]? = some (.val v)) : GV (tVar i) σ H v := fun H1 s Q q => ⟨v, E.get i _ h, q⟩
theorem g_int {i : Int} : G X (tC (.int i)) σ H (.int i) := fun H1 _ Q q => q _ H1 (Same.refl H1) (.int i)
theorem g_bl {b : Bool} : G X (tC (.bl b)) σ H (.bool b) := fun H1 _ Q q => q _ H1 (Same.refl H1) (.bl b)
theorem g_str {s : Str} : G X (tC (.str s)) σ H (.str s) := fun H1 _ Q q => q _ H1 (Same.refl H1) (.str s)
theorem g_non : G X (tC .non) σ H .none := fun H1 _ Q q => q _ H1 (Same.refl H1) .non
theorem ga_nil : GA X tNil σ H [] := fun H1 _ Q q => q [] H1 (Same.refl H1) .nil
theorem ga_cons {ta : TE} {tr : TA} {ds : List PyData} (h : G X ta σ H d) (k : GA X tr σ H ds) : GA X (tCons ta tr) σ H (d :: ds) := fun H1 s Q q =>
  h H1 s _ fun v H2 s2 r => k H2 (s.trans s2) _ fun vs H3 s3 rs => q _ H3 (s2.trans s3) (.cons (r.mono (Kp.of s3)) rs)
theorem g_lst {ta : TA} {ds : List PyData} (t : Trk X H) (h : GA X ta σ H ds) (hl : ds.length ≤ 1000000) : G X (tLst ta) σ H (.list ds) := fun H1 s Q q =>
  h H1 s _ fun vs H2 s2 rs => ⟨by rw [rs.length, sizeLine_eq]; omega, fun p hp => q _ _ (s2.trans (Same.upd hp)) (DX.newL ((t.mono s).mono s2) rs hp)⟩
theorem g_tup {ta : TA} {ds : List PyData} (t : Trk X H) (h : GA X ta σ H ds) (hl : ds.length ≤ 1000000) : G X (tTup ta) σ H (.tuple ds) := fun H1 s Q q =>
  h H1 s _ fun vs H2 s2 rs => ⟨by rw [rs.length, sizeLine_eq]; omega, fun p hp => q _ _ (s2.trans (Same.upd hp)) (DX.newT ((t.mono s).mono s2) rs hp)⟩
theorem g_op (t : Trk X H) (ha : G X ta σ H x) (hb : G X tb σ H y) (hr : RD X r x y z) : G X (tOp r ta tb) σ H z := fun H1 s Q q =>
  ha H1 s _ fun u H2 s2 ru => hb H2 (s.trans s2) _ fun v H3 s3 rv => hr H3 u v (((t.mono s).mono s2).mono s3) (ru.mono (Kp.of s3)) rv Q fun w H4 s4 rw_ => q w H4 ((s2.trans s3).trans s4) rw_
theorem gt_op {b : Bool} (t : Trk X H) (ha : G X ta σ H x) (hb : G X tb σ H y) (hr : RB X r x y b) : GT (tTest (tOp r ta tb)) σ H b := fun H1 s Q q =>
  ha H1 s _ fun u H2 s2 ru => hb H2 (s.trans s2) _ fun v H3 s3 rv => hr H3 u v (((t.mono s).mono s2).mono s3) (ru.mono (Kp.of s3)) rv _ ⟨b, rfl, q H3 (s2.trans s3)⟩
theorem RB.rd {b : Bool} (h : RB X r x y b) : RD X r x y (.bool b) := fun H u v t ru rv Q q => h H u v t ru rv Q (q _ H (Same.refl H) (.bl b))
theorem RD.or1 {r r' : R2} (h : RD X r x y z) : RD X (fun x y H Q => r x y H Q ∨ r' x y H Q) x y z := fun H u v t ru rv Q q => .inl (h H u v t ru rv Q q)
theorem RD.or2 {r r' : R2} (h : RD X r' x y z) : RD X (fun x y H Q => r x y H Q ∨ r' x y H Q) x y z := fun H u v t ru rv Q q => .inr (h H u v t ru rv Q q)
/-- a test that is a bool's -/
theorem gt_B {b : Bool} (h : G X te σ H (.bool b)) : GT (tB te) σ H b := fun H1 s Q q => h H1 s _ fun v H2 s2 r => ⟨b, r.bl_inv, q H2 s2⟩
theorem gt_test {b : Bool} (h : G X te σ H (.bool b)) : GT (tTest te) σ H b := fun H1 s Q q => h H1 s _ fun v H2 s2 r => ⟨b, r.bl_inv, q H2 s2⟩
theorem gt_not {b : Bool} (h : GT tt σ H b) : GT (tNot tt) σ H (!b) := fun H1 s Q q => h H1 s _ fun H2 s2 => q H2 s2
theorem gt_and {a b : Bool} (h : GT tt σ H a) (k : a = true → GT tu σ H b) : GT (tAnd tt tu) σ H (a && b) := fun H1 s Q q => h H1 s _ fun H2 s2 => by
  cases a with
  | true =>
    show tu σ H2 Q
    exact k rfl H2 (s.trans s2) Q fun H3 s3 => q H3 (s2.trans s3)
  | false =>
    show Q false H2
    exact q H2 s2
theorem gt_or {a b : Bool} (h : GT tt σ H a) (k : a = false → GT tu σ H b) : GT (tOr tt tu) σ H (a || b) := fun H1 s Q q => h H1 s _ fun H2 s2 => by
  cases a with
  | true =>
    show Q true H2
    exact q H2 s2
  | false =>
    show tu σ H2 Q
    exact k rfl H2 (s.trans s2) Q fun H3 s3 => q H3 (s2.trans s3)
theorem gt_is {a b : Bool} (h : GT tt σ H a) (e : a = b) : GT tt σ H b := e ▸ h
theorem g_is (h : G X te σ H d) (e' : d = e) : G X te σ H e := e' ▸ h
theorem g_and {a b : Bool} (h : G X ta σ H (.bool a)) (k : a = true → G X tb σ H (.bool b)) : G X (tAndV ta tb) σ H (.bool (a && b)) := fun H1 s Q q => h H1 s _ fun v H2 s2 r => ⟨a, r.bl_inv, by
  cases a with
  | true =>
    show tb σ H2 Q
    exact k rfl H2 (s.trans s2) Q fun v H3 s3 r3 => q v H3 (s2.trans s3) r3
  | false =>
    show Q (.bl false) H2
    exact q _ H2 s2 (.bl false)⟩
theorem g_or {a b : Bool} (h : G X ta σ H (.bool a)) (k : a = false → G X tb σ H (.bool b)) : G X (tOrV ta tb) σ H (.bool (a || b)) := fun H1 s Q q => h H1 s _ fun v H2 s2 r => ⟨a, r.bl_inv, by
  cases a with
  | true =>
    show Q (.bl true) H2
    exact q _ H2 s2 (.bl true)
  | false =>
    show tb σ H2 Q
    exact k rfl H2 (s.trans s2) Q fun v H3 s3 r3 => q v H3 (s2.trans s3) r3⟩
theorem g_not {a : Bool} (h : G X ta σ H (.bool a)) : G X (tNotV ta) σ H (.bool (!a)) := fun H1 s Q q => h H1 s _ fun v H2 s2 r => ⟨a, r.bl_inv, q _ H2 s2 (.bl _)⟩
theorem g_if {b : Bool} (h : GT tt σ H b) (h1 : b = true → G X ta σ H d) (h2 : b = false → G X tb σ H d) : G X (tIf tt ta tb) σ H d := fun H1 s Q q => h H1 s _ fun H2 s2 => by
  cases b with
  | true =>
    show ta σ H2 Q
    exact h1 rfl H2 (s.trans s2) Q fun v H3 s3 r3 => q v H3 (s2.trans s3) r3
  | false =>
    show tb σ H2 Q
    exact h2 rfl H2 (s.trans s2) Q fun v H3 s3 r3 => q v H3 (s2.trans s3) r3
theorem g_call {sp : Sp} {E : XK} {ta : TA} {ds : List PyData} (h : GA X ta σ H ds) (k : ∀ vs H1, Same H H1 → DXs X H1 vs ds → ∀ Q : VK, (∀ v H2, Same H1 H2 → DX X H2 v d → Q v H2) → sp vs H1 Q E) : G X (tCall sp [] E ta) σ H d := fun H1 s Q q =>
  h H1 s _ fun vs H2 s2 rs => by
    rw [List.append_nil]
    exact k vs H2 (s.trans s2) rs Q fun v H3 s3 r3 => q v H3 (s2.trans s3) r3
theorem g_cb {rr : List V → Hp → VK → Prop} {ta : TA} {ds : List PyData} (t : Trk X H) (h : GA X ta σ H ds) (k : RF X rr ds d) : G X (tCB rr ta) σ H d := fun H1 s Q q =>
  h H1 s _ fun vs H2 s2 rs => k H2 vs ((t.mono s).mono s2) rs Q fun w H3 s3 r3 => q w H3 (s2.trans s3) r3
theorem go_none : GO tNoPart σ H none := fun H1 _ Q q => q H1 (Same.refl H1)
theorem go_some {i : Int} (h : G X te σ H (.int i)) : GO (tPart te) σ H (some i) := fun H1 s Q q => h H1 s _ fun v H2 s2 r => ⟨i, r.int_inv, q H2 s2⟩

/-! ### the operations -/
theorem rd_I0 {g : Int → Int → Int} {i j : Int} : RD X (rI0 fun i j => .int (g i j)) (.int i) (.int j) (.int (g i j)) := fun H u v _ ru rv Q q => ⟨i, j, ru.int_inv, rv.int_inv, q _ H (Same.refl H) (.int _)⟩
theorem rd_I {C : Int → Int → Prop} {g : Int → Int → Int} {i j : Int} (c : C i j) : RD X (rI C fun i j => .int (g i j)) (.int i) (.int j) (.int (g i j)) := fun H u v _ ru rv Q q => ⟨i, j, ru.int_inv, rv.int_inv, c, q _ H (Same.refl H) (.int _)⟩
theorem rb_I0 {g : Int → Int → Bool} {i j : Int} : RB X (rI0 fun i j => .bl (g i j)) (.int i) (.int j) (g i j) := fun H u v _ ru rv Q q => ⟨i, j, ru.int_inv, rv.int_inv, q⟩
theorem rd_cat {xs ys : List PyData} (hl : xs.length + ys.length ≤ 1000000) : RD X rCat (.list xs) (.list ys) (.list (xs ++ ys)) := fun H u v t ru rv Q q => by
  obtain ⟨a, us, rfl, _, ha, rs⟩ := ru.lst_inv
  obtain ⟨b, ws, rfl, _, hb, rt⟩ := rv.lst_inv
  exact ⟨a, b, us, ws, rfl, rfl, ha, hb, by rw [rs.length, rt.length, sizeLine_eq]; omega, fun p hp => q _ _ (Same.upd hp) (DX.newL t (rs.append rt) hp)⟩
theorem rd_rep {xs : List PyData} {k : Int} (h1 : -(2 ^ 63) ≤ k) (h2 : k < 2 ^ 63) (hl : xs.length * k.toNat ≤ 1000000) : RD X rRep (.list xs) (.int k) (.list (List.replicate k.toNat xs).flatten) := fun H u v t ru rv Q q => by
  obtain ⟨a, us, rfl, _, ha, rs⟩ := ru.lst_inv
  exact ⟨a, k, us, rfl, rv.int_inv, ha, h1, h2, by rw [rs.length, sizeLine_eq]; omega, fun p hp => q _ _ (Same.upd hp) (DX.newL t (rs.rep k.toNat) hp)⟩
theorem rd_addS {a b : Str} (hl : a.length + b.length ≤ 1000000) : RD X (fun x y H Q => ∃ i j, x = V.str i ∧ y = V.str j ∧ i.length + j.length ≤ sizeLine ∧ Q (V.str (i ++ j)) H) (.str a) (.str b) (.str (a ++ b)) := fun H u v _ ru rv Q q => ⟨a, b, ru.str_inv, rv.str_inv, by rw [sizeLine_eq]; omega, q _ H (Same.refl H) (.str _)⟩
theorem rb_eqD (hd : noDict x = true) (he : noDict y = true) (hs : SeqAt.shaped x = true) (ht : SeqAt.shaped y = true) : RB X (rEqD K) x y (PyData.eqv x y) := fun H u v _ ru rv Q q => ⟨x, y, ru.dp hd, rv.dp he, hs, ht, q⟩
theorem rb_neD (hd : noDict x = true) (he : noDict y = true) (hs : SeqAt.shaped x = true) (ht : SeqAt.shaped y = true) : RB X (rNeD K) x y (!PyData.eqv x y) := fun H u v _ ru rv Q q => ⟨x, y, ru.dp hd, rv.dp he, hs, ht, q⟩
def isNone : PyData → Bool
  | .none => true
  | _ => false
theorem dx_none {v : V} (h : DX X H v d) : decide (v = .non) = isNone d := by cases h <;> simp [isNone]
theorem rb_isN : RB X (fun x y H Q => y = .non ∧ Q (.bl (decide (x = .non))) H) x .none (isNone x) := fun H u v _ ru rv Q q => ⟨rv.non_inv, by rw [dx_none ru]; exact q⟩
theorem rb_notN : RB X (fun x y H Q => y = .non ∧ Q (.bl (!decide (x = .non))) H) x .none (!isNone x) := fun H u v _ ru rv Q q => ⟨rv.non_inv, by rw [dx_none ru]; exact q⟩
theorem rb_isB {a b : Bool} : RB X rIsB (.bool a) (.bool b) (decide (a = b)) := fun H u v _ ru rv Q q => ⟨a, b, ru.bl_inv, rv.bl_inv, q⟩
theorem rb_notB {a b : Bool} : RB X rNotB (.bool a) (.bool b) (!decide (a = b)) := fun H u v _ ru rv Q q => ⟨a, b, ru.bl_inv, rv.bl_inv, q⟩
/-- an item -/
theorem rd_ixL {ds : List PyData} {i : Int} (h : atI ds i = some z) : RD X (rIx K) (.list ds) (.int i) z := fun H u v _ ru rv Q q => by
  obtain ⟨a, us, rfl, _, ha, rs⟩ := ru.lst_inv
  unfold atI at h
  cases hx : ixN ds.length i with
  | none => rw [hx] at h; cases h
  | some j =>
    rw [hx] at h
    obtain ⟨w, hw, rz⟩ := rs.get (i := j) (show ds[j]? = some z from h)
    exact .inl ⟨a, us, i, w, rfl, rv.int_inv, SqL.of ha, by unfold atI; rw [rs.length, hx]; exact hw, q w H (Same.refl H) rz⟩
theorem rd_ixT {ds : List PyData} {i : Int} (h : atI ds i = some z) : RD X (rIx K) (.tuple ds) (.int i) z := fun H u v _ ru rv Q q => by
  obtain ⟨a, us, rfl, _, ha, rs⟩ := ru.tup_inv
  unfold atI at h
  cases hx : ixN ds.length i with
  | none => rw [hx] at h; cases h
  | some j =>
    rw [hx] at h
    obtain ⟨w, hw, rz⟩ := rs.get (i := j) (show ds[j]? = some z from h)
    exact .inr (.inl ⟨a, us, i, w, rfl, rv.int_inv, SqT.of ha, by unfold atI; rw [rs.length, hx]; exact hw, q w H (Same.refl H) rz⟩)
/-- a slice of a list -/
def cutPD (xs : List PyData) (lo hi : Option Int) : List PyData := (xs.drop (HT.sIx xs.length 0 lo)).take (HT.sIx xs.length xs.length hi - HT.sIx xs.length 0 lo)
theorem DXs.cut {vs : List V} {ds : List PyData} (h : DXs X H vs ds) (lo hi : Option Int) : DXs X H (cutV vs lo hi) (cutPD ds lo hi) := by
  unfold cutV cutPD
  rw [h.length]
  exact (h.drop _).take _
theorem g_sl {tl th : TO} {ds : List PyData} {lo hi : Option Int} (t : Trk X H) (h : G X te σ H (.list ds)) (hl : GO tl σ H lo) (hh : GO th σ H hi) : G X (tSl (rSlL K) te tl th) σ H (.list (cutPD ds lo hi)) := fun H1 s Q q =>
  h H1 s _ fun v H2 s2 r2 => hl H2 (s.trans s2) _ fun H3 s3 => hh H3 ((s.trans s2).trans s3) _ fun H4 s4 => by
    obtain ⟨a, us, rfl, _, ha, rs⟩ := (r2.mono (Kp.of (s3.trans s4))).lst_inv
    exact ⟨a, us, rfl, SqL.of ha, fun p hp => q _ _ (((s2.trans s3).trans s4).trans (Same.upd hp)) (DX.newL (((t.mono s).mono s2).mono (s3.trans s4)) (rs.cut lo hi) hp)⟩

/-! ### functions of the language -/
def lenD : PyData → Nat
  | .str s => s.length
  | .list ds => ds.length
  | .tuple ds => ds.length
  | _ => 0
def hasLen : PyData → Bool
  | .str s => decide (s.length ≤ 1000000)
  | .list _ => true
  | .tuple _ => true
  | _ => false
theorem rf_len (h : hasLen d = true) : RF X (fun xs H Q => ∃ x n, xs = [x] ∧ LenV K x H n ∧ Q (.int n) H) [d] (.int (lenD d : Int)) := fun H us _ rs Q q => by
  cases rs with
  | cons r r2 =>
    cases r2
    cases r with
    | str s => exact ⟨_, s.length, rfl, ⟨by have := of_decide_eq_true (show decide (s.length ≤ 1000000) = true from h); rw [sizeLine_eq]; omega, rfl⟩, q _ H (Same.refl H) (.int _)⟩
    | lst n e r => exact ⟨_, _, rfl, .inl ⟨_, SqL.of e, rfl⟩, q _ H (Same.refl H) (by rw [r.length]; exact .int _)⟩
    | tup n e r => exact ⟨_, _, rfl, .inr ⟨_, SqT.of e, rfl⟩, q _ H (Same.refl H) (by rw [r.length]; exact .int _)⟩
    | _ => exact absurd h (by simp [hasLen])
/-- the items of a list or tuple -/
def itemsD : PyData → List PyData
  | .list ds => ds
  | .tuple ds => ds
  | _ => []
def isSeq : PyData → Bool
  | .list _ => true
  | .tuple _ => true
  | _ => false
theorem rf_list (h : isSeq d = true) : RF X (fun xs H Q => ∃ p ys, xs = [V.ref p] ∧ (SqL K H p ys ∨ SqT K H p ys) ∧ ∀ l, H l = none → Q (.ref l) (upd H l (.lst ys))) [d] (.list (itemsD d)) := fun H us t rs Q q => by
  cases rs with
  | cons r r2 =>
    cases r2
    cases r with
    | lst n e r => exact ⟨_, _, rfl, .inl (SqL.of e), fun l hl => q _ _ (Same.upd hl) (DX.newL t r hl)⟩
    | tup n e r => exact ⟨_, _, rfl, .inr (SqT.of e), fun l hl => q _ _ (Same.upd hl) (DX.newL t r hl)⟩
    | _ => exact absurd h (by simp [isSeq])
theorem rf_tuple (h : isSeq d = true) : RF X (fun xs H Q => ∃ p ys, xs = [V.ref p] ∧ ((SqL K H p ys ∧ ∀ l, H l = none → Q (.ref l) (upd H l (.tup ys))) ∨ (SqT K H p ys ∧ Q (.ref p) H))) [d] (.tuple (itemsD d)) := fun H us t rs Q q => by
  cases rs with
  | cons r r2 =>
    cases r2
    cases r with
    | lst n e r => exact ⟨_, _, rfl, .inl ⟨SqL.of e, fun l hl => q _ _ (Same.upd hl) (DX.newT t r hl)⟩⟩
    | tup n e r => exact ⟨_, _, rfl, .inr ⟨SqT.of e, q _ H (Same.refl H) (.tup n e r)⟩⟩
    | _ => exact absurd h (by simp [isSeq])
theorem DXs.ints : ∀ {vs : List V} {ns : List Int}, DXs X H vs (ns.map PyData.int) → vs = ns.map V.int
  | _, [], .nil => rfl
  | _, n :: ns, .cons h r => by rw [h.int_inv, DXs.ints r]; rfl
theorem DXs.bls : ∀ {vs : List V} {ns : List Bool}, DXs X H vs (ns.map PyData.bool) → vs = ns.map V.bl
  | _, [], .nil => rfl
  | _, n :: ns, .cons h r => by rw [h.bl_inv, DXs.bls r]; rfl
theorem DXs.strs : ∀ {vs : List V} {ns : List Str}, DXs X H vs (ns.map PyData.str) → vs = ns.map V.str
  | _, [], .nil => rfl
  | _, n :: ns, .cons h r => by rw [h.str_inv, DXs.strs r]; rfl
theorem DX.ofInts {p : Addr} {ns : List Int} (n : ¬ X p) (h : H p = some (.lst (ns.map V.int))) : DX X H (.ref p) (.list (ns.map PyData.int)) := by
  refine .lst n h ?_
  clear h
  induction ns with
  | nil => exact .nil
  | cons a r ih => exact .cons (.int a) ih
theorem rf_min {ns : List Int} {m : Int} (h0 : 0 < ns.length) (hm : m ∈ ns) (hl : ∀ y ∈ ns, m ≤ y) : RF X (rMin K) [.list (ns.map PyData.int)] (.int m) := fun H us _ rs Q q => by
  cases rs with
  | cons r r2 =>
    cases r2
    obtain ⟨a, vs, rfl, _, ha, rv⟩ := r.lst_inv
    refine ⟨a, ns, rfl, SqL.of (by rw [← rv.ints]; exact ha), h0, fun m' h1 h2 => ?_⟩
    have e : m' = m := Int.le_antisymm (h2 m hm) (hl m' h1)
    subst e
    exact q _ H (Same.refl H) (.int _)
theorem rf_all {bs : List Bool} : RF X (rAll K) [.list (bs.map PyData.bool)] (.bool (bs.all id)) := fun H us _ rs Q q => by
  cases rs with
  | cons r r2 =>
    cases r2
    obtain ⟨a, vs, rfl, _, ha, rv⟩ := r.lst_inv
    exact ⟨a, bs, rfl, SqL.of (by rw [← rv.bls]; exact ha), q _ H (Same.refl H) (.bl _)⟩
theorem rf_any {bs : List Bool} : RF X (rAny K) [.list (bs.map PyData.bool)] (.bool (bs.any id)) := fun H us _ rs Q q => by
  cases rs with
  | cons r r2 =>
    cases r2
    obtain ⟨a, vs, rfl, _, ha, rv⟩ := r.lst_inv
    exact ⟨a, bs, rfl, SqL.of (by rw [← rv.bls]; exact ha), q _ H (Same.refl H) (.bl _)⟩
theorem rf_int {i : Int} : RF X (fun xs H Q => (∃ i, xs = [V.int i] ∧ Q (.int i) H) ∨ ∃ k, xs = [V.bl k] ∧ Q (.int (if k = true then 1 else 0)) H) [.int i] (.int i) := fun H us _ rs Q q => by
  cases rs with
  | cons r r2 =>
    cases r2
    rw [r.int_inv]
    exact .inl ⟨i, rfl, q _ H (Same.refl H) (.int _)⟩
/-- isinstance -/
def tyD : PyData → String
  | .none => "NoneType"
  | .bool _ => "bool"
  | .int _ => "int"
  | .str _ => "str"
  | .list _ => "list"
  | .tuple _ => "tuple"
  | .dict _ => "dict"
theorem DX.ty {v : V} (h : DX X H v d) : TyX K H v (.type (tyD d)) := by
  cases h with
  | non => exact .base .non
  | bl b => exact .base (.bl b)
  | int i => exact .base (.int i)
  | str s => exact .base (.str s)
  | lst n e r => exact .base (.lst e)
  | tup n e r => exact .base (.tup e)
  | dic n e r => exact .base (.dK e)
def isD (n : String) (d : PyData) : Bool := (kitB (tyD d) n).getD false
theorem kit_d {n : String} (h : (kitB (tyD d) n).isSome = true) : PySem.W.kitOne K (.type (tyD d)) (.type n) = some (isD n d) := by
  unfold isD
  cases e : kitB (tyD d) n with
  | none => rw [e] at h; cases h
  | some b => exact kit_ty e
theorem g_isi {n : String} (h : G X te σ H d) (hk : (kitB (tyD d) n).isSome = true) : G X (tCB (rIsi K) (tCons te (tCons (tC (.ty n)) tNil))) σ H (.bool (isD n d)) := fun H1 s Q q =>
  h H1 s _ fun v H2 s2 r => ⟨v, .ty n, _, _, _, rfl, .ty n, r.ty, kit_d hk, q _ H2 s2 (.bl _)⟩
def isDs (ns : List String) (d : PyData) : Bool := ns.any fun n => isD n d
theorem kit_ds : ∀ {ns : List String}, (∀ n ∈ ns, (kitB (tyD d) n).isSome = true) → PySem.W.kitAny K (.type (tyD d)) (ns.map Value.type) = some (isDs ns d)
  | [], _ => by unfold PySem.W.kitAny; rfl
  | n :: ns, h => by
    have h1 := kit_d (K := K) (h n List.mem_cons_self)
    have h2 := kit_ds (ns := ns) fun m hm => h m (List.mem_cons_of_mem _ hm)
    refine kitAny_cons h1 (fun e => ?_) (fun e => ?_)
    · rw [h2]
      unfold isDs
      rw [List.any_cons, e, Bool.false_or]
    · unfold isDs
      rw [List.any_cons, e, Bool.true_or]
def tyArgs : List String → TA
  | [] => tNil
  | n :: ns => tCons (tC (.ty n)) (tyArgs ns)
theorem tyArgs_run : ∀ (ns : List String) (σ : St) (H : Hp) (Q : List V → Hp → Prop), Q (ns.map V.ty) H → tyArgs ns σ H Q
  | [], _, _, _, q => q
  | n :: ns, σ, H, Q, q => tyArgs_run ns σ H _ q
theorem clsV_all : ∀ ns : List String, Paired ClsV (ns.map V.ty) (ns.map Value.type)
  | [] => .nil
  | n :: ns => .cons (.ty n) (clsV_all ns)
theorem g_isiT {ns : List String} {t2 : TA} (h : G X te σ H d) (e2 : t2 = tyArgs ns) (hl : ns.length ≤ 1000) (hk : ∀ n ∈ ns, (kitB (tyD d) n).isSome = true) : G X (tCB (rIsiT K) (tCons te (tCons (tTup t2) tNil))) σ H (.bool (isDs ns d)) := fun H1 s Q q =>
  h H1 s _ fun v H2 s2 r => by
    subst e2
    refine tyArgs_run ns σ H2 _ ⟨by rw [List.length_map, sizeLine_eq]; omega, fun p hp => ?_⟩
    exact ⟨v, p, ns.map V.ty, _, ns.map Value.type, _, rfl, upd_same, clsV_all ns, (r.mono (Kp.of (Same.upd hp))).ty, kit_ds hk, q _ _ (s2.trans (Same.upd hp)) (.bl _)⟩
end
theorem kb_NoneType_int : kitB "NoneType" "int" = some false := by decide +kernel
theorem kb_bool_int : kitB "bool" "int" = some true := by decide +kernel
theorem kb_int_int : kitB "int" "int" = some true := by decide +kernel
theorem kb_str_int : kitB "str" "int" = some false := by decide +kernel
theorem kb_list_int : kitB "list" "int" = some false := by decide +kernel
theorem kb_tuple_int : kitB "tuple" "int" = some false := by decide +kernel
theorem kb_dict_int : kitB "dict" "int" = some false := by decide +kernel
theorem kb_NoneType_bool : kitB "NoneType" "bool" = some false := by decide +kernel
theorem kb_bool_bool : kitB "bool" "bool" = some true := by decide +kernel
theorem kb_int_bool : kitB "int" "bool" = some false := by decide +kernel
theorem kb_str_bool : kitB "str" "bool" = some false := by decide +kernel
theorem kb_list_bool : kitB "list" "bool" = some false := by decide +kernel
theorem kb_tuple_bool : kitB "tuple" "bool" = some false := by decide +kernel
theorem kb_dict_bool : kitB "dict" "bool" = some false := by decide +kernel
theorem kb_NoneType_str : kitB "NoneType" "str" = some false := by decide +kernel
theorem kb_bool_str : kitB "bool" "str" = some false := by decide +kernel
theorem kb_int_str : kitB "int" "str" = some false := by decide +kernel
theorem kb_str_str : kitB "str" "str" = some true := by decide +kernel
theorem kb_list_str : kitB "list" "str" = some false := by decide +kernel
theorem kb_tuple_str : kitB "tuple" "str" = some false := by decide +kernel
theorem kb_dict_str : kitB "dict" "str" = some false := by decide +kernel
theorem kb_NoneType_list : kitB "NoneType" "list" = some false := by decide +kernel
theorem kb_bool_list : kitB "bool" "list" = some false := by decide +kernel
theorem kb_int_list : kitB "int" "list" = some false := by decide +kernel
theorem kb_str_list : kitB "str" "list" = some false := by decide +kernel
theorem kb_list_list : kitB "list" "list" = some true := by decide +kernel
theorem kb_tuple_list : kitB "tuple" "list" = some false := by decide +kernel
theorem kb_dict_list : kitB "dict" "list" = some false := by decide +kernel
theorem kb_NoneType_tuple : kitB "NoneType" "tuple" = some false := by decide +kernel
theorem kb_bool_tuple : kitB "bool" "tuple" = some false := by decide +kernel
theorem kb_int_tuple : kitB "int" "tuple" = some false := by decide +kernel
theorem kb_str_tuple : kitB "str" "tuple" = some false := by decide +kernel
theorem kb_list_tuple : kitB "list" "tuple" = some false := by decide +kernel
theorem kb_tuple_tuple : kitB "tuple" "tuple" = some true := by decide +kernel
theorem kb_dict_tuple : kitB "dict" "tuple" = some false := by decide +kernel
theorem kb_NoneType_dict : kitB "NoneType" "dict" = some false := by decide +kernel
theorem kb_bool_dict : kitB "bool" "dict" = some false := by decide +kernel
theorem kb_int_dict : kitB "int" "dict" = some false := by decide +kernel
theorem kb_str_dict : kitB "str" "dict" = some false := by decide +kernel
theorem kb_list_dict : kitB "list" "dict" = some false := by decide +kernel
theorem kb_tuple_dict : kitB "tuple" "dict" = some false := by decide +kernel
theorem kb_dict_dict : kitB "dict" "dict" = some true := by decide +kernel
def isa_int : PyData → Bool
  | .bool _ => true
  | .int _ => true
  | _ => false
theorem kis_int (d : PyData) : kitB (tyD d) "int" = some (isa_int d) := by
  cases d
  · exact kb_NoneType_int
  · exact kb_bool_int
  · exact kb_int_int
  · exact kb_str_int
  · exact kb_list_int
  · exact kb_tuple_int
  · exact kb_dict_int
theorem isD_int (d : PyData) : isD "int" d = isa_int d := by unfold isD; rw [kis_int]; rfl
theorem ksm_int (d : PyData) : (kitB (tyD d) "int").isSome = true := by rw [kis_int]; rfl
def isa_bool : PyData → Bool
  | .bool _ => true
  | _ => false
theorem kis_bool (d : PyData) : kitB (tyD d) "bool" = some (isa_bool d) := by
  cases d
  · exact kb_NoneType_bool
  · exact kb_bool_bool
  · exact kb_int_bool
  · exact kb_str_bool
  · exact kb_list_bool
  · exact kb_tuple_bool
  · exact kb_dict_bool
theorem isD_bool (d : PyData) : isD "bool" d = isa_bool d := by unfold isD; rw [kis_bool]; rfl
theorem ksm_bool (d : PyData) : (kitB (tyD d) "bool").isSome = true := by rw [kis_bool]; rfl
def isa_str : PyData → Bool
  | .str _ => true
  | _ => false
theorem kis_str (d : PyData) : kitB (tyD d) "str" = some (isa_str d) := by
  cases d
  · exact kb_NoneType_str
  · exact kb_bool_str
  · exact kb_int_str
  · exact kb_str_str
  · exact kb_list_str
  · exact kb_tuple_str
  · exact kb_dict_str
theorem isD_str (d : PyData) : isD "str" d = isa_str d := by unfold isD; rw [kis_str]; rfl
theorem ksm_str (d : PyData) : (kitB (tyD d) "str").isSome = true := by rw [kis_str]; rfl
def isa_list : PyData → Bool
  | .list _ => true
  | _ => false
theorem kis_list (d : PyData) : kitB (tyD d) "list" = some (isa_list d) := by
  cases d
  · exact kb_NoneType_list
  · exact kb_bool_list
  · exact kb_int_list
  · exact kb_str_list
  · exact kb_list_list
  · exact kb_tuple_list
  · exact kb_dict_list
theorem isD_list (d : PyData) : isD "list" d = isa_list d := by unfold isD; rw [kis_list]; rfl
theorem ksm_list (d : PyData) : (kitB (tyD d) "list").isSome = true := by rw [kis_list]; rfl
def isa_tuple : PyData → Bool
  | .tuple _ => true
  | _ => false
theorem kis_tuple (d : PyData) : kitB (tyD d) "tuple" = some (isa_tuple d) := by
  cases d
  · exact kb_NoneType_tuple
  · exact kb_bool_tuple
  · exact kb_int_tuple
  · exact kb_str_tuple
  · exact kb_list_tuple
  · exact kb_tuple_tuple
  · exact kb_dict_tuple
theorem isD_tuple (d : PyData) : isD "tuple" d = isa_tuple d := by unfold isD; rw [kis_tuple]; rfl
theorem ksm_tuple (d : PyData) : (kitB (tyD d) "tuple").isSome = true := by rw [kis_tuple]; rfl
def isa_dict : PyData → Bool
  | .dict _ => true
  | _ => false
theorem kis_dict (d : PyData) : kitB (tyD d) "dict" = some (isa_dict d) := by
  cases d
  · exact kb_NoneType_dict
  · exact kb_bool_dict
  · exact kb_int_dict
  · exact kb_str_dict
  · exact kb_list_dict
  · exact kb_tuple_dict
  · exact kb_dict_dict
theorem isD_dict (d : PyData) : isD "dict" d = isa_dict d := by unfold isD; rw [kis_dict]; rfl
theorem ksm_dict (d : PyData) : (kitB (tyD d) "dict").isSome = true := by rw [kis_dict]; rfl
end KD

namespace KD
open PySem L2
/-! ### more addresses that stand apart -/
def More (X X' : Addr → Prop) (H : Hp) : Prop := (∀ a, X a → X' a) ∧ ∀ a, X' a → X a ∨ H a = none
section
variable {X X' : Addr → Prop} {H H' : Hp} {σ : St} {Γ : List Sv}
theorem More.refl : More X X H := ⟨fun _ h => h, fun _ h => .inl h⟩
theorem More.one {p : Addr} (h : H p = none) : More X (fun a => X a ∨ a = p) H := ⟨fun _ h => .inl h, fun a k => k.elim .inl fun e => .inr (by rw [e]; exact h)⟩
theorem More.back (s : Same H H') (m : More X X' H') : More X X' H := ⟨m.1, fun a h => (m.2 a h).elim .inl fun e => .inr (s.free e)⟩
mutual
theorem DX.more (m : More X X' H) : ∀ {v : V} {d : PyData}, DX X H v d → DX X' H v d
  | _, _, .non => .non
  | _, _, .bl b => .bl b
  | _, _, .int i => .int i
  | _, _, .str x => .str x
  | _, _, .lst n h r => .lst (fun k => (m.2 _ k).elim n fun e => by rw [h] at e; cases e) h (DXs.more m r)
  | _, _, .tup n h r => .tup (fun k => (m.2 _ k).elim n fun e => by rw [h] at e; cases e) h (DXs.more m r)
  | _, _, .dic n h r => .dic (fun k => (m.2 _ k).elim n fun e => by rw [h] at e; cases e) h (DXk.more m r)
theorem DXs.more (m : More X X' H) : ∀ {vs : List V} {ds : List PyData}, DXs X H vs ds → DXs X' H vs ds
  | _, _, .nil => .nil
  | _, _, .cons h r => .cons (DX.more m h) (DXs.more m r)
theorem DXk.more (m : More X X' H) : ∀ {vs : List (Key × V)} {ds : List (PyData × PyData)}, DXk X H vs ds → DXk X' H vs ds
  | _, _, .nil => .nil
  | _, _, .cons h r => .cons (DX.more m h) (DXk.more m r)
end
mutual
theorem DX.less (m : ∀ a, X a → X' a) : ∀ {v : V} {d : PyData}, DX X' H v d → DX X H v d
  | _, _, .non => .non
  | _, _, .bl b => .bl b
  | _, _, .int i => .int i
  | _, _, .str x => .str x
  | _, _, .lst n h r => .lst (fun k => n (m _ k)) h (DXs.less m r)
  | _, _, .tup n h r => .tup (fun k => n (m _ k)) h (DXs.less m r)
  | _, _, .dic n h r => .dic (fun k => n (m _ k)) h (DXk.less m r)
theorem DXs.less (m : ∀ a, X a → X' a) : ∀ {vs : List V} {ds : List PyData}, DXs X' H vs ds → DXs X H vs ds
  | _, _, .nil => .nil
  | _, _, .cons h r => .cons (DX.less m h) (DXs.less m r)
theorem DXk.less (m : ∀ a, X a → X' a) : ∀ {vs : List (Key × V)} {ds : List (PyData × PyData)}, DXk X' H vs ds → DXk X H vs ds
  | _, _, .nil => .nil
  | _, _, .cons h r => .cons (DX.less m h) (DXk.less m r)
end
theorem EnvOk.more (m : More X X' H) (E : EnvOk X H σ Γ) : EnvOk X' H σ Γ := ⟨E.len, fun i s e => by
  have h := E.get i s e
  cases s with
  | dat d =>
    obtain ⟨v, e1, r⟩ := h
    exact ⟨v, e1, r.more m⟩
  | val v => exact h
  | un => trivial⟩
theorem Trk.one {p : Addr} {o : HO} (t : Trk X H) (h : H p = none) : Trk (fun a => X a ∨ a = p) (upd H p o) := fun a k => k.elim (fun x => (t.mono (Same.upd h)) a x) fun e => by
  subst e
  exact ⟨o, upd_same⟩
theorem Trk.put {p : Addr} {o : HO} (t : Trk X H) : Trk X (upd H p o) := fun a x => by
  by_cases e : a = p
  · subst e
    exact ⟨o, upd_same⟩
  · obtain ⟨u, k⟩ := t a x
    exact ⟨u, by rw [upd_ne e]; exact k⟩
theorem Kp.put {p : Addr} {o : HO} (h : X p) : Kp X H (upd H p o) := fun a u n e => by
  rw [upd_ne (fun z => n (by rw [z]; exact h))]
  exact e
/-- a new object that was changed behind -/
theorem Same.mut {p : Addr} {o : HO} (s : Same H H') (h : H p = none) : Same H (L2.upd H' p o) := fun a u e => by
  rw [upd_ne (ne_of_none e h)]
  exact s a u e
end

/-! ### what is walked, as data -/
def WalkD (X : Addr → Prop) (J : It) (H : Hp) (ds : List PyData) : Prop := ∃ (Gd : Hp → Prop) (Y : Nat → Hp → V → Hp → Prop), Walk J ds.length Gd Y ∧
  ∀ X', (∀ a, X' a → X a ∨ H a = none) → ∀ H3, Kp X' H H3 → Trk X' H3 → Gd H3 ∧ ∀ i x H4, Y i H3 x H4 → Same H3 H4 ∧ ∃ d, ds[i]? = some d ∧ DX X' H4 x d
def GI (X : Addr → Prop) (wi : TI) (σ : St) (H : Hp) (ds : List PyData) : Prop := ∀ H1, Same H H1 → ∀ R : It → Hp → Prop, (∀ J H2, Same H1 H2 → WalkD X J H2 ds → R J H2) → wi σ H1 R
section
variable {X : Addr → Prop} {H H' : Hp} {σ : St} {Γ : List Sv} {te : TE} {K : PySem.W.Frag} {ds es : List PyData}
theorem DX.grow {X' : Addr → Prop} (m : ∀ a, X' a → X a ∨ H a = none) {v : V} {d : PyData} (h : DX X H v d) : DX X' H v d :=
  (h.more (X' := fun a => X a ∨ X' a) ⟨fun _ => .inl, fun a k => k.elim .inl (m a)⟩).less fun _ => .inr
theorem DXs.grow {X' : Addr → Prop} (m : ∀ a, X' a → X a ∨ H a = none) {vs : List V} {ds : List PyData} (h : DXs X H vs ds) : DXs X' H vs ds :=
  (h.more (X' := fun a => X a ∨ X' a) ⟨fun _ => .inl, fun a k => k.elim .inl (m a)⟩).less fun _ => .inr
theorem gi_list (h : G X te σ H (.list ds)) : GI X (iList K te) σ H ds := fun H1 s R r => h H1 s _ fun v H2 s2 rv => by
  obtain ⟨a, xs, rfl, n, e, rx⟩ := rv.lst_inv
  refine ⟨a, rfl, ⟨xs, SqL.of e⟩, r _ H2 s2 ⟨_, _, by rw [← rx.length]; exact walk_list, fun X' m H3 k t => ?_⟩⟩
  have n' : ¬ X' a := fun z => (m a z).elim n fun q => by rw [e] at q; cases q
  refine ⟨SqL.of (k a _ n' e), fun i x H4 y => ?_⟩
  obtain ⟨rfl, hx⟩ := y
  obtain ⟨d, h1, h2⟩ := rx.getV hx
  exact ⟨Same.refl _, d, h1, (h2.grow m).mono k⟩
theorem gi_tup (h : G X te σ H (.tuple ds)) : GI X (iTup K te) σ H ds := fun H1 s R r => h H1 s _ fun v H2 s2 rv => by
  obtain ⟨a, xs, rfl, n, e, rx⟩ := rv.tup_inv
  refine ⟨a, rfl, ⟨xs, SqT.of e⟩, r _ H2 s2 ⟨_, _, by rw [← rx.length]; exact walk_tup, fun X' m H3 k t => ?_⟩⟩
  have n' : ¬ X' a := fun z => (m a z).elim n fun q => by rw [e] at q; cases q
  refine ⟨SqT.of (k a _ n' e), fun i x H4 y => ?_⟩
  obtain ⟨rfl, hx⟩ := y
  obtain ⟨d, h1, h2⟩ := rx.getV hx
  exact ⟨Same.refl _, d, h1, (h2.grow m).mono k⟩
def rangeD (lo : Int) (n : Nat) : List PyData := (List.range n).map fun (i : Nat) => PyData.int (lo + (i : Int))
theorem rangeD_len {lo : Int} {n : Nat} : (rangeD lo n).length = n := by simp [rangeD]
theorem rangeD_get {lo : Int} {n i : Nat} (h : i < n) : (rangeD lo n)[i]? = some (.int (lo + (i : Int))) := by
  unfold rangeD
  rw [List.getElem?_map, List.getElem?_range h]
  rfl
theorem walkD_range {lo : Int} {n : Nat} : WalkD X (Itr lo n) H (rangeD lo n) := by
  refine ⟨fun _ => True, fun i H x H' => (YFn fun i => V.int (lo + i)) i H x H' ∧ i < n, ?_, fun X' m H3 k t => ⟨trivial, fun i x H4 y => ?_⟩⟩
  · rw [rangeD_len]
    exact ⟨fun _ _ hi _ => hi, fun _ _ => Nat.le_refl _, fun _ _ _ _ hi _ y => ⟨y, hi⟩⟩
  · obtain ⟨⟨rfl, rfl⟩, hi⟩ := y
    exact ⟨Same.refl _, _, rangeD_get hi, .int _⟩
theorem gi_range1 {n : Int} (h : G X te σ H (.int n)) (hn : n ≤ 1000000) (hm : -1000000 ≤ n) : GI X (iRng1 (tCons te tNil)) σ H (rangeD 0 n.toNat) := fun H1 s R r => h H1 s _ fun v H2 s2 rv =>
  ⟨n, by rw [rv.int_inv], by omega, by omega, r _ H2 s2 walkD_range⟩
theorem gi_range2 {tb : TE} {a n : Int} (ha : G X te σ H (.int a)) (h : G X tb σ H (.int n)) (hb : -1000000 ≤ a ∧ a ≤ 1000000 ∧ -1000000 ≤ n ∧ n ≤ 1000000) : GI X (iRng2 (tCons te (tCons tb tNil))) σ H (rangeD a (n - a).toNat) := fun H1 s R r =>
  ha H1 s _ fun v H2 s2 rv => h H2 (s.trans s2) _ fun w H3 s3 rw_ => ⟨a, n, by rw [rv.int_inv, rw_.int_inv], by omega, r _ H3 (s2.trans s3) walkD_range⟩
def enumD (ds : List PyData) : List PyData := ds.zipIdx.map fun p => .tuple [.int (p.2 : Nat), p.1]
theorem enumD_len : (enumD ds).length = ds.length := by simp [enumD]
theorem enumD_get {i : Nat} {d : PyData} (h : ds[i]? = some d) : (enumD ds)[i]? = some (.tuple [.int (i : Nat), d]) := by
  unfold enumD
  rw [List.getElem?_map, List.getElem?_zipIdx, h]
  simp
theorem gi_enum (h : G X te σ H (.list ds)) : GI X (iEnum K (tCons te tNil)) σ H (enumD ds) := fun H1 s R r => h H1 s _ fun v H2 s2 rv => by
  obtain ⟨a, xs, rfl, n, e, rx⟩ := rv.lst_inv
  refine ⟨a, xs, rfl, SqL.of e, r _ H2 s2 ⟨_, _, by rw [enumD_len, ← rx.length]; exact walk_enum, fun X' m H3 k t => ?_⟩⟩
  have n' : ¬ X' a := fun z => (m a z).elim n fun q => by rw [e] at q; cases q
  refine ⟨SqL.of (k a _ n' e), fun i x H4 y => ?_⟩
  obtain ⟨T, u, w, rfl, hT, rfl, hu, hw⟩ := y
  cases hu
  obtain ⟨d, h1, h2⟩ := rx.getV hw
  exact ⟨Same.upd hT, _, enumD_get h1, DX.newT t (.cons (.int _) (.cons ((h2.grow m).mono k) .nil)) hT⟩
def zipD (ds es : List PyData) : List PyData := List.zipWith (fun d e => .tuple [d, e]) ds es
theorem gi_zip {tb : TE} (h : G X te σ H (.list ds)) (h' : G X tb σ H (.list es)) : GI X (iZip K (tCons te (tCons tb tNil))) σ H (zipD ds es) := fun H1 s R r => h H1 s _ fun v H2 s2 rv => h' H2 (s.trans s2) _ fun w H3 s3 rw_ => by
  obtain ⟨a, xs, rfl, n, e, rx⟩ := (rv.mono (Kp.of s3)).lst_inv
  obtain ⟨b, ys, rfl, n2, e2, ry⟩ := rw_.lst_inv
  refine ⟨a, b, xs, ys, rfl, SqL.of e, SqL.of e2, r _ H3 (s2.trans s3) ⟨_, _, walk_zip (xs := xs) (ys := ys) (by simp [zipD, rx.length, ry.length]), fun X' m H4 k t => ?_⟩⟩
  have n' : ¬ X' a := fun z => (m a z).elim n fun q => by rw [e] at q; cases q
  have n2' : ¬ X' b := fun z => (m b z).elim n2 fun q => by rw [e2] at q; cases q
  refine ⟨⟨SqL.of (k a _ n' e), SqL.of (k b _ n2' e2)⟩, fun i x H5 y => ?_⟩
  obtain ⟨T, u, w, rfl, hT, rfl, hu, hw⟩ := y
  obtain ⟨d, h1, h2⟩ := rx.getV hu
  obtain ⟨d', h3, h4⟩ := ry.getV hw
  refine ⟨Same.upd hT, .tuple [d, d'], ?_, DX.newT t (.cons ((h2.grow m).mono k) (.cons ((h4.grow m).mono k) .nil)) hT⟩
  unfold zipD
  rw [List.getElem?_zipWith, h1, h3]

/-! ### comprehensions -/
/-- a target takes a datum: what the frame knows behind it -/
def Tgt (X : Addr → Prop) (g : TG) (σ : St) (Γ2 : List Sv) (vs : List Nat) (d : PyData) (H : Hp) : Prop :=
  ∀ X' H3, More X X' H → Kp X' H H3 → Trk X' H3 → ∀ v, DX X' H3 v d → ∀ Ψ : St → Hp → Prop, (∀ σ2, EnvOk X' H3 σ2 Γ2 → wipe σ2 vs = wipe σ vs → Ψ σ2 H3) → g v (wipe σ vs) H3 Ψ
theorem wipe_one {i : Nat} {x : Option V} : wipe ((wipe σ [i]).set i x) [i] = wipe σ [i] := by
  show ((σ.set i none).set i x).set i none = σ.set i none
  rw [List.set_set, List.set_set]
theorem tgt_name {i : Nat} {d : PyData} (E : EnvOk X H σ Γ) : Tgt X (gName i) σ ((Γ.set i .un).set i (.dat d)) [i] d H := fun X' H3 m k t v hd Ψ q =>
  q _ (((E.more m).mono k).wipe [i] |>.set hd) wipe_one
theorem wipe_two {i j : Nat} {x y : Option V} (h : i ≠ j) : wipe (((wipe σ [i, j]).set i x).set j y) [i, j] = wipe σ [i, j] := by
  show ((((((σ.set j none).set i none).set i x).set j y).set j none).set i none) = (σ.set j none).set i none
  apply List.ext_getElem?
  intro n
  simp only [List.getElem?_set, List.length_set]
  split <;> split <;> simp_all
theorem g_pair {i j : Nat} {K : PySem.W.Frag} {v : V} {d e : PyData} (hd : DX X H v (.tuple [d, e])) {Ψ : St → Hp → Prop} (q : ∀ u w, DX X H u d → DX X H w e → Ψ ((σ.set i (some u)).set j (some w)) H) : gTup K 2 (gCons (gName i) (gCons (gName j) gNil)) v σ H Ψ := by
  obtain ⟨a, xs, rfl, n, ea, rx⟩ := hd.tup_inv
  cases rx with
  | cons h1 r1 =>
    cases r1 with
    | cons h2 r2 =>
      cases r2
      exact ⟨a, _, rfl, SqT.of ea, rfl, _, _, rfl, _, _, rfl, rfl, q _ _ h1 h2⟩
theorem g_triple {i j l : Nat} {K : PySem.W.Frag} {v : V} {d e f : PyData} (hd : DX X H v (.tuple [d, e, f])) {Ψ : St → Hp → Prop} (q : ∀ u w z, DX X H u d → DX X H w e → DX X H z f → Ψ (((σ.set i (some u)).set j (some w)).set l (some z)) H) :
    gTup K 3 (gCons (gName i) (gCons (gName j) (gCons (gName l) gNil))) v σ H Ψ := by
  obtain ⟨a, xs, rfl, n, ea, rx⟩ := hd.tup_inv
  cases rx with
  | cons h1 r1 =>
    cases r1 with
    | cons h2 r2 =>
      cases r2 with
      | cons h3 r3 =>
        cases r3
        exact ⟨a, _, rfl, SqT.of ea, rfl, _, _, rfl, _, _, rfl, _, _, rfl, rfl, q _ _ _ h1 h2 h3⟩
theorem tgt_pair {i j : Nat} {d e : PyData} (E : EnvOk X H σ Γ) (hij : i ≠ j) : Tgt X (gTup K 2 (gCons (gName i) (gCons (gName j) gNil))) σ ((((Γ.set j .un).set i .un).set i (.dat d)).set j (.dat e)) [i, j] (.tuple [d, e]) H := fun X' H3 m k t v hd Ψ q =>
  g_pair hd fun u w h1 h2 => q _ ((((E.more m).mono k).wipe [i, j] |>.set h1).set h2) (wipe_two hij)
theorem g_lc {wi : TI} {g : TG} {tt : TT} {te : TE} {vs : List Nat} {Γ2 : PyData → List Sv} (f : PyData → Bool) (h : PyData → PyData) (t : Trk X H) (hi : GI X wi σ H ds) (hl : ds.length ≤ 1000000)
    (hg : ∀ H1, Same H H1 → ∀ d ∈ ds, Tgt X g σ (Γ2 d) vs d H1)
    (ht : ∀ X' H1 σ2 d, d ∈ ds → Trk X' H1 → EnvOk X' H1 σ2 (Γ2 d) → GT tt σ2 H1 (f d))
    (he : ∀ X' H1 σ2 d, d ∈ ds → f d = true → Trk X' H1 → EnvOk X' H1 σ2 (Γ2 d) → G X' te σ2 H1 (h d)) : G X (tLc wi g tt te vs) σ H (.list ((ds.filter f).map h)) := fun H1 s Q q =>
  hi H1 s _ fun J H2 s2 w => by
    intro D hD
    obtain ⟨Gd, Y, w1, w2⟩ := w
    have s02 : Same H H2 := s.trans s2
    have t2 : Trk X H2 := t.mono s02
    let X' : Addr → Prop := fun a => X a ∨ a = D
    have m2 : More X X' H2 := More.one hD
    have key : ∀ H3, Same H2 H3 ∧ Trk X' H3 → Gd H3 := fun H3 p => (w2 X' m2.2 H3 (Kp.of p.1) p.2).1
    refine lc_it w1 (fun i H3 => Same H2 H3 ∧ Trk X' H3 ∧ ∃ acc, H3 D = some (.lst acc) ∧ DXs X' H3 acc (((ds.take i).filter f).map h)) ?_ ?_ ?_ ?_
    · exact ⟨Same.upd hD, t2.one hD, [], upd_same, .nil⟩
    · rintro i H3 _ ⟨p1, p2, _⟩
      exact key H3 ⟨p1, p2⟩
    · rintro i x H3 H4 hi' ⟨p1, p2, acc, p3, p4⟩ y
      obtain ⟨s4, d, hd, dx⟩ := (w2 X' m2.2 H3 (Kp.of p1) p2).2 i x H4 y
      have hmem : d ∈ ds := List.mem_of_getElem? hd
      have k4 : Kp X' H2 H4 := Kp.of (p1.trans s4)
      have t4 : Trk X' H4 := p2.mono s4
      refine hg H2 s02 d hmem X' H4 m2 k4 t4 x dx _ fun σ2 E2 hw => ⟨hw, ?_⟩
      have etake : ds.take (i + 1) = ds.take i ++ [d] := by rw [List.take_succ, hd]; rfl
      refine ht X' H4 σ2 d hmem t4 E2 H4 (Same.refl _) _ fun H5 s5 => ?_
      have lacc : acc.length ≤ 1000000 := by
        rw [p4.length, List.length_map]
        exact Nat.le_trans (List.length_filter_le _ _) (Nat.le_trans (List.length_take_le _ _) (by omega))
      cases hf : f d with
      | true =>
        refine iteT ?_
        refine he X' H4 σ2 d hmem hf t4 E2 H5 s5 _ fun y H6 s6 ry => ?_
        have s36 : Same H3 H6 := (s4.trans s5).trans s6
        refine ⟨acc, s36 D _ p3, by rw [sizeLine_eq]; omega, ?_, ?_, acc ++ [y], upd_same, ?_⟩
        · exact Same.mut (p1.trans s36) hD
        · exact (p2.mono s36).put
        · rw [etake, List.filter_append, List.map_append]
          have ef : List.filter f [d] = [d] := by simp [hf]
          rw [ef]
          exact ((p4.mono (Kp.of s36)).snoc ry).mono (Kp.put (.inr rfl))
      | false =>
        refine iteF ?_
        have s35 : Same H3 H5 := s4.trans s5
        refine ⟨p1.trans s35, p2.mono s35, acc, s35 D _ p3, ?_⟩
        rw [etake, List.filter_append, List.map_append]
        have ef : List.filter f [d] = [] := by simp [hf]
        rw [ef, List.map_nil, List.append_nil]
        exact p4.mono (Kp.of s35)
    · rintro H3 ⟨p1, p2, acc, p3, p4⟩
      rw [List.take_length] at p4
      have nXD : ¬ X D := t2.new hD
      -- D itself is a datum again
      exact q (.ref D) H3 (s2.trans p1) (.lst nXD p3 (p4.less fun a => .inl))
/-- without a test -/
theorem g_lc1 {wi : TI} {g : TG} {te : TE} {vs : List Nat} {Γ2 : PyData → List Sv} (h : PyData → PyData) (t : Trk X H) (hi : GI X wi σ H ds) (hl : ds.length ≤ 1000000)
    (hg : ∀ H1, Same H H1 → ∀ d ∈ ds, Tgt X g σ (Γ2 d) vs d H1)
    (he : ∀ X' H1 σ2 d, d ∈ ds → Trk X' H1 → EnvOk X' H1 σ2 (Γ2 d) → G X' te σ2 H1 (h d)) : G X (tLc wi g tYes te vs) σ H (.list (ds.map h)) := by
  have e : ds.map h = (ds.filter fun _ => true).map h := by rw [List.filter_eq_self.mpr (fun _ _ => rfl)]
  rw [e]
  exact g_lc (fun _ => true) h t hi hl hg (fun X' H2 σ2 z _ _ _ H3 s3 Q3 q3 => q3 H3 (Same.refl _)) fun X' H1 σ2 d m _ t2 E2 => he X' H1 σ2 d m t2 E2
end
end KD

namespace KD
open PySem PySem.Spec PyProof.Rows L2
/-! ### defs of the text that are called by their names -/
structure Own (P : Program) (w : World) (K : PySem.W.Frag) (mg : Str → Option Value) (base : Heap) (CX : CXT) (k : Nat) (x : Str) (ps : List Str) (sp : Sp) : Prop where
  ex : ∃ (f : Addr) (fd : FuncData), mg x = some (.ref f) ∧ PySem.W.keepIn K (.ref f) = true ∧ Binds K fd ps [] ∧ FnOk P w K mg base CX k f fd ps sp
section
variable {X : Cx} {k j : Nat} {x : Str} {ps : List Str} {sp : Sp} {e : Expr} {es : List Expr} {p pos : Pos} {ta : TA}
theorem pe_own (O : Own X.prog X.w X.K X.mg X.base CX0 k x ps sp) (hr : Room j X.A) (hk : k ≤ j) (hg : Gl X x) (ha : PA X (e :: es) ta) (hdb : (x == ("__debug__" : Str)) = false := by decide)
    (he : starEach (e :: es) X.env = (false, eval e X.env) :: starEach es X.env := by rfl) (hpl : (backTo pos (starEach es X.env)).any (·.1) = false := by rfl) : PE X (.Call (.Name x p) (e :: es) [] pos) (tCall sp [] E0 ta) := by
  obtain ⟨f, fd, h1, h2, h3, h4⟩ := O.ex
  exact pe_call h4 (hr.mono hk) hg h1 h2 h3 .nil pass0 ha hdb he hpl
end
/-! ### promises over data -/
def sp1 (pre : PyData → Prop) (f : PyData → PyData) : Sp := fun vs H Q _ => ∃ (X : Addr → Prop) (v : V) (d : PyData), vs = [v] ∧ Trk X H ∧ DX X H v d ∧ pre d ∧ ∀ w H', Same H H' → DX X H' w (f d) → Q w H'
def sp2 (pre : PyData → PyData → Prop) (f : PyData → PyData → PyData) : Sp := fun vs H Q _ => ∃ (X : Addr → Prop) (v1 v2 : V) (d1 d2 : PyData), vs = [v1, v2] ∧ Trk X H ∧ DX X H v1 d1 ∧ DX X H v2 d2 ∧ pre d1 d2 ∧ ∀ w H', Same H H' → DX X H' w (f d1 d2) → Q w H'
def sp3 (pre : PyData → PyData → PyData → Prop) (f : PyData → PyData → PyData → PyData) : Sp := fun vs H Q _ => ∃ (X : Addr → Prop) (v1 v2 v3 : V) (d1 d2 d3 : PyData), vs = [v1, v2, v3] ∧ Trk X H ∧ DX X H v1 d1 ∧ DX X H v2 d2 ∧ DX X H v3 d3 ∧ pre d1 d2 d3 ∧ ∀ w H', Same H H' → DX X H' w (f d1 d2 d3) → Q w H'
section
variable {X : Addr → Prop} {σ : L2.St} {H : Hp} {ta tb tc : TE} {d d1 d2 d3 : PyData} {E : XK}
theorem g_call1 {pre : PyData → Prop} {f : PyData → PyData} (t : Trk X H) (h : G X ta σ H d) (hp : pre d) : G X (tCall (sp1 pre f) [] E (tCons ta tNil)) σ H (f d) :=
  g_call (ga_cons h ga_nil) fun vs H1 s rs Q q => by
    cases rs with
    | cons r1 r2 =>
      cases r2
      exact ⟨X, _, d, rfl, t.mono s, r1, hp, q⟩
theorem g_call2 {pre : PyData → PyData → Prop} {f : PyData → PyData → PyData} (t : Trk X H) (h1 : G X ta σ H d1) (h2 : G X tb σ H d2) (hp : pre d1 d2) : G X (tCall (sp2 pre f) [] E (tCons ta (tCons tb tNil))) σ H (f d1 d2) :=
  g_call (ga_cons h1 (ga_cons h2 ga_nil)) fun vs H1 s rs Q q => by
    cases rs with
    | cons r1 r2 =>
      cases r2 with
      | cons r2 r3 =>
        cases r3
        exact ⟨X, _, _, d1, d2, rfl, t.mono s, r1, r2, hp, q⟩
theorem g_call3 {pre : PyData → PyData → PyData → Prop} {f : PyData → PyData → PyData → PyData} (t : Trk X H) (h1 : G X ta σ H d1) (h2 : G X tb σ H d2) (h3 : G X tc σ H d3) (hp : pre d1 d2 d3) : G X (tCall (sp3 pre f) [] E (tCons ta (tCons tb (tCons tc tNil)))) σ H (f d1 d2 d3) :=
  g_call (ga_cons h1 (ga_cons h2 (ga_cons h3 ga_nil))) fun vs H1 s rs Q q => by
    cases rs with
    | cons r1 r2 =>
      cases r2 with
      | cons r2 r3 =>
        cases r3 with
        | cons r3 r4 =>
          cases r4
          exact ⟨X, _, _, _, d1, d2, d3, rfl, t.mono s, r1, r2, r3, hp, q⟩
end
/-! ### a def's body -/
section
variable {P : Program} {w : World} {K : PySem.W.Frag} {mg : Str → Option Value} {base : Heap} {x qual : Str} {st : Stmt} {f : Addr} {fd : FuncData} {N : List Str} {k : Nat} {a b c : Str}
def pad (N : List Str) (ss : List Sv) : List Sv := ss ++ List.replicate (N.length - ss.length) .un
theorem env1 {X : Addr → Prop} {H : Hp} {v : V} {d : PyData} (h : DX X H v d) (hN : 1 ≤ N.length) : EnvOk X H (L2.start N [v]) (pad N [.dat d]) :=
  envOk_start rfl (fun i s e u e2 => by
    match i, e, e2 with
    | 0, e, e2 => cases e; cases e2; exact ⟨_, rfl, h⟩) hN
theorem env2 {X : Addr → Prop} {H : Hp} {v1 v2 : V} {d1 d2 : PyData} (h1 : DX X H v1 d1) (h2 : DX X H v2 d2) (hN : 2 ≤ N.length) : EnvOk X H (L2.start N [v1, v2]) (pad N [.dat d1, .dat d2]) :=
  envOk_start rfl (fun i s e u e2 => by
    match i, e, e2 with
    | 0, e, e2 => cases e; cases e2; exact ⟨_, rfl, h1⟩
    | 1, e, e2 => cases e; cases e2; exact ⟨_, rfl, h2⟩) hN
theorem env3 {X : Addr → Prop} {H : Hp} {v1 v2 v3 : V} {d1 d2 d3 : PyData} (h1 : DX X H v1 d1) (h2 : DX X H v2 d2) (h3 : DX X H v3 d3) (hN : 3 ≤ N.length) : EnvOk X H (L2.start N [v1, v2, v3]) (pad N [.dat d1, .dat d2, .dat d3]) :=
  envOk_start rfl (fun i s e u e2 => by
    match i, e, e2 with
    | 0, e, e2 => cases e; cases e2; exact ⟨_, rfl, h1⟩
    | 1, e, e2 => cases e; cases e2; exact ⟨_, rfl, h2⟩
    | 2, e, e2 => cases e; cases e2; exact ⟨_, rfl, h3⟩) hN
theorem ok1 {pre : PyData → Prop} {g : PyData → PyData} (F : Fun K x qual st f fd) (S : FnScope N [a] (defScope st)) (hN : 1 ≤ N.length)
    (hbody : ∀ (cdv : Value) (A : Around) (outer : List Env) (s : Shared) (H : Hp) (E : XK) (X : Addr → Prop) (d : PyData) (Q : VK), Room k (A.deeper (envOfC qual (defScope st) s.heap.objs.size f cdv)) → Trk X H → pre d → (∀ w H', Same H H' → DX X H' w (g d) → Q w H') →
      ∃ t, PSs (cxOf CX0 P w K mg base N qual (defScope st) f cdv A outer s H E).nox (defBody st) t ∧ ∀ σ, EnvOk X H σ (pad N [.dat d]) → t { nx := fun _ H' => Q .non H', rt := Q } σ H) : FnOk P w K mg base CX0 (k + 1) f fd [a] (sp1 pre g) := by
  refine F.ok S (fun vs H Q E h => ?_) (fun cdv A outer s H vs Q E hr h => ?_)
  · obtain ⟨X, v, d, rfl, _⟩ := h
    rfl
  · obtain ⟨X, v, d, rfl, t, hd, hp, q⟩ := h
    obtain ⟨tt, h1, h2⟩ := hbody cdv A outer s H E X d Q hr t hp q
    exact ⟨tt, h1, h2 _ (env1 hd hN)⟩
theorem ok2 {pre : PyData → PyData → Prop} {g : PyData → PyData → PyData} (F : Fun K x qual st f fd) (S : FnScope N [a, b] (defScope st)) (hN : 2 ≤ N.length)
    (hbody : ∀ (cdv : Value) (A : Around) (outer : List Env) (s : Shared) (H : Hp) (E : XK) (X : Addr → Prop) (d1 d2 : PyData) (Q : VK), Room k (A.deeper (envOfC qual (defScope st) s.heap.objs.size f cdv)) → Trk X H → pre d1 d2 → (∀ w H', Same H H' → DX X H' w (g d1 d2) → Q w H') →
      ∃ t, PSs (cxOf CX0 P w K mg base N qual (defScope st) f cdv A outer s H E).nox (defBody st) t ∧ ∀ σ, EnvOk X H σ (pad N [.dat d1, .dat d2]) → t { nx := fun _ H' => Q .non H', rt := Q } σ H) : FnOk P w K mg base CX0 (k + 1) f fd [a, b] (sp2 pre g) := by
  refine F.ok S (fun vs H Q E h => ?_) (fun cdv A outer s H vs Q E hr h => ?_)
  · obtain ⟨X, v1, v2, d1, d2, rfl, _⟩ := h
    rfl
  · obtain ⟨X, v1, v2, d1, d2, rfl, t, r1, r2, hp, q⟩ := h
    obtain ⟨tt, h1, h2⟩ := hbody cdv A outer s H E X d1 d2 Q hr t hp q
    exact ⟨tt, h1, h2 _ (env2 r1 r2 hN)⟩
end
/-! ### statements -/
section
variable {X : Addr → Prop} {σ : L2.St} {H : Hp} {te : TE} {tt : TT} {tu tw tz : TS} {d : PyData} {D : Ends} {Γ : List Sv} {Q : VK}
theorem s_ret (h : G X te σ H d) (q : ∀ w H', Same H H' → DX X H' w d → D.rt w H') : tRet te D σ H := h H (Same.refl H) _ q
theorem s_if {b : Bool} (h : GT tt σ H b) (h1 : b = true → ∀ H1, Same H H1 → tu D σ H1) (h2 : b = false → ∀ H1, Same H H1 → tw D σ H1) : tIfS tt tu tw D σ H := h H (Same.refl H) _ fun H1 s => by
  cases b with
  | true => exact iteT (h1 rfl H1 s)
  | false => exact iteF (h2 rfl H1 s)
theorem q_if {b : Bool} (h : GT tt σ H b) (h1 : b = true → ∀ H1, Same H H1 → tu { D with nx := tz D } σ H1) (h2 : b = false → ∀ H1, Same H H1 → tz D σ H1) : tSeq (tIfS tt tu tNext) tz D σ H := s_if (D := { D with nx := tz D }) h h1 h2
theorem q_asg {g : TG} (h : G X te σ H d) (k : ∀ H1 v, Same H H1 → DX X H1 v d → g v σ H1 (fun σ2 H2 => tz D σ2 H2)) : tSeq (tAsg te g) tz D σ H := h H (Same.refl H) _ fun v H1 s r => k H1 v s r
theorem q_set {i : Nat} (En : EnvOk X H σ Γ) (h : G X te σ H d) (k : ∀ H1 v, Same H H1 → EnvOk X H1 (σ.set i (some v)) (Γ.set i (.dat d)) → tz D (σ.set i (some v)) H1) : tSeq (tAsg te (gName i)) tz D σ H := h H (Same.refl H) _ fun v H1 s r => k H1 v s ((En.same s).set r)
end
/-- a for over data: I by the base heap, the turn, the slots, the heap -/
theorem s_forD {X : Addr → Prop} {σ : L2.St} {H : Hp} {wi : TI} {g : TG} {tb : TS} {D : Ends} {ds : List PyData} (hi : GI X wi σ H ds) (I : Hp → Nat → L2.St → Hp → Prop) (h0 : ∀ Hb, Same H Hb → I Hb 0 σ Hb)
    (hk : ∀ Hb i σ' H', I Hb i σ' H' → Kp X Hb H' ∧ Trk X H')
    (hs : ∀ Hb i x d σ' H' H'', Same H Hb → ds[i]? = some d → I Hb i σ' H' → Same H' H'' → DX X H'' x d → g x σ' H'' fun σ2 H2 => tb { D with nx := I Hb (i + 1), ct := I Hb (i + 1), bk := D.nx } σ2 H2)
    (hd : ∀ Hb σ' H', Same H Hb → I Hb ds.length σ' H' → D.nx σ' H') : tFor wi g tb D σ H := hi H (Same.refl H) _ fun J H2 s w => by
  obtain ⟨Gd, Y, w1, w2⟩ := w
  have key : ∀ i σ' H', I H2 i σ' H' → _ := fun i σ' H' p => w2 X (fun _ => .inl) H' (hk H2 i σ' H' p).1 (hk H2 i σ' H' p).2
  refine for_it w1 (I H2) (h0 H2 s) (fun i σ' H' _ p => (key i σ' H' p).1) (fun i x σ' H' H'' _ p y => ?_) (fun σ' H' p => hd H2 σ' H' s p)
  obtain ⟨s4, d, hd1, dx⟩ := (key i σ' H' p).2 i x H'' y
  exact hs H2 i x d σ' H' H'' s hd1 p s4 dx
/-! ### the language's own names; tests of kinds -/
structure Bl (mg : Str → Option Value) : Prop where
  b_isinstance : mg "isinstance" = none
  b_len : mg "len" = none
  b_list : mg "list" = none
  b_tuple : mg "tuple" = none
  b_dict : mg "dict" = none
  b_int : mg "int" = none
  b_bool : mg "bool" = none
  b_str : mg "str" = none
  b_min : mg "min" = none
  b_all : mg "all" = none
  b_range : mg "range" = none
  b_enumerate : mg "enumerate" = none
  b_zip : mg "zip" = none
  b_repr : mg "repr" = none
section
variable {X : Cx}
abbrev rAddA : R2 := fun x y H Q => (rI0 fun i j => V.int (i + j)) x y H Q ∨ (fun x y H Q => rCat x y H Q ∨ (fun x y H Q => ∃ i j, x = V.str i ∧ y = V.str j ∧ i.length + j.length ≤ sizeLine ∧ Q (V.str (i ++ j)) H) x y H Q) x y H Q
abbrev rMulA : R2 := fun x y H Q => (rI CMul fun i j => V.int (i * j)) x y H Q ∨ rRep x y H Q
theorem op_addA : OpR X (binaryOp .Add) rAddA := op_add.or (op_cat.or op_add_str)
theorem op_mulA : OpR X (binaryOp .Mult) rMulA := op_mul.or op_rep
end
section
variable {X : Addr → Prop} {te ta tb : TE} {σ : L2.St} {H : Hp} {d : PyData} {K : PySem.W.Frag}
theorem isDs_seq (d : PyData) : isDs ["list", "tuple"] d = isSeq d := by
  unfold isDs
  rw [List.any_cons, List.any_cons, List.any_nil, isD_list, isD_tuple]
  cases d <;> rfl
theorem g_isSeq (h : G X te σ H d) : G X (tCB (rIsiT K) (tCons te (tCons (tTup (tCons (tC (.ty "list")) (tCons (tC (.ty "tuple")) tNil))) tNil))) σ H (.bool (isSeq d)) := by
  rw [← isDs_seq]
  exact g_isiT (ns := ["list", "tuple"]) h rfl (by decide) fun n hn => by
    simp at hn
    rcases hn with rfl | rfl
    · exact ksm_list d
    · exact ksm_tuple d
theorem g_isInt (h : G X te σ H d) : G X (tCB (rIsi K) (tCons te (tCons (tC (.ty "int")) tNil))) σ H (.bool (isa_int d)) := by
  rw [← isD_int]; exact g_isi h (ksm_int d)
theorem g_isBool (h : G X te σ H d) : G X (tCB (rIsi K) (tCons te (tCons (tC (.ty "bool")) tNil))) σ H (.bool (isa_bool d)) := by
  rw [← isD_bool]; exact g_isi h (ksm_bool d)
theorem g_isStr (h : G X te σ H d) : G X (tCB (rIsi K) (tCons te (tCons (tC (.ty "str")) tNil))) σ H (.bool (isa_str d)) := by
  rw [← isD_str]; exact g_isi h (ksm_str d)
theorem g_isList (h : G X te σ H d) : G X (tCB (rIsi K) (tCons te (tCons (tC (.ty "list")) tNil))) σ H (.bool (isa_list d)) := by
  rw [← isD_list]; exact g_isi h (ksm_list d)
theorem g_isTuple (h : G X te σ H d) : G X (tCB (rIsi K) (tCons te (tCons (tC (.ty "tuple")) tNil))) σ H (.bool (isa_tuple d)) := by
  rw [← isD_tuple]; exact g_isi h (ksm_tuple d)
theorem g_isDict (h : G X te σ H d) : G X (tCB (rIsi K) (tCons te (tCons (tC (.ty "dict")) tNil))) σ H (.bool (isa_dict d)) := by
  rw [← isD_dict]; exact g_isi h (ksm_dict d)
theorem g_len (t : Trk X H) (h : G X te σ H d) (hl : hasLen d = true) : G X (tCB (fun xs H Q => ∃ x n, xs = [x] ∧ LenV K x H n ∧ Q (V.int n) H) (tCons te tNil)) σ H (.int (lenD d : Int)) := g_cb t (ga_cons h ga_nil) (rf_len hl)
theorem g_listOf (t : Trk X H) (h : G X te σ H d) (hl : isSeq d = true) : G X (tCB (fun xs H Q => ∃ p ys, xs = [V.ref p] ∧ (SqL K H p ys ∨ SqT K H p ys) ∧ ∀ l, H l = none → Q (V.ref l) (upd H l (.lst ys))) (tCons te tNil)) σ H (.list (itemsD d)) := g_cb t (ga_cons h ga_nil) (rf_list hl)
theorem g_addI (t : Trk X H) {i j : Int} (ha : G X ta σ H (.int i)) (hb : G X tb σ H (.int j)) : G X (tOp rAddA ta tb) σ H (.int (i + j)) := g_op t ha hb (RD.or1 (rd_I0 (g := fun i j => i + j)))
theorem g_cat (t : Trk X H) {xs ys : List PyData} (ha : G X ta σ H (.list xs)) (hb : G X tb σ H (.list ys)) (hl : xs.length + ys.length ≤ 1000000) : G X (tOp rAddA ta tb) σ H (.list (xs ++ ys)) := g_op t ha hb (RD.or2 (RD.or1 (rd_cat hl)))
theorem g_sub (t : Trk X H) {i j : Int} (ha : G X ta σ H (.int i)) (hb : G X tb σ H (.int j)) : G X (tOp (rI0 fun i j => V.int (i - j)) ta tb) σ H (.int (i - j)) := g_op t ha hb (rd_I0 (g := fun i j => i - j))
theorem g_cmpI (t : Trk X H) {g : Int → Int → Bool} {i j : Int} (ha : G X ta σ H (.int i)) (hb : G X tb σ H (.int j)) : G X (tOp (rI0 fun i j => V.bl (g i j)) ta tb) σ H (.bool (g i j)) := g_op t ha hb rb_I0.rd
theorem gt_cmpI (t : Trk X H) {g : Int → Int → Bool} {i j : Int} (ha : G X ta σ H (.int i)) (hb : G X tb σ H (.int j)) : GT (tTest (tOp (rI0 fun i j => V.bl (g i j)) ta tb)) σ H (g i j) := gt_op t ha hb rb_I0
theorem g_ixL (t : Trk X H) {ds : List PyData} {i : Int} {z : PyData} (ha : G X ta σ H (.list ds)) (hb : G X tb σ H (.int i)) (h : atI ds i = some z) : G X (tOp (rIx K) ta tb) σ H z := g_op t ha hb (rd_ixL h)
theorem g_ixT (t : Trk X H) {ds : List PyData} {i : Int} {z : PyData} (ha : G X ta σ H (.tuple ds)) (hb : G X tb σ H (.int i)) (h : atI ds i = some z) : G X (tOp (rIx K) ta tb) σ H z := g_op t ha hb (rd_ixT h)
/-- an item of a list or tuple -/
theorem g_ix (t : Trk X H) {i : Int} {z : PyData} (ha : G X ta σ H d) (hs : isSeq d = true) (hb : G X tb σ H (.int i)) (h : atI (itemsD d) i = some z) : G X (tOp (rIx K) ta tb) σ H z := by
  cases d with
  | list ds => exact g_ixL t ha hb h
  | tuple ds => exact g_ixT t ha hb h
  | _ => cases hs
theorem g_eqD (t : Trk X H) {x y : PyData} (ha : G X ta σ H x) (hb : G X tb σ H y) (hd : noDict x = true) (he : noDict y = true) (hs : SeqAt.shaped x = true) (ht : SeqAt.shaped y = true) : G X (tOp (rEqD K) ta tb) σ H (.bool (PyData.eqv x y)) := g_op t ha hb (rb_eqD hd he hs ht).rd
theorem gt_eqD (t : Trk X H) {x y : PyData} (ha : G X ta σ H x) (hb : G X tb σ H y) (hd : noDict x = true) (he : noDict y = true) (hs : SeqAt.shaped x = true) (ht : SeqAt.shaped y = true) : GT (tTest (tOp (rEqD K) ta tb)) σ H (PyData.eqv x y) := gt_op t ha hb (rb_eqD hd he hs ht)
theorem gt_neD (t : Trk X H) {x y : PyData} (ha : G X ta σ H x) (hb : G X tb σ H y) (hd : noDict x = true) (he : noDict y = true) (hs : SeqAt.shaped x = true) (ht : SeqAt.shaped y = true) : GT (tTest (tOp (rNeD K) ta tb)) σ H (!PyData.eqv x y) := gt_op t ha hb (rb_neD hd he hs ht)
end
/-! ### a list or a tuple walked -/
def iSeq (K : PySem.W.Frag) (tl : TE) : TI := fun σ H R => tl σ H fun x H1 => ∃ c, x = V.ref c ∧ (((∃ zs, SqL K H1 c zs) ∧ R (Itl K c) H1) ∨ ((∃ zs, SqT K H1 c zs) ∧ R (Itt K c) H1))
theorem pi_seq {Y : Cx} {tg l : Expr} {tl : TE} (hl : PE Y l tl) : PI Y tg l (iSeq Y.K tl) := by
  constructor
  intro pn st sl hh RR inv rd
  refine thn (hl.run pn st sl hh _ inv rd) ?_
  rintro val st1 ⟨x, hh1, inv1, rel, c, rfl, alt⟩
  cases rel
  have fresh := inv1.hok.fresh (Nat.le_refl st1.heap.objs.size)
  have fpk : ∀ b ∈ [st1.heap.objs.size], _ := fun b hb => by
    have eb := List.mem_singleton.mp hb
    exact eb ▸ inv1.fpOk (Nat.le_refl _) fresh
  rcases alt with ⟨⟨zs, sq⟩, rest⟩ | ⟨⟨zs, sq⟩, rest⟩
  · obtain ⟨us, _, pl, _⟩ := inv1.list sq
    exact wpAny_pyIter_list pl.isList
      ⟨_, _, _, _, _, rfl, inv1.kept (t' := st1.toks) (fun _ _ z => Heap.get?_push_of_some _ z), turn_list c _,
        ⟨_, Heap.get?_push_size _ rfl, rfl, rfl⟩, fpk, rest⟩
  · obtain ⟨us, _, pl, _⟩ := inv1.tuple sq
    exact wpAny_pyIter_tuple (items := us.toArray) pl
      ⟨_, _, _, _, _, rfl, inv1.kept (t' := st1.toks) (fun _ _ z => Heap.get?_push_of_some _ z), turn_tuple c _,
        ⟨_, Heap.get?_push_size _ rfl, rfl, rfl⟩, fpk, rest⟩
theorem gi_seq {X : Addr → Prop} {σ : L2.St} {H : Hp} {te : TE} {K : PySem.W.Frag} {d : PyData} (h : G X te σ H d) (hs : isSeq d = true) : GI X (iSeq K te) σ H (itemsD d) := by
  cases d with
  | list ds =>
      intro H1 s R r
      refine h H1 s _ fun v H2 s2 rv => ?_
      obtain ⟨a, xs, rfl, n, e, rx⟩ := rv.lst_inv
      obtain ⟨a', e', _, rr⟩ := gi_list (K := K) (te := fun _ H Q => Q (.ref a) H) (σ := σ) (H := H2) (X := X) (ds := ds) (fun H5 s5 Q5 q5 => q5 _ H5 (Same.refl _) (rv.mono (Kp.of s5))) H2 (Same.refl _) R (fun J H3 s3 => r J H3 (s2.trans s3))
      cases e'
      exact ⟨a, rfl, .inl ⟨⟨xs, SqL.of e⟩, rr⟩⟩
  | tuple ds =>
      intro H1 s R r
      refine h H1 s _ fun v H2 s2 rv => ?_
      obtain ⟨a, xs, rfl, n, e, rx⟩ := rv.tup_inv
      obtain ⟨a', e', _, rr⟩ := gi_tup (K := K) (te := fun _ H Q => Q (.ref a) H) (σ := σ) (H := H2) (X := X) (ds := ds) (fun H5 s5 Q5 q5 => q5 _ H5 (Same.refl _) (rv.mono (Kp.of s5))) H2 (Same.refl _) R (fun J H3 s3 => r J H3 (s2.trans s3))
      cases e'
      exact ⟨a, rfl, .inr ⟨⟨xs, SqT.of e⟩, rr⟩⟩
  | _ => cases hs
/-! ### data that may be compared: words, ints, lists of words -/
theorem shaped_int (i : Int) : SeqAt.shaped (.int i) = true := by simp [SeqAt.shaped, PyData.canLay0, PyData.depth]
theorem shaped_str {s : Str} (h : PyData.strOk s = true) : SeqAt.shaped (.str s) = true := by simp [SeqAt.shaped, PyData.canLay0, PyData.depth, h]
theorem canLay_strs : ∀ {ws : List Str}, (∀ w ∈ ws, PyData.strOk w = true) → PyData.canLayAll0 (ws.map PyData.str) = true
  | [], _ => by simp [PyData.canLayAll0]
  | w :: ws, h => by
    have h1 := h w List.mem_cons_self
    have h2 := canLay_strs (ws := ws) fun v hv => h v (List.mem_cons_of_mem _ hv)
    simp [PyData.canLayAll0, PyData.canLay0, h1, h2]
theorem depth_strs : ∀ ws : List Str, PyData.depthAll (ws.map PyData.str) ≤ 1
  | [] => by simp [PyData.depthAll]
  | w :: ws => by
    have := depth_strs ws
    simp only [List.map_cons, PyData.depthAll, PyData.depth]
    omega
theorem shaped_strs {ws : List Str} (h : ∀ w ∈ ws, PyData.strOk w = true) : SeqAt.shaped (.list (ws.map PyData.str)) = true := by
  have := depth_strs ws
  have h2 : PyData.depth (.list (ws.map PyData.str)) ≤ 64 := by
    simp only [PyData.depth]
    omega
  show ((PyData.list (ws.map PyData.str)).canLay0 && decide ((PyData.list (ws.map PyData.str)).depth ≤ 64)) = true
  rw [Bool.and_eq_true]
  exact ⟨by simp only [PyData.canLay0]; exact canLay_strs h, decide_eq_true h2⟩
theorem noDict_strs : ∀ ws : List Str, noDicts (ws.map PyData.str) = true
  | [] => by simp [noDicts]
  | w :: ws => by simp [noDicts, noDict, noDict_strs ws]
theorem eqv_strs : ∀ ws zs : List Str, PyData.eqvAll (ws.map PyData.str) (zs.map PyData.str) = decide (ws = zs)
  | [], [] => by simp [PyData.eqvAll]
  | [], z :: zs => by simp [PyData.eqvAll]
  | w :: ws, [] => by simp [PyData.eqvAll]
  | w :: ws, z :: zs => by
    simp only [List.map_cons, PyData.eqvAll, PyData.eqv, eqv_strs ws zs]
    by_cases h : w = z
    · subst h
      simp
    · have : (w == z) = false := by simpa using h
      rw [this]
      simp [h]
/-! ### what is new -/
def Nw (H : Hp) (v : V) : Prop := ∀ a, v = .ref a → H a = none
theorem Nw.back {H H1 : Hp} {v : V} (s : Same H H1) (n : Nw H1 v) : Nw H v := fun a e => s.free (n a e)
theorem Nw.of {H : Hp} {p : Addr} (h : H p = none) : Nw H (.ref p) := fun a e => by cases e; exact h
def GN (X : Addr → Prop) (te : TE) (σ : L2.St) (H : Hp) (d : PyData) : Prop := ∀ H1, Same H H1 → ∀ Q : VK, (∀ v H2, Same H1 H2 → DX X H2 v d → Nw H1 v → Q v H2) → te σ H1 Q
def sp2N (pre : PyData → PyData → Prop) (f : PyData → PyData → PyData) : Sp := fun vs H Q _ => ∃ (X : Addr → Prop) (v1 v2 : V) (d1 d2 : PyData), vs = [v1, v2] ∧ Trk X H ∧ DX X H v1 d1 ∧ DX X H v2 d2 ∧ pre d1 d2 ∧ ∀ w H', Same H H' → DX X H' w (f d1 d2) → Nw H w → Q w H'
section
variable {X : Addr → Prop} {σ : L2.St} {H : Hp} {te ta tb tc : TE} {d d1 d2 d3 : PyData} {E : XK} {K : PySem.W.Frag} {D : Ends}
theorem GN.g (h : GN X te σ H d) : G X te σ H d := fun H1 s Q q => h H1 s Q fun v H2 s2 dv _ => q v H2 s2 dv
theorem GN.is {e : PyData} (h : GN X te σ H d) (e' : d = e) : GN X te σ H e := e' ▸ h
theorem gn_lst {ta : TA} {ds : List PyData} (t : Trk X H) (h : GA X ta σ H ds) (hl : ds.length ≤ 1000000) : GN X (tLst ta) σ H (.list ds) := fun H1 s Q q =>
  h H1 s _ fun vs H2 s2 rs => ⟨by rw [rs.length, sizeLine_eq]; omega, fun p hp => q _ _ (s2.trans (Same.upd hp)) (DX.newL ((t.mono s).mono s2) rs hp) (Nw.back s2 (Nw.of hp))⟩
theorem gn_tup {ta : TA} {ds : List PyData} (t : Trk X H) (h : GA X ta σ H ds) (hl : ds.length ≤ 1000000) : GN X (tTup ta) σ H (.tuple ds) := fun H1 s Q q =>
  h H1 s _ fun vs H2 s2 rs => ⟨by rw [rs.length, sizeLine_eq]; omega, fun p hp => q _ _ (s2.trans (Same.upd hp)) (DX.newT ((t.mono s).mono s2) rs hp) (Nw.back s2 (Nw.of hp))⟩
theorem gn_listOf (t : Trk X H) (h : G X te σ H d) (hl : isSeq d = true) : GN X (tCB (fun xs H Q => ∃ p ys, xs = [V.ref p] ∧ (SqL K H p ys ∨ SqT K H p ys) ∧ ∀ l, H l = none → Q (V.ref l) (upd H l (.lst ys))) (tCons te tNil)) σ H (.list (itemsD d)) := fun H1 s Q q =>
  h H1 s _ fun v H2 s2 r => by
    cases r with
    | lst n e r => exact ⟨_, _, rfl, .inl (SqL.of e), fun l hl => q _ _ (s2.trans (Same.upd hl)) (DX.newL ((t.mono s).mono s2) r hl) (Nw.back s2 (Nw.of hl))⟩
    | tup n e r => exact ⟨_, _, rfl, .inr (SqT.of e), fun l hl => q _ _ (s2.trans (Same.upd hl)) (DX.newL ((t.mono s).mono s2) r hl) (Nw.back s2 (Nw.of hl))⟩
    | _ => exact absurd hl (by simp [isSeq])
theorem gn_cat (t : Trk X H) {xs ys : List PyData} (ha : G X ta σ H (.list xs)) (hb : G X tb σ H (.list ys)) (hl : xs.length + ys.length ≤ 1000000) : GN X (tOp rAddA ta tb) σ H (.list (xs ++ ys)) := fun H1 s Q q =>
  ha H1 s _ fun u H2 s2 ru => hb H2 (s.trans s2) _ fun v H3 s3 rv => by
    obtain ⟨a, us, rfl, _, ea, rs⟩ := (ru.mono (Kp.of s3)).lst_inv
    obtain ⟨b, ws, rfl, _, eb, rt⟩ := rv.lst_inv
    exact .inr (.inl ⟨a, b, us, ws, rfl, rfl, ea, eb, by rw [rs.length, rt.length, sizeLine_eq]; omega, fun p hp => q _ _ ((s2.trans s3).trans (Same.upd hp)) (DX.newL (((t.mono s).mono s2).mono s3) (rs.append rt) hp) (Nw.back (s2.trans s3) (Nw.of hp))⟩)
theorem gn_call2 {pre : PyData → PyData → Prop} {f : PyData → PyData → PyData} (t : Trk X H) (h1 : G X ta σ H d1) (h2 : G X tb σ H d2) (hp : pre d1 d2) : GN X (tCall (sp2N pre f) [] E (tCons ta (tCons tb tNil))) σ H (f d1 d2) := fun H1 s Q q =>
  h1 H1 s _ fun v H2 s2 r => h2 H2 (s.trans s2) _ fun v2 H3 s3 r2 => ⟨X, v, v2, d1, d2, rfl, ((t.mono s).mono s2).mono s3, r.mono (Kp.of s3), r2, hp, fun w H' s4 dw nw => q w H' ((s2.trans s3).trans s4) dw (Nw.back (s2.trans s3) nw)⟩
theorem s_retN (h : GN X te σ H d) (q : ∀ w H', Same H H' → DX X H' w d → Nw H w → D.rt w H') : tRet te D σ H := h H (Same.refl H) _ q
end
section
variable {P : Program} {w : World} {K : PySem.W.Frag} {mg : Str → Option Value} {base : Heap} {x qual : Str} {st : Stmt} {f : Addr} {fd : FuncData} {N : List Str} {k : Nat} {a b c : Str}
theorem ok2N {pre : PyData → PyData → Prop} {g : PyData → PyData → PyData} (F : Fun K x qual st f fd) (S : FnScope N [a, b] (defScope st)) (hN : 2 ≤ N.length)
    (hbody : ∀ (cdv : Value) (A : Around) (outer : List Env) (s : Shared) (H : Hp) (E : XK) (X : Addr → Prop) (d1 d2 : PyData) (Q : VK), Room k (A.deeper (envOfC qual (defScope st) s.heap.objs.size f cdv)) → Trk X H → pre d1 d2 → (∀ w H', Same H H' → DX X H' w (g d1 d2) → Nw H w → Q w H') →
      ∃ t, PSs (cxOf CX0 P w K mg base N qual (defScope st) f cdv A outer s H E).nox (defBody st) t ∧ ∀ σ, EnvOk X H σ (pad N [.dat d1, .dat d2]) → t { nx := fun _ H' => Q .non H', rt := Q } σ H) : FnOk P w K mg base CX0 (k + 1) f fd [a, b] (sp2N pre g) := by
  refine F.ok S (fun vs H Q E h => ?_) (fun cdv A outer s H vs Q E hr h => ?_)
  · obtain ⟨X, v1, v2, d1, d2, rfl, _⟩ := h
    rfl
  · obtain ⟨X, v1, v2, d1, d2, rfl, t, r1, r2, hp, q⟩ := h
    obtain ⟨tt, h1, h2⟩ := hbody cdv A outer s H E X d1 d2 Q hr t hp q
    exact ⟨tt, h1, h2 _ (env2 r1 r2 hN)⟩
end
/-! ### a new list is no part of itself -/
mutual
theorem DX.fn {X X' : Addr → Prop} {H : Hp} : ∀ {v : V} {d d' : PyData}, DX X H v d → DX X' H v d' → d = d'
  | _, _, _, .non, k => by cases k; rfl
  | _, _, _, .bl b, k => by cases k; rfl
  | _, _, _, .int i, k => by cases k; rfl
  | _, _, _, .str x, k => by cases k; rfl
  | _, _, _, .lst n e r, k => by
    cases k with
    | lst n2 e2 r2 =>
      rw [e] at e2
      cases e2
      rw [DXs.fn r r2]
    | tup n2 e2 r2 => rw [e] at e2; cases e2
    | dic n2 e2 r2 => rw [e] at e2; cases e2
  | _, _, _, .tup n e r, k => by
    cases k with
    | tup n2 e2 r2 =>
      rw [e] at e2
      cases e2
      rw [DXs.fn r r2]
    | lst n2 e2 r2 => rw [e] at e2; cases e2
    | dic n2 e2 r2 => rw [e] at e2; cases e2
  | _, _, _, .dic n e r, k => by
    cases k with
    | dic n2 e2 r2 =>
      rw [e] at e2
      cases e2
      rw [DXk.fn r r2]
    | lst n2 e2 r2 => rw [e] at e2; cases e2
    | tup n2 e2 r2 => rw [e] at e2; cases e2
theorem DXs.fn {X X' : Addr → Prop} {H : Hp} : ∀ {v : List V} {d d' : List PyData}, DXs X H v d → DXs X' H v d' → d = d'
  | _, _, _, .nil, k => by cases k; rfl
  | _, _, _, .cons h r, k => by
    cases k with
    | cons h2 r2 => rw [DX.fn h h2, DXs.fn r r2]
theorem DXk.fn {X X' : Addr → Prop} {H : Hp} : ∀ {v : List (Key × V)} {d d' : List (PyData × PyData)}, DXk X H v d → DXk X' H v d' → d = d'
  | _, _, _, .nil, k => by cases k; rfl
  | _, _, _, .cons h r, k => by
    cases k with
    | cons h2 r2 => rw [DX.fn h h2, DXk.fn r r2]
end
mutual
theorem DX.apart {X : Addr → Prop} {H : Hp} {a : Addr} {D : PyData} (hD : DX X H (.ref a) D) : ∀ {v : V} {d : PyData}, DX X H v d → sizeOf d < sizeOf D → DX (fun b => X b ∨ b = a) H v d
  | _, _, .non, _ => .non
  | _, _, .bl b, _ => .bl b
  | _, _, .int i, _ => .int i
  | _, _, .str x, _ => .str x
  | .ref b, .list ds, .lst n e r, hs => by
    refine .lst (fun x => x.elim n fun q => ?_) e (DXs.apart hD r (by simp at hs; omega))
    subst q
    have e2 := hD.fn (X' := X) (DX.lst n e r)
    rw [e2] at hs
    omega
  | .ref b, .tuple ds, .tup n e r, hs => by
    refine .tup (fun x => x.elim n fun q => ?_) e (DXs.apart hD r (by simp at hs; omega))
    subst q
    have e2 := hD.fn (X' := X) (DX.tup n e r)
    rw [e2] at hs
    omega
  | .ref b, .dict ds, .dic n e r, hs => by
    refine .dic (fun x => x.elim n fun q => ?_) e (DXk.apart hD r (by simp at hs; omega))
    subst q
    have e2 := hD.fn (X' := X) (DX.dic n e r)
    rw [e2] at hs
    omega
theorem DXs.apart {X : Addr → Prop} {H : Hp} {a : Addr} {D : PyData} (hD : DX X H (.ref a) D) : ∀ {v : List V} {d : List PyData}, DXs X H v d → sizeOf d < sizeOf D → DXs (fun b => X b ∨ b = a) H v d
  | _, _, .nil, _ => .nil
  | _, _, .cons h r, hs => .cons (DX.apart hD h (by simp at hs; omega)) (DXs.apart hD r (by simp at hs; omega))
theorem DXk.apart {X : Addr → Prop} {H : Hp} {a : Addr} {D : PyData} (hD : DX X H (.ref a) D) : ∀ {v : List (Key × V)} {d : List (PyData × PyData)}, DXk X H v d → sizeOf d < sizeOf D → DXk (fun b => X b ∨ b = a) H v d
  | _, _, .nil, _ => .nil
  | _, _, .cons h r, hs => .cons (DX.apart hD h (by simp at hs; omega)) (DXk.apart hD r (by simp at hs; omega))
end
/-- the items of a list, apart from the list itself -/
theorem DX.inner {X : Addr → Prop} {H : Hp} {v : V} {ds : List PyData} (h : DX X H v (.list ds)) : ∃ a xs, v = .ref a ∧ ¬ X a ∧ H a = some (.lst xs) ∧ DXs (fun b => X b ∨ b = a) H xs ds := by
  cases h with
  | lst n e r => exact ⟨_, _, rfl, n, e, DXs.apart (DX.lst n e r) r (by simp)⟩
end KD

namespace K52
open PySem PySem.Spec PyProof.Rows L2 KD
def topS (i : Nat) : Stmt := PySem.Challenge.pw_patchlots_k52_whole_covers.main.body.getD i (.Pass ⟨0, 0, 0, 0⟩)
variable {P : Program} {w : World} {K : PySem.W.Frag} {mg : Str → Option Value} {base : Heap}

abbrev s_is_list : Stmt := topS 4
abbrev n_is_list : List Str := ["thing"]
theorem sc_is_list : FnScope n_is_list ["thing"] (defScope s_is_list) := ⟨rfl, rfl, rfl, by decide +kernel, rfl, by decide +kernel, by decide +kernel⟩
theorem ok_is_list {f : Addr} {fd : FuncData} (F : Fun K "is_list" "is_list" s_is_list f fd) (T : Bl mg) : FnOk P w K mg base CX0 1 f fd ["thing"] (sp1 (fun _ => True) fun d => .bool (isSeq d)) := by
  refine ok1 F sc_is_list (by decide) fun cdv A outer s H E X d Q hr t _ q => ⟨_, (pss_one (ps_ret (pe_callB call_isiT (by rfl) T.b_isinstance boot_isinstance (pa_cons (pv 0) (pa_cons (pe_tup (pa_cons (pe_bltn (v := .ty "list") (by rfl) T.b_list boot_list rfl) (pa_cons (pe_bltn (v := .ty "tuple") (by rfl) T.b_tuple boot_tuple rfl) pa_nil))) pa_nil))))), fun σ En => ?_⟩
  exact s_ret (g_isSeq (g_var En rfl)) q

def isIntD (d : PyData) : Bool := isa_int d && !isa_bool d
def isNumD : PyData → Bool
  | .int i => decide (0 ≤ i)
  | _ => false
theorem isIntD_int {d : PyData} (h : isIntD d = true) : ∃ i, d = .int i := by
  cases d <;> simp [isIntD, isa_int, isa_bool] at h ⊢
theorem isNumD_eq (d : PyData) : (∃ i, d = .int i ∧ isIntD d = true ∧ isNumD d = decide (0 ≤ i)) ∨ (isIntD d = false ∧ isNumD d = false) := by
  cases d <;> simp [isIntD, isa_int, isa_bool, isNumD]
abbrev s_is_integer : Stmt := topS 5
abbrev n_is_integer : List Str := ["thing"]
theorem sc_is_integer : FnScope n_is_integer ["thing"] (defScope s_is_integer) := ⟨rfl, rfl, rfl, by decide +kernel, rfl, by decide +kernel, by decide +kernel⟩
theorem ok_is_integer {f : Addr} {fd : FuncData} (F : Fun K "is_integer" "is_integer" s_is_integer f fd) (T : Bl mg) : FnOk P w K mg base CX0 1 f fd ["thing"] (sp1 (fun _ => True) fun d => .bool (isIntD d)) := by
  refine ok1 F sc_is_integer (by decide) fun cdv A outer s H E X d Q hr t _ q => ⟨_, (pss_one (ps_ret (pe_and (pe_callB call_isi (by rfl) T.b_isinstance boot_isinstance (pa_cons (pv 0) (pa_cons (pe_bltn (v := .ty "int") (by rfl) T.b_int boot_int rfl) pa_nil))) (pe_one (pe_not (pe_callB call_isi (by rfl) T.b_isinstance boot_isinstance (pa_cons (pv 0) (pa_cons (pe_bltn (v := .ty "bool") (by rfl) T.b_bool boot_bool rfl) pa_nil)))))))), fun σ En => ?_⟩
  exact s_ret (g_and (g_isInt (g_var En rfl)) fun _ => g_not (g_isBool (g_var En rfl))) q

abbrev s_is_number : Stmt := topS 6
abbrev n_is_number : List Str := ["thing"]
theorem sc_is_number : FnScope n_is_number ["thing"] (defScope s_is_number) := ⟨rfl, rfl, rfl, by decide +kernel, rfl, by decide +kernel, by decide +kernel⟩
theorem ok_is_number {f : Addr} {fd : FuncData} (F : Fun K "is_number" "is_number" s_is_number f fd) (T : Bl mg) (O_is_integer : Own P w K mg base CX0 1 "is_integer" ["thing"] (sp1 (fun _ => True) fun d => .bool (isIntD d))) : FnOk P w K mg base CX0 2 f fd ["thing"] (sp1 (fun _ => True) fun d => .bool (isNumD d)) := by
  refine ok1 F sc_is_number (by decide) fun cdv A outer s H E X d Q hr t _ q => ⟨_, (pss_one (ps_ret (pe_and (pe_own O_is_integer hr (by decide) (by rfl) (pa_cons (pv 0) pa_nil)) (pe_one (pe_cmpR op_ge (pv 0) pe_int (nomark _)))))), fun σ En => ?_⟩
  refine s_ret ?_ q
  rcases isNumD_eq d with ⟨i, rfl, h1, h2⟩ | ⟨h1, h2⟩
  · rw [h2]
    refine g_is (g_and (a := true) (b := decide (0 ≤ i)) (g_is (g_call1 t (g_var En rfl) trivial) (by rw [h1])) fun _ => ?_) rfl
    exact g_op t (g_var En rfl) g_int rb_I0.rd
  · rw [h2]
    exact g_and (a := false) (b := false) (g_is (g_call1 t (g_var En rfl) trivial) (by rw [h1])) fun z => absurd z (by decide)

-- HINT is_words in op_notIn_sign
def hasFeed (s : Str) : Bool := decide (10 ∈ s.cps.toList)
def isWordsD : PyData → Bool
  | .str s => decide (s.length ≤ 200) && !hasFeed s
  | _ => false
theorem rb_notInSign {X : Addr → Prop} {c : Nat} {s : Str} : RB X (fun x y H Q => ∃ (c : Nat) (z : Str), x = V.str ⟨#[c]⟩ ∧ y = V.str z ∧ Q (V.bl (!decide (c ∈ z.cps.toList))) H) (.str ⟨#[c]⟩) (.str s) (!decide (c ∈ s.cps.toList)) := fun H u v _ ru rv Q q => ⟨c, s, ru.str_inv, rv.str_inv, q⟩
def wordsPre : PyData → Prop
  | .str s => s.length ≤ 1000000
  | _ => True
abbrev s_is_words : Stmt := topS 8
abbrev n_is_words : List Str := ["thing"]
theorem sc_is_words : FnScope n_is_words ["thing"] (defScope s_is_words) := ⟨rfl, rfl, rfl, by decide +kernel, rfl, by decide +kernel, by decide +kernel⟩
theorem ok_is_words {f : Addr} {fd : FuncData} (F : Fun K "is_words" "is_words" s_is_words f fd) (T : Bl mg) : FnOk P w K mg base CX0 1 f fd ["thing"] (sp1 wordsPre fun d => .bool (isWordsD d)) := by
  refine ok1 F sc_is_words (by decide) fun cdv A outer s H E X d Q hr t hp q => ⟨_, (pss_one (ps_ret (pe_and (pe_callB call_isi (by rfl) T.b_isinstance boot_isinstance (pa_cons (pv 0) (pa_cons (pe_bltn (v := .ty "str") (by rfl) T.b_str boot_str rfl) pa_nil))) (pe_and (pe_cmpR op_le (pe_callB call_len (by rfl) T.b_len boot_len (pa_cons (pv 0) pa_nil)) pe_int (nomark _)) (pe_one (pe_cmpR op_notIn_sign pe_str (pv 0) (by rfl))))))), fun σ En => ?_⟩
  refine s_ret ?_ q
  by_cases h : ∃ z, d = .str z
  · obtain ⟨z, rfl⟩ := h
    refine g_is (g_and (a := true) (b := decide (z.length ≤ 200) && !hasFeed z) (g_is (g_isStr (g_var En rfl)) rfl) fun _ => ?_) (by simp [isWordsD])
    refine g_and (a := decide (z.length ≤ 200)) ?_ fun _ => ?_
    · refine g_is (g_cmpI t (g := fun i j => decide (i ≤ j)) (g_len t (g_var En rfl) (by simpa [hasLen, wordsPre] using hp)) g_int) ?_
      show PyData.bool (decide ((z.length : Int) ≤ 200)) = _
      congr 1
      exact decide_eq_decide.mpr (by omega)
    · exact g_op t g_str (g_var En rfl) rb_notInSign.rd
  · have e1 : isa_str d = false := by cases d <;> first | rfl | exact absurd ⟨_, rfl⟩ h
    have e2 : isWordsD d = false := by cases d <;> first | rfl | exact absurd ⟨_, rfl⟩ h
    rw [e2]
    exact g_is (g_and (a := false) (b := false) (g_is (g_isStr (g_var En rfl)) (by rw [e1])) fun z => absurd z (by decide)) rfl
abbrev s_first_false : Stmt := topS 9
abbrev n_first_false : List Str := ["tests", "index", "test"]
theorem sc_first_false : FnScope n_first_false ["tests"] (defScope s_first_false) := ⟨rfl, rfl, rfl, by decide +kernel, rfl, by decide +kernel, by decide +kernel⟩
def ffD : Nat → List PyData → PyData
  | _, [] => .none
  | i, .bool false :: _ => .int (i : Nat)
  | i, _ :: r => ffD (i + 1) r
def Bools (d : PyData) : Prop := ∃ bs : List Bool, d = .list (bs.map .bool) ∧ bs.length ≤ 100000
theorem ff_true (i : Nat) (r : List PyData) : ffD i (.bool true :: r) = ffD (i + 1) r := by simp [ffD]
theorem ok_first_false {f : Addr} {fd : FuncData} (F : Fun K "first_false" "first_false" s_first_false f fd) (T : Bl mg) : FnOk P w K mg base CX0 1 f fd ["tests"] (sp1 Bools fun d => ffD 0 (itemsD d)) := by
  refine ok1 F sc_first_false (by decide) fun cdv A outer s H E X d Q hr t hp q => ⟨_, (pss_cons (ps_for PassesOwn.never rfl (pi_enum (by rfl) T.b_enumerate (pa_cons (pv 0) pa_nil)) (pg_tup (n := 2) rfl (pgs_cons (pg_name (i := 1) sc_first_false.nd rfl (by first | exact Or.inl rfl | exact Or.inr rfl)) (pgs_cons (pg_name (i := 2) sc_first_false.nd rfl (by first | exact Or.inl rfl | exact Or.inr rfl)) pgs_nil)))
    (pss_one (ps_if (pt_not (pt_val (pv 2)))
    (pss_one (ps_ret (pv 1))) pss_nil)))
    (pss_one (ps_ret pe_non))), fun σ En => ?_⟩
  obtain ⟨bs, rfl, hl⟩ := hp
  have q : ∀ w H', Same H H' → DX X H' w (ffD 0 (bs.map PyData.bool)) → Q w H' := q
  refine s_forD (gi_enum (g_var En rfl)) (fun Hb i σ' H' => Same Hb H' ∧ Trk X H' ∧ EnvOk X H' σ' [.dat (.list (bs.map .bool)), .un, .un] ∧ ffD 0 (bs.map PyData.bool) = ffD i ((bs.drop i).map PyData.bool)) (fun Hb s => ⟨Same.refl _, t.mono s, En.same s, rfl⟩) (fun Hb i σ' H' p => ⟨Kp.of p.1, p.2.1⟩) ?_ ?_
  · rintro Hb i x d σ' H' H'' sb hd ⟨p1, p2, p3, p4⟩ s2 dx
    have hi : i < bs.length := by
      have := (List.getElem?_eq_some_iff.mp hd).1
      rw [enumD_len, List.length_map] at this
      exact this
    have hb : (bs.map PyData.bool)[i]? = some (.bool bs[i]) := by rw [List.getElem?_map, List.getElem?_eq_getElem hi]; rfl
    rw [enumD_get hb] at hd
    cases hd
    have edrop : bs.drop i = bs[i] :: bs.drop (i + 1) := List.drop_eq_getElem_cons hi
    refine g_pair dx fun u w h1 h2 => ?_
    have E2 := ((p3.same s2).set (i := 1) h1).set (i := 2) h2
    refine s_if (gt_not (gt_B (g_var E2 rfl))) (fun hb H1 s3 => ?_) (fun hb H1 s3 => ?_)
    · have e : bs[i] = false := by simpa using hb
      refine s_ret (g_var (E2.same s3) rfl) fun w H2 s4 dw => q w H2 ((((sb.trans p1).trans s2).trans s3).trans s4) ?_
      rw [p4, edrop, e]
      exact dw
    · have e : bs[i] = true := by simpa using hb
      refine ⟨(p1.trans s2).trans s3, (p2.mono s2).mono s3, ?_, ?_⟩
      · have E3 := (E2.same s3)
        exact ⟨E3.len, fun j sv e => by
          match j, e with
          | 0, e => exact E3.get 0 _ e
          | 1, e => cases e; trivial
          | 2, e => cases e; trivial⟩
      · rw [p4, edrop, e]
        exact ff_true i _
  · rintro Hb σ' H' sb ⟨p1, p2, p3, p4⟩
    rw [enumD_len, List.length_map, List.drop_length] at p4
    refine s_ret (σ := σ') (X := X) (D := { nx := fun _ H' => Q .non H', rt := Q }) g_non fun w H2 s4 dw => q w H2 ((sb.trans p1).trans s4) ?_
    rw [p4]
    exact dw

def wordsAll (d : PyData) : Prop := isSeq d = true → (itemsD d).length ≤ 100000 ∧ ∀ z ∈ itemsD d, wordsPre z
def wrongD (d : PyData) : PyData := if isSeq d then ffD 0 ((itemsD d).map fun z => .bool (isWordsD z)) else .int 0
-- HINT wrong_words it pi_seq
abbrev s_wrong_words : Stmt := topS 10
abbrev n_wrong_words : List Str := ["things", "thing"]
theorem sc_wrong_words : FnScope n_wrong_words ["things"] (defScope s_wrong_words) := ⟨rfl, rfl, rfl, by decide +kernel, rfl, by decide +kernel, by decide +kernel⟩
theorem ok_wrong_words {f : Addr} {fd : FuncData} (F : Fun K "wrong_words" "wrong_words" s_wrong_words f fd) (T : Bl mg) (O_is_list : Own P w K mg base CX0 1 "is_list" ["thing"] (sp1 (fun _ => True) fun d => .bool (isSeq d)))
    (O_is_words : Own P w K mg base CX0 1 "is_words" ["thing"] (sp1 wordsPre fun d => .bool (isWordsD d))) (O_first_false : Own P w K mg base CX0 1 "first_false" ["tests"] (sp1 Bools fun d => ffD 0 (itemsD d))) :
    FnOk P w K mg base CX0 2 f fd ["things"] (sp1 wordsAll wrongD) := by
  refine ok1 F sc_wrong_words (by decide) fun cdv A outer s H E X d Q hr t hp q => ⟨_, (pss_cons (ps_if (pt_not (pt_val (pe_own O_is_list hr (by decide) (by rfl) (pa_cons (pv 0) pa_nil))))
    (pss_one (ps_ret pe_int)) pss_nil)
    (pss_one (ps_ret (pe_own O_first_false hr (by decide) (by rfl) (pa_cons (pe_lc (own := [("thing", 1)]) (g := (gName 1)) (tt := tYes) rfl sc_wrong_words.nd (pi_seq (pv 0)) (blkOk_by (N := n_wrong_words) (sc := defScope s_wrong_words) (by decide +kernel)) (fun _ _ _ _ _ => (pg_name (i := 1) sc_wrong_words.nd rfl (by first | exact Or.inl rfl | exact Or.inr rfl))) (fun _ _ _ _ _ => pts_nil) (fun _ _ _ _ _ => (pe_own O_is_words hr (by decide) (by rfl) (pa_cons (pv 1) pa_nil)))) pa_nil))))), fun σ En => ?_⟩
  refine q_if (gt_not (gt_B (g_call1 t (g_var En rfl) trivial))) (fun hb H1 s1 => ?_) (fun hb H1 s1 => ?_)
  · have e : isSeq d = false := by simpa using hb
    refine s_ret (X := X) g_int fun w H2 s2 dw => q w H2 (s1.trans s2) ?_
    unfold wrongD
    rw [e]
    exact dw
  · have e : isSeq d = true := by simpa using hb
    obtain ⟨hl, hw⟩ := hp e
    have t1 := t.mono s1
    have q' : ∀ w H', Same H1 H' → DX X H' w (ffD 0 ((itemsD d).map fun z => .bool (isWordsD z))) → Q w H' := fun w H2 s2 dw => q w H2 (s1.trans s2) (by unfold wrongD; rw [e]; exact dw)
    refine s_ret (X := X) (g_is (g_call1 t1 (d := .list ((itemsD d).map fun z => .bool (isWordsD z))) (g_lc1 (Γ2 := fun z => [.dat d, .dat z]) (fun z => .bool (isWordsD z)) t1 (gi_seq (g_var (En.same s1) rfl) e) (by omega) (fun H2 s2 z _ => tgt_name ((En.same s1).same s2)) (fun X' H2 σ2 z hz t2 E2 => g_call1 t2 (g_var E2 rfl) (hw z hz))) ⟨(itemsD d).map isWordsD, by simp [List.map_map], by simpa using hl⟩) rfl) q'

def it (d : PyData) (i : Nat) : PyData := (itemsD d).getD i .none
def ch3 (d : PyData) : Bool := isSeq d && (decide ((itemsD d).length = 3) && isNumD (it d 0))
def isChangeD (d : PyData) : Bool := ch3 d && (isNone (wrongD (it d 1)) && isNone (wrongD (it d 2))) && decide (0 < lenD (it d 1) + lenD (it d 2))
def chPre (d : PyData) : Prop := isSeq d = true → (itemsD d).length ≤ 100000 ∧ ∀ z ∈ itemsD d, wordsAll z
theorem lenD_seq {d : PyData} (h : isSeq d = true) : lenD d = (itemsD d).length := by cases d <;> first | rfl | cases h
theorem hasLen_seq {d : PyData} (h : isSeq d = true) : hasLen d = true := by cases d <;> first | rfl | cases h
theorem wrong_seq {d : PyData} (h : isNone (wrongD d) = true) : isSeq d = true := by
  cases e : isSeq d with
  | true => rfl
  | false =>
    unfold wrongD at h
    rw [e] at h
    simp [isNone] at h
theorem it_at {d : PyData} {i : Nat} {k : Int} (hk : k = (i : Int)) (h : i < (itemsD d).length) : atI (itemsD d) k = some (it d i) := by
  subst hk
  refine atI_nat ?_
  unfold it
  rw [List.getElem?_eq_getElem h, List.getD_eq_getElem?_getD, List.getElem?_eq_getElem h]
  rfl
theorem it_mem {d : PyData} {i : Nat} (h : i < (itemsD d).length) : it d i ∈ itemsD d := by
  unfold it
  rw [List.getD_eq_getElem?_getD, List.getElem?_eq_getElem h]
  exact List.getElem_mem h
theorem eqv_int (i j : Int) : PyData.eqv (.int i) (.int j) = decide (i = j) := by
  simp only [PyData.eqv]
  by_cases h : i = j
  · subst h; simp
  · rw [decide_eq_false h]; simpa using h
theorem gt_neI {X : Addr → Prop} {ta tb : TE} {σ : L2.St} {H : Hp} {K : PySem.W.Frag} {i j : Int} (t : Trk X H) (ha : G X ta σ H (.int i)) (hb : G X tb σ H (.int j)) : GT (tTest (tOp (rNeD K) ta tb)) σ H (!decide (i = j)) := by
  rw [← eqv_int]
  exact gt_neD t ha hb rfl rfl (shaped_int i) (shaped_int j)
theorem gt_eqI {X : Addr → Prop} {ta tb : TE} {σ : L2.St} {H : Hp} {K : PySem.W.Frag} {i j : Int} (t : Trk X H) (ha : G X ta σ H (.int i)) (hb : G X tb σ H (.int j)) : GT (tTest (tOp (rEqD K) ta tb)) σ H (decide (i = j)) := by
  rw [← eqv_int]
  exact gt_eqD t ha hb rfl rfl (shaped_int i) (shaped_int j)
def wsD (ws : List Str) : PyData := .list (ws.map .str)
def chD (p : Int) (os ns : List Str) : PyData := .tuple [.int p, wsD os, wsD ns]
def WsOk (ws : List Str) : Prop := ws.length ≤ 1000 ∧ ∀ z ∈ ws, PyData.strOk z = true
theorem sIx_nn {n d : Nat} {p : Int} (h : 0 ≤ p) : HT.sIx n d (some p) = min p.toNat n := by
  show (if p < 0 then (p + (n : Int)).toNat else min p.toNat n) = min p.toNat n
  rw [if_neg (by omega)]
theorem cutD_map (ws : List Str) (lo hi : Option Int) : cutPD (ws.map PyData.str) lo hi = ((ws.drop (HT.sIx ws.length 0 lo)).take (HT.sIx ws.length ws.length hi - HT.sIx ws.length 0 lo)).map PyData.str := by
  unfold cutPD
  rw [List.length_map, List.map_take, List.map_drop]
theorem cut_lo (ws : List Str) {p q : Int} (hp : 0 ≤ p) (hq : p ≤ q) : cutPD (ws.map PyData.str) (some p) (some q) = ((ws.drop p.toNat).take (q.toNat - p.toNat)).map PyData.str := by
  rw [cutD_map, sIx_nn hp, sIx_nn (by omega)]
  congr 1
  by_cases h : p.toNat ≤ ws.length
  · rw [Nat.min_eq_left h]
    apply List.ext_getElem?
    intro n
    simp only [List.getElem?_take, List.getElem?_drop]
    by_cases hn : n < q.toNat - p.toNat
    · rw [if_pos hn]
      split
      · rfl
      · exact (List.getElem?_eq_none (by omega)).symm
    · rw [if_neg hn, if_neg (by omega)]
  · rw [List.drop_eq_nil_of_le (by omega), List.drop_eq_nil_of_le (by omega), List.take_nil, List.take_nil]
theorem cut_hi (ws : List Str) {q : Int} (hq : 0 ≤ q) : cutPD (ws.map PyData.str) none (some q) = (ws.take q.toNat).map PyData.str := by
  rw [cutD_map, sIx_nn hq, HT.sIx_none, List.drop_zero, Nat.sub_zero]
  congr 1
  by_cases h : q.toNat ≤ ws.length
  · rw [Nat.min_eq_left h]
  · rw [Nat.min_eq_right (by omega), List.take_of_length_le (Nat.le_refl _), List.take_of_length_le (by omega)]
theorem cut_from (ws : List Str) {p : Int} (hp : 0 ≤ p) : cutPD (ws.map PyData.str) (some p) none = (ws.drop p.toNat).map PyData.str := by
  rw [cutD_map, sIx_nn hp, HT.sIx_none]
  congr 1
  by_cases h : p.toNat ≤ ws.length
  · rw [Nat.min_eq_left h, List.take_of_length_le (by rw [List.length_drop]; omega)]
  · rw [Nat.min_eq_right (by omega), List.drop_eq_nil_of_le (Nat.le_refl _), List.drop_eq_nil_of_le (by omega), List.take_nil]
theorem sl_from {X : Addr → Prop} {te ta : TE} {σ : L2.St} {H : Hp} {ws : List Str} {p : Int} (t : Trk X H) (h : G X te σ H (wsD ws)) (ha : G X ta σ H (.int p)) (hp : 0 ≤ p) : G X (tSl (rSlL K) te (tPart ta) tNoPart) σ H (wsD (ws.drop p.toNat)) := by
  refine g_is (g_sl t h (go_some ha) go_none) ?_
  rw [cut_from _ hp]
  rfl
theorem sl_to {X : Addr → Prop} {te ta : TE} {σ : L2.St} {H : Hp} {ws : List Str} {p : Int} (t : Trk X H) (h : G X te σ H (wsD ws)) (ha : G X ta σ H (.int p)) (hp : 0 ≤ p) : G X (tSl (rSlL K) te tNoPart (tPart ta)) σ H (wsD (ws.take p.toNat)) := by
  refine g_is (g_sl t h go_none (go_some ha)) ?_
  rw [cut_hi _ hp]
  rfl
theorem sl_mid {X : Addr → Prop} {te ta tb : TE} {σ : L2.St} {H : Hp} {ws : List Str} {p q : Int} (t : Trk X H) (h : G X te σ H (wsD ws)) (ha : G X ta σ H (.int p)) (hb : G X tb σ H (.int q)) (hp : 0 ≤ p) (hq : p ≤ q) : G X (tSl (rSlL K) te (tPart ta) (tPart tb)) σ H (wsD ((ws.drop p.toNat).take (q.toNat - p.toNat))) := by
  refine g_is (g_sl t h (go_some ha) (go_some hb)) ?_
  rw [cut_lo _ hp hq]
  rfl
theorem len_ws {X : Addr → Prop} {te : TE} {σ : L2.St} {H : Hp} {ws : List Str} (t : Trk X H) (h : G X te σ H (wsD ws)) : G X (tCB (fun xs H Q => ∃ x n, xs = [x] ∧ LenV K x H n ∧ Q (V.int n) H) (tCons te tNil)) σ H (.int (ws.length : Int)) := by
  refine g_is (g_len t h rfl) ?_
  show PyData.int (((ws.map PyData.str).length : Nat) : Int) = _
  rw [List.length_map]
theorem cat_ws {X : Addr → Prop} {ta tb : TE} {σ : L2.St} {H : Hp} {ws zs : List Str} (t : Trk X H) (ha : G X ta σ H (wsD ws)) (hb : G X tb σ H (wsD zs)) (hl : ws.length + zs.length ≤ 1000000) : G X (tOp rAddA ta tb) σ H (wsD (ws ++ zs)) := by
  refine g_is (g_cat t ha hb (by rw [List.length_map, List.length_map]; exact hl)) ?_
  rw [← List.map_append]
  rfl
theorem catn_ws {X : Addr → Prop} {ta tb : TE} {σ : L2.St} {H : Hp} {ws zs : List Str} (t : Trk X H) (ha : G X ta σ H (wsD ws)) (hb : G X tb σ H (wsD zs)) (hl : ws.length + zs.length ≤ 1000000) : GN X (tOp rAddA ta tb) σ H (wsD (ws ++ zs)) := by
  refine GN.is (gn_cat t ha hb (by rw [List.length_map, List.length_map]; exact hl)) ?_
  rw [← List.map_append]
  rfl
theorem WsOk.take {ws : List Str} (h : WsOk ws) (n : Nat) : WsOk (ws.take n) := ⟨by rw [List.length_take]; have := h.1; omega, fun z hz => h.2 z (List.mem_of_mem_take hz)⟩
theorem WsOk.drop {ws : List Str} (h : WsOk ws) (n : Nat) : WsOk (ws.drop n) := ⟨by rw [List.length_drop]; have := h.1; omega, fun z hz => h.2 z (List.mem_of_mem_drop hz)⟩

def fitsB (ws : List Str) (p : Int) (os : List Str) : Bool := decide (p ≤ ws.length) && decide ((ws.drop p.toNat).take os.length = os)
/-- a text and a told change -/
def TC (a b : PyData) : Prop := ∃ ws p os ns, a = wsD ws ∧ b = chD p os ns ∧ WsOk ws ∧ WsOk os ∧ WsOk ns ∧ 0 ≤ p
def wsOf (d : PyData) : List Str := (itemsD d).map fun z => match z with | .str s => s | _ => default
theorem wsOf_wsD (ws : List Str) : wsOf (wsD ws) = ws := by
  show (ws.map PyData.str).map _ = ws
  rw [List.map_map]
  exact (List.map_congr_left fun _ _ => rfl).trans (List.map_id ws)
def intOf : PyData → Int
  | .int i => i
  | _ => 0
end K52

namespace KD
open PySem PySem.Spec PyProof.Rows L2
/-! ### own errors with one field -/
def spInit (C : Addr) (f : Str) : Sp := fun vs H Q _ => ∃ (a : Addr) (y : V), vs = [.ref a, y] ∧ H a = some (exo a C none) ∧ ∀ d, H d = none → d ≠ a → Q .non (upd (upd H d (exd d [(f, y)])) a (exo a C (some d)))
structure Ec (P : Program) (w : World) (K : PySem.W.Frag) (mg : Str → Option Value) (base : Heap) (x f : Str) (C : Addr) : Prop where
  gC : mg x = some (.ref C)
  T : OexC K C
  xf : XfC K C
  noF : PySem.W.findIn K (.ref C) f = some none
  ini : ∃ (fI : Addr) (fd : FuncData), PySem.W.findIn K (.ref C) "__init__" = some (some (.ref fI)) ∧ PySem.W.typeIn K (.ref fI) = some (.type "function") ∧ FnOk P w K mg base CX0 1 fI fd ["self", f] (spInit C f) ∧ Binds K fd ["self", f] []
section
variable {P : Program} {w : World} {K : PySem.W.Frag} {mg : Str → Option Value} {base : Heap} {C : Addr} {x f qual : Str} {st : Stmt} {fI : Addr} {fd : FuncData}
theorem ok_initF (F : Fun K "__init__" qual st fI fd) (S : FnScope [("self" : Str), f] [("self" : Str), f] (defScope st)) (T : OexC K C) (hno : PySem.W.findIn K (.ref C) f = some none) {p1 p2 p3 p4 : Pos}
    (hb : defBody st = [.Assign [.Attribute (.Name ("self" : Str) p1) f p2] (.Name f p3) p4]) (v0 : (defScope st).names.lookup ("self" : Str) = some .local) (v1 : (defScope st).names.lookup f = some .local) (hd : (f == ("__debug__" : Str)) = false) (hcd : (f == ("__classdict__" : Str)) = false)
    (hs : ∀ env : Env, swapsWith (.Name f p3) (some (.Attribute (.Name ("self" : Str) p1) f p2)) p4.line env = pure false) : FnOk P w K mg base CX0 1 fI fd ["self", f] (spInit C f) := by
  refine F.ok S (fun vs H Q E h => ?_) (fun cdv A outer s H vs Q E hr h => ?_)
  · obtain ⟨a, y, rfl, _⟩ := h
    rfl
  · obtain ⟨a, y, rfl, ha, k⟩ := h
    refine ⟨_, by
      rw [hb]
      exact pss_one (ps_ost (pe_var (i := 0) rfl (.inl v0) (by decide) (by decide)) (pe_var (i := 1) rfl (.inl v1) hd hcd) (hs _)), ?_⟩
    exact ⟨y, rfl, .ref a, rfl, a, C, rfl, T, hno, .inl ⟨ha, fun d hd hne => k d hd hne⟩⟩
end
inductive Out where
  | val (d : PyData) | err (C : Addr) (f : Str) (d : PyData)
def EndQ (X : Addr → Prop) (H : Hp) (o : Out) (Q : VK) (E : XK) : Prop := (∀ r, o = .val r → ∀ w H', Same H H' → DX X H' w r → Nw H w → Q w H') ∧ (∀ C fl r, o = .err C fl r → ∀ a w H', Same H H' → H' a = some (.xd [(fl, w)]) → DX X H' w r → E (.ref C) (some a) H')
theorem EndQ.mono {X : Addr → Prop} {H H1 : Hp} {o : Out} {Q : VK} {E : XK} (s : Same H H1) (h : EndQ X H o Q E) : EndQ X H1 o Q E := ⟨fun r e w H' k dw nw => h.1 r e w H' (s.trans k) dw (Nw.back s nw), fun C fl r e a w H' k => h.2 C fl r e a w H' (s.trans k)⟩
def spX1 (pre : PyData → Prop) (f : PyData → Out) : Sp := fun vs H Q E => ∃ (X : Addr → Prop) (v : V) (d : PyData), vs = [v] ∧ Trk X H ∧ DX X H v d ∧ pre d ∧ EndQ X H (f d) Q E
def spX2 (pre : PyData → PyData → Prop) (f : PyData → PyData → Out) : Sp := fun vs H Q E => ∃ (X : Addr → Prop) (v1 v2 : V) (d1 d2 : PyData), vs = [v1, v2] ∧ Trk X H ∧ DX X H v1 d1 ∧ DX X H v2 d2 ∧ pre d1 d2 ∧ EndQ X H (f d1 d2) Q E
section
variable {X : Addr → Prop} {σ : L2.St} {H : Hp} {ta tb : TE} {d d1 d2 : PyData} {E : XK} {Γ : List Sv} {D : Ends} {tz : TS}
/-- the reading of «raise C(e)» -/
theorem mk_err {C : Addr} {f : Str} (h : G X ta σ H d) (q : ∀ a w H', Same H H' → H' a = some (.xd [(f, w)]) → DX X H' w d → E (.ref C) (some a) H') : tMkO C (spInit C f) [] (tCons ta tNil) σ H E :=
  h H (Same.refl H) _ fun v H1 s r => ⟨by show 1 ≤ 1000; decide, fun a ha => ⟨a, v, rfl, upd_same, fun dd hd hne => by
    have hd1 : H1 dd = none := by rw [upd_ne hne] at hd; exact hd
    refine ⟨rfl, dd, _, upd_same, by rw [upd_ne hne, upd_same], hd1, q dd v _ (fun b o e => ?_) upd_same (r.mono (Kp.of ?_))⟩
    · have e1 := s b o e
      have hb : b ≠ a := ne_of_none e1 ha
      rw [upd_ne (ne_of_none e1 hd1)]
      show (if b = a then none else _) = some o
      rw [if_neg hb, upd_ne hb, upd_ne (ne_of_none e1 hd1), upd_ne hb]
      exact e1
    · intro b o e1
      have hb : b ≠ a := ne_of_none e1 ha
      rw [upd_ne (ne_of_none e1 hd1)]
      show (if b = a then none else _) = some o
      rw [if_neg hb, upd_ne hb, upd_ne (ne_of_none e1 hd1), upd_ne hb]
      exact e1⟩⟩
/-- a call that may raise -/
theorem c_X1 {pre : PyData → Prop} {f : PyData → Out} {Q : VK} (t : Trk X H) (h : G X ta σ H d) (hp : pre d) (q : EndQ X H (f d) Q E) : tCall (spX1 pre f) [] E (tCons ta tNil) σ H Q :=
  h H (Same.refl H) _ fun v H1 s r => ⟨X, v, d, rfl, t.mono s, r, hp, q.mono s⟩
theorem c_X2 {pre : PyData → PyData → Prop} {f : PyData → PyData → Out} {Q : VK} (t : Trk X H) (h1 : G X ta σ H d1) (h2 : G X tb σ H d2) (hp : pre d1 d2) (q : EndQ X H (f d1 d2) Q E) : tCall (spX2 pre f) [] E (tCons ta (tCons tb tNil)) σ H Q :=
  h1 H (Same.refl H) _ fun v H1 s r => h2 H1 s _ fun v2 H2 s2 r2 => ⟨X, v, v2, d1, d2, rfl, (t.mono s).mono s2, r.mono (Kp.of s2), r2, hp, q.mono (s.trans s2)⟩
theorem q_setX1 {i : Nat} {pre : PyData → Prop} {f : PyData → Out} (En : EnvOk X H σ Γ) (t : Trk X H) (h : G X ta σ H d) (hp : pre d) (k : ∀ r, f d = .val r → ∀ H1 v, Same H H1 → EnvOk X H1 (σ.set i (some v)) (Γ.set i (.dat r)) → tz D (σ.set i (some v)) H1)
    (ke : ∀ C fl r, f d = .err C fl r → ∀ a w H', Same H H' → H' a = some (.xd [(fl, w)]) → DX X H' w r → E (.ref C) (some a) H') : tSeq (tAsg (tCall (spX1 pre f) [] E (tCons ta tNil)) (gName i)) tz D σ H :=
  c_X1 t h hp ⟨fun r e v H1 s dv _ => k r e H1 v s ((En.same s).set dv), ke⟩
theorem gn_X1 {pre : PyData → Prop} {f : PyData → Out} {r : PyData} (t : Trk X H) (h : G X ta σ H d) (hp : pre d) (e : f d = .val r) : GN X (tCall (spX1 pre f) [] E (tCons ta tNil)) σ H r := fun H1 s Q q =>
  c_X1 (t.mono s) (h.mono s) hp ⟨fun r' e' w H' k dw nw => by rw [e] at e'; cases e'; exact q w H' k dw nw, fun C fl r' e' => by rw [e] at e'; cases e'⟩
theorem gn_X2 {pre : PyData → PyData → Prop} {f : PyData → PyData → Out} {r : PyData} (t : Trk X H) (h1 : G X ta σ H d1) (h2 : G X tb σ H d2) (hp : pre d1 d2) (e : f d1 d2 = .val r) : GN X (tCall (spX2 pre f) [] E (tCons ta (tCons tb tNil))) σ H r := fun H1 s Q q =>
  c_X2 (t.mono s) (h1.mono s) (h2.mono s) hp ⟨fun r' e' w H' k dw nw => by rw [e] at e'; cases e'; exact q w H' k dw nw, fun C fl r' e' => by rw [e] at e'; cases e'⟩
/-- .. of which it is known that it doesn't -/
theorem g_X1 {pre : PyData → Prop} {f : PyData → Out} {r : PyData} (t : Trk X H) (h : G X ta σ H d) (hp : pre d) (e : f d = .val r) : G X (tCall (spX1 pre f) [] E (tCons ta tNil)) σ H r := fun H1 s Q q =>
  c_X1 (t.mono s) (h.mono s) hp ⟨fun r' e' w H' k dw _ => by rw [e] at e'; cases e'; exact q w H' k dw, fun C fl r' e' => by rw [e] at e'; cases e'⟩
theorem g_X2 {pre : PyData → PyData → Prop} {f : PyData → PyData → Out} {r : PyData} (t : Trk X H) (h1 : G X ta σ H d1) (h2 : G X tb σ H d2) (hp : pre d1 d2) (e : f d1 d2 = .val r) : G X (tCall (spX2 pre f) [] E (tCons ta (tCons tb tNil))) σ H r := fun H1 s Q q =>
  c_X2 (t.mono s) (h1.mono s) (h2.mono s) hp ⟨fun r' e' w H' k dw _ => by rw [e] at e'; cases e'; exact q w H' k dw, fun C fl r' e' => by rw [e] at e'; cases e'⟩
end
section
variable {P : Program} {w : World} {K : PySem.W.Frag} {mg : Str → Option Value} {base : Heap} {x qual : Str} {st : Stmt} {f : Addr} {fd : FuncData} {N : List Str} {k : Nat} {a b c : Str}
theorem okX1 {pre : PyData → Prop} {g : PyData → Out} (F : Fun K x qual st f fd) (S : FnScope N [a] (defScope st)) (hN : 1 ≤ N.length)
    (hbody : ∀ (cdv : Value) (A : Around) (outer : List Env) (s : Shared) (H : Hp) (E : XK) (X : Addr → Prop) (d : PyData) (Q : VK), Room k (A.deeper (envOfC qual (defScope st) s.heap.objs.size f cdv)) → Trk X H → pre d → EndQ X H (g d) Q E →
      ∃ t, PSs (cxOf (L2.CX P w) P w K mg base N qual (defScope st) f cdv A outer s H E) (defBody st) t ∧ ∀ σ, EnvOk X H σ (pad N [.dat d]) → t { nx := fun _ H' => Q .non H', rt := Q } σ H) : FnOk P w K mg base (L2.CX P w) (k + 1) f fd [a] (spX1 pre g) := by
  refine F.okX S (fun vs H Q E h => ?_) (fun cdv A outer s H vs Q E hr h => ?_)
  · obtain ⟨X, v, d, rfl, _⟩ := h
    rfl
  · obtain ⟨X, v, d, rfl, t, hd, hp, q⟩ := h
    obtain ⟨tt, h1, h2⟩ := hbody cdv A outer s H E X d Q hr t hp q
    exact ⟨tt, h1, h2 _ (env1 hd hN)⟩
theorem okX2 {pre : PyData → PyData → Prop} {g : PyData → PyData → Out} (F : Fun K x qual st f fd) (S : FnScope N [a, b] (defScope st)) (hN : 2 ≤ N.length)
    (hbody : ∀ (cdv : Value) (A : Around) (outer : List Env) (s : Shared) (H : Hp) (E : XK) (X : Addr → Prop) (d1 d2 : PyData) (Q : VK), Room k (A.deeper (envOfC qual (defScope st) s.heap.objs.size f cdv)) → Trk X H → pre d1 d2 → EndQ X H (g d1 d2) Q E →
      ∃ t, PSs (cxOf (L2.CX P w) P w K mg base N qual (defScope st) f cdv A outer s H E) (defBody st) t ∧ ∀ σ, EnvOk X H σ (pad N [.dat d1, .dat d2]) → t { nx := fun _ H' => Q .non H', rt := Q } σ H) : FnOk P w K mg base (L2.CX P w) (k + 1) f fd [a, b] (spX2 pre g) := by
  refine F.okX S (fun vs H Q E h => ?_) (fun cdv A outer s H vs Q E hr h => ?_)
  · obtain ⟨X, v1, v2, d1, d2, rfl, _⟩ := h
    rfl
  · obtain ⟨X, v1, v2, d1, d2, rfl, t, r1, r2, hp, q⟩ := h
    obtain ⟨tt, h1, h2⟩ := hbody cdv A outer s H E X d1 d2 Q hr t hp q
    exact ⟨tt, h1, h2 _ (env2 r1 r2 hN)⟩
end
section
variable {X : Cx} {k j : Nat} {x f : Str} {ps : List Str} {sp : Sp} {e : Expr} {es : List Expr} {p pos pos2 : Pos} {ta : TA} {E : XK} {C : Addr}
/-- a def that may raise, called within one that lets it out -/
theorem pe_ownX (O : Own X.prog X.w X.K X.mg X.base (L2.CX X.prog X.w) k x ps sp) (hr : Room j X.A) (hk : k ≤ j) (tk : Takes X (fun cls d _ H => E cls d H)) (hg : Gl X x) (ha : PA X (e :: es) ta) (hdb : (x == ("__debug__" : Str)) = false := by decide)
    (he : starEach (e :: es) X.env = (false, eval e X.env) :: starEach es X.env := by rfl) (hpl : (backTo pos (starEach es X.env)).any (·.1) = false := by rfl) : PE X (.Call (.Name x p) (e :: es) [] pos) (tCall sp [] E ta) := by
  obtain ⟨g, fd, h1, h2, h3, h4⟩ := O.ex
  exact pe_call h4 (hr.mono hk) hg h1 h2 h3 .nil (passes_call tk fun _ _ _ _ h => h) ha hdb he hpl
/-- raise C(e) -/
theorem ps_err {W : WX} (hc : X.calm = true) (T : Ec X.prog X.w X.K X.mg X.base x f C) (hr : Room j X.A) (hk : 2 ≤ j) (tk : Takes X W) (hg : Gl X x) {ta : TE} (ha : PA X [e] (tCons ta tNil)) (hdb : (x == ("__debug__" : Str)) = false := by decide)
    (he : starEach (e :: []) X.env = (false, eval e X.env) :: starEach [] X.env := by rfl) (hpl : (backTo pos (starEach [] X.env)).any (·.1) = false := by rfl) :
    PS X (.Raise (some (.Call (.Name x p) [e] [] pos)) none pos2) (fun _ σ H => tMkO C (spInit C f) [] (tCons ta tNil) σ H fun cls d H' => W cls d σ H') := by
  obtain ⟨fI, fd, h1, h2, h3, h4⟩ := T.ini
  exact ps_raise hc tk (pmk_oex T.T h1 h2 h3 (hr.mono hk) h4 .nil (pass0) hg T.gC ha hdb he hpl)
end
end KD

namespace K52
open PySem PySem.Spec PyProof.Rows L2 KD
-- RAISES change_of checked_text made_by turned_back
variable {P : Program} {w : World} {K : PySem.W.Frag} {mg : Str → Option Value} {base : Heap}
theorem ffD_none : ∀ {ds : List PyData} {i : Nat}, isNone (ffD i (ds.map fun z => .bool (isWordsD z))) = true → ∀ z ∈ ds, isWordsD z = true
  | [], _, _, z, hz => by cases hz
  | d :: ds, i, h, z, hz => by
    cases e : isWordsD d with
    | false =>
      rw [List.map_cons, e] at h
      simp [ffD, isNone] at h
    | true =>
      rw [List.map_cons, e, ff_true] at h
      rcases List.mem_cons.mp hz with rfl | hm
      · exact e
      · exact ffD_none h z hm
theorem words_str {d : PyData} (h : isWordsD d = true) : ∃ s, d = .str s := by
  cases d <;> first | exact ⟨_, rfl⟩ | cases h
theorem ws_map : ∀ {ds : List PyData}, (∀ z ∈ ds, isWordsD z = true) → ds = (ds.map fun z => match z with | .str s => s | _ => default).map PyData.str
  | [], _ => rfl
  | d :: ds, h => by
    obtain ⟨s, rfl⟩ := words_str (h d List.mem_cons_self)
    rw [List.map_cons, List.map_cons, ← ws_map fun z hz => h z (List.mem_cons_of_mem _ hz)]
theorem ws_of {d : PyData} (h : isNone (wrongD d) = true) : PyData.list (itemsD d) = wsD (wsOf d) := by
  have hs := wrong_seq h
  unfold wrongD at h
  rw [hs] at h
  show PyData.list (itemsD d) = PyData.list ((wsOf d).map PyData.str)
  congr 1
  exact ws_map (ffD_none h)

end K52

/-! The spring of draws. -/
namespace K52
open PySem PySem.Spec PyProof.Rows L2 KD
variable {P : Program} {w : World} {K : PySem.W.Frag} {mg : Str → Option Value} {base : Heap}
/-- the spring at st, its cells at cl: b draws done -/
structure SpAt (st cl : Addr) (ms : List Int) (a b c : Int) (H : Hp) : Prop where
  hs : H st = some (.lst [.ref cl, .int a, .int b, .int c])
  hc : H cl = some (.lst (ms.map V.int))
  ne : st ≠ cl
  a0 : 0 ≤ a
  b0 : 0 ≤ b
  c0 : 0 ≤ c
  c1 : c < 2147483647
  ml : ms.length ≤ 100000
def SpOk (st cl : Addr) (n : Nat) (H : Hp) : Prop := ∃ ms a b c, SpAt st cl ms a b c H ∧ b ≤ (n : Int)
/-- all but the spring stays -/
def KpS (st cl : Addr) (H H' : Hp) : Prop := ∀ a o, a ≠ st → a ≠ cl → H a = some o → H' a = some o
theorem KpS.refl {st cl : Addr} {H : Hp} : KpS st cl H H := fun _ _ _ _ e => e
theorem KpS.trans {st cl : Addr} {H H1 H2 : Hp} (h : KpS st cl H H1) (k : KpS st cl H1 H2) : KpS st cl H H2 := fun a o n m e => k a o n m (h a o n m e)
theorem KpS.of {st cl : Addr} {H H' : Hp} (h : Same H H') : KpS st cl H H' := fun a o _ _ e => h a o e
theorem KpS.kp {X : Addr → Prop} {st cl : Addr} {H H' : Hp} (h : KpS st cl H H') (x1 : X st) (x2 : X cl) : Kp X H H' := fun a o n e => h a o (fun z => n (z ▸ x1)) (fun z => n (z ▸ x2)) e
theorem SpOk.trk {X : Addr → Prop} {st cl : Addr} {n : Nat} {H H' : Hp} (h : SpOk st cl n H') (k : KpS st cl H H') (t : Trk X H) : Trk X H' := fun a x => by
  obtain ⟨ms, a', b, c, S, _⟩ := h
  by_cases h1 : a = st
  · subst h1
    exact ⟨_, S.hs⟩
  · by_cases h2 : a = cl
    · subst h2
      exact ⟨_, S.hc⟩
    · obtain ⟨o, e⟩ := t a x
      exact ⟨o, k a o h1 h2 e⟩
theorem SpAt.same {st cl : Addr} {ms : List Int} {a b c : Int} {H H' : Hp} (S : SpAt st cl ms a b c H) (s : Same H H') : SpAt st cl ms a b c H' := ⟨s _ _ S.hs, s _ _ S.hc, S.ne, S.a0, S.b0, S.c0, S.c1, S.ml⟩
theorem SpOk.same {st cl : Addr} {n : Nat} {H H' : Hp} (h : SpOk st cl n H) (s : Same H H') : SpOk st cl n H' := by
  obtain ⟨ms, a, b, c, S, hb⟩ := h
  exact ⟨ms, a, b, c, S.same s, hb⟩
theorem SpOk.le {st cl : Addr} {n m : Nat} {H : Hp} (h : SpOk st cl n H) (hm : n ≤ m) : SpOk st cl m H := by
  obtain ⟨ms, a, b, c, S, hb⟩ := h
  exact ⟨ms, a, b, c, S, by omega⟩
theorem KpS.put {st cl p : Addr} {H : Hp} {o : HO} (h : p = st ∨ p = cl) : KpS st cl H (upd H p o) := fun a u n m e => by
  rw [upd_ne (fun z => by rcases h with h | h; exact n (z.trans h); exact m (z.trans h))]
  exact e
section
variable {σ : L2.St} {H : Hp} {i : Nat} {p st cl : Addr} {xs : List V} {v : V} {k : Int} {Q : VK} {ms : List Int} {a b c : Int}
theorem ix_at (hv : σ[i]? = some (some (.ref p))) (hp : H p = some (.lst xs)) (hx : atI xs k = some v) (q : Q v H) : tOp (rIx K) (tVar i) (tC (.int k)) σ H Q := ⟨_, hv, .inl ⟨p, xs, k, v, rfl, rfl, SqL.of hp, hx, q⟩⟩
theorem set_at {R : L2.St → Hp → Prop} {j : Nat} (hv : σ[i]? = some (some (.ref p))) (hp : H p = some (.lst xs)) (hx : ixN xs.length k = some j) (q : R σ (upd H p (.lst (xs.set j v)))) : gSub (tVar i) (tC (.int k)) rSetL v σ H R := ⟨_, hv, p, xs, k, j, rfl, rfl, hp, hx, q⟩
theorem op2 {r : R2} {ta tb : TE} (h : ta σ H fun x H1 => tb σ H1 fun y H2 => r x y H2 Q) : tOp r ta tb σ H Q := h
theorem SpAt.put1 (S : SpAt st cl ms a b c H) {z : Int} (h : 0 ≤ z) : SpAt st cl ms z b c (upd H st (.lst [.ref cl, .int z, .int b, .int c])) := ⟨upd_same, by rw [upd_ne (Ne.symm S.ne)]; exact S.hc, S.ne, h, S.b0, S.c0, S.c1, S.ml⟩
theorem SpAt.put2 (S : SpAt st cl ms a b c H) {z : Int} (h : 0 ≤ z) : SpAt st cl ms a z c (upd H st (.lst [.ref cl, .int a, .int z, .int c])) := ⟨upd_same, by rw [upd_ne (Ne.symm S.ne)]; exact S.hc, S.ne, S.a0, h, S.c0, S.c1, S.ml⟩
theorem SpAt.put3 (S : SpAt st cl ms a b c H) {z : Int} (h : 0 ≤ z) (h2 : z < 2147483647) : SpAt st cl ms a b z (upd H st (.lst [.ref cl, .int a, .int b, .int z])) := ⟨upd_same, by rw [upd_ne (Ne.symm S.ne)]; exact S.hc, S.ne, S.a0, S.b0, h, h2, S.ml⟩
theorem SpAt.pop (S : SpAt st cl ms a b c H) {m : Int} {r : List Int} (e : ms = m :: r) : SpAt st cl r a b c (upd H cl (.lst (r.map V.int))) := ⟨by rw [upd_ne S.ne]; exact S.hs, upd_same, S.ne, S.a0, S.b0, S.c0, S.c1, by have := S.ml; rw [e, List.length_cons] at this; omega⟩
end
theorem dp_ints {H : Hp} : ∀ ms : List Int, DpAll K H (ms.map V.int) (ms.map PyData.int)
  | [] => .nil
  | m :: r => .cons (.int m) (dp_ints r)
theorem canLay_ints : ∀ ms : List Int, PyData.canLayAll0 (ms.map PyData.int) = true
  | [] => by simp [PyData.canLayAll0]
  | m :: r => by simp [PyData.canLayAll0, PyData.canLay0, canLay_ints r]
theorem depth_ints : ∀ ms : List Int, PyData.depthAll (ms.map PyData.int) ≤ 1
  | [] => by simp [PyData.depthAll]
  | m :: r => by
    have := depth_ints r
    simp only [List.map_cons, PyData.depthAll, PyData.depth]
    omega
theorem shaped_ints (ms : List Int) : SeqAt.shaped (.list (ms.map PyData.int)) = true := by
  have := depth_ints ms
  have h2 : PyData.depth (.list (ms.map PyData.int)) ≤ 64 := by
    simp only [PyData.depth]
    omega
  show ((PyData.list (ms.map PyData.int)).canLay0 && decide ((PyData.list (ms.map PyData.int)).depth ≤ 64)) = true
  rw [Bool.and_eq_true]
  exact ⟨by simp only [PyData.canLay0]; exact canLay_ints ms, decide_eq_true h2⟩

abbrev s__law_start : Stmt := topS 33
abbrev n__law_start : List Str := ["_law_script"]
theorem sc__law_start : FnScope n__law_start ["_law_script"] (defScope s__law_start) := ⟨rfl, rfl, rfl, by decide +kernel, rfl, by decide +kernel, by decide +kernel⟩
def spStart (K : PySem.W.Frag) : Sp := fun vs H Q _ => ∃ (a : Addr) (ns : List Int), vs = [.ref a] ∧ SqL K H a (ns.map V.int) ∧ ns.length ≤ 63 ∧ ∀ st cl H', Same H H' → H st = none → H cl = none → SpOk st cl 0 H' → Q (.ref st) H'
theorem ok_start {f : Addr} {fd : FuncData} (F : Fun K "_law_start" "_law_start" s__law_start f fd) (T : Bl mg) : FnOk P w K mg base CX0 1 f fd ["_law_script"] (spStart K) := by
  refine F.ok sc__law_start (fun vs H Q E h => ?_) (fun cdv A outer s H vs Q E hr h => ?_)
  · obtain ⟨a, ns, rfl, _⟩ := h
    rfl
  · obtain ⟨a, ns, rfl, hS, hl, k⟩ := h
    refine ⟨_, (pss_one (ps_ret (pe_lst (pa_cons (pe_callTy call_list_of (by rfl) T.b_list boot_list (pa_cons (pv 0) pa_nil)) (pa_cons pe_int (pa_cons pe_int (pa_cons pe_int pa_nil))))))), ?_⟩
    refine ⟨_, rfl, a, _, rfl, .inl hS, fun cl hcl => ⟨by show 4 ≤ sizeLine; decide, fun st hst => ?_⟩⟩
    have hst0 : H st = none := (Same.upd hcl).free hst
    have ne : st ≠ cl := fun e => by
      rw [e, upd_same] at hst
      cases hst
    refine k st cl _ ((Same.upd hcl).trans (Same.upd hst)) hst0 hcl ⟨ns, 0, 0, 11, ⟨upd_same, by rw [upd_ne (Ne.symm ne)]; exact upd_same, ne, by omega, by omega, by omega, by omega, by omega⟩, by omega⟩

abbrev s__law_draw : Stmt := topS 34
abbrev n__law_draw : List Str := ["_law_stream", "_law_many", "_law_cell", "_law_digit", "_law_mixed_here"]
theorem sc__law_draw : FnScope n__law_draw ["_law_stream", "_law_many"] (defScope s__law_draw) := ⟨rfl, rfl, rfl, by decide +kernel, rfl, by decide +kernel, by decide +kernel⟩
def spDraw : Sp := fun vs H Q _ => ∃ (st cl : Addr) (n : Nat) (m : Int), vs = [.ref st, .int m] ∧ SpOk st cl n H ∧ n ≤ 1000000000 ∧ 0 < m ∧ m < 1000000 ∧ ∀ i H', 0 ≤ i → i < m → KpS st cl H H' → SpOk st cl (n + 1) H' → Q (.int i) H'
def lenAt (cl : Addr) (H : Hp) : Nat := match H cl with
  | some (.lst xs) => xs.length
  | _ => 0
theorem ok_draw {f : Addr} {fd : FuncData} (F : Fun K "_law_draw" "_law_draw" s__law_draw f fd) (T : Bl mg) : FnOk P w K mg base CX0 1 f fd ["_law_stream", "_law_many"] spDraw := by
  refine F.ok sc__law_draw (fun vs H Q E h => ?_) (fun cdv A outer s H vs Q E hr h => ?_)
  · obtain ⟨st, cl, n, m, rfl, _⟩ := h
    rfl
  · obtain ⟨st, cl, n, m, rfl, ⟨ms, a, b, c, S, hbn⟩, hn, hm, hm2, k⟩ := h
    refine ⟨_, (pss_cons (ps_asg (pe_op op_addA (pe_ix ix_seq (pv 0) pe_int (fun _ _ => rfl)) pe_int) (pg_sub (pv 0) pe_int set_list))
    (Evl.pss_cut (ps_while PassesOwn.never (PW.pt (pw_and (pt_cmpR (op_eqD hr.units) (pe_ix ix_seq (pv 0) pe_int (fun _ _ => rfl)) pe_int (nomark _)) (pw_and1 (pt_cmpR (op_neD hr.units) (pe_ix ix_seq (pv 0) pe_int (fun _ _ => rfl)) (pe_lst pa_nil) (nomark _)))))
    (pss_cons (ps_set (i := 2) sc__law_draw.nd rfl (by first | exact Or.inl rfl | exact Or.inr rfl) (pe_bm PySem.F.plainAttrs_list PySem.F.slot_list_pop PySem.F.type_list_pop mt_popAt (pe_ix ix_seq (pv 0) pe_int (fun _ _ => rfl)) (pa_cons pe_int pa_nil)))
    (pss_cons (ps_asg (pe_op op_mod (pe_callTy call_int1 (by rfl) T.b_int boot_int (pa_cons (pe_op op_addA (pe_op op_addA (pe_op op_mulA (pe_ix ix_seq (pv 0) pe_int (fun _ _ => rfl)) pe_int) (pv 2)) pe_int) pa_nil)) pe_int) (pg_sub (pv 0) pe_int set_list))
    (pss_one (ps_asg (pe_ifExp (pt_cmpR op_ge (pv 2) (pe_op op_pow pe_int pe_int) (nomark _)) (pv 2) pe_int) (pg_sub (pv 0) pe_int set_list))))))
    (pss_cons (ps_if (pt_cmpR op_gt (pe_ix ix_seq (pv 0) pe_int (fun _ _ => rfl)) pe_int (nomark _))
    (pss_cons (ps_set (i := 3) sc__law_draw.nd rfl (by first | exact Or.inl rfl | exact Or.inr rfl) (pe_op op_mod (pe_callTy call_int1 (by rfl) T.b_int boot_int (pa_cons (pe_ix ix_seq (pv 0) pe_int (fun _ _ => rfl)) pa_nil)) (pv 1)))
    (pss_cons (ps_asg (pe_op op_fdiv (pe_ix ix_seq (pv 0) pe_int (fun _ _ => rfl)) (pv 1)) (pg_sub (pv 0) pe_int set_list))
    (pss_one (ps_ret (pv 3))))) pss_nil)
    (pss_cons (ps_set (i := 4) sc__law_draw.nd rfl (by first | exact Or.inl rfl | exact Or.inr rfl) (pe_op op_mod (pe_callTy call_int1 (by rfl) T.b_int boot_int (pa_cons (pe_op op_pow (pe_op op_addA (pe_op op_addA (pe_ix ix_seq (pv 0) pe_int (fun _ _ => rfl)) (pe_op op_mulA pe_int (pe_ix ix_seq (pv 0) pe_int (fun _ _ => rfl)))) pe_int) pe_int) pa_nil)) pe_int))
    (pss_one (ps_ret (pe_op op_mod (pe_op op_mod (pe_callTy call_int1 (by rfl) T.b_int boot_int (pa_cons (pe_op op_pow (pe_op op_addA (pe_op op_addA (pe_op op_mulA (pv 4) pe_int) (pe_op op_mulA pe_int (pe_ix ix_seq (pv 0) pe_int (fun _ _ => rfl)))) pe_int) pe_int) pa_nil)) pe_int) (pv 1)))))))), ?_⟩
    -- stream[2] = stream[2] + 1
    refine ix_at (i := 0) rfl S.hs (v := .int b) rfl ?_
    refine .inl ⟨b, 1, rfl, rfl, ?_⟩
    refine set_at (i := 0) (j := 2) rfl S.hs rfl ?_
    have S1 : SpAt st cl ms a (b + 1) c (upd H st (.lst [.ref cl, .int a, .int (b + 1), .int c])) := S.put2 (by have := S.b0; omega)
    have k1 : KpS st cl H (upd H st (.lst [.ref cl, .int a, .int (b + 1), .int c])) := KpS.put (.inl rfl)
    -- the loop
    refine ⟨fun σ H' => ∃ ms' a' c' x, σ = [some (.ref st), some (.int m), x, none, none] ∧ SpAt st cl ms' a' (b + 1) c' H' ∧ KpS st cl H H',
      ⟨fun l σ H' => ∃ ms' a' c' x, l = ms'.length ∧ σ = [some (.ref st), some (.int m), x, none, none] ∧ SpAt st cl ms' a' (b + 1) c' H' ∧ KpS st cl H H', ⟨ms.length, ms, a, c, none, rfl, rfl, S1, k1⟩, ?_⟩, ?_⟩
    · rintro l σ H1 ⟨ms1, a1, c1, x1, rfl, rfl, S2, k2⟩
      refine ix_at (i := 0) rfl S2.hs (v := .int a1) rfl ?_
      refine ⟨.int a1, .int 0, .int _, .int _, shaped_int _, shaped_int _, _, rfl, ?_⟩
      rw [eqv_int]
      by_cases ha : a1 = 0
      · rw [decide_eq_true ha]
        refine iteT ?_
        refine ix_at (i := 0) rfl S2.hs (v := .ref cl) rfl ?_
        refine ⟨by show 0 ≤ sizeLine; decide, fun p hp => ?_⟩
        have S3 := S2.same (Same.upd (o := .lst []) hp)
        refine ⟨.list (ms1.map .int), .list [], .lst (SqL.of S3.hc) (dp_ints ms1), .lst (SqL.of upd_same) .nil, shaped_ints ms1, shaped_ints [], _, rfl, ?_⟩
        have k3 : KpS st cl H (upd H1 p (.lst [])) := k2.trans (KpS.of (Same.upd hp))
        cases ms1 with
        | nil =>
          refine iteF ?_
          exact ⟨[], a1, c1, x1, rfl, S3, k3⟩
        | cons m1 r1 =>
          refine iteT ?_
          refine ⟨fun σ H' => ∃ a' c' x, σ = [some (.ref st), some (.int m), x, none, none] ∧ SpAt st cl r1 a' (b + 1) c' H' ∧ KpS st cl H H', fun σ' H' ⟨a', c', x, e, S', k'⟩ => ⟨r1.length, Nat.lt_succ_self _, r1, a', c', x, rfl, e, S', k'⟩, ?_⟩
          -- cell = stream[0].pop(0)
          refine ix_at (i := 0) rfl S3.hs (v := .ref cl) rfl ?_
          refine ⟨.inl ⟨rfl, _, SqL.of S3.hc⟩, cl, _, 0, 0, .int m1, rfl, rfl, S3.hc, by decide, by decide, (by simp [seqIndex?]), rfl, ?_⟩
          have S4 := S3.pop rfl
          have k4 := k3.trans (KpS.put (H := upd H1 p (.lst [])) (o := .lst (r1.map V.int)) (st := st) (.inr rfl))
          -- stream[3] = int(stream[3] * 8191 + cell + 3) % 2147483647
          refine ix_at (i := 0) rfl S4.hs (v := .int c1) rfl ?_
          refine .inl ⟨c1, 8191, rfl, rfl, .inr ⟨by decide, by decide⟩, ?_⟩
          refine ⟨.int m1, rfl, .inl ⟨_, _, rfl, rfl, ?_⟩⟩
          refine .inl ⟨_, _, rfl, rfl, ?_⟩
          refine .inl ⟨_, rfl, ?_⟩
          refine ⟨_, _, rfl, rfl, (by decide : (0 : Int) < 2147483647), ?_⟩
          refine set_at (i := 0) (j := 3) rfl S4.hs rfl ?_
          have S5 := S4.put3 (z := (c1 * 8191 + m1 + 3) % 2147483647) (Int.emod_nonneg _ (by decide)) (Int.emod_lt_of_pos _ (by decide))
          have k5 := k4.trans (KpS.put (H := upd (upd H1 p (.lst [])) cl (.lst (r1.map V.int))) (o := .lst [.ref cl, .int a1, .int (b + 1), .int ((c1 * 8191 + m1 + 3) % 2147483647)]) (st := st) (cl := cl) (.inl rfl))
          -- stream[1] = cell if cell >= 10 ** 18 else 0
          refine ⟨.int m1, rfl, ?_⟩
          refine ⟨10, 18, rfl, rfl, ⟨by decide, by decide, by decide⟩, ?_⟩
          refine ⟨_, _, rfl, rfl, _, rfl, ?_⟩
          by_cases hg : (10 : Int) ^ (18 : Int).toNat ≤ m1
          · rw [decide_eq_true hg]
            refine iteT ?_
            refine ⟨.int m1, rfl, ?_⟩
            refine set_at (i := 0) (j := 1) rfl S5.hs rfl ?_
            exact ⟨m1, _, _, rfl, S5.put1 (Int.le_trans (by decide) hg), k5.trans (KpS.put (.inl rfl))⟩
          · rw [decide_eq_false hg]
            refine iteF ?_
            refine set_at (i := 0) (j := 1) rfl S5.hs rfl ?_
            exact ⟨0, _, _, rfl, S5.put1 (by decide), k5.trans (KpS.put (.inl rfl))⟩
      · rw [decide_eq_false ha]
        refine iteF ?_
        refine iteF ?_
        exact ⟨ms1, a1, c1, x1, rfl, S2, k2⟩
    · rintro σ H1 ⟨ms1, a1, c1, x1, rfl, S2, k2⟩
      -- if stream[1] > 0
      refine ix_at (i := 0) rfl S2.hs (v := .int a1) rfl ?_
      refine ⟨a1, 0, rfl, rfl, _, rfl, ?_⟩
      by_cases ha : 0 < a1
      · rw [decide_eq_true ha]
        refine iteT ?_
        refine ix_at (i := 0) rfl S2.hs (v := .int a1) rfl ?_
        refine .inl ⟨a1, rfl, ?_⟩
        refine ⟨.int m, rfl, a1, m, rfl, rfl, hm, ?_⟩
        refine ix_at (i := 0) rfl S2.hs (v := .int a1) rfl ?_
        refine ⟨.int m, rfl, a1, m, rfl, rfl, ⟨hm, by omega⟩, ?_⟩
        refine set_at (i := 0) (j := 1) rfl S2.hs rfl ?_
        refine ⟨.int (a1 % m), rfl, ?_⟩
        exact k _ _ (Int.emod_nonneg _ (by omega)) (Int.emod_lt_of_pos _ hm) (k2.trans (KpS.put (.inl rfl))) ⟨ms1, _, _, _, S2.put1 (Int.ediv_nonneg (by omega) (by omega)), by omega⟩
      · rw [decide_eq_false ha]
        refine iteF ?_
        -- mixed
        refine ix_at (i := 0) rfl S2.hs (v := .int c1) rfl ?_
        refine ix_at (i := 0) rfl S2.hs (v := .int (b + 1)) rfl ?_
        refine .inl ⟨7919, b + 1, rfl, rfl, .inl ⟨by decide, by decide⟩, ?_⟩
        refine .inl ⟨_, _, rfl, rfl, ?_⟩
        refine .inl ⟨_, _, rfl, rfl, ?_⟩
        have c0 := S2.c0
        have c1' := S2.c1
        have b0 := S.b0
        refine ⟨_, 5, rfl, rfl, ⟨by decide, by decide, by omega⟩, ?_⟩
        refine .inl ⟨_, rfl, ?_⟩
        refine ⟨_, _, rfl, rfl, (by decide : (0 : Int) < 2147483629), ?_⟩
        show gName 4 (V.int ((c1 + 7919 * (b + 1) + 104729) ^ (5 : Int).toNat % 2147483629)) _ _ _
        generalize hx : (c1 + 7919 * (b + 1) + 104729) ^ (5 : Int).toNat % 2147483629 = x
        have x0 : 0 ≤ x := by rw [← hx]; exact Int.emod_nonneg _ (by decide)
        have x1' : x < 2147483629 := by rw [← hx]; exact Int.emod_lt_of_pos _ (by decide)
        refine ⟨.int x, rfl, .inl ⟨x, 48271, rfl, rfl, .inr ⟨by decide, by decide⟩, ?_⟩⟩
        refine ix_at (i := 0) rfl S2.hs (v := .int (b + 1)) rfl ?_
        refine .inl ⟨30011, b + 1, rfl, rfl, .inl ⟨by decide, by decide⟩, ?_⟩
        refine .inl ⟨_, _, rfl, rfl, ?_⟩
        refine .inl ⟨_, _, rfl, rfl, ?_⟩
        refine ⟨_, 3, rfl, rfl, ⟨by decide, by decide, by omega⟩, ?_⟩
        refine .inl ⟨_, rfl, ?_⟩
        refine ⟨_, _, rfl, rfl, (by decide : (0 : Int) < 1000000007), ?_⟩
        refine ⟨.int m, rfl, _, m, rfl, rfl, hm, ?_⟩
        exact k _ _ (Int.emod_nonneg _ (by omega)) (Int.emod_lt_of_pos _ hm) k2 ⟨ms1, _, _, _, S2, by omega⟩
end K52

/-! Draws over data. -/
namespace K52
-- HINT _law_mixed lcte tBM K "list" rPopAt (tVar 2) (tCons (tCall spDraw [] E0 (tCons (tVar 0) (tCons (tCB (fun xs H Q => ∃ x n, xs = [x] ∧ LenV K x H n ∧ Q (V.int n) H) (tCons (tVar 2) tNil)) tNil))) tNil)
open PySem PySem.Spec PyProof.Rows L2 KD
variable {P : Program} {w : World} {K : PySem.W.Frag} {mg : Str → Option Value} {base : Heap}
/-- the spring stands apart from the data -/
structure Sg (X : Addr → Prop) (st cl : Addr) (n : Nat) (H : Hp) : Prop where
  ok : SpOk st cl n H
  x1 : X st
  x2 : X cl
  t : Trk X H
section
variable {X X' : Addr → Prop} {st cl p : Addr} {n m : Nat} {H H' : Hp} {σ : L2.St} {Γ : List Sv}
theorem Sg.same (S : Sg X st cl n H) (s : Same H H') : Sg X st cl n H' := ⟨S.ok.same s, S.x1, S.x2, S.t.mono s⟩
theorem Sg.step (S : Sg X st cl n H) (k : KpS st cl H H') (o : SpOk st cl m H') : Sg X st cl m H' := ⟨o, S.x1, S.x2, o.trk k S.t⟩
theorem Sg.le (S : Sg X st cl n H) (h : n ≤ m) : Sg X st cl m H := ⟨S.ok.le h, S.x1, S.x2, S.t⟩
theorem Sg.kp (S : Sg X st cl n H) (k : KpS st cl H H') : Kp X H H' := k.kp S.x1 S.x2
theorem Sg.more (S : Sg X st cl n H) (m : More X X' H) (t : Trk X' H) : Sg X' st cl n H := ⟨S.ok, m.1 _ S.x1, m.1 _ S.x2, t⟩
theorem Sg.ne1 (S : Sg X st cl n H) (h : H p = none) : p ≠ st := fun e => S.t.new h (e ▸ S.x1)
theorem Sg.ne2 (S : Sg X st cl n H) (h : H p = none) : p ≠ cl := fun e => S.t.new h (e ▸ S.x2)
theorem SpOk.put {o : HO} (h : SpOk st cl n H) (h1 : p ≠ st) (h2 : p ≠ cl) : SpOk st cl n (upd H p o) := by
  obtain ⟨ms, a, b, c, S, hb⟩ := h
  exact ⟨ms, a, b, c, ⟨by rw [upd_ne (Ne.symm h1)]; exact S.hs, by rw [upd_ne (Ne.symm h2)]; exact S.hc, S.ne, S.a0, S.b0, S.c0, S.c1, S.ml⟩, hb⟩
theorem Sg.put {o : HO} (S : Sg X st cl n H) (h1 : p ≠ st) (h2 : p ≠ cl) : Sg X st cl n (upd H p o) := ⟨S.ok.put h1 h2, S.x1, S.x2, S.t.put⟩
theorem _root_.KD.EnvOk.kps (E : EnvOk X H σ Γ) (S : Sg X st cl n H) (k : KpS st cl H H') : EnvOk X H' σ Γ := E.mono (S.kp k)
end
section
variable {σ : L2.St} {H : Hp} {te ta tb : TE} {D : Ends} {r : R2} {Q : VK} {g : TG} {tz : TS} {tt : TT} {tl : TA}
theorem k_ret (h : te σ H D.rt) : tRet te D σ H := h
theorem k_op (h : ta σ H fun x H1 => tb σ H1 fun y H2 => r x y H2 Q) : tOp r ta tb σ H Q := h
theorem k_set {i : Nat} (h : te σ H fun v H1 => tz D (σ.set i (some v)) H1) : tSeq (tAsg te (gName i)) tz D σ H := h
theorem k_asg (h : te σ H fun v H1 => g v σ H1 fun σ2 H2 => tz D σ2 H2) : tSeq (tAsg te g) tz D σ H := h
theorem k_yes {A B : Hp → Prop} (h : A H) : tYes σ H fun b H3 => if b = true then A H3 else B H3 := by
  show (if true = true then A H else B H)
  rw [if_pos rfl]
  exact h
theorem k_lcR {ta : TA} {us : List Nat} (h : ta σ H fun vs H1 => ∃ j : Int, vs = [.int j] ∧ -(2 ^ 62) ≤ j ∧ j < 2 ^ 62 ∧ tLc (fun _ H2 R => R (Itr 0 j.toNat) H2) g tt te us σ H1 Q) : tLc (iRng1 ta) g tt te us σ H Q := h
theorem k_cb {rr : List V → Hp → VK → Prop} (h : tl σ H fun vs H1 => rr vs H1 Q) : tCB rr tl σ H Q := h
theorem k_cons {Qa : List V → Hp → Prop} (h : te σ H fun v H1 => tl σ H1 fun vs H2 => Qa (v :: vs) H2) : tCons te tl σ H Qa := h
theorem k_par {i j : Nat} (h : ta σ H fun x H1 => tb σ H1 fun y H2 => ∃ v w, [x, y] = [v, w] ∧ tz D ((σ.set i (some v)).set j (some w)) H2) : tSeq (tPar i j (tCons ta (tCons tb tNil))) tz D σ H := h
end
theorem at_nat {ds : List PyData} {i : Int} (h0 : 0 ≤ i) (hj : i.toNat < ds.length) : atI ds i = some ds[i.toNat] := by
  unfold atI
  have e : ixN ds.length i = some i.toNat := by
    have h := Evl.ixN_nat hj
    rw [show ((i.toNat : Nat) : Int) = i from by omega] at h
    exact h
  rw [e]
  show ds[i.toNat]? = some _
  rw [List.getElem?_eq_getElem hj]
theorem seqIx_nat {i : Int} {n : Nat} (h0 : 0 ≤ i) (h1 : i.toNat < n) : seqIndex? i n = some i.toNat := by
  unfold seqIndex?
  have h : ¬ i < 0 := by omega
  have h2 : (decide (0 ≤ i) && decide (i < (n : Int))) = true := by
    rw [Bool.and_eq_true]
    exact ⟨decide_eq_true h0, decide_eq_true (by omega)⟩
  simp only [if_neg h]
  rw [if_pos h2]
theorem erase_perm {α : Type} : ∀ (l : List α) (i : Nat) (h : i < l.length), (l[i] :: l.eraseIdx i).Perm l
  | a :: l, 0, _ => List.Perm.refl _
  | a :: l, i + 1, h => (List.Perm.swap _ _ _).trans ((erase_perm l i (by simpa using h)).cons a)
/-- a draw -/
theorem c_draw {X : Addr → Prop} {st cl : Addr} {n : Nat} {H : Hp} {σ : L2.St} {ts tm : TE} {E : XK} {m : Int} {Q : VK} (S : Sg X st cl n H) (hv : GV ts σ H (.ref st)) (hm : G X tm σ H (.int m)) (hn : n ≤ 1000000000) (h0 : 0 < m) (h1 : m < 1000000)
    (k : ∀ i H', 0 ≤ i → i < m → Sg X st cl (n + 1) H' → KpS st cl H H' → Q (.int i) H') : tCall spDraw [] E (tCons ts (tCons tm tNil)) σ H Q :=
  hv H (Same.refl H) _ (hm H (Same.refl H) _ fun v H1 s1 r => ⟨st, cl, n, m, by rw [r.int_inv]; rfl, S.ok.same s1, hn, h0, h1, fun i H' i0 i1 kk so => k i H' i0 i1 ((S.same s1).step kk so) ((KpS.of s1).trans kk)⟩)
abbrev s__law_pick : Stmt := topS 35
abbrev n__law_pick : List Str := ["_law_stream", "_law_some"]
theorem sc__law_pick : FnScope n__law_pick ["_law_stream", "_law_some"] (defScope s__law_pick) := ⟨rfl, rfl, rfl, by decide +kernel, rfl, by decide +kernel, by decide +kernel⟩
def spPick : Sp := fun vs H Q _ => ∃ (X : Addr → Prop) (st cl : Addr) (n : Nat) (v : V) (ds : List PyData), vs = [.ref st, v] ∧ Sg X st cl n H ∧ n ≤ 1000000000 ∧ DX X H v (.list ds) ∧ 0 < ds.length ∧ ds.length < 1000000 ∧
  ∀ w d H', d ∈ ds → Sg X st cl (n + 1) H' → KpS st cl H H' → DX X H' w d → Q w H'
theorem ok_pick {f : Addr} {fd : FuncData} (F : Fun K "_law_pick" "_law_pick" s__law_pick f fd) (T : Bl mg) (O__law_draw : Own P w K mg base CX0 1 "_law_draw" ["_law_stream", "_law_many"] spDraw) : FnOk P w K mg base CX0 2 f fd ["_law_stream", "_law_some"] spPick := by
  refine F.ok sc__law_pick (fun vs H Q E h => ?_) (fun cdv A outer s H vs Q E hr h => ?_)
  · obtain ⟨X, st, cl, n, v, ds, rfl, _⟩ := h
    rfl
  · obtain ⟨X, st, cl, n, v, ds, rfl, S, hn, hd, h0, h1, k⟩ := h
    refine ⟨_, (pss_one (ps_ret (pe_ix ix_seq (pv 1) (pe_own O__law_draw hr (by decide) (by rfl) (pa_cons (pv 0) (pa_cons (pe_callB call_len (by rfl) T.b_len boot_len (pa_cons (pv 1) pa_nil)) pa_nil))) (fun _ _ => rfl)))), ?_⟩
    have En : EnvOk X H (L2.start n__law_pick [.ref st, v]) [.val (.ref st), .dat (.list ds)] := ⟨rfl, fun i s e => by
      match i, e with
      | 0, e => cases e; rfl
      | 1, e => cases e; exact ⟨_, rfl, hd⟩⟩
    refine k_ret (k_op (g_var (i := 1) En rfl H (Same.refl H) _ fun v1 H1 s1 r1 => ?_))
    refine c_draw (S.same s1) (gv_var (En.same s1) rfl) (g_len (S.t.mono s1) (g_var (En.same s1) rfl) rfl) hn (by show 0 < (ds.length : Int); omega) (by show (ds.length : Int) < 1000000; omega) fun i H' i0 i1 S2 k2 => ?_
    have i1 : i < (ds.length : Int) := i1
    have hj : i.toNat < ds.length := by omega
    refine rd_ixL (z := ds[i.toNat]) (at_nat (by omega) hj) H' v1 (.int i) S2.t (r1.mono ((S.same s1).kp k2)) (.int i) _ fun w2 H2 s2 dw => ?_
    exact k w2 _ H2 (List.getElem_mem _) (S2.same s2) (((KpS.of s1).trans k2).trans (KpS.of s2)) dw
theorem c_pick {X : Addr → Prop} {st cl : Addr} {n : Nat} {H : Hp} {σ : L2.St} {ts tm : TE} {E : XK} {ds : List PyData} {Q : VK} (S : Sg X st cl n H) (hv : GV ts σ H (.ref st)) (hm : G X tm σ H (.list ds)) (hn : n ≤ 1000000000) (h0 : 0 < ds.length) (h1 : ds.length < 1000000)
    (k : ∀ w d H', d ∈ ds → Sg X st cl (n + 1) H' → KpS st cl H H' → DX X H' w d → Q w H') : tCall spPick [] E (tCons ts (tCons tm tNil)) σ H Q :=
  hv H (Same.refl H) _ (hm H (Same.refl H) _ fun v H1 s1 r => ⟨X, st, cl, n, v, ds, rfl, S.same s1, hn, r, h0, h1, fun w d H' hd S2 kk dw => k w d H' hd S2 ((KpS.of s1).trans kk) dw⟩)
/-- some things drawn one after the other into a new list -/
theorem lc_draws {X : Addr → Prop} {st cl : Addr} {n : Nat} {H : Hp} {σ : L2.St} {Γ : List Sv} {te : TE} {i m : Nat} {Q : VK} (pr : PyData → Prop) (S : Sg X st cl n H) (En : EnvOk X H σ Γ) (hm : m ≤ 100000)
    (he : ∀ X' H1 σ2 k Q1, k < m → EnvOk X' H1 σ2 ((Γ.set i .un).set i (.dat (.int (k : Nat)))) → Sg X' st cl (n + k) H1 → (∀ w d H', pr d → Sg X' st cl (n + k + 1) H' → KpS st cl H1 H' → DX X' H' w d → Q1 w H') → te σ2 H1 Q1)
    (q : ∀ w ds H', ds.length = m → (∀ d ∈ ds, pr d) → Sg X st cl (n + m) H' → KpS st cl H H' → DX X H' w (.list ds) → Nw H w → Q w H') : tLc (fun σ H R => R (Itr 0 m) H) (gName i) tYes te [i] σ H Q := by
  intro D hD
  have m2 : More X (fun a => X a ∨ a = D) H := More.one hD
  have d1 := S.ne1 hD
  have d2 := S.ne2 hD
  obtain ⟨Gd, Y, w1, w2⟩ := walkD_range (X := X) (H := H) (lo := 0) (n := m)
  rw [rangeD_len] at w1
  have key : ∀ H3, Kp (fun a => X a ∨ a = D) H H3 ∧ Trk (fun a => X a ∨ a = D) H3 → Gd H3 := fun H3 p => (w2 _ m2.2 H3 p.1 p.2).1
  let I : Nat → Hp → Prop := fun k H3 => KpS st cl H H3 ∧ Sg (fun a => X a ∨ a = D) st cl (n + k) H3 ∧ ∃ acc ds, H3 D = some (.lst acc) ∧ DXs (fun a => X a ∨ a = D) H3 acc ds ∧ ds.length = k ∧ ∀ d ∈ ds, pr d
  have ik : ∀ {k H3}, I k H3 → Kp (fun a => X a ∨ a = D) H H3 ∧ Trk (fun a => X a ∨ a = D) H3 := fun {k H3} p => ⟨p.1.kp (.inl S.x1) (.inl S.x2), p.2.1.t⟩
  refine lc_it w1 I ?_ (fun i H3 _ p => key H3 (ik p)) ?_ ?_
  · exact ⟨KpS.of (Same.upd hD), ⟨(S.ok).same (Same.upd hD), .inl S.x1, .inl S.x2, S.t.one hD⟩, [], [], upd_same, .nil, rfl, fun d h => by cases h⟩
  · rintro k x H3 H4 hk p y
    obtain ⟨s4, d, hd, dx⟩ := (w2 _ m2.2 H3 (ik p).1 (ik p).2).2 k x H4 y
    obtain ⟨p1, p2, acc, ds, p3, p4, p5, p6⟩ := p
    rw [rangeD_get hk] at hd
    cases hd
    have S4 := p2.same s4
    have k4 : Kp (fun a => X a ∨ a = D) H H4 := (p1.kp (.inl S.x1) (.inl S.x2)).trans (Kp.of s4)
    refine tgt_name (X := X) (i := i) En _ H4 m2 k4 S4.t x dx _ fun σ2 E2 hw => ⟨hw, ?_⟩
    refine k_yes ?_
    rw [show (0 : Int) + (k : Int) = (k : Nat) from by omega] at E2
    refine he _ H4 σ2 k _ hk E2 S4 fun w d H5 hp S5 k5 dw => ?_
    refine ⟨acc, k5 D _ d1 d2 (s4 D _ p3), by rw [p4.length, p5, sizeLine_eq]; omega, ?_, ?_, acc ++ [w], ds ++ [d], upd_same, ?_, by rw [List.length_append, p5]; rfl, fun z hz => ?_⟩
    · exact fun a o n1 n2 e => by
        have := k5 a o n1 n2 (s4 a _ (p1 a o n1 n2 e))
        rw [upd_ne (ne_of_none e hD)]
        exact this
    · exact S5.put d1 d2
    · exact (((p4.mono (Kp.of s4)).mono (S4.kp k5)).snoc dw).mono (Kp.put (.inr rfl))
    · rcases List.mem_append.mp hz with h | h
      · exact p6 z h
      · rw [List.mem_singleton.mp h]
        exact hp
  · rintro H3 ⟨p1, p2, acc, ds, p3, p4, p5, p6⟩
    have nXD : ¬ X D := S.t.new hD
    exact q (.ref D) ds H3 p5 p6 ⟨p2.ok, S.x1, S.x2, fun a h => p2.t a (.inl h)⟩ p1 (.lst nXD p3 (p4.less fun a => .inl)) (Nw.of hD)
abbrev s__law_mixed : Stmt := topS 36
abbrev n__law_mixed : List Str := ["_law_stream", "_law_some", "_law_left", "_law_k"]
theorem sc__law_mixed : FnScope n__law_mixed ["_law_stream", "_law_some"] (defScope s__law_mixed) := ⟨rfl, rfl, rfl, by decide +kernel, rfl, by decide +kernel, by decide +kernel⟩
def spMixed : Sp := fun vs H Q _ => ∃ (X : Addr → Prop) (st cl : Addr) (n : Nat) (v : V) (ds : List PyData), vs = [.ref st, v] ∧ Sg X st cl n H ∧ n + ds.length ≤ 1000000000 ∧ DX X H v (.list ds) ∧ ds.length < 1000000 ∧
  ∀ w es H', es.Perm ds → Sg X st cl (n + ds.length) H' → KpS st cl H H' → DX X H' w (.list es) → Nw H w → Q w H'
theorem ok_mixed {f : Addr} {fd : FuncData} (F : Fun K "_law_mixed" "_law_mixed" s__law_mixed f fd) (T : Bl mg) (O__law_draw : Own P w K mg base CX0 1 "_law_draw" ["_law_stream", "_law_many"] spDraw) : FnOk P w K mg base CX0 2 f fd ["_law_stream", "_law_some"] spMixed := by
  refine F.ok sc__law_mixed (fun vs H Q E h => ?_) (fun cdv A outer s H vs Q E hr h => ?_)
  · obtain ⟨X, st, cl, n, v, ds, rfl, _⟩ := h
    rfl
  · obtain ⟨X, st, cl, n, v, ds, rfl, S, hn, hd, h1, k⟩ := h
    refine ⟨_, (pss_cons (ps_set (i := 2) sc__law_mixed.nd rfl (by first | exact Or.inl rfl | exact Or.inr rfl) (pe_callTy call_list_of (by rfl) T.b_list boot_list (pa_cons (pv 1) pa_nil)))
    (pss_one (ps_ret (pe_lc (own := [("_law_k", 3)]) (g := (gName 3)) (tt := tYes) (te := tBM K "list" rPopAt (tVar 2) (tCons (tCall spDraw [] E0 (tCons (tVar 0) (tCons (tCB (fun xs H Q => ∃ x n, xs = [x] ∧ LenV K x H n ∧ Q (V.int n) H) (tCons (tVar 2) tNil)) tNil))) tNil)) rfl sc__law_mixed.nd (pi_range1 (by rfl) T.b_range (pa_cons (pe_callB call_len (by rfl) T.b_len boot_len (pa_cons (pv 2) pa_nil)) pa_nil)) (blkOk_by (N := n__law_mixed) (sc := defScope s__law_mixed) (by decide +kernel)) (fun _ _ _ _ _ => (pg_name (i := 3) sc__law_mixed.nd rfl (by first | exact Or.inl rfl | exact Or.inr rfl))) (fun _ _ _ _ _ => pts_nil) (fun _ _ _ _ _ => (pe_bm PySem.F.plainAttrs_list PySem.F.slot_list_pop PySem.F.type_list_pop mt_popAt (pv 2) (pa_cons (pe_own O__law_draw hr (by decide) (by rfl) (pa_cons (pv 0) (pa_cons (pe_callB call_len (by rfl) T.b_len boot_len (pa_cons (pv 2) pa_nil)) pa_nil))) pa_nil))))))), ?_⟩
    have En : EnvOk X H (L2.start n__law_mixed [.ref st, v]) [.val (.ref st), .dat (.list ds), .un, .un] := ⟨rfl, fun i s e => by
      match i, e with
      | 0, e => cases e; rfl
      | 1, e => cases e; exact ⟨_, rfl, hd⟩
      | 2, e => cases e; trivial
      | 3, e => cases e; trivial⟩
    -- left = list(some)
    refine k_set (gn_listOf (d := .list ds) S.t (g_var (i := 1) En rfl) rfl H (Same.refl H) _ fun v1 H1 s1 d1 nw1 => ?_)
    obtain ⟨L, us, rfl, nL, eL, rL⟩ := d1.inner
    have hL : H L = none := nw1 L rfl
    have E1 := (((En.more (More.one hL)).same s1).setV (i := 2) (v := .ref L))
    have t1 : Trk (fun b => X b ∨ b = L) H1 := fun a h => h.elim (fun x => S.t.mono s1 a x) fun e => ⟨_, e ▸ eL⟩
    have S1 : Sg (fun b => X b ∨ b = L) st cl n H1 := ⟨S.ok.same s1, .inl S.x1, .inl S.x2, t1⟩
    have n1 := S.ne1 hL
    have n2 := S.ne2 hL
    -- range(len(left))
    refine k_ret ?_
    refine ⟨_, E1.get 2 _ rfl, ?_⟩
    have xl1 : us.length = ds.length := rL.length
    refine ⟨.ref L, us.length, rfl, .inl ⟨us, SqL.of eL, rfl⟩, ?_⟩
    refine ⟨_, rfl, by omega, by omega, ?_⟩
    rw [show (us.length : Int).toNat = ds.length from by omega]
    intro D hD
    have dL : D ≠ L := fun e => by rw [e, eL] at hD; cases hD
    let X1 : Addr → Prop := fun b => X b ∨ b = L
    let X2 : Addr → Prop := fun a => X1 a ∨ a = D
    have m2 : More X1 X2 H1 := More.one hD
    have d1 := S1.ne1 hD
    have d2 := S1.ne2 hD
    obtain ⟨Gd, Y, w1, w2⟩ := walkD_range (X := X1) (H := H1) (lo := 0) (n := ds.length)
    rw [rangeD_len] at w1
    let I : Nat → Hp → Prop := fun k H3 => (∀ a o, a ≠ st → a ≠ cl → a ≠ L → H1 a = some o → H3 a = some o) ∧ Sg X2 st cl (n + k) H3 ∧ ∃ acc es left xs, H3 D = some (.lst acc) ∧ DXs X2 H3 acc es ∧ H3 L = some (.lst xs) ∧ DXs X2 H3 xs left ∧ es.length = k ∧ (es ++ left).Perm ds
    have ik : ∀ {k H3}, I k H3 → Kp X2 H1 H3 ∧ Trk X2 H3 := fun {k H3} p => ⟨fun a o n e => p.1 a o (fun z => n (z ▸ .inl (.inl S.x1))) (fun z => n (z ▸ .inl (.inl S.x2))) (fun z => n (z ▸ .inl (.inr rfl))) e, p.2.1.t⟩
    refine lc_it w1 I ?_ (fun i H3 _ p => (w2 _ m2.2 H3 (ik p).1 (ik p).2).1) ?_ ?_
    · have sD : Same H1 (upd H1 D (.lst [])) := Same.upd hD
      exact ⟨fun a o _ _ _ e => sD a o e, ⟨S1.ok.same sD, .inl (.inl S.x1), .inl (.inl S.x2), t1.one hD⟩, [], [], ds, us, upd_same, .nil, sD _ _ eL, (rL.more m2).mono (Kp.of sD), rfl, List.Perm.refl _⟩
    · rintro j x H3 H4 hj p y
      obtain ⟨s4, d, hd4, dx⟩ := (w2 _ m2.2 H3 (ik p).1 (ik p).2).2 j x H4 y
      obtain ⟨p1, p2, acc, es, left, xs, p3, p4, p5, p6, p7, p8⟩ := p
      have S4 := p2.same s4
      refine tgt_name (X := X1) (i := 3) E1 _ H4 m2 ((ik ⟨p1, p2, acc, es, left, xs, p3, p4, p5, p6, p7, p8⟩).1.trans (Kp.of s4)) S4.t x dx _ fun σ2 E2 hw => ⟨hw, ?_⟩
      refine k_yes ?_
      have hL4 : H4 L = some (.lst xs) := s4 _ _ p5
      have r4 := p6.mono (Kp.of s4)
      have q4 := p4.mono (Kp.of s4)
      have lt0 : 0 < left.length := by
        have := p8.length_eq
        rw [List.length_append] at this
        omega
      have lt1 : left.length ≤ ds.length := by
        have := p8.length_eq
        rw [List.length_append] at this
        omega
      have lx : xs.length = left.length := r4.length
      refine ⟨_, E2.get 2 _ rfl, .inl ⟨rfl, _, SqL.of hL4⟩, ?_⟩
      refine k_cons (c_draw (m := (left.length : Nat)) S4 (gv_var (i := 0) E2 rfl) ?_ (by omega) (by omega) (by omega) fun i H5 i0 i1 S5 k5 => ?_)
      · intro H5 s5 Q5 q5
        refine ⟨_, E2.get 2 _ rfl, ?_⟩
        refine ⟨.ref L, xs.length, rfl, .inl ⟨xs, SqL.of (s5 _ _ hL4), rfl⟩, ?_⟩
        rw [lx]
        exact q5 _ H5 (Same.refl _) (.int _)
      · have hL5 : H5 L = some (.lst xs) := k5 L _ n1 n2 hL4
        have r5 := r4.mono (S4.kp k5)
        have q5 := q4.mono (S4.kp k5)
        have hi : i.toNat < left.length := by omega
        have hx : i.toNat < xs.length := by omega
        obtain ⟨y, hy, ry⟩ := r5.get (i := i.toNat) (d := left[i.toNat]) (List.getElem?_eq_getElem hi)
        refine ⟨L, xs, i, i.toNat, y, rfl, rfl, hL5, by omega, by omega, ?_, hy, ?_⟩
        · exact seqIx_nat i0 hx
        · have kL : Kp X2 H5 (upd H5 L (.lst (xs.eraseIdx i.toNat))) := Kp.put (.inl (.inr rfl))
          have nD : H5 D = some (.lst acc) := k5 D _ d1 d2 (s4 D _ p3)
          refine ⟨acc, by rw [upd_ne dL]; exact nD, by rw [p4.length, p7, sizeLine_eq]; omega, ?_, ?_, acc ++ [y], es ++ [left[i.toNat]], left.eraseIdx i.toNat, xs.eraseIdx i.toNat, upd_same, ?_, by rw [upd_ne (Ne.symm dL)]; exact upd_same, ?_, by rw [List.length_append, p7]; rfl, ?_⟩
          · intro a o a1 a2 a3 e
            rw [upd_ne (ne_of_none e hD), upd_ne a3]
            exact k5 a o a1 a2 (s4 a _ (p1 a o a1 a2 a3 e))
          · exact (S5.put n1 n2).put d1 d2
          · exact ((q5.snoc ry).mono kL).mono (Kp.put (.inr rfl))
          · exact ((r5.erase i.toNat).mono kL).mono (Kp.put (.inr rfl))
          · rw [List.append_assoc]
            refine List.Perm.trans (List.Perm.append_left es ?_) p8
            exact erase_perm left i.toNat hi
    · rintro H3 ⟨p1, p2, acc, es, left, xs, p3, p4, p5, p6, p7, p8⟩
      have nXD : ¬ X D := t1.new hD ∘ .inl
      have le : left = [] := by
        have := p8.length_eq
        rw [List.length_append] at this
        exact List.eq_nil_of_length_eq_zero (by omega)
      subst le
      rw [List.append_nil] at p8
      exact k (.ref D) es H3 p8 ⟨p2.ok, S.x1, S.x2, fun a h => p2.t a (.inl (.inl h))⟩ (fun a o n3 n4 e => p1 a o n3 n4 (ne_of_none e hL) (s1 a o e)) (.lst nXD p3 (p4.less fun a h => .inl (.inl h))) (fun a e => by cases e; exact s1.free hD)
end K52

namespace K52
open PySem PySem.Spec PyProof.Rows L2 KD
variable {P : Program} {w : World} {K : PySem.W.Frag} {mg : Str → Option Value} {base : Heap}
/-! ### leaves -/
def leaf : PyData → Bool
  | .none => true
  | .bool _ => true
  | .int _ => true
  | .str s => PyData.strOk s
  | _ => false
theorem canLay_leaf : ∀ {ds : List PyData}, (∀ d ∈ ds, leaf d = true) → PyData.canLayAll0 ds = true
  | [], _ => by simp [PyData.canLayAll0]
  | d :: ds, h => by
    have h1 := h d List.mem_cons_self
    have h2 := canLay_leaf fun z hz => h z (List.mem_cons_of_mem _ hz)
    cases d <;> simp_all [PyData.canLayAll0, PyData.canLay0, leaf]
theorem depth_leaf : ∀ {ds : List PyData}, (∀ d ∈ ds, leaf d = true) → PyData.depthAll ds ≤ 1
  | [], _ => by simp [PyData.depthAll]
  | d :: ds, h => by
    have h1 := h d List.mem_cons_self
    have h2 := depth_leaf fun z hz => h z (List.mem_cons_of_mem _ hz)
    cases d <;> simp_all [PyData.depthAll, PyData.depth, leaf]
theorem shaped_leaf {d : PyData} (h : leaf d = true) : SeqAt.shaped d = true := by
  cases d <;> simp_all [SeqAt.shaped, PyData.canLay0, PyData.depth, leaf]
theorem shaped_leafs {ds : List PyData} (h : ∀ d ∈ ds, leaf d = true) : SeqAt.shaped (.list ds) = true := by
  have := depth_leaf h
  have h2 : PyData.depth (.list ds) ≤ 64 := by
    simp only [PyData.depth]
    omega
  show ((PyData.list ds).canLay0 && decide ((PyData.list ds).depth ≤ 64)) = true
  rw [Bool.and_eq_true]
  exact ⟨by simp only [PyData.canLay0]; exact canLay_leaf h, decide_eq_true h2⟩
theorem noDict_leaf {d : PyData} (h : leaf d = true) : noDict d = true := by cases d <;> first | rfl | cases h
theorem noDicts_leaf : ∀ {ds : List PyData}, (∀ d ∈ ds, leaf d = true) → noDicts ds = true
  | [], _ => by simp [noDicts]
  | d :: ds, h => by
    have h1 := noDict_leaf (h d List.mem_cons_self)
    have h2 := noDicts_leaf fun z hz => h z (List.mem_cons_of_mem _ hz)
    simp [noDicts, h1, h2]
theorem rb_inD {X : Addr → Prop} {d : PyData} {ds : List PyData} (h : leaf d = true) (hs : ∀ z ∈ ds, leaf z = true) : RB X (rInD K) d (.list ds) (ds.any fun z => PyData.eqv z d) := fun H u v _ ru rv Q q => ⟨d, ds, ru.dp (noDict_leaf h), rv.dp (by show noDicts ds = true; exact noDicts_leaf hs), shaped_leaf h, shaped_leafs hs, q⟩
def letters : List Str := ["a", "b", "c", "d e", "", "a"]
def spText : Sp := fun vs H Q _ => ∃ (X : Addr → Prop) (st cl : Addr) (n m : Nat), vs = [.ref st, .int m] ∧ Sg X st cl n H ∧ n + m ≤ 1000000000 ∧ m ≤ 1000 ∧
  ∀ w ws H', ws.length = m → (∀ z ∈ ws, z ∈ letters) → Sg X st cl (n + m) H' → KpS st cl H H' → DX X H' w (wsD ws) → Nw H w → Q w H'
theorem strs_of {L : List Str} : ∀ {ds : List PyData}, (∀ d ∈ ds, d ∈ L.map PyData.str) → ∃ ws : List Str, ds = ws.map PyData.str ∧ ∀ z ∈ ws, z ∈ L
  | [], _ => ⟨[], rfl, fun z h => by cases h⟩
  | d :: ds, h => by
    obtain ⟨s, hs, rfl⟩ := List.mem_map.mp (h d List.mem_cons_self)
    obtain ⟨ws, rfl, hw⟩ := strs_of fun z hz => h z (List.mem_cons_of_mem _ hz)
    exact ⟨s :: ws, rfl, fun z hz => (List.mem_cons.mp hz).elim (fun e => e ▸ hs) (hw z)⟩
theorem env_sv {X : Addr → Prop} {H : Hp} {N : List Str} {vs : List V} {ss : List Sv} (hl : vs.length = ss.length) (hs : ∀ (i : Nat) (s : Sv), ss[i]? = some s → ∀ v, vs[i]? = some v → SvOk X H s (some (some v))) (hN : vs.length ≤ N.length) : EnvOk X H (L2.start N vs) (pad N ss) := by
  unfold pad
  rw [← hl]
  exact envOk_start hl hs hN
theorem env_s1 {X : Addr → Prop} {H : Hp} {N : List Str} {st : Addr} {v : V} {s : Sv} (h : SvOk X H s (some (some v))) (hN : 2 ≤ N.length) : EnvOk X H (L2.start N [.ref st, v]) (pad N [.val (.ref st), s]) :=
  env_sv rfl (fun i s e u e2 => by
    match i, e, e2 with
    | 0, e, e2 => cases e; cases e2; rfl
    | 1, e, e2 => cases e; cases e2; exact h) hN
theorem env_s2 {X : Addr → Prop} {H : Hp} {N : List Str} {st : Addr} {v v2 : V} {s s2 : Sv} (h : SvOk X H s (some (some v))) (h2 : SvOk X H s2 (some (some v2))) (hN : 3 ≤ N.length) : EnvOk X H (L2.start N [.ref st, v, v2]) (pad N [.val (.ref st), s, s2]) :=
  env_sv rfl (fun i s e u e2 => by
    match i, e, e2 with
    | 0, e, e2 => cases e; cases e2; rfl
    | 1, e, e2 => cases e; cases e2; exact h
    | 2, e, e2 => cases e; cases e2; exact h2) hN
theorem ga_strs {X : Addr → Prop} {σ : L2.St} {H : Hp} : ∀ L : List Str, GA X (L.foldr (fun s t => tCons (tC (.str s)) t) tNil) σ H (L.map PyData.str)
  | [] => ga_nil
  | s :: L => ga_cons g_str (ga_strs L)
end K52

/-! Whether two things are the same. -/
namespace K52
open PySem PySem.Spec PyProof.Rows L2 KD
variable {P : Program} {w : World} {K : PySem.W.Frag} {mg : Str → Option Value} {base : Heap}
theorem walk_zipT {a b : Addr} {xs ys : List V} {n : Nat} (hn : n = min xs.length ys.length) : Walk (RZ.ItzT K a b) n (fun H => SqT K H a xs ∧ SqT K H b ys) (YPair (fun i => xs[i]?) (fun i => ys[i]?)) := by
  subst hn
  refine ⟨fun i _ hi q => ?_, fun _ q => ⟨xs, ys, q.1, q.2, by omega⟩, fun i H v H' _ q y => ?_⟩
  · have h1 : i < xs.length := by omega
    have h2 : i < ys.length := by omega
    exact ⟨xs, ys, xs[i], ys[i], q.1, q.2, by simp [h1], by simp [h2]⟩
  · obtain ⟨T, x, z, h1, h2, h3, h4, h5⟩ := y
    exact ⟨T, x, z, h1, h2, h3, h4 xs q.1, h5 ys q.2⟩
theorem gi_zipT {X : Addr → Prop} {H : Hp} {σ : L2.St} {te tb : TE} {ds es : List PyData} (h : G X te σ H (.tuple ds)) (h' : G X tb σ H (.tuple es)) : GI X (RZ.iZipA K (tCons te (tCons tb tNil))) σ H (zipD ds es) := fun H1 s R r => h H1 s _ fun v H2 s2 rv => h' H2 (s.trans s2) _ fun w H3 s3 rw_ => by
  obtain ⟨a, xs, rfl, n, e, rx⟩ := (rv.mono (Kp.of s3)).tup_inv
  obtain ⟨b, ys, rfl, n2, e2, ry⟩ := rw_.tup_inv
  refine ⟨a, b, xs, ys, rfl, .inr ⟨SqT.of e, SqT.of e2, r _ H3 (s2.trans s3) ⟨_, _, walk_zipT (xs := xs) (ys := ys) (by simp [zipD, rx.length, ry.length]), fun X' m H4 k t => ?_⟩⟩⟩
  have n' : ¬ X' a := fun z => (m a z).elim n fun q => by rw [e] at q; cases q
  have n2' : ¬ X' b := fun z => (m b z).elim n2 fun q => by rw [e2] at q; cases q
  refine ⟨⟨SqT.of (k a _ n' e), SqT.of (k b _ n2' e2)⟩, fun i x H5 y => ?_⟩
  obtain ⟨T, u, w, rfl, hT, rfl, hu, hw⟩ := y
  obtain ⟨d, h1, h2⟩ := rx.getV hu
  obtain ⟨d', h3, h4⟩ := ry.getV hw
  refine ⟨Same.upd hT, .tuple [d, d'], ?_, DX.newT t (.cons ((h2.grow m).mono k) (.cons ((h4.grow m).mono k) .nil)) hT⟩
  unfold zipD
  rw [List.getElem?_zipWith, h1, h3]
theorem gi_zipL {X : Addr → Prop} {H : Hp} {σ : L2.St} {te tb : TE} {ds es : List PyData} (h : G X te σ H (.list ds)) (h' : G X tb σ H (.list es)) : GI X (RZ.iZipA K (tCons te (tCons tb tNil))) σ H (zipD ds es) := fun H1 s R r => h H1 s _ fun v H2 s2 rv => h' H2 (s.trans s2) _ fun w H3 s3 rw_ => by
  obtain ⟨a, xs, rfl, n, e, rx⟩ := (rv.mono (Kp.of s3)).lst_inv
  obtain ⟨b, ys, rfl, n2, e2, ry⟩ := rw_.lst_inv
  refine ⟨a, b, xs, ys, rfl, .inl ⟨SqL.of e, SqL.of e2, r _ H3 (s2.trans s3) ⟨_, _, walk_zip (xs := xs) (ys := ys) (by simp [zipD, rx.length, ry.length]), fun X' m H4 k t => ?_⟩⟩⟩
  have n' : ¬ X' a := fun z => (m a z).elim n fun q => by rw [e] at q; cases q
  have n2' : ¬ X' b := fun z => (m b z).elim n2 fun q => by rw [e2] at q; cases q
  refine ⟨⟨SqL.of (k a _ n' e), SqL.of (k b _ n2' e2)⟩, fun i x H5 y => ?_⟩
  obtain ⟨T, u, w, rfl, hT, rfl, hu, hw⟩ := y
  obtain ⟨d, h1, h2⟩ := rx.getV hu
  obtain ⟨d', h3, h4⟩ := ry.getV hw
  refine ⟨Same.upd hT, .tuple [d, d'], ?_, DX.newT t (.cons ((h2.grow m).mono k) (.cons ((h4.grow m).mono k) .nil)) hT⟩
  unfold zipD
  rw [List.getElem?_zipWith, h1, h3]
/-- so deep at most, leaves below -/
def sm : Nat → PyData → Prop
  | 0, d => leaf d = true
  | n + 1, .list ds => ds.length ≤ 100000 ∧ ∀ z ∈ ds, sm n z
  | n + 1, .tuple ds => ds.length ≤ 100000 ∧ ∀ z ∈ ds, sm n z
  | _ + 1, d => leaf d = true
def spSame (n : Nat) : Sp := fun vs H Q _ => ∃ (X : Addr → Prop) (v1 v2 : V) (d : PyData), vs = [v1, v2] ∧ Trk X H ∧ DX X H v1 d ∧ DX X H v2 d ∧ sm n d ∧ ∀ H', Same H H' → Q (.bl true) H'
def spPrev : Nat → Sp
  | 0 => fun _ _ _ _ => False
  | n + 1 => spSame n
theorem eqv_leaf {d : PyData} (h : leaf d = true) : PyData.eqv d d = true := by
  cases d <;> simp_all [PyData.eqv, leaf]
-- HINT _law_same never return isinstance(_law_found, dict)
-- HINT _law_same le (Nat.le_refl _)
-- HINT _law_same zip RZ.pi_zipA
abbrev s__law_same : Stmt := topS 37
abbrev n__law_same : List Str := ["_law_found", "_law_due", "_law_x", "_law_y"]
theorem sc__law_same : FnScope n__law_same ["_law_found", "_law_due"] (defScope s__law_same) := ⟨rfl, rfl, rfl, by decide +kernel, rfl, by decide +kernel, by decide +kernel⟩
theorem ok_same_body {f : Addr} {fd : FuncData} {n : Nat} (F : Fun K "_law_same" "_law_same" s__law_same f fd) (T : Bl mg) (O__law_same : Own P w K mg base CX0 (n + 1) "_law_same" ["_law_found", "_law_due"] (spPrev n)) : FnOk P w K mg base CX0 (n + 2) f fd ["_law_found", "_law_due"] (spSame n) := by
  refine F.ok sc__law_same (fun vs H Q E h => ?_) (fun cdv A outer s H vs Q E hr h => ?_)
  · obtain ⟨X, v1, v2, d, rfl, _⟩ := h
    rfl
  · obtain ⟨X, v1, v2, d, rfl, t, d1, d2, hs, k⟩ := h
    refine ⟨_, (pss_cons (ps_if (pt_val (pe_callB call_isiT (by rfl) T.b_isinstance boot_isinstance (pa_cons (pv 1) (pa_cons (pe_tup (pa_cons (pe_bltn (v := .ty "list") (by rfl) T.b_list boot_list rfl) (pa_cons (pe_bltn (v := .ty "tuple") (by rfl) T.b_tuple boot_tuple rfl) pa_nil))) pa_nil))))
    (pss_cons (ps_if (PW.pt (pw_or (pt_cmpR (op_neD hr.units) (pe_callB call_isi (by rfl) T.b_isinstance boot_isinstance (pa_cons (pv 0) (pa_cons (pe_bltn (v := .ty "list") (by rfl) T.b_list boot_list rfl) pa_nil))) (pe_callB call_isi (by rfl) T.b_isinstance boot_isinstance (pa_cons (pv 1) (pa_cons (pe_bltn (v := .ty "list") (by rfl) T.b_list boot_list rfl) pa_nil))) (nomark _)) (pw_or1 (pt_cmpR (op_neD hr.units) (pe_callB call_isi (by rfl) T.b_isinstance boot_isinstance (pa_cons (pv 0) (pa_cons (pe_bltn (v := .ty "tuple") (by rfl) T.b_tuple boot_tuple rfl) pa_nil))) (pe_callB call_isi (by rfl) T.b_isinstance boot_isinstance (pa_cons (pv 1) (pa_cons (pe_bltn (v := .ty "tuple") (by rfl) T.b_tuple boot_tuple rfl) pa_nil))) (nomark _)))))
    (pss_one (ps_ret pe_bl)) pss_nil)
    (pss_one (ps_ret (pe_and (pe_cmpR (op_eqD hr.units) (pe_callB call_len (by rfl) T.b_len boot_len (pa_cons (pv 0) pa_nil)) (pe_callB call_len (by rfl) T.b_len boot_len (pa_cons (pv 1) pa_nil)) (nomark _)) (pe_one (pe_callB (cr_all rfl) (by rfl) T.b_all boot_all (pa_cons (pe_lc (own := [("_law_x", 2), ("_law_y", 3)]) (g := (gTup K 2 (gCons (gName 2) (gCons (gName 3) gNil)))) (tt := tYes) rfl sc__law_same.nd (RZ.pi_zipA (by rfl) T.b_zip (pa_cons (pv 0) (pa_cons (pv 1) pa_nil))) (blkOk_by (N := n__law_same) (sc := defScope s__law_same) (by decide +kernel)) (fun _ _ _ _ _ => (pg_tup (n := 2) rfl (pgs_cons (pg_name (i := 2) sc__law_same.nd rfl (by first | exact Or.inl rfl | exact Or.inr rfl)) (pgs_cons (pg_name (i := 3) sc__law_same.nd rfl (by first | exact Or.inl rfl | exact Or.inr rfl)) pgs_nil)))) (fun _ _ _ _ _ => pts_nil) (fun _ _ _ _ _ => (pe_own O__law_same hr (Nat.le_refl _) (by rfl) (pa_cons (pv 2) (pa_cons (pv 3) pa_nil))))) pa_nil))))))) pss_nil)
    (pss_cons (ps_if (pt_val (pe_callB call_isi (by rfl) T.b_isinstance boot_isinstance (pa_cons (pv 1) (pa_cons (pe_bltn (v := .ty "dict") (by rfl) T.b_dict boot_dict rfl) pa_nil))))
    (pss_one ps_never) pss_nil)
    (pss_cons (ps_if (pt_val (pe_callB call_isi (by rfl) T.b_isinstance boot_isinstance (pa_cons (pv 1) (pa_cons (pe_bltn (v := .ty "int") (by rfl) T.b_int boot_int rfl) pa_nil))))
    (pss_one (ps_ret (pe_and (pe_callB call_isi (by rfl) T.b_isinstance boot_isinstance (pa_cons (pv 0) (pa_cons (pe_bltn (v := .ty "int") (by rfl) T.b_int boot_int rfl) pa_nil))) (pe_and (pe_cmpR (op_eqD hr.units) (pe_callB call_isi (by rfl) T.b_isinstance boot_isinstance (pa_cons (pv 0) (pa_cons (pe_bltn (v := .ty "bool") (by rfl) T.b_bool boot_bool rfl) pa_nil))) (pe_callB call_isi (by rfl) T.b_isinstance boot_isinstance (pa_cons (pv 1) (pa_cons (pe_bltn (v := .ty "bool") (by rfl) T.b_bool boot_bool rfl) pa_nil))) (nomark _)) (pe_one (pe_cmpR (op_eqD hr.units) (pv 0) (pv 1) (nomark _))))))) pss_nil)
    (pss_one (ps_ret (pe_and (pe_not (pe_callB call_isiT (by rfl) T.b_isinstance boot_isinstance (pa_cons (pv 0) (pa_cons (pe_tup (pa_cons (pe_bltn (v := .ty "int") (by rfl) T.b_int boot_int rfl) (pa_cons (pe_bltn (v := .ty "list") (by rfl) T.b_list boot_list rfl) (pa_cons (pe_bltn (v := .ty "tuple") (by rfl) T.b_tuple boot_tuple rfl) (pa_cons (pe_bltn (v := .ty "dict") (by rfl) T.b_dict boot_dict rfl) pa_nil))))) pa_nil)))) (pe_one (pe_cmpR (op_eqD hr.units) (pv 0) (pv 1) (nomark _))))))))), ?_⟩
    have En : EnvOk X H (L2.start n__law_same [v1, v2]) (pad n__law_same [.dat d, .dat d]) := env2 d1 d2 (by decide)
    have b1 : PyData.eqv (.bool true) (.bool true) = true := by simp [PyData.eqv]
    have eqb : ∀ b : Bool, PyData.eqv (.bool b) (.bool b) = true := fun b => by simp [PyData.eqv]
    have shb : ∀ b : Bool, SeqAt.shaped (.bool b) = true := fun b => shaped_leaf rfl
    have ndb : ∀ b : Bool, noDict (.bool b) = true := fun b => by simp [noDict]
    refine q_if (gt_B (g_isSeq (g_var (i := 1) En rfl))) (fun hb H1 s1 => ?_) (fun hb H1 s1 => ?_)
    · -- a list or a tuple
      have E1 := En.same s1
      have t1 := t.mono s1
      refine q_if (b := false) (gt_is (gt_or (b := !PyData.eqv (.bool (isa_tuple d)) (.bool (isa_tuple d))) (gt_neD t1 (g_isList (g_var (i := 0) E1 rfl)) (g_isList (g_var (i := 1) E1 rfl)) (ndb _) (ndb _) (shb _) (shb _)) fun _ => gt_neD t1 (g_isTuple (g_var (i := 0) E1 rfl)) (g_isTuple (g_var (i := 1) E1 rfl)) (ndb _) (ndb _) (shb _) (shb _)) (by rw [eqb, eqb]; rfl)) (fun h => by cases h) fun _ H2 s2 => ?_
      have E2 := E1.same s2
      have t2 := t1.mono s2
      have hln : ∀ i : Int, PyData.eqv (.int i) (.int i) = true := fun i => by rw [eqv_int]; simp
      have core : ∀ (m : Nat) (te : TE) (wi : TI) (ds : List PyData), ds.length ≤ 100000 → (∀ z ∈ ds, sm m z) → GI X wi (L2.start n__law_same [v1, v2]) H2 (zipD ds ds) → te = tCall (spSame m) [] E0 (tCons (tVar 2) (tCons (tVar 3) tNil)) → G X (tCB (rAll K) (tCons (tLc wi (gTup K 2 (gCons (gName 2) (gCons (gName 3) gNil))) tYes te [2, 3]) tNil)) (L2.start n__law_same [v1, v2]) H2 (.bool true) := fun m te wi ds hl hz hi hte => by
        subst hte
        have hzip : ∀ p ∈ zipD ds ds, ∃ z ∈ ds, p = .tuple [z, z] := fun p hp => by
          obtain ⟨i, hi, he⟩ := List.mem_iff_getElem.mp hp
          unfold zipD at he hi
          rw [List.length_zipWith] at hi
          rw [List.getElem_zipWith] at he
          exact ⟨_, List.getElem_mem (by omega), he.symm⟩
        refine g_is (g_cb (ds := [.list (((zipD ds ds).map fun _ => true).map PyData.bool)]) t2 (ga_cons (g_is (g_lc1 (ds := zipD ds ds) (Γ2 := fun p => ((((pad n__law_same [.dat d, .dat d]).set 3 .un).set 2 .un).set 2 (.dat (it p 0))).set 3 (.dat (it p 1))) (fun _ => .bool true) t2 hi (by unfold zipD; rw [List.length_zipWith]; omega) (fun H3 s3 p hp => ?_) (fun X' H3 σ2 p hp t3 E3 => ?_)) (by rw [List.map_map]; rfl)) ga_nil) rf_all) (by rw [List.all_map]; simp)
        · obtain ⟨z, hzm, rfl⟩ := hzip p hp
          exact tgt_pair (E2.same s3) (by decide)
        · obtain ⟨z, hzm, rfl⟩ := hzip p hp
          intro H4 s4 Q4 q4
          refine g_var (i := 2) E3 rfl H4 s4 _ fun u H5 s5 r5 => g_var (i := 3) (E3.same (s4.trans s5)) rfl H5 (Same.refl _) _ fun u2 H6 s6 r6 => ?_
          exact ⟨X', u, u2, z, rfl, t3.mono ((s4.trans s5).trans s6), r5.mono (Kp.of s6), r6, hz z hzm, fun H7 s7 => q4 _ H7 ((s5.trans s6).trans s7) (.bl true)⟩
      cases n with
      | zero => cases d with
        | list ds => exact absurd hs (by simp [sm, leaf])
        | tuple ds => exact absurd hs (by simp [sm, leaf])
        | _ => cases hb
      | succ m =>
        cases d with
        | list ds =>
          obtain ⟨hl, hz⟩ := hs
          exact s_ret (X := X) (d := .bool true) (g_is (g_and (b := true) (g_eqD t2 (g_len t2 (g_var (i := 0) E2 rfl) rfl) (g_len t2 (g_var (i := 1) E2 rfl) rfl) rfl rfl (shaped_int _) (shaped_int _)) fun _ => core m _ _ ds hl hz (gi_zipL (g_var (i := 0) E2 rfl) (g_var (i := 1) E2 rfl)) rfl) (by rw [hln]; rfl)) fun w H' s' dw => by rw [dw.bl_inv]; exact k H' ((s1.trans s2).trans s')
        | tuple ds =>
          obtain ⟨hl, hz⟩ := hs
          exact s_ret (X := X) (d := .bool true) (g_is (g_and (b := true) (g_eqD t2 (g_len t2 (g_var (i := 0) E2 rfl) rfl) (g_len t2 (g_var (i := 1) E2 rfl) rfl) rfl rfl (shaped_int _) (shaped_int _)) fun _ => core m _ _ ds hl hz (gi_zipT (g_var (i := 0) E2 rfl) (g_var (i := 1) E2 rfl)) rfl) (by rw [hln]; rfl)) fun w H' s' dw => by rw [dw.bl_inv]; exact k H' ((s1.trans s2).trans s')
        | _ => cases hb
    · -- a leaf
      have hlf : leaf d = true := by
        cases n with
        | zero => exact hs
        | succ m => cases d <;> first | exact hs | cases hb
      have E1 := En.same s1
      have t1 := t.mono s1
      refine q_if (b := false) (gt_is (gt_B (g_isDict (g_var (i := 1) E1 rfl))) (by cases d <;> first | rfl | cases hlf)) (fun h => by cases h) fun _ H2 s2 => ?_
      have E2 := E1.same s2
      have t2 := t1.mono s2
      refine q_if (gt_B (g_isInt (g_var (i := 1) E2 rfl))) (fun hi H3 s3 => ?_) (fun hi H3 s3 => ?_)
      · have E3 := E2.same s3
        have t3 := t2.mono s3
        refine s_ret (X := X) (d := .bool true) (g_is (g_and (b := PyData.eqv (.bool (isa_bool d)) (.bool (isa_bool d)) && PyData.eqv d d) (g_isInt (g_var (i := 0) E3 rfl)) fun _ => g_and (g_eqD t3 (g_isBool (g_var (i := 0) E3 rfl)) (g_isBool (g_var (i := 1) E3 rfl)) (ndb _) (ndb _) (shb _) (shb _)) fun _ => g_eqD t3 (g_var (i := 0) E3 rfl) (g_var (i := 1) E3 rfl) (noDict_leaf hlf) (noDict_leaf hlf) (shaped_leaf hlf) (shaped_leaf hlf)) (by rw [hi, eqb, eqv_leaf hlf]; rfl)) fun w H' s' dw => by rw [dw.bl_inv]; exact k H' (((s1.trans s2).trans s3).trans s')
      · have E3 := E2.same s3
        have t3 := t2.mono s3
        refine s_ret (X := X) (d := .bool true) (g_is (g_and (b := PyData.eqv d d) (g_not (g_isiT (ns := ["int", "list", "tuple", "dict"]) (g_var (i := 0) E3 rfl) rfl (by decide) ?_)) fun _ => g_eqD t3 (g_var (i := 0) E3 rfl) (g_var (i := 1) E3 rfl) (noDict_leaf hlf) (noDict_leaf hlf) (shaped_leaf hlf) (shaped_leaf hlf)) ?_) fun w H' s' dw => by rw [dw.bl_inv]; exact k H' (((s1.trans s2).trans s3).trans s')
        · intro n hn
          simp at hn
          rcases hn with rfl | rfl | rfl | rfl
          · exact ksm_int d
          · exact ksm_list d
          · exact ksm_tuple d
          · exact ksm_dict d
        · have e : isDs ["int", "list", "tuple", "dict"] d = false := by
            unfold isDs
            rw [List.any_cons, List.any_cons, List.any_cons, List.any_cons, List.any_nil, isD_int, isD_list, isD_tuple, isD_dict, hi]
            cases d <;> first | rfl | cases hlf
          rw [e, eqv_leaf hlf]
          rfl
theorem ok_same {f : Addr} {fd : FuncData} (F : Fun K "_law_same" "_law_same" s__law_same f fd) (T : Bl mg) (h1 : mg "_law_same" = some (.ref f)) (h2 : PySem.W.keepIn K (.ref f) = true) (h3 : Binds K fd ["_law_found", "_law_due"] []) : ∀ n : Nat, FnOk P w K mg base CX0 (n + 2) f fd ["_law_found", "_law_due"] (spSame n)
  | 0 => ok_same_body F T ⟨f, fd, h1, h2, h3, F.ok (k := 0) sc__law_same (fun _ _ _ _ h => h.elim) (fun _ _ _ _ _ _ _ _ _ h => h.elim)⟩
  | n + 1 => ok_same_body F T ⟨f, fd, h1, h2, h3, ok_same F T h1 h2 h3 n⟩
end K52

/-! Lists of one's own. -/
namespace K52
open PySem PySem.Spec PyProof.Rows L2 KD
variable {P : Program} {w : World} {K : PySem.W.Frag} {mg : Str → Option Value} {base : Heap}
/-! ### a list of one's own that is made longer -/
section
variable {X : Addr → Prop} {σ : L2.St} {H : Hp} {te : TE} {Γ : List Sv} {D : Ends} {tz : TS} {L : Addr} {xs : List V} {ds es : List PyData} {d : PyData} {i : Nat}
/-- all but L stays -/
def KpL (L : Addr) (H H' : Hp) : Prop := ∀ a o, a ≠ L → H a = some o → H' a = some o
theorem KpL.of (s : Same H H') : KpL L H H' := fun a o _ e => s a o e
theorem KpL.trans {H H1 H2 : Hp} (h : KpL L H H1) (k : KpL L H1 H2) : KpL L H H2 := fun a o n e => k a o n (h a o n e)
theorem KpL.put {o : HO} : KpL L H (upd H L o) := fun a u n e => by rw [upd_ne n]; exact e
theorem q_extend (En : EnvOk X H σ Γ) (hi : Γ[i]? = some (.val (.ref L))) (x : X L) (t : Trk X H) (hL : H L = some (.lst xs)) (hx : DXs X H xs ds) (h : G X te σ H (.list es)) (hl : ds.length + es.length ≤ 1000000)
    (k : ∀ H2 ys, H2 L = some (.lst ys) → DXs X H2 ys (ds ++ es) → EnvOk X H2 σ Γ → Trk X H2 → KpL L H H2 → tz D σ H2) : tSeq (tDrop (tBM K "list" rExtend (tVar i) (tCons te tNil))) tz D σ H := by
  refine ⟨.ref L, En.get i _ hi, .inl ⟨rfl, _, SqL.of hL⟩, ?_⟩
  refine h H (Same.refl H) _ fun v H1 s1 dv => ?_
  obtain ⟨b, zs, rfl, nb, hb, hz⟩ := dv.lst_inv
  have hL1 := s1 _ _ hL
  have e1 : xs.length = ds.length := hx.length
  have e2 : zs.length = es.length := hz.length
  refine ⟨L, b, xs, zs, rfl, rfl, hL1, hb, by rw [sizeLine_eq]; omega, ?_⟩
  have kp : Kp X H1 (upd H1 L (.lst (xs ++ zs))) := Kp.put x
  exact k _ _ upd_same (((hx.mono (Kp.of s1)).append hz).mono kp) ((En.same s1).mono kp) ((t.mono s1).put) ((KpL.of s1).trans KpL.put)
theorem q_append (En : EnvOk X H σ Γ) (hi : Γ[i]? = some (.val (.ref L))) (x : X L) (t : Trk X H) (hL : H L = some (.lst xs)) (hx : DXs X H xs ds) (h : G X te σ H d) (hl : ds.length < 1000000)
    (k : ∀ H2 ys, H2 L = some (.lst ys) → DXs X H2 ys (ds ++ [d]) → EnvOk X H2 σ Γ → Trk X H2 → KpL L H H2 → tz D σ H2) : tSeq (tDrop (tBM K "list" rAppend (tVar i) (tCons te tNil))) tz D σ H := by
  refine ⟨.ref L, En.get i _ hi, .inl ⟨rfl, _, SqL.of hL⟩, ?_⟩
  refine h H (Same.refl H) _ fun v H1 s1 dv => ?_
  have hL1 := s1 _ _ hL
  have e1 : xs.length = ds.length := hx.length
  refine ⟨L, xs, v, rfl, rfl, hL1, by rw [sizeLine_eq]; omega, ?_⟩
  have kp : Kp X H1 (upd H1 L (.lst (xs ++ [v]))) := Kp.put x
  exact k _ _ upd_same (((hx.mono (Kp.of s1)).snoc dv).mono kp) ((En.same s1).mono kp) ((t.mono s1).put) ((KpL.of s1).trans KpL.put)
/-- a new list becomes one's own -/
theorem k_own (En : EnvOk X H σ Γ) (t : Trk X H) (h : GN X te σ H (.list ds)) (k : ∀ L H1 xs, H L = none → Same H H1 → H1 L = some (.lst xs) → DXs (fun b => X b ∨ b = L) H1 xs ds → EnvOk (fun b => X b ∨ b = L) H1 (σ.set i (some (.ref L))) (Γ.set i (.val (.ref L))) → Trk (fun b => X b ∨ b = L) H1 → tz D (σ.set i (some (.ref L))) H1) :
    tSeq (tAsg te (gName i)) tz D σ H := by
  refine k_set (h H (Same.refl H) _ fun v H1 s1 dv nw => ?_)
  obtain ⟨L, xs, rfl, nL, hL, hx⟩ := dv.inner
  have h0 := nw L rfl
  exact k L H1 xs h0 s1 hL hx (((En.more (More.one h0)).same s1).setV) (fun a e => e.elim (fun z => t.mono s1 a z) fun z => ⟨_, z ▸ hL⟩)

theorem g_dict (t : Trk X H) : G X tDNewK σ H (.dict []) := fun H1 s Q q => fun p hp => q _ _ (Same.upd hp) (.dic ((t.mono s).new hp) upd_same .nil)
theorem _root_.KD.EnvOk.less {X' : Addr → Prop} (m : ∀ a, X a → X' a) (E : EnvOk X' H σ Γ) : EnvOk X H σ Γ := ⟨E.len, fun i s e => by
  have h := E.get i s e
  cases s with
  | dat d =>
    obtain ⟨v, e1, r⟩ := h
    exact ⟨v, e1, r.less m⟩
  | val v => exact h
  | un => trivial⟩
/-- one's own list is a datum again -/
theorem _root_.KD.EnvOk.give (En : EnvOk (fun b => X b ∨ b = L) H σ Γ) (hi : Γ[i]? = some (.val (.ref L))) (n : ¬ X L) (hL : H L = some (.lst xs)) (hx : DXs (fun b => X b ∨ b = L) H xs ds) : EnvOk X H σ (Γ.set i (.dat (.list ds))) := by
  have E2 : EnvOk X H σ Γ := En.less fun _ => .inl
  refine ⟨by rw [List.length_set]; exact E2.len, fun j s e => ?_⟩
  by_cases hj : i = j
  · subst hj
    have hl : i < Γ.length := (List.getElem?_eq_some_iff.mp hi).1
    rw [List.getElem?_set_self hl] at e
    cases e
    exact ⟨.ref L, En.get i _ hi, .lst n hL (hx.less fun _ => .inl)⟩
  · rw [List.getElem?_set_ne hj] at e
    exact E2.get j s e
end
end K52

/-! Longest common rows: how long they are, which matches are on one. -/
namespace KL
variable (M : Nat → Nat → Bool)
def nxt (m : Nat → Bool) (b : Nat → Nat) : Nat → Nat
  | 0 => 0
  | j + 1 => max (max (b (j + 1)) (nxt m b j)) (if m j = true then b j + 1 else 0)
/-- how long a common row of the first i and the first j can be -/
def L : Nat → Nat → Nat
  | 0 => fun _ => 0
  | i + 1 => nxt (M i) (L i)
abbrev Pr := Nat × Nat
def bh (a b : Pr) : Prop := a.1 < b.1 ∧ a.2 < b.2
/-- a common row -/
def Ch (l : List Pr) : Prop := l.Pairwise bh ∧ ∀ p ∈ l, M p.1 p.2 = true
def Bd (i j : Nat) (l : List Pr) : Prop := ∀ p ∈ l, p.1 < i ∧ p.2 < j
variable {M}
theorem ch_nil : Ch M [] := ⟨.nil, fun p h => by cases h⟩
theorem ch_left {l k : List Pr} (h : Ch M (l ++ k)) : Ch M l := ⟨(List.pairwise_append.mp h.1).1, fun p hp => h.2 p (List.mem_append_left _ hp)⟩
theorem ch_right {l k : List Pr} (h : Ch M (l ++ k)) : Ch M k := ⟨(List.pairwise_append.mp h.1).2.1, fun p hp => h.2 p (List.mem_append_right _ hp)⟩
theorem ch_app {l k : List Pr} (h : Ch M l) (g : Ch M k) (c : ∀ a ∈ l, ∀ b ∈ k, bh a b) : Ch M (l ++ k) := ⟨List.pairwise_append.mpr ⟨h.1, g.1, c⟩, fun p hp => (List.mem_append.mp hp).elim (h.2 p) (g.2 p)⟩
theorem ch_one {p : Pr} (h : M p.1 p.2 = true) : Ch M [p] := ⟨List.pairwise_singleton _ _, fun q hq => by rw [List.mem_singleton.mp hq]; exact h⟩
theorem ch_last {l : List Pr} {p : Pr} (h : Ch M (l ++ [p])) : Bd p.1 p.2 l := fun a ha => (List.pairwise_append.mp h.1).2.2 a ha p (List.mem_singleton.mpr rfl)
theorem snoc {l : List Pr} : l = [] ∨ ∃ k p, l = k ++ [p] := by
  rcases List.eq_nil_or_concat l with h | ⟨k, p, h⟩
  · exact .inl h
  · exact .inr ⟨k, p, by rw [h]; simp⟩
theorem L_up : ∀ (i j : Nat) (l : List Pr), Ch M l → Bd i j l → l.length ≤ L M i j
  | 0, j, l, h, b => by
    cases l with
    | nil => simp
    | cons p l => exact absurd (b p List.mem_cons_self).1 (by omega)
  | i + 1, 0, l, h, b => by
    cases l with
    | nil => simp
    | cons p l => exact absurd (b p List.mem_cons_self).2 (by omega)
  | i + 1, j + 1, l, h, b => by
    have e : L M (i + 1) (j + 1) = max (max (L M i (j + 1)) (L M (i + 1) j)) (if M i j = true then L M i j + 1 else 0) := rfl
    rw [e]
    rcases snoc (l := l) with rfl | ⟨k, p, rfl⟩
    · simp
    have hp := b p (by simp)
    have hk := ch_last h
    by_cases h1 : p.1 < i
    · have := L_up i (j + 1) (k ++ [p]) h fun q hq => by
        rcases List.mem_append.mp hq with hq | hq
        · have := hk q hq
          omega
        · rw [List.mem_singleton.mp hq]
          omega
      omega
    · by_cases h2 : p.2 < j
      · have := L_up (i + 1) j (k ++ [p]) h fun q hq => by
          rcases List.mem_append.mp hq with hq | hq
          · have := hk q hq
            omega
          · rw [List.mem_singleton.mp hq]
            omega
        omega
      · have e1 : p.1 = i := by omega
        have e2 : p.2 = j := by omega
        have hm := h.2 p (by simp)
        rw [e1, e2] at hm
        have := L_up i j k (ch_left h) fun q hq => by
          have := hk q hq
          omega
        rw [if_pos hm, List.length_append]
        simp
        omega
theorem bd_le {i j i' j' : Nat} {l : List Pr} (h : Bd i j l) (hi : i ≤ i') (hj : j ≤ j') : Bd i' j' l := fun p hp => by
  have := h p hp
  omega
theorem L_is : ∀ (i j : Nat), ∃ l, Ch M l ∧ Bd i j l ∧ l.length = L M i j
  | 0, j => ⟨[], ch_nil, (fun p h => by cases h), rfl⟩
  | i + 1, 0 => ⟨[], ch_nil, (fun p h => by cases h), rfl⟩
  | i + 1, j + 1 => by
    have e : L M (i + 1) (j + 1) = max (max (L M i (j + 1)) (L M (i + 1) j)) (if M i j = true then L M i j + 1 else 0) := rfl
    obtain ⟨l1, a1, b1, c1⟩ := L_is i (j + 1)
    obtain ⟨l2, a2, b2, c2⟩ := L_is (i + 1) j
    obtain ⟨l3, a3, b3, c3⟩ := L_is i j
    by_cases hm : M i j = true
    · rw [if_pos hm] at e
      by_cases h1 : L M (i + 1) (j + 1) = L M i (j + 1)
      · exact ⟨l1, a1, bd_le b1 (by omega) (by omega), by omega⟩
      · by_cases h2 : L M (i + 1) (j + 1) = L M (i + 1) j
        · exact ⟨l2, a2, bd_le b2 (by omega) (by omega), by omega⟩
        · refine ⟨l3 ++ [(i, j)], ch_app a3 (ch_one hm) fun a ha b hb => ?_, fun q hq => ?_, ?_⟩
          · rw [List.mem_singleton.mp hb]
            exact b3 a ha
          · rcases List.mem_append.mp hq with hq | hq
            · have := b3 q hq
              omega
            · rw [List.mem_singleton.mp hq]
              exact ⟨by simp, by simp⟩
          · rw [List.length_append]
            simp
            omega
    · rw [if_neg hm] at e
      by_cases h1 : L M (i + 1) (j + 1) = L M i (j + 1)
      · exact ⟨l1, a1, bd_le b1 (by omega) (by omega), by omega⟩
      · exact ⟨l2, a2, bd_le b2 (by omega) (by omega), by omega⟩
theorem L_mono {i j i' j' : Nat} (hi : i ≤ i') (hj : j ≤ j') : L M i j ≤ L M i' j' := by
  obtain ⟨l, a, b, c⟩ := L_is (M := M) i j
  rw [← c]
  exact L_up _ _ l a (bd_le b hi hj)
/-! ### turned round -/
variable (M) in
def rv (n m : Nat) : Nat → Nat → Bool := fun i j => M (n - 1 - i) (m - 1 - j)
def tp (n m : Nat) (p : Pr) : Pr := (n - 1 - p.1, m - 1 - p.2)
theorem ch_turn {n m : Nat} {l : List Pr} (h : Ch M l) (b : Bd n m l) : Ch (rv M n m) (l.map (tp n m)).reverse := by
  refine ⟨?_, fun p hp => ?_⟩
  · rw [List.pairwise_reverse, List.pairwise_map]
    refine h.1.imp_of_mem fun {x y} hx hy hxy => ?_
    have := b x hx
    have := b y hy
    unfold bh tp at *
    omega
  · rw [List.mem_reverse] at hp
    obtain ⟨q, hq, rfl⟩ := List.mem_map.mp hp
    have := b q hq
    show M (n - 1 - (n - 1 - q.1)) (m - 1 - (m - 1 - q.2)) = true
    rw [show n - 1 - (n - 1 - q.1) = q.1 by omega, show m - 1 - (m - 1 - q.2) = q.2 by omega]
    exact h.2 q hq
theorem rv_rv {n m i j : Nat} (hi : i < n) (hj : j < m) : rv (rv M n m) n m i j = M i j := by
  show M (n - 1 - (n - 1 - i)) (m - 1 - (m - 1 - j)) = M i j
  rw [show n - 1 - (n - 1 - i) = i by omega, show m - 1 - (m - 1 - j) = j by omega]
theorem ch_turn' {n m : Nat} {l : List Pr} (h : Ch (rv M n m) l) (b : Bd n m l) : Ch M (l.map (tp n m)).reverse := by
  have h2 := ch_turn h b
  refine ⟨h2.1, fun p hp => ?_⟩
  have := h2.2 p hp
  rw [List.mem_reverse] at hp
  obtain ⟨q, hq, rfl⟩ := List.mem_map.mp hp
  have hb := b q hq
  rwa [rv_rv (by unfold tp; omega) (by unfold tp; omega)] at this
/-- the longest row that ends with p, the longest one that begins with it -/
def lev (M : Nat → Nat → Bool) (p : Pr) : Nat := L M p.1 p.2 + 1
def rst (M : Nat → Nat → Bool) (n m : Nat) (p : Pr) : Nat := L (rv M n m) (n - 1 - p.1) (m - 1 - p.2) + 1
theorem lev_up {l : List Pr} {p : Pr} (h : Ch M (l ++ [p])) : l.length + 1 ≤ lev M p := by
  have := L_up _ _ l (ch_left h) (ch_last h)
  unfold lev
  omega
theorem lev_is (p : Pr) (hp : M p.1 p.2 = true) : ∃ l, Ch M (l ++ [p]) ∧ Bd p.1 p.2 l ∧ l.length + 1 = lev M p := by
  obtain ⟨l, a, b, c⟩ := L_is (M := M) p.1 p.2
  exact ⟨l, ch_app a (ch_one hp) fun x hx y hy => by rw [List.mem_singleton.mp hy]; exact b x hx, b, by unfold lev; omega⟩
theorem ch_first {l : List Pr} {p : Pr} (h : Ch M (p :: l)) : ∀ q ∈ l, bh p q := (List.pairwise_cons.mp h.1).1
theorem rst_up {n m : Nat} {l : List Pr} {p : Pr} (h : Ch M (p :: l)) (b : Bd n m (p :: l)) : l.length + 1 ≤ rst M n m p := by
  have hp := b p List.mem_cons_self
  have h2 := ch_turn h b
  rw [List.map_cons, List.reverse_cons] at h2
  have := L_up _ _ _ (ch_left h2) (ch_last h2)
  rw [List.length_reverse, List.length_map] at this
  unfold rst
  unfold tp at this
  exact Nat.succ_le_succ this
theorem rst_is {n m : Nat} (p : Pr) (hp : M p.1 p.2 = true) (hn : p.1 < n) (hm : p.2 < m) : ∃ l, Ch M (p :: l) ∧ Bd n m (p :: l) ∧ l.length + 1 = rst M n m p := by
  obtain ⟨l, a, b, c⟩ := L_is (M := rv M n m) (n - 1 - p.1) (m - 1 - p.2)
  have b' : Bd n m l := bd_le b (by omega) (by omega)
  have a' := ch_turn' a b'
  have bb : ∀ q ∈ (l.map (tp n m)).reverse, bh p q ∧ q.1 < n ∧ q.2 < m := fun q hq => by
    rw [List.mem_reverse] at hq
    obtain ⟨r, hr, rfl⟩ := List.mem_map.mp hq
    have := b r hr
    unfold bh tp
    omega
  refine ⟨(l.map (tp n m)).reverse, ch_app (ch_one hp) a' fun x hx y hy => by rw [List.mem_singleton.mp hx]; exact (bb y hy).1, fun q hq => ?_, by unfold rst; rw [List.length_reverse, List.length_map]; omega⟩
  rcases List.mem_cons.mp hq with rfl | hq
  · exact ⟨hn, hm⟩
  · exact (bb q hq).2
/-! ### on a longest one -/
section
variable {n m : Nat}
theorem sum_le {p : Pr} (hp : M p.1 p.2 = true) (hn : p.1 < n) (hm : p.2 < m) : lev M p + rst M n m p ≤ L M n m + 1 := by
  obtain ⟨l, a1, b1, c1⟩ := lev_is p hp
  obtain ⟨k, a2, b2, c2⟩ := rst_is (n := n) (m := m) p hp hn hm
  have h : Ch M (l ++ p :: k) := ch_app (ch_left a1) a2 fun x hx y hy => by
    have h1 := b1 x hx
    rcases List.mem_cons.mp hy with rfl | hy
    · exact h1
    · have h2 := ch_first a2 y hy
      unfold bh at *
      omega
  have := L_up n m _ h fun q hq => by
    rcases List.mem_append.mp hq with hq | hq
    · have := b1 q hq
      omega
    · exact b2 q hq
  rw [List.length_append, List.length_cons] at this
  omega
/-- on a longest row, at its place -/
def On (M : Nat → Nat → Bool) (n m k : Nat) (p : Pr) : Prop := M p.1 p.2 = true ∧ p.1 < n ∧ p.2 < m ∧ lev M p = k ∧ lev M p + rst M n m p = L M n m + 1
theorem on_next {k : Nat} {p : Pr} (h : On M n m k p) (hk : k < L M n m) : ∃ q, On M n m (k + 1) q ∧ bh p q := by
  obtain ⟨h1, h2, h3, h4, h5⟩ := h
  obtain ⟨l, a, b, c⟩ := rst_is (n := n) (m := m) p h1 h2 h3
  cases l with
  | nil =>
    simp at c
    omega
  | cons q l =>
    have a' : Ch M (q :: l) := ch_right (l := [p]) a
    have hq := ch_first a q List.mem_cons_self
    have bq := b q (by simp)
    have mq := a.2 q (by simp)
    have r1 := rst_up (n := n) (m := m) a' fun x hx => b x (List.mem_cons_of_mem _ hx)
    have s1 := sum_le (n := n) (m := m) mq bq.1 bq.2
    obtain ⟨l2, a2, b2, c2⟩ := lev_is p h1
    have lq : l2.length + 1 + 1 ≤ lev M q := by
      have : Ch M ((l2 ++ [p]) ++ [q]) := ch_app a2 (ch_one mq) fun x hx y hy => by
        rw [List.mem_singleton.mp hy]
        rcases List.mem_append.mp hx with hx | hx
        · have := b2 x hx
          unfold bh at *
          omega
        · rw [List.mem_singleton.mp hx]
          exact hq
      have := lev_up this
      rw [List.length_append] at this
      simpa using this
    rw [List.length_cons] at c
    exact ⟨q, ⟨mq, bq.1, bq.2, by omega, by omega⟩, hq⟩
theorem on_first (h : 0 < L M n m) : ∃ q, On M n m 1 q := by
  obtain ⟨l, a, b, c⟩ := L_is (M := M) n m
  cases l with
  | nil =>
    simp at c
    omega
  | cons q l =>
    have bq := b q (by simp)
    have mq := a.2 q (by simp)
    have r1 := rst_up a b
    have s1 := sum_le (n := n) (m := m) mq bq.1 bq.2
    have l1 : 1 ≤ lev M q := by unfold lev; omega
    rw [List.length_cons] at c
    exact ⟨q, mq, bq.1, bq.2, by omega, by omega⟩
theorem on_le {k : Nat} {p : Pr} (h : On M n m k p) : 1 ≤ k ∧ k ≤ L M n m := by
  obtain ⟨h1, h2, h3, h4, h5⟩ := h
  have : 1 ≤ lev M p := by unfold lev; omega
  have : 1 ≤ rst M n m p := by unfold rst; omega
  omega
end
end KL

/-! Longest common rows: all of them by going on; turned texts; texts of one word. -/
namespace KL
variable {M : Nat → Nat → Bool}
theorem len_fst : ∀ {l : List Pr} {lo hi : Nat}, Ch M l → (∀ p ∈ l, lo ≤ p.1 ∧ p.1 < hi) → l.length ≤ hi - lo
  | [], lo, hi, _, _ => by simp
  | p :: l, lo, hi, h, b => by
    have hp := b p List.mem_cons_self
    have := len_fst (lo := p.1 + 1) (hi := hi) (ch_right (l := [p]) h) fun q hq => by
      have h1 := ch_first h q hq
      have h2 := b q (List.mem_cons_of_mem _ hq)
      unfold bh at h1
      omega
    rw [List.length_cons]
    omega
theorem len_snd : ∀ {l : List Pr} {lo hi : Nat}, Ch M l → (∀ p ∈ l, lo ≤ p.2 ∧ p.2 < hi) → l.length ≤ hi - lo
  | [], lo, hi, _, _ => by simp
  | p :: l, lo, hi, h, b => by
    have hp := b p List.mem_cons_self
    have := len_snd (lo := p.2 + 1) (hi := hi) (ch_right (l := [p]) h) fun q hq => by
      have h1 := ch_first h q hq
      have h2 := b q (List.mem_cons_of_mem _ hq)
      unfold bh at h1
      omega
    rw [List.length_cons]
    omega
/-- a straight row: c of them, from (i, j) on -/
def str (i j : Nat) : Nat → List Pr
  | 0 => []
  | c + 1 => (i, j) :: str (i + 1) (j + 1) c
theorem str_len : ∀ {c i j : Nat}, (str i j c).length = c
  | 0, _, _ => rfl
  | c + 1, i, j => by rw [str, List.length_cons, str_len]
theorem str_mem : ∀ {c i j : Nat} {p : Pr}, p ∈ str i j c → ∃ k, k < c ∧ p = (i + k, j + k)
  | 0, _, _, p, h => by cases h
  | c + 1, i, j, p, h => by
    rcases List.mem_cons.mp h with rfl | h
    · exact ⟨0, by omega, rfl⟩
    · obtain ⟨k, hk, rfl⟩ := str_mem h
      exact ⟨k + 1, by omega, by rw [show i + 1 + k = i + (k + 1) by omega, show j + 1 + k = j + (k + 1) by omega]⟩
theorem str_ch : ∀ {c i j : Nat}, (∀ k < c, M (i + k) (j + k) = true) → Ch M (str i j c)
  | 0, _, _, _ => ch_nil
  | c + 1, i, j, h => by
    refine ch_app (l := [(i, j)]) (ch_one (h 0 (by omega))) (str_ch fun k hk => ?_) fun a ha b hb => ?_
    · have := h (k + 1) (by omega)
      rwa [show i + (k + 1) = i + 1 + k by omega, show j + (k + 1) = j + 1 + k by omega] at this
    · rw [List.mem_singleton.mp ha]
      obtain ⟨k, _, rfl⟩ := str_mem hb
      exact ⟨by show i < i + 1 + k; omega, by show j < j + 1 + k; omega⟩
/-- a text of unlike words, turned round -/
theorem L_turned {n a : Nat} (ha : a ≤ n) (h : ∀ i j, i < n → j < n → (M i j = true ↔ i = (if j < n - a then j + a else j - (n - a)))) : L M n n = max (n - a) a := by
  have up : ∀ l, Ch M l → Bd n n l → l.length ≤ max (n - a) a := fun l hl b => by
    have at_ : ∀ p ∈ l, (a ≤ p.1 ∧ p.2 + a = p.1) ∨ (p.1 < a ∧ p.2 = p.1 + (n - a)) := fun p hp => by
      have bp := b p hp
      have := (h p.1 p.2 bp.1 bp.2).mp (hl.2 p hp)
      split at this <;> omega
    cases l with
    | nil => simp
    | cons p l =>
      have first := ch_first hl
      rcases at_ p List.mem_cons_self with hp | hp
      · have := len_fst (lo := a) (hi := n) hl fun q hq => by
          have bq := b q hq
          rcases List.mem_cons.mp hq with rfl | hq
          · omega
          · have := first q hq
            unfold bh at this
            omega
        omega
      · have := len_fst (lo := 0) (hi := a) hl fun q hq => by
          have bq := b q hq
          rcases List.mem_cons.mp hq with rfl | hq'
          · omega
          · have h1 := first q hq'
            have h2 := at_ q hq
            unfold bh at h1
            omega
        omega
  obtain ⟨l, x, y, z⟩ := L_is (M := M) n n
  have h1 := up l x y
  have h2 := L_up n n (str a 0 (n - a)) (str_ch (M := M) fun k hk => (h _ _ (by omega) (by omega)).mpr (by rw [if_pos (by omega)]; omega)) fun p hp => by
    obtain ⟨k, hk, rfl⟩ := str_mem hp
    show a + k < n ∧ 0 + k < n
    omega
  have h3 := L_up n n (str 0 (n - a) a) (str_ch (M := M) fun k hk => (h _ _ (by omega) (by omega)).mpr (by rw [if_neg (by omega)]; omega)) fun p hp => by
    obtain ⟨k, hk, rfl⟩ := str_mem hp
    show 0 + k < n ∧ n - a + k < n
    omega
  rw [str_len] at h2 h3
  omega
/-- texts of one word -/
theorem L_all {n m : Nat} (h : ∀ i j, i < n → j < m → M i j = true) : L M n m = min n m := by
  obtain ⟨l, x, y, z⟩ := L_is (M := M) n m
  have h1 := len_fst (lo := 0) (hi := n) x fun p hp => ⟨by omega, (y p hp).1⟩
  have h2 := len_snd (lo := 0) (hi := m) x fun p hp => ⟨by omega, (y p hp).2⟩
  have h3 := L_up n m (str 0 0 (min n m)) (str_ch (M := M) fun k hk => h _ _ (by omega) (by omega)) fun p hp => by
    obtain ⟨k, hk, rfl⟩ := str_mem hp
    show 0 + k < n ∧ 0 + k < m
    omega
  rw [str_len] at h3
  omega
/-! ### all rows of so many, one longer each time -/
def bhB (a b : Pr) : Bool := decide (a.1 < b.1) && decide (a.2 < b.2)
theorem bhB_iff {a b : Pr} : bhB a b = true ↔ bh a b := by
  unfold bhB bh
  rw [Bool.and_eq_true, decide_eq_true_eq, decide_eq_true_eq]
/-- what may stand behind a row -/
def okNext (row : List Pr) (p : Pr) : Bool := match row.getLast? with
  | none => true
  | some q => bhB q p
def longer (ps : List Pr) (rows : List (List Pr)) : List (List Pr) := rows.flatMap fun row => (ps.filter (okNext row)).map fun p => row ++ [p]
def rowsOf (ps : List Pr) : Nat → List (List Pr)
  | 0 => [[]]
  | k + 1 => longer ps (rowsOf ps k)
section
variable {n m : Nat} {ps : List Pr} (hps : ∀ p : Pr, p ∈ ps ↔ (p.1 < n ∧ p.2 < m ∧ M p.1 p.2 = true))
include hps
theorem rows_sound : ∀ (k : Nat) (l : List Pr), l ∈ rowsOf ps k → Ch M l ∧ Bd n m l ∧ l.length = k
  | 0, l, h => by
    rw [rowsOf, List.mem_singleton] at h
    subst h
    exact ⟨ch_nil, (fun p h => by cases h), rfl⟩
  | k + 1, l, h => by
    rw [rowsOf, longer, List.mem_flatMap] at h
    obtain ⟨row, hr, hl⟩ := h
    obtain ⟨p, hp, rfl⟩ := List.mem_map.mp hl
    rw [List.mem_filter] at hp
    obtain ⟨a, b, c⟩ := rows_sound k row hr
    obtain ⟨q1, q2, q3⟩ := (hps p).mp hp.1
    refine ⟨ch_app a (ch_one q3) fun x hx y hy => ?_, fun q hq => ?_, by rw [List.length_append, c]; rfl⟩
    · rw [List.mem_singleton.mp hy]
      rcases snoc (l := row) with rfl | ⟨r, z, rfl⟩
      · cases hx
      · have hz : bh z p := by
          have := hp.2
          unfold okNext at this
          rw [List.getLast?_append] at this
          simpa [bhB_iff] using this
        rcases List.mem_append.mp hx with hx | hx
        · have := ch_last a x hx
          unfold bh at *
          omega
        · rw [List.mem_singleton.mp hx]
          exact hz
    · rcases List.mem_append.mp hq with hq | hq
      · exact b q hq
      · rw [List.mem_singleton.mp hq]
        exact ⟨q1, q2⟩
theorem rows_full : ∀ (k : Nat) (l : List Pr), Ch M l → Bd n m l → l.length = k → l ∈ rowsOf ps k
  | 0, l, _, _, h => by
    rw [List.length_eq_zero_iff.mp h, rowsOf]
    exact List.mem_singleton.mpr rfl
  | k + 1, l, h, b, e => by
    rcases snoc (l := l) with rfl | ⟨r, p, rfl⟩
    · cases e
    · rw [rowsOf, longer, List.mem_flatMap]
      refine ⟨r, rows_full k r (ch_left h) (fun q hq => b q (List.mem_append_left _ hq)) (by rw [List.length_append] at e; simp at e; exact e), List.mem_map.mpr ⟨p, List.mem_filter.mpr ⟨?_, ?_⟩, rfl⟩⟩
      · have := b p (by simp)
        exact (hps p).mpr ⟨this.1, this.2, h.2 p (by simp)⟩
      · unfold okNext
        rcases snoc (l := r) with rfl | ⟨s, z, rfl⟩
        · rfl
        · rw [List.getLast?_append]
          show bhB z p = true
          rw [bhB_iff]
          exact (List.pairwise_append.mp h.1).2.2 z (by simp) p (by simp)
theorem rows_none {k : Nat} : rowsOf ps k = [] ↔ L M n m < k := by
  constructor
  · intro h
    by_cases hk : k ≤ L M n m
    · obtain ⟨l, x, y, z⟩ := L_is (M := M) n m
      have : l.take k ∈ rowsOf ps k := rows_full hps k _ (ch_left (k := l.drop k) (by rw [List.take_append_drop]; exact x)) (fun p hp => y p (List.mem_of_mem_take hp)) (by rw [List.length_take]; omega)
      rw [h] at this
      cases this
    · omega
  · intro h
    cases e : rowsOf ps k with
    | nil => rfl
    | cons l r =>
      obtain ⟨x, y, z⟩ := rows_sound hps k l (by rw [e]; exact List.mem_cons_self)
      have := L_up n m l x y
      omega
end
end KL

/-! How many common rows there can be. -/
namespace KL
def sm : Nat → (Nat → Nat) → Nat
  | 0, _ => 0
  | n + 1, f => sm n f + f n
theorem sm_le : ∀ {n : Nat} {f g : Nat → Nat}, (∀ i, i < n → f i ≤ g i) → sm n f ≤ sm n g
  | 0, _, _, _ => Nat.le_refl _
  | n + 1, f, g, h => Nat.add_le_add (sm_le fun i hi => h i (by omega)) (h n (by omega))
theorem sm_eq {n : Nat} {f g : Nat → Nat} (h : ∀ i, i < n → f i = g i) : sm n f = sm n g := Nat.le_antisymm (sm_le fun i hi => Nat.le_of_eq (h i hi)) (sm_le fun i hi => Nat.le_of_eq (h i hi).symm)
theorem sm_zero : ∀ {n : Nat}, sm n (fun _ => 0) = 0
  | 0 => rfl
  | n + 1 => by rw [sm, sm_zero]
theorem sm_left : ∀ {n : Nat} {f : Nat → Nat}, sm (n + 1) f = f 0 + sm n fun i => f (i + 1)
  | 0, f => by simp [sm]
  | n + 1, f => by
    rw [sm, sm_left (n := n), sm]
    omega
theorem sm_rev : ∀ {n : Nat} {f : Nat → Nat}, sm n (fun i => f (n - 1 - i)) = sm n f
  | 0, _ => rfl
  | n + 1, f => by
    rw [sm_left, sm]
    have : sm n (fun i => f (n + 1 - 1 - (i + 1))) = sm n fun i => f (n - 1 - i) := sm_eq fun i hi => by
      show f (n + 1 - 1 - (i + 1)) = f (n - 1 - i)
      rw [show n + 1 - 1 - (i + 1) = n - 1 - i by omega]
    rw [this, sm_rev]
    show f (n + 1 - 1 - 0) + sm n f = sm n f + f n
    rw [show n + 1 - 1 - 0 = n by omega]
    omega
/-- those behind q alone -/
theorem sm_behind {q : Nat} : ∀ {n : Nat} {f : Nat → Nat}, sm n (fun i => if q < i then f i else 0) = sm (n - 1 - q) fun k => f (q + 1 + k)
  | 0, f => by
    show 0 = sm (0 - 1 - q) _
    rw [show 0 - 1 - q = 0 by omega]
    rfl
  | n + 1, f => by
    rw [sm, sm_behind (n := n)]
    by_cases h : q < n
    · rw [if_pos h, show n + 1 - 1 - q = (n - 1 - q) + 1 by omega, sm, show q + 1 + (n - 1 - q) = n by omega]
    · rw [if_neg h, show n + 1 - 1 - q = 0 by omega, show n - 1 - q = 0 by omega]
      rfl
/-- all rows but the empty one, in a field of a and b -/
def S : Nat → Nat → Nat
  | 0 => fun _ => 0
  | a + 1 => fun b => S a b + sm b fun j => 1 + S a j
theorem S_is : ∀ (a b : Nat), S a b = sm a fun i => sm b fun j => 1 + S i j
  | 0, _ => rfl
  | a + 1, b => by
    show S a b + _ = sm a _ + _
    rw [S_is a b]
theorem S_left : ∀ (i j a b : Nat), i ≤ a → j ≤ b → S i j ≤ S a b := by
  have one : ∀ (b : Nat) (f : Nat → Nat) (j : Nat), j ≤ b → sm j f ≤ sm b f := by
    intro b f j h
    induction b with
    | zero => rw [show j = 0 by omega]; exact Nat.le_refl _
    | succ b ih =>
      by_cases e : j = b + 1
      · rw [e]; exact Nat.le_refl _
      · have := ih (by omega)
        rw [sm]
        omega
  intro i j a b hi hj
  rw [S_is, S_is]
  exact Nat.le_trans (sm_le fun k _ => one b _ j hj) (one a _ i hi)
variable {M : Nat → Nat → Bool} {n m : Nat}
/-- the matches -/
def rowM (m : Nat) (c : Nat → Bool) (i : Nat) : List Pr := ((List.range m).filter c).map fun j => (i, j)
def psL (M : Nat → Nat → Bool) (n m : Nat) : List Pr := (List.range n).flatMap fun i => rowM m (M i) i
theorem psL_mem (p : Pr) : p ∈ psL M n m ↔ (p.1 < n ∧ p.2 < m ∧ M p.1 p.2 = true) := by
  obtain ⟨i, j⟩ := p
  unfold psL rowM
  simp only [List.mem_flatMap, List.mem_range, List.mem_map, List.mem_filter]
  constructor
  · rintro ⟨i', h1, j', ⟨h2, h3⟩, e⟩
    cases e
    exact ⟨h1, h2, h3⟩
  · rintro ⟨h1, h2, h3⟩
    exact ⟨i, h1, j, ⟨h2, h3⟩, rfl⟩
theorem sum_row {c : Nat → Bool} {d : Pr → Bool} {w : Pr → Nat} {i : Nat} : ∀ {m : Nat}, (((rowM m c i).filter d).map w).sum ≤ sm m fun j => if d (i, j) = true then w (i, j) else 0
  | 0 => by simp [rowM, sm]
  | m + 1 => by
    have ih := sum_row (c := c) (d := d) (w := w) (i := i) (m := m)
    have e : rowM (m + 1) c i = rowM m c i ++ (if c m = true then [(i, m)] else []) := by
      unfold rowM
      rw [List.range_succ, List.filter_append, List.map_append]
      congr 1
      by_cases h : c m = true
      · rw [if_pos h]
        simp [h]
      · rw [if_neg h]
        simp [h]
    rw [e, List.filter_append, List.map_append, List.sum_append, sm]
    refine Nat.add_le_add ih ?_
    by_cases h : c m = true
    · rw [if_pos h]
      by_cases h2 : d (i, m) = true
      · rw [if_pos h2]
        simp [h2]
      · rw [if_neg h2]
        simp [h2]
    · rw [if_neg h]
      simp
theorem sum_all {d : Pr → Bool} {w : Pr → Nat} : ∀ {n : Nat}, (((psL M n m).filter d).map w).sum ≤ sm n fun i => sm m fun j => if d (i, j) = true then w (i, j) else 0
  | 0 => by simp [psL, sm]
  | n + 1 => by
    have ih := sum_all (d := d) (w := w) (n := n)
    have e : psL M (n + 1) m = psL M n m ++ rowM m (M n) n := by
      unfold psL
      rw [List.range_succ, List.flatMap_append]
      simp
    rw [e, List.filter_append, List.map_append, List.sum_append, sm]
    exact Nat.add_le_add ih sum_row
/-- how many rows a row can still become, itself too -/
def wt (n m : Nat) (row : List Pr) : Nat := match row.getLast? with
  | none => 1 + S n m
  | some q => 1 + S (n - 1 - q.1) (m - 1 - q.2)
theorem wt_snoc {row : List Pr} {p : Pr} : wt n m (row ++ [p]) = 1 + S (n - 1 - p.1) (m - 1 - p.2) := by
  unfold wt
  rw [List.getLast?_append]
  rfl
theorem wt_next (row : List Pr) : (((psL M n m).filter (okNext row)).map fun p => wt n m (row ++ [p])).sum + 1 ≤ wt n m row := by
  have e : (fun p : Pr => wt n m (row ++ [p])) = fun p => 1 + S (n - 1 - p.1) (m - 1 - p.2) := funext fun p => wt_snoc
  rw [e]
  refine Nat.le_trans (Nat.succ_le_succ sum_all) ?_
  rcases snoc (l := row) with rfl | ⟨r, q, rfl⟩
  · show sm n (fun i => sm m fun j => if true = true then 1 + S (n - 1 - i) (m - 1 - j) else 0) + 1 ≤ 1 + S n m
    rw [S_is n m]
    have : sm n (fun i => sm m fun j => if true = true then 1 + S (n - 1 - i) (m - 1 - j) else 0) = sm n fun i => sm m fun j => 1 + S i j := by
      rw [← sm_rev (n := n) (f := fun i => sm m fun j => 1 + S i j)]
      refine sm_eq fun i _ => ?_
      rw [← sm_rev (n := m) (f := fun j => 1 + S (n - 1 - i) j)]
      exact sm_eq fun j _ => if_pos rfl
    omega
  · have hd : ∀ p, okNext (r ++ [q]) p = bhB q p := fun p => by
      unfold okNext
      rw [List.getLast?_append]
      rfl
    rw [wt_snoc, S_is (n - 1 - q.1)]
    have : sm n (fun i => sm m fun j => if okNext (r ++ [q]) (i, j) = true then 1 + S (n - 1 - i) (m - 1 - j) else 0) = sm (n - 1 - q.1) fun i => sm (m - 1 - q.2) fun j => 1 + S i j := by
      have h1 : ∀ i, i < n → (sm m fun j => if okNext (r ++ [q]) (i, j) = true then 1 + S (n - 1 - i) (m - 1 - j) else 0) = if q.1 < i then sm (m - 1 - q.2) (fun j => 1 + S (n - 1 - i) j) else 0 := fun i _ => by
        by_cases hi : q.1 < i
        · rw [if_pos hi, ← sm_rev (n := m - 1 - q.2), show (sm (m - 1 - q.2) fun j => 1 + S (n - 1 - i) (m - 1 - q.2 - 1 - j)) = sm (m - 1 - q.2) fun k => (fun j => 1 + S (n - 1 - i) (m - 1 - j)) (q.2 + 1 + k) from sm_eq fun j _ => by
            show 1 + S (n - 1 - i) (m - 1 - q.2 - 1 - j) = 1 + S (n - 1 - i) (m - 1 - (q.2 + 1 + j))
            rw [show m - 1 - q.2 - 1 - j = m - 1 - (q.2 + 1 + j) by omega], ← sm_behind (q := q.2) (n := m) (f := fun j => 1 + S (n - 1 - i) (m - 1 - j))]
          refine sm_eq fun j _ => ?_
          rw [hd]
          by_cases hj : q.2 < j
          · rw [if_pos hj, if_pos (by simp [bhB, hi, hj])]
          · rw [if_neg hj, if_neg (by simp [bhB, hj])]
        · rw [if_neg hi]
          rw [show (fun j => if okNext (r ++ [q]) (i, j) = true then 1 + S (n - 1 - i) (m - 1 - j) else 0) = fun _ => 0 from funext fun j => if_neg (by rw [hd]; simp [bhB, hi])]
          exact sm_zero
      rw [sm_eq h1, sm_behind, ← sm_rev (n := n - 1 - q.1) (f := fun i => sm (m - 1 - q.2) fun j => 1 + S i j)]
      refine sm_eq fun i hi => sm_eq fun j _ => ?_
      rw [show n - 1 - (q.1 + 1 + i) = n - 1 - q.1 - 1 - i by omega]
    rw [this]
    omega
theorem rows_wt : ∀ k : Nat, ((rowsOf (psL M n m) k).map (wt n m)).sum ≤ 1 + S n m
  | 0 => by
    rw [rowsOf]
    simp [wt]
  | k + 1 => by
    refine Nat.le_trans ?_ (rows_wt k)
    rw [rowsOf]
    generalize rowsOf (psL M n m) k = rows
    induction rows with
    | nil => simp [longer]
    | cons row rows ih =>
      have h := wt_next (M := M) (n := n) (m := m) row
      have e : longer (psL M n m) (row :: rows) = ((psL M n m).filter (okNext row)).map (fun p => row ++ [p]) ++ longer (psL M n m) rows := by
        unfold longer
        rw [List.flatMap_cons]
      rw [e, List.map_append, List.sum_append, List.map_map, List.map_cons, List.sum_cons]
      have h' : (((psL M n m).filter (okNext row)).map (wt n m ∘ fun p => row ++ [p])).sum + 1 ≤ wt n m row := h
      omega
theorem rows_many (k : Nat) : (rowsOf (psL M n m) k).length ≤ 1 + S n m := by
  refine Nat.le_trans ?_ (rows_wt (M := M) (n := n) (m := m) k)
  generalize rowsOf (psL M n m) k = rows
  induction rows with
  | nil => simp
  | cons row rows ih =>
    rw [List.map_cons, List.sum_cons, List.length_cons]
    have : 1 ≤ wt n m row := by
      unfold wt
      split <;> omega
    omega
theorem S_seven : S 7 7 = 3431 := by decide +kernel
end KL

/-! Matches of two texts, by the law. -/
namespace K52
open PySem PySem.Spec PyProof.Rows L2 KD KL
variable {P : Program} {w : World} {K : PySem.W.Frag} {mg : Str → Option Value} {base : Heap}
def prD (p : Pr) : PyData := .tuple [.int (p.1 : Nat), .int (p.2 : Nat)]
def rowD (l : List Pr) : PyData := .list (l.map prD)
def wAt (ws : List Str) (i : Nat) : Str := ws.getD i default
/-- the words at i and at j are the same -/
def Mw (ws vs : List Str) : Nat → Nat → Bool := fun i j => decide (wAt vs j = wAt ws i)
def matchL (ws vs : List Str) : List Pr := psL (Mw ws vs) ws.length vs.length
theorem eqv_str (a b : Str) : PyData.eqv (.str a) (.str b) = decide (a = b) := by
  have := eqv_strs [a] [b]
  simpa [PyData.eqvAll] using this
theorem enum_range (vs : List Str) : enumD (vs.map PyData.str) = (List.range vs.length).map fun j => .tuple [.int (j : Nat), .str (wAt vs j)] := by
  apply List.ext_getElem?
  intro j
  by_cases h : j < vs.length
  · have e : (vs.map PyData.str)[j]? = some (.str vs[j]) := by rw [List.getElem?_map, List.getElem?_eq_getElem h]; rfl
    rw [enumD_get e, List.getElem?_map, List.getElem?_range h]
    simp [wAt, List.getD_eq_getElem?_getD, List.getElem?_eq_getElem h]
  · rw [List.getElem?_eq_none (by rw [enumD_len, List.length_map]; omega), List.getElem?_eq_none (by rw [List.length_map, List.length_range]; omega)]
theorem enum_at {ws : List Str} {i : Nat} {d : PyData} (h : (enumD (ws.map PyData.str))[i]? = some d) : i < ws.length ∧ d = .tuple [.int (i : Nat), .str (wAt ws i)] := by
  rw [enum_range, List.getElem?_map] at h
  have hi : i < ws.length := by
    by_cases hi : i < ws.length
    · exact hi
    · rw [List.getElem?_eq_none (by rw [List.length_range]; omega)] at h
      cases h
  rw [List.getElem?_range hi] at h
  exact ⟨hi, (Option.some.inj h).symm⟩
theorem row_data (ws vs : List Str) (i : Nat) : (((enumD (vs.map PyData.str)).filter fun d => PyData.eqv (it d 1) (.str (wAt ws i))).map fun d => PyData.tuple [.int (i : Nat), it d 0]) = (rowM vs.length (Mw ws vs i) i).map prD := by
  rw [enum_range, List.filter_map, List.map_map]
  unfold rowM
  rw [List.map_map]
  have : ((fun d => PyData.eqv (it d 1) (.str (wAt ws i))) ∘ fun j : Nat => PyData.tuple [.int (j : Nat), .str (wAt vs j)]) = Mw ws vs i := funext fun j => by
    show PyData.eqv (.str (wAt vs j)) (.str (wAt ws i)) = decide (wAt vs j = wAt ws i)
    rw [eqv_str]
  rw [this]
  rfl
theorem rowM_len {m i : Nat} {c : Nat → Bool} : (rowM m c i).length ≤ m := by
  unfold rowM
  rw [List.length_map]
  exact Nat.le_trans (List.length_filter_le _ _) (by rw [List.length_range]; exact Nat.le_refl _)
theorem psL_succ (M : Nat → Nat → Bool) (n m : Nat) : psL M (n + 1) m = psL M n m ++ rowM m (M n) n := by
  unfold psL
  rw [List.range_succ, List.flatMap_append]
  simp
theorem psL_len (M : Nat → Nat → Bool) (m : Nat) : ∀ n, (psL M n m).length ≤ n * m
  | 0 => by simp [psL]
  | n + 1 => by
    have := psL_len M m n
    have := rowM_len (m := m) (i := n) (c := M n)
    rw [psL_succ, List.length_append, Nat.succ_mul]
    omega
theorem envUn' {X : Addr → Prop} {H : Hp} {σ : L2.St} {Γ : List Sv} (E : EnvOk X H σ Γ) (i : Nat) : EnvOk X H σ (Γ.set i .un) := ⟨by rw [List.length_set]; exact E.len, fun j s e => by
  rw [List.getElem?_set] at e
  split at e
  · split at e
    · cases e
      trivial
    · cases e
  · exact E.get j s e⟩
theorem k_drop1 {te : TE} {D : Ends} {σ : L2.St} {H : Hp} (h : tSeq (tDrop te) (fun D σ H => D.nx σ H) D σ H) : tDrop te D σ H := h
abbrev s__law_m_behind : Stmt := topS 28
abbrev n__law_m_behind : List Str := ["_law_pair", "_law_near"]
theorem sc__law_m_behind : FnScope n__law_m_behind ["_law_pair", "_law_near"] (defScope s__law_m_behind) := ⟨rfl, rfl, rfl, by decide +kernel, rfl, by decide +kernel, by decide +kernel⟩
def pr2 (a b : PyData) : Prop := ∃ p q : Pr, a = prD p ∧ b = prD q
def prOf (a : PyData) : Pr := ((intOf (it a 0)).toNat, (intOf (it a 1)).toNat)
theorem prOf_prD (p : Pr) : prOf (prD p) = p := by
  obtain ⟨i, j⟩ := p
  rfl
theorem ok_behind {f : Addr} {fd : FuncData} (F : Fun K "_law_m_behind" "_law_m_behind" s__law_m_behind f fd) (T : Bl mg) : FnOk P w K mg base CX0 1 f fd ["_law_pair", "_law_near"] (sp2 pr2 fun a b => .bool (bhB (prOf b) (prOf a))) := by
  refine ok2 F sc__law_m_behind (by decide) fun cdv A outer s H E X d1 d2 Q hr t hp q => ⟨_, (pss_one (ps_ret (pe_and (pe_cmpR op_gt (pe_ix ix_seq (pv 0) pe_int (fun _ _ => rfl)) (pe_ix ix_seq (pv 1) pe_int (fun _ _ => rfl)) (nomark _)) (pe_one (pe_cmpR op_gt (pe_ix ix_seq (pv 0) pe_int (fun _ _ => rfl)) (pe_ix ix_seq (pv 1) pe_int (fun _ _ => rfl)) (nomark _)))))), fun σ En => ?_⟩
  obtain ⟨⟨i, j⟩, ⟨k, l⟩, rfl, rfl⟩ := hp
  refine s_ret (X := X) (g_is (g_and (a := decide (((k : Nat) : Int) < ((i : Nat) : Int))) (b := decide (((l : Nat) : Int) < ((j : Nat) : Int))) ?_ fun _ => ?_) ?_) q
  · exact g_op t (g_ixT t (g_var (i := 0) (d := prD (i, j)) En rfl) g_int rfl) (g_ixT t (g_var (i := 1) (d := prD (k, l)) En rfl) g_int rfl) fun H1 u v _ ru rv Q q => ⟨(i : Nat), (k : Nat), ru.int_inv, rv.int_inv, q _ H1 (Same.refl H1) (.bl _)⟩
  · exact g_op t (g_ixT t (g_var (i := 0) (d := prD (i, j)) En rfl) g_int rfl) (g_ixT t (g_var (i := 1) (d := prD (k, l)) En rfl) g_int rfl) fun H1 u v _ ru rv Q q => ⟨(j : Nat), (l : Nat), ru.int_inv, rv.int_inv, q _ H1 (Same.refl H1) (.bl _)⟩
  · rw [prOf_prD, prOf_prD]
    simp [bhB]
-- HINT _law_m_matches lctt#1 tTest (tOp (rEqD K) (tVar 6) (tVar 4))
abbrev s__law_m_matches : Stmt := topS 27
abbrev n__law_m_matches : List Str := ["_law_one", "_law_other", "_law_found", "_law_at", "_law_words", "_law_to", "_law_near"]
theorem sc__law_m_matches : FnScope n__law_m_matches ["_law_one", "_law_other"] (defScope s__law_m_matches) := ⟨rfl, rfl, rfl, by decide +kernel, rfl, by decide +kernel, by decide +kernel⟩
def ws2 (a b : PyData) : Prop := ∃ ws vs : List Str, a = wsD ws ∧ b = wsD vs ∧ ws.length ≤ 100 ∧ vs.length ≤ 100 ∧ WsOk ws ∧ WsOk vs
theorem wAt_ok {ws : List Str} (h : WsOk ws) {i : Nat} (hi : i < ws.length) : PyData.strOk (wAt ws i) = true := by
  unfold wAt
  rw [List.getD_eq_getElem?_getD, List.getElem?_eq_getElem hi]
  exact h.2 _ (List.getElem_mem hi)
theorem ok_matches {f : Addr} {fd : FuncData} (F : Fun K "_law_m_matches" "_law_m_matches" s__law_m_matches f fd) (T : Bl mg) : FnOk P w K mg base CX0 1 f fd ["_law_one", "_law_other"] (sp2 ws2 fun a b => rowD (matchL (wsOf a) (wsOf b))) := by
  refine ok2 F sc__law_m_matches (by decide) fun cdv A outer s H E X d1 d2 Q hr t hp q => ⟨_, (pss_cons (ps_set (i := 2) sc__law_m_matches.nd rfl (by first | exact Or.inl rfl | exact Or.inr rfl) (pe_lst pa_nil))
    (pss_cons (ps_for PassesOwn.never rfl (pi_enum (by rfl) T.b_enumerate (pa_cons (pv 0) pa_nil)) (pg_tup (n := 2) rfl (pgs_cons (pg_name (i := 3) sc__law_m_matches.nd rfl (by first | exact Or.inl rfl | exact Or.inr rfl)) (pgs_cons (pg_name (i := 4) sc__law_m_matches.nd rfl (by first | exact Or.inl rfl | exact Or.inr rfl)) pgs_nil)))
    (pss_one (ps_expr (pe_bm PySem.F.plainAttrs_list PySem.F.slot_list_extend PySem.F.type_list_extend mt_extend (pv 2) (pa_cons (pe_lc (own := [("_law_to", 5), ("_law_near", 6)]) (g := (gTup K 2 (gCons (gName 5) (gCons (gName 6) gNil)))) (tt := tTest (tOp (rEqD K) (tVar 6) (tVar 4))) rfl sc__law_m_matches.nd (pi_enum (by rfl) T.b_enumerate (pa_cons (pv 1) pa_nil)) (blkOk_by (N := n__law_m_matches) (sc := defScope s__law_m_matches) (by decide +kernel)) (fun _ _ _ _ _ => (pg_tup (n := 2) rfl (pgs_cons (pg_name (i := 5) sc__law_m_matches.nd rfl (by first | exact Or.inl rfl | exact Or.inr rfl)) (pgs_cons (pg_name (i := 6) sc__law_m_matches.nd rfl (by first | exact Or.inl rfl | exact Or.inr rfl)) pgs_nil)))) (fun _ _ _ _ _ => (pts_one (pt_cmpR (op_eqD hr.units) (pv 6) (pv 4) (nomark _)))) (fun _ _ _ _ _ => (pe_tup (pa_cons (pv 3) (pa_cons (pv 5) pa_nil))))) pa_nil)))))
    (pss_one (ps_ret (pv 2))))), fun σ En => ?_⟩
  obtain ⟨ws, vs, rfl, rfl, l1, l2, k1, k2⟩ := hp
  rw [wsOf_wsD, wsOf_wsD] at q
  refine k_own (i := 2) En t (gn_lst t ga_nil (by simp)) fun L H1 xs hL s1 h1 x1 E1 t1 => ?_
  have nX : ¬ X L := t.new hL
  let X' : Addr → Prop := fun b => X b ∨ b = L
  refine s_forD (X := X') (gi_enum (g_var (i := 0) (d := wsD ws) E1 rfl)) (fun Hb i σ' H' => Kp X' Hb H' ∧ Trk X' H' ∧ Same H H' ∧ ∃ ys, H' L = some (.lst ys) ∧ DXs X' H' ys ((psL (Mw ws vs) i vs.length).map prD) ∧ EnvOk X' H' σ' [.dat (wsD ws), .dat (wsD vs), .val (.ref L), .un, .un, .un, .un]) ?_ ?_ ?_ ?_
  · intro Hb sb
    exact ⟨Kp.refl, t1.mono sb, s1.trans sb, xs, sb _ _ h1, x1.mono (Kp.of sb), E1.same sb⟩
  · rintro Hb i σ' H' ⟨p1, p2, _⟩
    exact ⟨p1, p2⟩
  · rintro Hb i x d σ' H' H'' sb hd ⟨p1, p2, p3, ys, p4, p5, E⟩ s5 dx
    obtain ⟨hi, rfl⟩ := enum_at hd
    have t5 := p2.mono s5
    refine g_pair dx fun u v q1 q2 => ?_
    have E5 := ((E.same s5).set (i := 3) q1).set (i := 4) q2
    have lp := psL_len (Mw ws vs) vs.length i
    have l5 : i * vs.length ≤ 100 * 100 := Nat.mul_le_mul (by omega) l2
    have lr := rowM_len (m := vs.length) (i := i) (c := Mw ws vs i)
    refine k_drop1 (q_extend (i := 2) (L := L) (es := (rowM vs.length (Mw ws vs i) i).map prD) E5 rfl (.inr rfl) t5 (s5 _ _ p4) (p5.mono (Kp.of s5)) (g_is (g_lc (ds := enumD (vs.map PyData.str)) (Γ2 := fun d => (((((([.dat (wsD ws), .dat (wsD vs), .val (.ref L), .dat (.int (i : Nat)), .dat (.str (wAt ws i)), .un, .un] : List Sv)).set 6 .un).set 5 .un).set 5 (.dat (it d 0))).set 6 (.dat (it d 1)))) (fun d => PyData.eqv (it d 1) (.str (wAt ws i))) (fun d => .tuple [.int (i : Nat), it d 0]) t5 (gi_enum (g_var (i := 1) (d := wsD vs) E5 rfl)) (by rw [enumD_len, List.length_map]; omega) (fun H3 s3 p hp => ?_) (fun X2 H3 σ2 p hp t3 E3 => ?_) (fun X2 H3 σ2 p hp hf t3 E3 => ?_)) (by rw [row_data])) (by rw [List.length_map, List.length_map]; omega) fun H6 ys6 h6 x6 E6 t6 k6 => ?_)
    · obtain ⟨j, hj⟩ := List.mem_iff_getElem?.mp hp
      obtain ⟨_, rfl⟩ := enum_at hj
      exact tgt_pair (E5.same s3) (by decide)
    · obtain ⟨j, hj⟩ := List.mem_iff_getElem?.mp hp
      obtain ⟨hj2, rfl⟩ := enum_at hj
      exact gt_eqD t3 (x := .str (wAt vs j)) (y := .str (wAt ws i)) (g_var (i := 6) E3 rfl) (g_var (i := 4) E3 rfl) rfl rfl (shaped_str (wAt_ok k2 hj2)) (shaped_str (wAt_ok k1 hi))
    · obtain ⟨j, hj⟩ := List.mem_iff_getElem?.mp hp
      obtain ⟨hj2, rfl⟩ := enum_at hj
      exact g_tup t3 (ga_cons (g_var (i := 3) E3 rfl) (ga_cons (g_var (i := 5) (d := .int (j : Nat)) E3 rfl) ga_nil)) (by simp)
    · have kx : Kp X' H'' H6 := fun a o n e => k6 a o (fun z => n (.inr z)) e
      refine ⟨(p1.trans (Kp.of s5)).trans kx, t6, fun a o e => ?_, ys6, h6, ?_, envUn' (envUn' E6 3) 4⟩
      · have n1 : a ≠ L := fun z => by rw [z, hL] at e; cases e
        exact k6 a o n1 (s5 a o (p3 a o e))
      · rw [psL_succ, List.map_append]
        exact x6
  · rintro Hb σ' H' sb ⟨p1, p2, p3, ys, p4, p5, E⟩
    rw [enumD_len, List.length_map] at p5
    have E8 := E.give (i := 2) rfl nX p4 p5
    exact s_ret (X := X) (D := { nx := fun _ H' => Q .non H', rt := Q }) (d := rowD (matchL ws vs)) (g_var (i := 2) E8 rfl) fun w H9 s9 dw => q w H9 (p3.trans s9) dw
end K52

/-! All longest common rows, by the law. -/
namespace K52
open PySem PySem.Spec PyProof.Rows L2 KD KL
variable {P : Program} {w : World} {K : PySem.W.Frag} {mg : Str → Option Value} {base : Heap}
def rowsD (ls : List (List Pr)) : PyData := .list (ls.map rowD)
theorem nd_all : ∀ {ds : List PyData}, (∀ z ∈ ds, noDict z = true) → noDicts ds = true
  | [], _ => by simp [noDicts]
  | d :: ds, h => by simp [noDicts, h d List.mem_cons_self, nd_all fun z hz => h z (List.mem_cons_of_mem _ hz)]
theorem lay_all : ∀ {ds : List PyData}, (∀ z ∈ ds, z.canLay0 = true) → PyData.canLayAll0 ds = true
  | [], _ => by simp [PyData.canLayAll0]
  | d :: ds, h => by simp [PyData.canLayAll0, h d List.mem_cons_self, lay_all fun z hz => h z (List.mem_cons_of_mem _ hz)]
theorem dep_all {k : Nat} : ∀ {ds : List PyData}, (∀ z ∈ ds, z.depth ≤ k) → PyData.depthAll ds ≤ k
  | [], _ => by simp [PyData.depthAll]
  | d :: ds, h => by
    have a := h d List.mem_cons_self
    have b := dep_all fun z hz => h z (List.mem_cons_of_mem _ hz)
    simp only [PyData.depthAll]
    omega
theorem row_mk {l : List Pr} {z : PyData} (h : z ∈ l.map prD) : ∃ p, p ∈ l ∧ z = prD p := by
  obtain ⟨p, hp, rfl⟩ := List.mem_map.mp h
  exact ⟨p, hp, rfl⟩
theorem row_shaped (l : List Pr) : noDict (rowD l) = true ∧ (rowD l).canLay0 = true ∧ (rowD l).depth ≤ 3 := by
  refine ⟨?_, ?_, ?_⟩
  · show noDicts (l.map prD) = true
    refine nd_all fun z hz => ?_
    obtain ⟨p, _, rfl⟩ := row_mk hz
    simp [prD, noDict, noDicts]
  · show PyData.canLay0 (.list (l.map prD)) = true
    simp only [PyData.canLay0]
    refine lay_all fun z hz => ?_
    obtain ⟨p, _, rfl⟩ := row_mk hz
    simp [prD, PyData.canLay0, PyData.canLayAll0]
  · have : PyData.depthAll (l.map prD) ≤ 1 := dep_all fun z hz => by
      obtain ⟨p, _, rfl⟩ := row_mk hz
      simp [prD, PyData.depth, PyData.depthAll]
    show PyData.depth (.list (l.map prD)) ≤ 3
    simp only [PyData.depth]
    omega
theorem shaped_mk {d : PyData} (h : d.canLay0 = true) (h2 : d.depth ≤ 64) : SeqAt.shaped d = true := by
  show (d.canLay0 && decide (d.depth ≤ 64)) = true
  rw [h, decide_eq_true h2]
  rfl
theorem row_sh (l : List Pr) : SeqAt.shaped (rowD l) = true := shaped_mk (row_shaped l).2.1 (by have := (row_shaped l).2.2; omega)
theorem rows_shaped (ls : List (List Pr)) : noDict (rowsD ls) = true ∧ SeqAt.shaped (rowsD ls) = true := by
  have mk : ∀ {z : PyData}, z ∈ ls.map rowD → ∃ l, z = rowD l := fun h => by
    obtain ⟨l, _, rfl⟩ := List.mem_map.mp h
    exact ⟨l, rfl⟩
  refine ⟨?_, shaped_mk ?_ ?_⟩
  · show noDicts (ls.map rowD) = true
    refine nd_all fun z hz => ?_
    obtain ⟨l, rfl⟩ := mk hz
    exact (row_shaped l).1
  · show PyData.canLay0 (.list (ls.map rowD)) = true
    simp only [PyData.canLay0]
    refine lay_all fun z hz => ?_
    obtain ⟨l, rfl⟩ := mk hz
    exact (row_shaped l).2.1
  · have : PyData.depthAll (ls.map rowD) ≤ 3 := dep_all fun z hz => by
      obtain ⟨l, rfl⟩ := mk hz
      exact (row_shaped l).2.2
    show PyData.depth (.list (ls.map rowD)) ≤ 64
    simp only [PyData.depth]
    omega
theorem eqv_nil {ds : List PyData} : PyData.eqv (.list ds) (.list []) = decide (ds = []) := by
  cases ds <;> simp [PyData.eqv, PyData.eqvAll]
theorem atI_last {l : List Pr} {p : Pr} : atI ((l ++ [p]).map prD) (-1) = some (prD p) := by
  unfold atI ixN
  simp
  rw [if_pos (by omega)]
  show (List.map prD l ++ [prD p])[((-1 : Int) + ((l.length : Int) + 1)).toNat]? = some (prD p)
  rw [show ((-1 : Int) + ((l.length : Int) + 1)).toNat = l.length by omega, List.getElem?_append_right (by simp)]
  simp
theorem longer_app (ps : List Pr) (a b : List (List Pr)) : longer ps (a ++ b) = longer ps a ++ longer ps b := by
  unfold longer
  rw [List.flatMap_append]
theorem longer_one (ps : List Pr) (row : List Pr) : longer ps [row] = (ps.filter (okNext row)).map fun p => row ++ [p] := by
  unfold longer
  simp
theorem next_data (ps row : List Pr) : (((ps.map prD).filter fun d => okNext row (prOf d)).map fun d => PyData.list (row.map prD ++ [d])) = ((ps.filter (okNext row)).map fun p => row ++ [p]).map rowD := by
  rw [List.filter_map, List.map_map, List.map_map]
  have : ((fun d => okNext row (prOf d)) ∘ prD) = okNext row := funext fun p => by
    show okNext row (prOf (prD p)) = _
    rw [prOf_prD]
  rw [this]
  congr 1
  funext p
  show PyData.list (row.map prD ++ [prD p]) = .list ((row ++ [p]).map prD)
  rw [List.map_append]
  rfl
theorem g_neg1 {X : Addr → Prop} {σ : L2.St} {H : Hp} : G X (tUn (rU fun i => .int (-i)) (tC (.int 1))) σ H (.int (-1)) := fun H1 s Q q => ⟨1, rfl, q _ H1 (Same.refl H1) (.int _)⟩
theorem k_name {i : Nat} {v : V} {σ : L2.St} {H : Hp} {Ψ : L2.St → Hp → Prop} (h : Ψ (σ.set i (some v)) H) : gName i v σ H Ψ := h
theorem k_set1 {te : TE} {i : Nat} {D : Ends} {σ : L2.St} {H : Hp} (h : te σ H fun v H1 => D.nx (σ.set i (some v)) H1) : tAsg te (gName i) D σ H := h
-- HINT _law_m_longest lctt#1 tOr (tTest (tOp (rEqD K) (tVar 6) (tLst tNil))) (tB (tCall (sp2 pr2 fun a b => .bool (bhB (prOf b) (prOf a))) [] E0 (tCons (tVar 7) (tCons (tOp (rIx K) (tVar 6) (tUn (rU fun i => .int (-i)) (tC (.int 1)))) tNil))))
abbrev s__law_m_longest : Stmt := topS 29
abbrev n__law_m_longest : List Str := ["_law_one", "_law_other", "_law_pairs", "_law_found", "_law_last", "_law_longer", "_law_row", "_law_pair"]
theorem sc__law_m_longest : FnScope n__law_m_longest ["_law_one", "_law_other"] (defScope s__law_m_longest) := ⟨rfl, rfl, rfl, by decide +kernel, rfl, by decide +kernel, by decide +kernel⟩
def ws7 (a b : PyData) : Prop := ∃ ws vs : List Str, a = wsD ws ∧ b = wsD vs ∧ ws.length ≤ 7 ∧ vs.length ≤ 7 ∧ WsOk ws ∧ WsOk vs
def longestL (ws vs : List Str) : List (List Pr) := rowsOf (matchL ws vs) (L (Mw ws vs) ws.length vs.length)
theorem ok_longest {f : Addr} {fd : FuncData} (F : Fun K "_law_m_longest" "_law_m_longest" s__law_m_longest f fd) (T : Bl mg) (O__law_m_matches : Own P w K mg base CX0 1 "_law_m_matches" ["_law_one", "_law_other"] (sp2 ws2 fun a b => rowD (matchL (wsOf a) (wsOf b))))
    (O__law_m_behind : Own P w K mg base CX0 1 "_law_m_behind" ["_law_pair", "_law_near"] (sp2 pr2 fun a b => .bool (bhB (prOf b) (prOf a)))) : FnOk P w K mg base CX0 2 f fd ["_law_one", "_law_other"] (sp2 ws7 fun a b => rowsD (longestL (wsOf a) (wsOf b))) := by
  refine ok2 F sc__law_m_longest (by decide) fun cdv A outer s H E X d1 d2 Q hr t hp q => ⟨_, (pss_cons (ps_par (i := 2) (j := 3) (by rfl) sc__law_m_longest.nd rfl rfl (by decide) rfl rfl (pa_cons (pe_own O__law_m_matches hr (by decide) (by rfl) (pa_cons (pv 0) (pa_cons (pv 1) pa_nil))) (pa_cons (pe_lst (pa_cons (pe_lst pa_nil) pa_nil)) pa_nil)) (by rfl))
    (Evl.pss_cut (ps_while PassesOwn.never (pt_cmpR (op_neD hr.units) (pv 3) (pe_lst pa_nil) (nomark _))
    (pss_cons (ps_par (i := 4) (j := 5) (by rfl) sc__law_m_longest.nd rfl rfl (by decide) rfl rfl (pa_cons (pv 3) (pa_cons (pe_lst pa_nil) pa_nil)) (by rfl))
    (pss_cons (ps_for PassesOwn.never rfl (pi_list (pv 3)) (pg_name (i := 6) sc__law_m_longest.nd rfl (by first | exact Or.inl rfl | exact Or.inr rfl))
    (pss_one (ps_expr (pe_bm PySem.F.plainAttrs_list PySem.F.slot_list_extend PySem.F.type_list_extend mt_extend (pv 5) (pa_cons (pe_lc (own := [("_law_pair", 7)]) (g := (gName 7)) (tt := tOr (tTest (tOp (rEqD K) (tVar 6) (tLst tNil))) (tB (tCall (sp2 pr2 fun a b => .bool (bhB (prOf b) (prOf a))) [] E0 (tCons (tVar 7) (tCons (tOp (rIx K) (tVar 6) (tUn (rU fun i => .int (-i)) (tC (.int 1)))) tNil))))) rfl sc__law_m_longest.nd (pi_list (pv 2)) (blkOk_by (N := n__law_m_longest) (sc := defScope s__law_m_longest) (by decide +kernel)) (fun _ _ _ _ _ => (pg_name (i := 7) sc__law_m_longest.nd rfl (by first | exact Or.inl rfl | exact Or.inr rfl))) (fun _ _ _ _ _ => (pts_one (PW.pt (pw_or (pt_cmpR (op_eqD hr.units) (pv 6) (pe_lst pa_nil) (nomark _)) (pw_or1 (pt_val (pe_own O__law_m_behind hr (by decide) (by rfl) (pa_cons (pv 7) (pa_cons (pe_ix ix_seq (pv 6) (pe_un un_neg pe_int) (fun _ _ => rfl)) pa_nil))))))))) (fun _ _ _ _ _ => (pe_op op_addA (pv 6) (pe_lst (pa_cons (pv 7) pa_nil))))) pa_nil)))))
    (pss_one (ps_set (i := 3) sc__law_m_longest.nd rfl (by first | exact Or.inl rfl | exact Or.inr rfl) (pv 5))))))
    (pss_one (ps_ret (pv 4))))), fun σ En => ?_⟩
  obtain ⟨ws, vs, rfl, rfl, l1, l2, k1, k2⟩ := hp
  rw [wsOf_wsD, wsOf_wsD] at q
  refine k_par (g_call2 t (g_var (i := 0) (d := wsD ws) En rfl) (g_var (i := 1) (d := wsD vs) En rfl) (by exact ⟨ws, vs, rfl, rfl, by omega, by omega, k1, k2⟩) H (Same.refl _) _ fun v1 H1 s1 r1 => g_lst (ds := [.list []]) (t.mono s1) (ga_cons (g_lst (t.mono s1) ga_nil (by simp)) ga_nil) (by simp) H1 (Same.refl _) _ fun v2 H2 s2 r2 => ⟨_, _, rfl, ?_⟩)
  rw [wsOf_wsD, wsOf_wsD] at r1
  have hps : ∀ p : Pr, p ∈ matchL ws vs ↔ (p.1 < ws.length ∧ p.2 < vs.length ∧ Mw ws vs p.1 p.2 = true) := psL_mem
  have hmany : ∀ k, (rowsOf (matchL ws vs) k).length ≤ 3432 := fun k => by
    have h := rows_many (M := Mw ws vs) (n := ws.length) (m := vs.length) k
    have h2 := S_left ws.length vs.length 7 7 l1 l2
    rw [S_seven] at h2
    show (rowsOf (psL (Mw ws vs) ws.length vs.length) k).length ≤ 3432
    omega
  have lps : (matchL ws vs).length ≤ 49 := by
    have h := psL_len (Mw ws vs) vs.length ws.length
    have h2 : ws.length * vs.length ≤ 7 * 7 := Nat.mul_le_mul l1 l2
    show (psL (Mw ws vs) ws.length vs.length).length ≤ 49
    omega
  have hnone : ∀ k, rowsOf (matchL ws vs) k = [] ↔ L (Mw ws vs) ws.length vs.length < k := fun k => rows_none hps
  unfold longestL at q
  generalize hT : L (Mw ws vs) ws.length vs.length = tot at q hnone
  generalize matchL ws vs = ps at *
  have E2 : EnvOk X H2 _ [.dat (wsD ws), .dat (wsD vs), .dat (rowD ps), .dat (rowsD [[]]), .un, .un, .un, .un] := ((En.same (s1.trans s2)).set (i := 2) (r1.mono (Kp.of s2))).set (i := 3) (d := rowsD [[]]) r2
  let Γ (k : Nat) (x : Sv) : List Sv := [.dat (wsD ws), .dat (wsD vs), .dat (rowD ps), .dat (rowsD (rowsOf ps k)), x, .un, .un, .un]
  let J : Nat → L2.St → Hp → Prop := fun l σ' H' => ∃ k x, l = tot + 1 - k ∧ k ≤ tot + 1 ∧ (k = 0 ∨ x = .dat (rowsD (rowsOf ps (k - 1)))) ∧ Same H H' ∧ EnvOk X H' σ' (Γ k x)
  refine ⟨fun σ' H' => Same H H' ∧ ∃ y, EnvOk X H' σ' [.dat (wsD ws), .dat (wsD vs), .dat (rowD ps), y, .dat (rowsD (rowsOf ps tot)), .un, .un, .un], ⟨J, ⟨_, 0, .un, rfl, by omega, .inl rfl, s1.trans s2, E2⟩, ?_⟩, ?_⟩
  rotate_left
  · rintro σ' H' ⟨p1, y, E⟩
    exact s_ret (X := X) (D := { nx := fun _ H' => Q .non H', rt := Q }) (d := rowsD (rowsOf ps tot)) (g_var (i := 4) E rfl) fun w H9 s9 dw => q w H9 (p1.trans s9) dw
  rintro l σ' H3 ⟨k, x, rfl, hk, hx, p1, E3⟩
  have t3 := t.mono p1
  obtain ⟨nd, sh⟩ := rows_shaped (rowsOf ps k)
  refine gt_neD t3 (x := rowsD (rowsOf ps k)) (y := .list []) (g_var (i := 3) E3 rfl) (g_lst t3 ga_nil (by simp)) nd rfl sh rfl H3 (Same.refl _) _ fun H4 s4 => ?_
  have E4 := E3.same s4
  have p4 := p1.trans s4
  have t4 := t.mono p4
  have eq : PyData.eqv (rowsD (rowsOf ps k)) (.list []) = decide (rowsOf ps k = []) := by
    show PyData.eqv (.list _) _ = _
    rw [eqv_nil]
    simp
  rw [eq]
  by_cases h0 : rowsOf ps k = []
  · rw [decide_eq_true h0]
    show (if (false : Bool) = true then _ else _)
    rw [if_neg (by simp)]
    have := (hnone k).mp h0
    have ek : k = tot + 1 := by omega
    subst ek
    rcases hx with hx | rfl
    · omega
    · exact ⟨p4, _, E4⟩
  rw [decide_eq_false h0]
  show (if (true : Bool) = true then _ else _)
  rw [if_pos rfl]
  have hkt : k < tot + 1 := by
    by_cases h : tot < k
    · exact absurd ((hnone k).mpr h) h0
    · omega
  refine ⟨fun σ' H' => ∃ l', l' < tot + 1 - k ∧ J l' σ' H', fun σ' H' h => h, ?_⟩
  -- last, longer
  refine k_par (g_var (i := 3) E4 rfl H4 (Same.refl _) _ fun v5 H5 s5 r5 => ?_)
  refine ⟨by show 0 ≤ sizeLine; omega, fun A hA => ⟨_, _, rfl, ?_⟩⟩
  have p5 := p4.trans s5
  have t5 := t.mono p5
  have nX : ¬ X A := t5.new hA
  have s6 : Same H5 (upd H5 A (.lst [])) := Same.upd hA
  let X' : Addr → Prop := fun b => X b ∨ b = A
  have t6 : Trk X' (upd H5 A (.lst [])) := t5.one hA
  have E6 : EnvOk X' (upd H5 A (.lst [])) _ [.dat (wsD ws), .dat (wsD vs), .dat (rowD ps), .dat (rowsD (rowsOf ps k)), .dat (rowsD (rowsOf ps k)), .val (.ref A), .un, .un] := ((((E4.same s5).set (i := 4) r5).more (More.one hA)).same s6).setV (i := 5) (v := .ref A)
  have hmk := hmany (k + 1)
  have hmk0 := hmany k
  have e1 : rowsOf ps (k + 1) = longer ps (rowsOf ps k) := rfl
  generalize hrows : rowsOf ps k = rows at *
  refine s_forD (X := X') (gi_list (g_var (i := 3) (d := rowsD rows) E6 rfl)) (fun Hb i σ' H' => Kp X' Hb H' ∧ Trk X' H' ∧ Same H5 H' ∧ ∃ ys, H' A = some (.lst ys) ∧ DXs X' H' ys ((longer ps (rows.take i)).map rowD) ∧ EnvOk X' H' σ' [.dat (wsD ws), .dat (wsD vs), .dat (rowD ps), .dat (rowsD rows), .dat (rowsD rows), .val (.ref A), .un, .un]) ?_ ?_ ?_ ?_
  · intro Hb sb
    exact ⟨Kp.refl, t6.mono sb, s6.trans sb, [], sb _ _ upd_same, .nil, E6.same sb⟩
  · rintro Hb i σ' H' ⟨p1, p2, _⟩
    exact ⟨p1, p2⟩
  · rintro Hb i x d σ' H' H'' sb hd ⟨q1, q2, q3, ys, q4, q5, E⟩ s7 dx
    rw [List.getElem?_map] at hd
    obtain ⟨row, hrow, rfl⟩ := Option.map_eq_some_iff.mp hd
    have hi := (List.getElem?_eq_some_iff.mp hrow).1
    have t7 := q2.mono s7
    refine k_name ?_
    have E7 := (E.same s7).set (i := 6) dx
    have lrow : row.length ≤ 7 := by
      obtain ⟨z1, z2, _⟩ := rows_sound hps k row (by rw [hrows]; exact List.mem_of_getElem? hrow)
      have := len_fst (lo := 0) (hi := ws.length) z1 fun p hp => ⟨by omega, (z2 p hp).1⟩
      omega
    have etake : longer ps (rows.take (i + 1)) = longer ps (rows.take i) ++ (ps.filter (okNext row)).map fun p => row ++ [p] := by
      rw [List.take_add_one, hrow, Option.toList_some, longer_app, longer_one]
    have ltake : (longer ps (rows.take i)).length + ((ps.filter (okNext row)).map fun p => row ++ [p]).length ≤ 3432 := by
      rw [← List.length_append, ← etake]
      have : longer ps rows = longer ps (rows.take (i + 1)) ++ longer ps (rows.drop (i + 1)) := by rw [← longer_app, List.take_append_drop]
      rw [e1, this, List.length_append] at hmk
      omega
    refine k_drop1 (q_extend (i := 5) (L := A) (es := ((ps.filter (okNext row)).map fun p => row ++ [p]).map rowD) E7 rfl (.inr rfl) t7 (s7 _ _ q4) (q5.mono (Kp.of s7)) (g_is (g_lc (ds := ps.map prD) (Γ2 := fun d => (([.dat (wsD ws), .dat (wsD vs), .dat (rowD ps), .dat (rowsD rows), .dat (rowsD rows), .val (.ref A), .dat (rowD row), .un] : List Sv).set 7 .un).set 7 (.dat d)) (fun d => okNext row (prOf d)) (fun d => .list (row.map prD ++ [d])) t7 (gi_list (g_var (i := 2) (d := rowD ps) E7 rfl)) (by rw [List.length_map]; omega) (fun H3 s3 p hp => tgt_name (E7.same s3)) (fun X2 H3 σ2 z hz t3 E3 => ?_) (fun X2 H3 σ2 z hz hf t3 E3 => ?_)) (by rw [next_data])) (by rw [List.length_map, List.length_map]; omega) fun H8 ys8 h8 x8 E8 t8 k8 => ?_)
    · obtain ⟨p, hp, rfl⟩ := row_mk hz
      rcases snoc (l := row) with rfl | ⟨r, qq, rfl⟩
      · exact gt_is (gt_or (a := true) (b := true) (gt_is (gt_eqD t3 (x := rowD []) (y := .list []) (g_var (i := 6) E3 rfl) (g_lst t3 ga_nil (by simp)) rfl rfl rfl rfl) rfl) (fun h => by cases h)) rfl
      · refine gt_is (gt_or (a := false) (gt_is (gt_eqD t3 (x := rowD (r ++ [qq])) (y := .list []) (g_var (i := 6) E3 rfl) (g_lst t3 ga_nil (by simp)) (row_shaped _).1 rfl (row_sh _) rfl) (by show PyData.eqv (.list _) _ = _; rw [eqv_nil]; simp)) fun _ => gt_B (g_call2 t3 (g_var (i := 7) (d := prD p) E3 rfl) (g_ixL t3 (g_var (i := 6) (d := rowD (r ++ [qq])) E3 rfl) g_neg1 atI_last) (by exact ⟨p, qq, rfl, rfl⟩))) ?_
        rw [prOf_prD, prOf_prD]
        unfold okNext
        rw [List.getLast?_append]
        rfl
    · exact g_cat t3 (g_var (i := 6) (d := rowD row) E3 rfl) (g_lst t3 (ga_cons (g_var (i := 7) E3 rfl) ga_nil) (by simp)) (by rw [List.length_map]; show row.length + 1 ≤ _; omega)
    · have kx : Kp X' H'' H8 := fun a o n e => k8 a o (fun z => n (.inr z)) e
      refine ⟨(q1.trans (Kp.of s7)).trans kx, t8, fun a o e => ?_, ys8, h8, ?_, envUn' E8 6⟩
      · have n1 : a ≠ A := fun z => by rw [z, hA] at e; cases e
        exact k8 a o n1 (s7 a o (q3 a o e))
      · rw [etake, List.map_append]
        exact x8
  · rintro Hb σ' H' sb ⟨q1, q2, q3, ys, q4, q5, E⟩
    rw [List.length_map, List.take_length] at q5
    have E8 := E.give (i := 5) rfl nX q4 q5
    refine k_set1 (g_var (i := 5) (d := rowsD (longer ps rows)) E8 rfl H' (Same.refl _) _ fun v9 H9 s9 r9 => ?_)
    have E9 := (E8.same s9).set (i := 3) r9
    exact ⟨_, by omega, k + 1, .dat (rowsD rows), rfl, by omega, .inr (by rw [Nat.add_sub_cancel, hrows]), (p5.trans q3).trans s9, by
      have z := envUn' E9 5
      rw [← e1] at z
      exact z⟩
end K52

/-! enumerate of a tuple, and of what is a list or a tuple. -/
namespace KD
open PySem PySem.Spec PyProof.Rows L2
open AutoSeq1 (wpAny_loadPart')
theorem newT (l : Addr) (its : Array Value) (n : Nat) (dc : Option Addr) (sl : Array (Option Value)) : Meets (Builtin.«enumerate.__new__» ⟨[.type "enumerate", .ref l], []⟩) (fun _ R s =>
    s.heap.get? l = some ⟨.type "tuple", dc, .seq its n, sl⟩ ∧ R (.ok (.ret (.ref (s.heap.push ⟨.type "tuple_iterator", none, .fields #[.ref l, .int 0 0], #[]⟩).objs.size))) { s with heap := (s.heap.push ⟨.type "tuple_iterator", none, .fields #[.ref l, .int 0 0], #[]⟩).push ⟨.type "enumerate", none, .fields #[.none, .bool false, .ref s.heap.objs.size, rawInt 0, .none, .none], #[]⟩ }) :=
  .of_wp fun prog w A R s q => by
    obtain ⟨hp, g, d, tk, os⟩ := s
    obtain ⟨e, q⟩ := q
    have hs := sub_enumerate
    have T : Heap.IsTuple (Shared.heap ⟨hp, g, d, tk, os⟩) l its := ⟨_, e, rfl, n, rfl⟩
    wp_walk using wpAny_loadPart' e
    refine wpAny_stack_any fun st => wpAny_pure ?_
    split
    · rename_i c _ _ _ _ _
      cases c == Value.type "enumerate" <;> (wp_walk using wpAny_loadPart' e, wpAny_pyIter_tuple T; exact ⟨_, rfl, q⟩)
    · wp_walk using wpAny_loadPart' e, wpAny_pyIter_tuple T
      exact ⟨_, rfl, q⟩
section
variable {P : Program} {w : World} {A : Around} {E : Value → Shared → Prop} {s : Shared} {l : Addr} {its : Array Value} {Q : Value → Shared → Prop}
theorem call_enumT (T : s.heap.IsTuple l its) (k : ∀ h', IsEnum h' (s.heap.objs.size + 1) s.heap.objs.size 0 .none → h'.IsTupleIter s.heap.objs.size l 0 → (∀ b o, s.heap.get? b = some o → h'.get? b = some o) → Q (.ref (s.heap.objs.size + 1)) { s with heap := h' }) :
    wpAny (model P w) A (call (.type "enumerate") [.ref l]) Q E s := by
  obtain ⟨⟨c, dc, dt, sl⟩, e, hc, n, hd⟩ := T
  simp only at hc hd
  subst hc
  subst hd
  refine callType_new F.called_enumerate (by decide) (F.typeCall_enumerate_1 _) (F.newCall_enumerate_1 _) (fun v => F.args_object_init_2 v _) F.entry_enumerate_new (newT l its n dc sl) ⟨e, (?_ : _ ∧ _)⟩
  have sz : (s.heap.push ⟨.type "tuple_iterator", none, .fields #[.ref l, .int 0 0], #[]⟩).objs.size = s.heap.objs.size + 1 := Heap.size_push ..
  rw [sz]
  have en := Heap.get?_push_size (s.heap.push ⟨.type "tuple_iterator", none, .fields #[.ref l, .int 0 0], #[]⟩) (o := ⟨.type "enumerate", none, .fields #[.none, .bool false, .ref s.heap.objs.size, rawInt 0, .none, .none], #[]⟩) rfl
  rw [sz] at en
  exact ⟨⟨_, en, rfl⟩, k _ en ⟨_, Heap.get?_push_of_some _ (Heap.get?_push_size _ rfl), rfl, rfl⟩ fun b o q => Heap.get?_push_of_some _ (Heap.get?_push_of_some _ q)⟩
end
/-- the tuple at a, each item in a new pair with its place -/
def ItEt (K : PySem.W.Frag) (a : Addr) (n : Nat) : It where
  go := fun i H => ∃ (xs : List V) (x : V), SqT K H a xs ∧ xs.length = n ∧ xs[i]? = some x
  yld := fun i H v H' => ∃ (T : Addr) (x : V), v = .ref T ∧ H T = none ∧ H' = upd H T (.tup [.int (i : Nat), x]) ∧ ∀ xs, SqT K H a xs → xs[i]? = some x
  stop := fun i H => ∃ xs : List V, SqT K H a xs ∧ xs.length = n ∧ xs.length ≤ i
theorem turn_enumT {P : Program} {w : World} {K : PySem.W.Frag} {elts : List Expr} {kk : Nat} {tpos : Pos} (a e it : Addr) (n : Nat) :
    Turn P w K (.Tuple elts kk tpos) (ItEt K a n) [e, it] e (fun i h => (∃ old, IsEnum h e it ((i : Nat) : Int) old) ∧ h.IsTupleIter it a i ∧ e ≠ it ∧ a ≠ it ∧ i ≤ n) where
  mem := List.mem_cons_self
  obj := fun i h st b hb => by
    obtain ⟨⟨old, he⟩, ⟨o, ho, hc, hd⟩, _⟩ := st
    rcases List.mem_cons.mp hb with z | z
    · subst z
      exact ⟨_, he, fun v q => nomatch q⟩
    · rw [List.mem_singleton.mp z]
      exact ⟨o, ho, fun v q => by rw [hd] at q; cases q⟩
  keep := fun i h h' st k => by
    obtain ⟨⟨old, he⟩, hi, h2, h3⟩ := st
    exact ⟨⟨old, k e List.mem_cons_self _ he⟩, hi.at fun o q => k it (.tail _ List.mem_cons_self) o q, h2, h3⟩
  item := by
    intro X hP hw hK hc i pins s σ H E I hf st hg
    subst hP hw hK
    obtain ⟨⟨old, he⟩, hit, hne, hne2, hle⟩ := st
    obtain ⟨xs, x, hq, hn, hx⟩ := hg
    obtain ⟨its, rv, p, hz⟩ := I.tuple hq
    obtain ⟨u, hu, ru⟩ := rv.get hx
    have hel : e < s.heap.objs.size := Heap.lt_size he
    have hil : it < s.heap.objs.size := by
      obtain ⟨_, q, _⟩ := hit
      exact Heap.lt_size q
    have nea : e ∉ [it, a] := fun q => by
      rcases List.mem_cons.mp q with q | q
      · exact hne q
      · obtain ⟨o, e1, e2, _⟩ := p
        rw [← List.mem_singleton.mp q, he] at e1
        cases e1
        exact absurd (show Value.type "enumerate" = Value.type "tuple" from e2) (by decide)
    have hlt : i < its.toArray.size := by
      rw [List.size_toArray]
      exact (List.getElem?_eq_some_iff.mp hu).1
    have D : Draws X.prog X.w X.A.in1 it [it, a] its.toArray.size _ _ := Draws.tuple (A := X.A.in1) (I.ok.hd hc) it a hne2 its.toArray
    refine wpAny_pyNext_enum_itemD D he ⟨hit, p⟩ hlt hne nea fun y h1 tk hy ho st1 hT hsz hk => ?_
    have ey : y = u := by
      rw [List.getElem?_toArray, hu] at hy
      exact (Option.some.inj hy).symm
    subst ey
    refine ⟨_, rfl, wpAny_letOwnedTupleGo_enum (s := { s with heap := h1, toks := tk + 1 }) ho fun h2 he' sb => ?_⟩
    have hT2 : h2.get? s.heap.objs.size = some { cls := .type "tuple", data := .seq #[.int i tk, y] } := (sb.2 _ (Nat.ne_of_gt hel)).trans hT
    have new : ObjOk X.prog X.w (upd H s.heap.objs.size (.tup [.int (i : Nat), x])) h2 s.heap.objs.size (.tup [.int (i : Nat), x]) := ⟨by show 2 ≤ sizeLine; decide, [.int i tk, y], .cons ⟨_, rfl⟩ (.cons ru .nil), ⟨_, hT2, rfl, _, rfl⟩⟩
    have no : ∀ b, b ∉ [e, it] → b ≠ e ∧ b ≠ it := fun b q => ⟨fun z => q (z ▸ List.mem_cons_self), fun z => q (z ▸ .tail _ List.mem_cons_self)⟩
    have I1 := I.turnedNew (t' := tk + 1) (ch := [e, it]) (fun b ob hb q => (sb.2 b (no b hb).1).trans (hk b ob (no b hb).1 (no b hb).2 q)) hf (Nat.le_refl _) new
    refine ⟨.ref s.heap.objs.size, _, I1, rfl, ⟨_, x, rfl, I.hok.fresh (Nat.le_refl _), rfl, fun ys hy => by rw [I.tuple_inj hy hq]; exact hx⟩, ⟨⟨y, ?_⟩, st1.1.at fun o q => (sb.2 it (Ne.symm hne)).trans q, hne, hne2, by
      have := (List.getElem?_eq_some_iff.mp hx).1
      omega⟩, fun b hb => ?_⟩
    · rw [show ((i + 1 : Nat) : Int) = (i : Int) + 1 by omega]
      exact he'
    · have lt : b < s.heap.objs.size := by
        rcases List.mem_cons.mp hb with z | z
        · rw [z]
          exact hel
        · rw [List.mem_singleton.mp z]
          exact hil
      rw [upd_ne (Nat.ne_of_lt lt)]
      exact (hf b hb).1
  done := by
    intro X hP hw hK hc i pins s σ H E I hf st hg
    subst hP hw hK
    obtain ⟨⟨old, he⟩, hit, hne, hne2, hle⟩ := st
    obtain ⟨xs, hq, hn, hx⟩ := hg
    obtain ⟨its, rv, p, hz⟩ := I.tuple hq
    obtain ⟨f0, f1, f2, f3, f4, f5⟩ := hf it (.tail _ List.mem_cons_self)
    have hl := rv.length
    have nea : e ∉ [it, a] := fun q => by
      rcases List.mem_cons.mp q with q | q
      · exact hne q
      · obtain ⟨o, e1, e2, _⟩ := p
        rw [← List.mem_singleton.mp q, he] at e1
        cases e1
        exact absurd (show Value.type "enumerate" = Value.type "tuple" from e2) (by decide)
    have ei : i = its.toArray.size := by
      rw [List.size_toArray]
      omega
    have D : Draws X.prog X.w X.A.in1 it [it, a] its.toArray.size _ _ := Draws.tuple (A := X.A.in1) (I.ok.hd hc) it a hne2 its.toArray
    exact wpAny_pyNext_enum_endD D he (ei ▸ ⟨hit, p⟩) fun h' eb => ⟨rfl, I.turned (t' := s.toks) (fun b o hb q => eb b o hb q) f0 f1 f3 f4 f5⟩
  self := fun A i s Q E st h => let ⟨⟨_, he⟩, _⟩ := st; wpAny_pyIter_enum he h
/-- a list or a tuple, each item with its place -/
def iEnumQ (K : PySem.W.Frag) (ta : TA) : TI := fun σ H R => ta σ H fun vs H1 => ∃ (a : Addr) (xs : List V), vs = [.ref a] ∧ ((SqL K H1 a xs ∧ R (Ite K a) H1) ∨ (SqT K H1 a xs ∧ R (ItEt K a xs.length) H1))
theorem pi_enumQ {X : Cx} {e : Expr} {ta : TA} {p pos tpos : Pos} {elts : List Expr} {kk : Nat} (hg : Gl X "enumerate") (hm : X.mg "enumerate" = none) (ha : PA X [e] ta) (hs : starEach [e] X.env = [(false, eval e X.env)] := by rfl) :
    PI X (.Tuple elts kk tpos) (.Call (.Name "enumerate" p) [e] [] pos) (iEnumQ X.K ta) := by
  refine ⟨fun pins s σ H R I h => Call_ (ld_blt I hg hm boot_enumerate (PyProof.Rows.callWith_type1 (thn (ha.run pos pins s σ H _ I h) fun us s1 w => ?_) hs rfl))⟩
  obtain ⟨vs, H1, I1, r1, a, xs, rfl, q⟩ := w
  cases r1 with
  | cons r rr =>
    cases rr
    cases r
    have fresh : ∀ b, b ∈ [s1.heap.objs.size + 1, s1.heap.objs.size] → s1.heap.objs.size ≤ b := fun b hb => by
      rcases List.mem_cons.mp hb with z | z
      · rw [z]
        exact Nat.le_succ _
      · rw [List.mem_singleton.mp z]
        exact Nat.le_refl _
    rcases q with ⟨hq, q⟩ | ⟨hq, q⟩
    · obtain ⟨its, rv, p', _⟩ := I1.list hq
      refine call_enumerate_list p'.isList fun h' he hit hz hk => wpAny_pyIter_enum he ?_
      exact ⟨_, [s1.heap.objs.size + 1, s1.heap.objs.size], _, _, H1, rfl, I1.kept (t' := s1.toks) hk, turn_enum a _ _, ⟨⟨.none, he⟩, hit, Nat.succ_ne_self _⟩, fun b hb => I1.fpOk (fresh b hb) (I1.hok.fresh (fresh b hb)), q⟩
    · obtain ⟨its, rv, p', _⟩ := I1.tuple hq
      have na : a ≠ s1.heap.objs.size := by
        obtain ⟨o, e1, _⟩ := p'
        exact Nat.ne_of_lt (Heap.lt_size e1)
      refine call_enumT p' fun h' he hit hk => wpAny_pyIter_enum he ?_
      exact ⟨_, [s1.heap.objs.size + 1, s1.heap.objs.size], _, _, H1, rfl, I1.kept (t' := s1.toks) hk, turn_enumT a _ _ xs.length, ⟨⟨.none, he⟩, hit, Nat.succ_ne_self _, na, Nat.zero_le _⟩, fun b hb => I1.fpOk (fresh b hb) (I1.hok.fresh (fresh b hb)), q⟩
section
variable {K : PySem.W.Frag} {a : Addr} {xs : List V}
theorem walk_enumT : Walk (ItEt K a xs.length) xs.length (fun H => SqT K H a xs) (YPair (fun i => some (.int (i : Nat))) (fun i => xs[i]?)) := by
  refine ⟨fun i _ hi q => ⟨xs, xs[i], q, rfl, by simp [hi]⟩, fun _ q => ⟨xs, q, rfl, Nat.le_refl _⟩, fun i H v H' _ q y => ?_⟩
  obtain ⟨T, x, h1, h2, h3, h4⟩ := y
  exact ⟨T, .int (i : Nat), x, h1, h2, h3, rfl, h4 xs q⟩
end
section
variable {X : Addr → Prop} {H : Hp} {σ : L2.St} {te : TE} {K : PySem.W.Frag} {d : PyData}
theorem gi_enumQ (h : G X te σ H d) (hs : isSeq d = true) : GI X (iEnumQ K (tCons te tNil)) σ H (enumD (itemsD d)) := by
  cases d with
  | list ds =>
    exact fun H1 s R r => h H1 s _ fun v H2 s2 rv => by
      obtain ⟨a, xs, rfl, n, e, rx⟩ := rv.lst_inv
      refine ⟨a, xs, rfl, .inl ⟨SqL.of e, r _ H2 s2 ⟨_, _, by rw [enumD_len, show (itemsD (PyData.list ds)).length = ds.length from rfl, ← rx.length]; exact walk_enum, fun X' m H3 k t => ?_⟩⟩⟩
      have n' : ¬ X' a := fun z => (m a z).elim n fun q => by rw [e] at q; cases q
      refine ⟨SqL.of (k a _ n' e), fun i x H4 y => ?_⟩
      obtain ⟨T, u, w, rfl, hT, rfl, hu, hw⟩ := y
      cases hu
      obtain ⟨d, h1, h2⟩ := rx.getV hw
      exact ⟨Same.upd hT, _, enumD_get h1, DX.newT t (.cons (.int _) (.cons ((h2.grow m).mono k) .nil)) hT⟩
  | tuple ds =>
    exact fun H1 s R r => h H1 s _ fun v H2 s2 rv => by
      obtain ⟨a, xs, rfl, n, e, rx⟩ := rv.tup_inv
      refine ⟨a, xs, rfl, .inr ⟨SqT.of e, r _ H2 s2 ⟨_, _, by rw [enumD_len, show (itemsD (PyData.tuple ds)).length = ds.length from rfl, ← rx.length]; exact walk_enumT, fun X' m H3 k t => ?_⟩⟩⟩
      have n' : ¬ X' a := fun z => (m a z).elim n fun q => by rw [e] at q; cases q
      refine ⟨SqT.of (k a _ n' e), fun i x H4 y => ?_⟩
      obtain ⟨T, u, w, rfl, hT, rfl, hu, hw⟩ := y
      cases hu
      obtain ⟨d, h1, h2⟩ := rx.getV hw
      exact ⟨Same.upd hT, _, enumD_get h1, DX.newT t (.cons (.int _) (.cons ((h2.grow m).mono k) .nil)) hT⟩
  | _ => cases hs
end
end KD

/-! min(xs, default=d), max(xs, default=d): whole numbers. -/
namespace KD
open PySem PySem.W PySem.Spec PyProof.Rows L2
def leastD (d : Int) : List Int → Int
  | [] => d
  | n :: ns => ns.foldl min n
def mostD (d : Int) : List Int → Int
  | [] => d
  | n :: ns => ns.foldl max n
def rMinDef (K : PySem.W.Frag) (g : Int → List Int → Int) : List V → List V → Hp → VK → Prop := fun xs zs H Q => ∃ (a : Addr) (ns : List Int) (d : Int), xs = [.ref a] ∧ zs = [.int d] ∧ SqL K H a (ns.map V.int) ∧ Q (.int (g d ns)) H
section
variable {X : Cx}
theorem ints_alike (ns : List Int) : AlikeAll (ns.map PyData.int) := by
  refine ⟨fun x hx y hy => ?_, fun x hx => ?_⟩
  · obtain ⟨i, _, rfl⟩ := List.mem_map.mp hx
    obtain ⟨j, _, rfl⟩ := List.mem_map.mp hy
    rfl
  · obtain ⟨i, _, rfl⟩ := List.mem_map.mp hx
    simp
theorem ints_reads (h : Heap) : ∀ (ns : List Int) (us : List Value), Vals (ns.map V.int) us → ReadsAll h us (ns.map PyData.int) []
  | [], _, .nil => .nil
  | n :: ns, _, .cons ⟨t, e⟩ r => by
    subst e
    exact .cons (as := []) (.int n t) (ints_reads h ns _ r)
theorem ints_depth : ∀ ns : List Int, PyData.depthAll (ns.map PyData.int) ≤ 1
  | [] => by simp [PyData.depthAll]
  | n :: ns => by
    have := ints_depth ns
    rw [List.map_cons, PyData.depthAll]
    have e : (PyData.int n).depth = 0 := by simp [PyData.depth]
    omega
theorem cr_minDef (hc : X.calm = true) (hu : X.A.units + 64 < cLine) : CallRK X (.builtin "min") [Str.ofString "default"] (rMinDef X.K leastD) := by
  intro pins s σ H vs zs us ws Q I r rz h
  obtain ⟨a, ns, d, rfl, rfl, hs, q⟩ := h
  obtain rfl := Vals.ref1 r
  obtain ⟨w1, rfl, t1, e1⟩ := vals1 rz
  subst e1
  obtain ⟨its, rv, hl, _⟩ := I.list hs
  have hd := ints_depth ns
  refine min_list_default (I.ok.hd hc) hl.isList (by simpa using ints_reads s.heap ns its rv) (ints_alike ns) (by omega) (fun e h' tk hk => ?_) fun y ys i v h' tk bs e hv hr hk => ?_
  · have e2 : ns = [] := List.map_eq_nil_iff.mp e
    subst e2
    exact ⟨.int d, H, I.kept hk, ⟨_, rfl⟩, q⟩
  · match ns, e with
    | n :: ns, e =>
      rw [List.map_cons] at e
      cases e
      rw [minD_ints] at hr
      cases hr
      exact ⟨.int _, H, I.kept hk, ⟨_, rfl⟩, q⟩
theorem cr_maxDef (hc : X.calm = true) (hu : X.A.units + 64 < cLine) : CallRK X (.builtin "max") [Str.ofString "default"] (rMinDef X.K mostD) := by
  intro pins s σ H vs zs us ws Q I r rz h
  obtain ⟨a, ns, d, rfl, rfl, hs, q⟩ := h
  obtain rfl := Vals.ref1 r
  obtain ⟨w1, rfl, t1, e1⟩ := vals1 rz
  subst e1
  obtain ⟨its, rv, hl, _⟩ := I.list hs
  have hd := ints_depth ns
  refine max_list_default (I.ok.hd hc) hl.isList (by simpa using ints_reads s.heap ns its rv) (ints_alike ns) (by omega) (fun e h' tk hk => ?_) fun y ys i v h' tk bs e hv hr hk => ?_
  · have e2 : ns = [] := List.map_eq_nil_iff.mp e
    subst e2
    exact ⟨.int d, H, I.kept hk, ⟨_, rfl⟩, q⟩
  · match ns, e with
    | n :: ns, e =>
      rw [List.map_cons] at e
      cases e
      rw [maxD_ints] at hr
      cases hr
      exact ⟨.int _, H, I.kept hk, ⟨_, rfl⟩, q⟩
end
theorem cr_minDefK {X : Cx} {K : PySem.W.Frag} (h : X.K = K) (hc : X.calm = true) (hu : X.A.units + 64 < cLine) : CallRK X (.builtin "min") [Str.ofString "default"] (rMinDef K leastD) := h ▸ cr_minDef hc hu
section
variable {X : Addr → Prop} {H : Hp} {σ : L2.St} {te td : TE} {K : PySem.W.Frag} {ns : List Int} {d : Int} {g : Int → List Int → Int}
theorem g_minDef (h : G X te σ H (.list (ns.map PyData.int))) (h2 : G X td σ H (.int d)) : G X (tCKw (rMinDef K g) (tCons te tNil) (tCons td tNil)) σ H (.int (g d ns)) := fun H1 s Q q =>
  h H1 s _ fun v H2 s2 r => h2 H2 (s.trans s2) _ fun w H3 s3 r3 => by
    obtain ⟨a, vs, rfl, _, ha, rv⟩ := (r.mono (Kp.of s3)).lst_inv
    exact ⟨a, ns, d, rfl, by rw [r3.int_inv], SqL.of (by rw [← rv.ints]; exact ha), q _ H3 (s2.trans s3) (.int _)⟩
end
theorem foldl_least : ∀ (ns : List Int) (n : Int), ns.foldl min n ∈ n :: ns ∧ ∀ y ∈ n :: ns, ns.foldl min n ≤ y
  | [], n => ⟨List.mem_cons_self, fun y hy => by rw [List.mem_singleton.mp hy]; exact Int.le_refl _⟩
  | m :: ms, n => by
    obtain ⟨a, b⟩ := foldl_least ms (min n m)
    have e : (m :: ms).foldl min n = ms.foldl min (min n m) := rfl
    rw [e]
    refine ⟨?_, fun y hy => ?_⟩
    · rcases List.mem_cons.mp a with h | h
      · rw [h]
        by_cases c : n ≤ m
        · rw [Int.min_eq_left c]
          exact List.mem_cons_self
        · rw [Int.min_eq_right (by omega)]
          exact .tail _ List.mem_cons_self
      · exact .tail _ (.tail _ h)
    · have b0 := b (min n m) List.mem_cons_self
      rcases List.mem_cons.mp hy with rfl | hy
      · omega
      · rcases List.mem_cons.mp hy with rfl | hy
        · omega
        · exact b y (.tail _ hy)
theorem least_is {d : Int} : ∀ {ns : List Int}, ns ≠ [] → leastD d ns ∈ ns ∧ ∀ y ∈ ns, leastD d ns ≤ y
  | [], h => absurd rfl h
  | n :: ns, _ => foldl_least ns n
end KD

/-! Dicts of data: by their keys; compared. -/
namespace KD
open PySem PySem.Spec PyProof.Rows L2
/-- a dict's data by keys -/
abbrev KDs := List (Key × PyData)
def dicD (ks : KDs) : PyData := .dict (ks.map fun p => (kd p.1, p.2))
def DK (X : Addr → Prop) (H : Hp) : List (Key × V) → KDs → Prop := Paired fun (p : Key × V) (q : Key × PyData) => p.1 = q.1 ∧ DX X H p.2 q.2
theorem kd_inj {a b : Key} (h : kd a = kd b) : a = b := by
  cases a <;> cases b <;> simp [kd] at h <;> rw [h]
section
variable {X0 : Addr → Prop} {H H' : Hp}
theorem DK.of : ∀ {kvs : List (Key × V)} {ks : KDs}, DXk X0 H kvs (ks.map fun p => (kd p.1, p.2)) → DK X0 H kvs ks
  | [], [], _ => .nil
  | [], _ :: _, h => by cases h
  | _ :: _, [], h => by cases h
  | (k, v) :: kvs, (k2, d) :: ks, h => by
    have h' : DXk X0 H ((k, v) :: kvs) ((kd k2, d) :: ks.map fun p => (kd p.1, p.2)) := h
    generalize hk : kd k2 = z at h'
    cases h' with
    | cons h1 h2 => exact .cons ⟨(kd_inj hk).symm, h1⟩ (DK.of h2)
theorem DK.to {kvs : List (Key × V)} {ks : KDs} (h : DK X0 H kvs ks) : DXk X0 H kvs (ks.map fun p => (kd p.1, p.2)) := by
  unfold DK at h
  induction h with
  | nil => exact .nil
  | @cons p q ps qs h t ih =>
    obtain ⟨h1, h2⟩ := h
    obtain ⟨k, v⟩ := p
    have h1 : k = q.1 := h1
    subst h1
    exact .cons h2 ih
theorem DK.mono (k : Kp X0 H H') {kvs : List (Key × V)} {ks : KDs} (h : DK X0 H kvs ks) : DK X0 H' kvs ks := DK.of (DXk.mono k h.to)
theorem DX.dic_inv {v : V} {ks : KDs} (h : DX X0 H v (dicD ks)) : ∃ a kvs, v = .ref a ∧ ¬ X0 a ∧ H a = some (.dK kvs) ∧ DK X0 H kvs ks := by
  unfold dicD at h
  generalize hz : ks.map (fun p => (kd p.1, p.2)) = z at h
  cases h with
  | dic n e r =>
    subst hz
    exact ⟨_, _, rfl, n, e, DK.of r⟩
theorem DX.dic_mk {a : Addr} {kvs : List (Key × V)} {ks : KDs} (n : ¬ X0 a) (e : H a = some (.dK kvs)) (h : DK X0 H kvs ks) : DX X0 H (.ref a) (dicD ks) := .dic n e h.to
/-- a store -/
def putD (ks : KDs) (k : Key) (d : PyData) : KDs := if (ks.any fun q => decide (q.1 = k)) = true then ks.map (fun q => if q.1 = k then (q.1, d) else q) else ks ++ [(k, d)]
end
def valD (ks : KDs) (k : Key) : Option PyData := (ks.find? fun q => decide (q.1 = k)).map (·.2)
def hitB (bs : KDs) : KDs → Bool
  | [] => true
  | p :: r => match valD bs p.1 with
    | some e => PyData.eqv p.2 e && hitB bs r
    | none => false
/-- == of dicts of data -/
def eqK (as bs : KDs) : Bool := decide (as.length = bs.length) && hitB bs as
/-- values that may be compared -/
def cmpD (d : PyData) : Prop := noDict d = true ∧ SeqAt.shaped d = true
section
variable {X0 : Addr → Prop} {H : Hp}
theorem DK.length {kvs : List (Key × V)} {ks : KDs} (h : DK X0 H kvs ks) : kvs.length = ks.length := Paired.length h
theorem DK.val {kvs : List (Key × V)} {ks : KDs} (h : DK X0 H kvs ks) (k : Key) : (∃ v d, valV kvs k = some v ∧ valD ks k = some d ∧ DX X0 H v d ∧ ∃ p ∈ ks, p.2 = d) ∨ (valV kvs k = none ∧ valD ks k = none) := by
  unfold DK at h
  induction h with
  | nil => exact .inr ⟨rfl, rfl⟩
  | @cons p q ps qs h t ih =>
    obtain ⟨h1, h2⟩ := h
    by_cases hk : q.1 = k
    · refine .inl ⟨p.2, q.2, ?_, ?_, h2, q, List.mem_cons_self, rfl⟩
      · unfold valV
        rw [List.find?_cons_of_pos (by rw [h1]; exact decide_eq_true hk)]
        rfl
      · simp [valD, List.find?_cons, hk]
    · have e1 : valV (p :: ps) k = valV ps k := by
        unfold valV
        rw [List.find?_cons_of_neg (by rw [h1]; simpa using hk)]
      have e2 : valD (q :: qs) k = valD qs k := by
        unfold valD
        rw [List.find?_cons_of_neg (by simpa using hk)]
      rw [e1, e2]
      rcases ih with ⟨v, d, a, b, c, r, hr, e⟩ | h
      · exact .inl ⟨v, d, a, b, c, r, List.mem_cons_of_mem _ hr, e⟩
      · exact .inr h
end
section
variable {X : Cx} {pins : List (Addr × Obj)} {σ : L2.St} {H : Hp} {s : Shared} {X0 : Addr → Prop}
theorem hits_dx {A : Around} (hu : A.in1.units + 64 < cLine) (I : L2.Inv X pins σ H s) {kb : List (Key × V)} {bs : KDs} {vb : List (Key × Value)} (rb : KV kb vb) (db : DK X0 H kb bs) (cb : ∀ p ∈ bs, cmpD p.2) :
    ∀ {ka : List (Key × V)} {as : KDs} {va : List (Key × Value)}, KV ka va → DK X0 H ka as → (∀ p ∈ as, cmpD p.2) → PySem.W.KeqHits A.in1 s vb va (hitB bs as)
  | [], [], _, ra, _, _ => by
    cases ra
    exact .nil
  | [], _ :: _, _, _, d, _ => by cases d
  | _ :: _, [], _, _, d, _ => by cases d
  | p :: ps, q :: qs, va, ra, d, c => by
    cases ra with
    | @cons _ r _ rs h t =>
      cases d with
      | cons d1 d2 =>
        obtain ⟨k, u⟩ := r
        obtain ⟨h1, h2⟩ := h
        obtain ⟨e1, e2⟩ := d1
        have hk : k = q.1 := h1.symm.trans e1
        subst hk
        have rest := hits_dx hu I rb db cb t d2 fun z hz => c z (List.mem_cons_of_mem _ hz)
        have rr := rb.val q.1
        rcases db.val q.1 with ⟨v, e, a1, a2, a3, z, hz, ez⟩ | ⟨a1, a2⟩
        · rw [a1] at rr
          obtain ⟨y, hy, ry⟩ := rr.some_of
          have cq := c q List.mem_cons_self
          have ce := cb z hz
          rw [ez] at ce
          obtain ⟨as1, r1⟩ := Dp.reads I q.2 p.2 u (e2.dp cq.1) h2
          obtain ⟨as2, r2⟩ := Dp.reads I e v y (a3.dp ce.1) ry
          have := PySem.W.keq_at (A := A) r1 r2 cq.2 ce.2 hu
          show PySem.W.KeqHits A.in1 s vb ((q.1, u) :: rs) (hitB bs (q :: qs))
          unfold hitB
          rw [a2]
          exact .hit hy this rest
        · rw [a1] at rr
          have hn : valueAt vb q.1 = none := by
            cases hv : valueAt vb q.1 with
            | none => rfl
            | some y => rw [hv] at rr; exact rr.elim
          show PySem.W.KeqHits A.in1 s vb ((q.1, u) :: rs) (hitB bs (q :: qs))
          unfold hitB
          rw [a2]
          exact .miss hn
def rEqK : R2 := fun x y H Q => ∃ (X0 : Addr → Prop) (as bs : KDs), DX X0 H x (dicD as) ∧ DX X0 H y (dicD bs) ∧ (∀ p ∈ as, cmpD p.2) ∧ (∀ p ∈ bs, cmpD p.2) ∧ Q (.bl (eqK as bs)) H
def rNeK : R2 := fun x y H Q => ∃ (X0 : Addr → Prop) (as bs : KDs), DX X0 H x (dicD as) ∧ DX X0 H y (dicD bs) ∧ (∀ p ∈ as, cmpD p.2) ∧ (∀ p ∈ bs, cmpD p.2) ∧ Q (.bl (!eqK as bs)) H
theorem op_eqK (hu : X.A.units + 65 < cLine) : OpR X (compareOp .Eq) rEqK := by
  intro pins s σ H x y v u Q I rx ry h
  obtain ⟨X0, as, bs, dx, dy, ca, cb, q⟩ := h
  obtain ⟨a, ka, rfl, _, ea, da⟩ := dx.dic_inv
  obtain ⟨b, kb, rfl, _, eb, db⟩ := dy.dic_inv
  cases rx
  cases ry
  obtain ⟨_, ya, va, ra, oa⟩ := I.hok a _ ea
  obtain ⟨_, yb, vb, rb, ob⟩ := I.hok b _ eb
  have la : va.length = as.length := by rw [← ra.length]; exact da.length
  have lb : vb.length = bs.length := by rw [← rb.length]; exact db.length
  refine PySem.W.keq_eq (knd := mixKind X.prog X.w) ya yb oa ob (by omega) (fun _ => hits_dx (by show X.A.units + 1 + 64 < cLine; omega) I rb db cb ra da ca) (fin_bl I q ?_)
  rw [la, lb]
  unfold eqK
  rw [Bool.eq_iff_iff]
  simp
theorem op_neK (hu : X.A.units + 65 < cLine) : OpR X (compareOp .NotEq) rNeK := by
  intro pins s σ H x y v u Q I rx ry h
  obtain ⟨X0, as, bs, dx, dy, ca, cb, q⟩ := h
  obtain ⟨a, ka, rfl, _, ea, da⟩ := dx.dic_inv
  obtain ⟨b, kb, rfl, _, eb, db⟩ := dy.dic_inv
  cases rx
  cases ry
  obtain ⟨_, ya, va, ra, oa⟩ := I.hok a _ ea
  obtain ⟨_, yb, vb, rb, ob⟩ := I.hok b _ eb
  have la : va.length = as.length := by rw [← ra.length]; exact da.length
  have lb : vb.length = bs.length := by rw [← rb.length]; exact db.length
  refine PySem.W.keq_ne (knd := mixKind X.prog X.w) ya yb oa ob (by omega) (fun _ => hits_dx (by show X.A.units + 1 + 64 < cLine; omega) I rb db cb ra da ca) (fin_bl I q ?_)
  rw [la, lb]
  unfold eqK
  rw [Bool.eq_iff_iff]
  simp
end
/-! ### a dict of one's own -/
section
variable {X0 : Addr → Prop} {H : Hp}
theorem DK.put {kvs : List (Key × V)} {ks : KDs} {k : Key} {v : V} {d : PyData} (h : DK X0 H kvs ks) (hd : DX X0 H v d) : DK X0 H (putK kvs k v) (putD ks k d) := by
  have an : (kvs.any fun kv => decide (kv.1 = k)) = (ks.any fun q => decide (q.1 = k)) := by
    clear hd
    unfold DK at h
    induction h with
    | nil => rfl
    | @cons p q ps qs h t ih => rw [List.any_cons, List.any_cons, ih, h.1]
  unfold putK putD
  rw [an]
  cases hb : ks.any fun q => decide (q.1 = k) with
  | true =>
    rw [if_pos rfl, if_pos rfl]
    clear an hb
    unfold DK at h ⊢
    induction h with
    | nil => exact .nil
    | @cons p q ps qs h t ih =>
      rw [List.map_cons, List.map_cons]
      refine .cons ?_ ih
      obtain ⟨h1, h2⟩ := h
      by_cases e : q.1 = k
      · rw [if_pos (h1.trans e), if_pos e]
        exact ⟨h1, hd⟩
      · rw [if_neg (fun z => e (h1.symm.trans z)), if_neg e]
        exact ⟨h1, h2⟩
  | false =>
    rw [if_neg (by simp), if_neg (by simp)]
    unfold DK at h ⊢
    clear an hb
    induction h with
    | nil => exact .cons ⟨rfl, hd⟩ .nil
    | cons h t ih => exact .cons h ih
end
end KD

/-! for k, v in d.items(), where d's keys are tuples: each time a new pair of the key's own tuple and the value. -/
namespace KT
open PySem PySem.Calls PySem.Spec PyProof.V PyProof.Rows L2
/-- the pairs -/
def ItiT (d : Addr) (o : Obj) (kvs : List (List Key × V)) : It :=
  ⟨fun i H => H d = some (.frz o (.dT kvs)) ∧ i < kvs.length, fun i H x H' => ∃ (T q : Addr) (k : List Key) (v : V), kvs[i]? = some (k, v) ∧ H q = some (.tup (k.map kV)) ∧ x = .ref T ∧ H T = none ∧ H' = upd H T (.tup [.ref q, v]), fun i H => H d = some (.frz o (.dT kvs)) ∧ kvs.length ≤ i⟩
section
variable {X : Cx} {pins : List (Addr × Obj)} {σ : L2.St} {H : Hp} {s : Shared} {d : Addr} {o : Obj}
theorem held {kvs : List (List Key × V)} (I : Inv X pins σ H s) (h : H d = some (.frz o (.dT kvs))) : (d == sysModules) = false ∧ s.heap.get? d = some o ∧ o.ExactDict ∧ kvs.length ≤ sizeLine ∧ ∃ (ents : Array DictEntry) (ph : Nat), o.data = .dict ents ph ∧ ents.size = kvs.length ∧
    ∀ (i : Nat) (k : List Key) (v : V), kvs[i]? = some (k, v) → ∃ (en : DictEntry) (q : Addr), ents[i]? = some en ∧ en.key = .ref q ∧ RelV v en.val ∧ H q = some (.tup (k.map kV)) := by
  obtain ⟨hd, z, hs, xs, pr, o', ents, ph, ho, hx, hdata, he, _⟩ := I.hok d _ h
  rw [hd] at ho
  cases ho
  refine ⟨hs, hd, hx, z, ents, ph, hdata, ?_, fun i k v e => ?_⟩
  · have l1 : ents.size = xs.length := size_of_entries he
    have l2 : kvs.length = xs.length := Paired.length pr
    omega
  · obtain ⟨b, hb, e1, e2, e3⟩ := paired_get pr e
    have q := entry_at he i
    rw [hb] at q
    exact ⟨_, b.2.1, q, rfl, e3, e2⟩
end
section
variable {P : Program} {w : World} {K : PySem.W.Frag} {d : Addr} {o : Obj} {ents : Array DictEntry} {ph : Nat}
theorem turn {kvs : List (List Key × V)} {elts : List Expr} {kk : Nat} {tpos : Pos} (it : Addr) (hdo : o.data = .dict ents ph) :
    Turn P w K (.Tuple elts kk tpos) (ItiT d o kvs) [it] it (fun i h => ∃ a b, IsItemIter h it d i kvs.length ph a b) where
  mem := List.mem_singleton.mpr rfl
  obj := fun i h ⟨_, _, e⟩ b hb => by
    rw [List.mem_singleton.mp hb]
    exact ⟨_, e, fun v z => nomatch z⟩
  keep := fun i h h' ⟨a, b, e⟩ k => ⟨a, b, k it (List.mem_singleton.mpr rfl) _ e⟩
  item := by
    intro X hP hw hK hc i pins s σ H E I hf st hg
    subst hP hw hK
    obtain ⟨hd, hi⟩ := hg
    obtain ⟨hs, atd, hx, _, es', ep', hdata, many, ent⟩ := held I hd
    obtain ⟨rfl, rfl⟩ := dict_ep hdo hdata
    obtain ⟨en, q, hen, hkey, hval, hq⟩ := ent i kvs[i].1 kvs[i].2 (List.getElem?_eq_getElem hi)
    obtain ⟨hlt', een⟩ := Array.getElem?_eq_some_iff.mp hen
    obtain ⟨a, b, he⟩ := st
    rw [← many] at he
    have below : it < s.heap.objs.size := Heap.lt_size he
    refine DT.nextI he ⟨o, atd, hx, hdata⟩ hlt' fun h' ho hT hz hk => ?_
    refine ⟨_, rfl, wpAny_letOwnedTupleGo_items (s := { s with heap := h' }) ho fun h'' he' sb => ?_⟩
    have hT2 := (sb.2 _ (Nat.ne_of_gt below)).trans hT
    rw [een] at hT2
    have new : ObjOk X.prog X.w (upd H s.heap.objs.size (.tup [.ref q, kvs[i].2])) h'' s.heap.objs.size (.tup [.ref q, kvs[i].2]) :=
      ⟨by show 2 ≤ sizeLine; decide, [en.key, en.val], .cons hkey (.cons hval .nil), ⟨_, hT2, rfl, _, rfl⟩⟩
    have J1 : Inv X pins σ (upd H s.heap.objs.size (.tup [.ref q, kvs[i].2])) { s with heap := h'' } :=
      I.turnedNew (t' := s.toks) (ch := [it]) (fun b ob hb e => (sb.2 b (fun z => hb (List.mem_singleton.mpr z))).trans (hk b ob (fun z => hb (List.mem_singleton.mpr z)) e)) hf (Nat.le_refl _) new
    refine ⟨.ref s.heap.objs.size, _, J1, rfl, ⟨_, q, _, _, List.getElem?_eq_getElem hi, hq, rfl, I.hok.fresh (Nat.le_refl _), rfl⟩, ⟨_, _, by rw [← many]; exact he'⟩, fun b hb => ?_⟩
    rw [List.mem_singleton.mp hb, upd_ne (Nat.ne_of_lt below)]
    exact (hf it (List.mem_singleton.mpr rfl)).1
  done := by
    intro X hP hw hK hc i pins s σ H E I hf st hg
    subst hP hw hK
    obtain ⟨hd, hi⟩ := hg
    obtain ⟨f0, f1, f2, f3, f4, f5⟩ := hf it (List.mem_singleton.mpr rfl)
    obtain ⟨hs, atd, hx, _, es', ep', hdata, many, ent⟩ := held I hd
    obtain ⟨rfl, rfl⟩ := dict_ep hdo hdata
    obtain ⟨a, b, he⟩ := st
    rw [← many] at he
    exact DT.endI (I.ok.hd hc) he ⟨o, atd, hx, hdata⟩ (by omega) fun h' eb => ⟨rfl, I.turned (t' := s.toks) (fun b ob hb e => eb b ob hb e) f0 f1 f3 f4 f5⟩
  self := fun A i s Q E ⟨_, _, e⟩ h => PySem.W.kcp_self e h
end
def iItT (td : TE) : TI := fun σ H R => td σ H fun x G1 => ∃ d o kvs, x = .ref d ∧ G1 d = some (.frz o (.dT kvs)) ∧ R (ItiT d o kvs) G1
theorem pi_itT {X : Cx} {e : Expr} {td : TE} {apos cpos : Pos} {elts : List Expr} {kk : Nat} {tpos : Pos} (he : PE X e td) (hbase : attributeBase e "items" X.env (eval e X.env) = eval e X.env := by rfl) (hline : (apos.endLine == cpos.line) = true := by rfl) :
    PI X (.Tuple elts kk tpos) (.Call (.Attribute e "items" apos) [] [] cpos) (iItT td) := by
  refine ⟨fun pins s σ H R I h => ?_⟩
  refine wpAny_Call_method (T := "dict") (id := "dict.items") hbase rfl hline F.plainAttrs_dict F.slot_dict_items F.type_dict_items (thn (he.run pins s σ H _ I h) fun u t1 ⟨x, G1, J1, ru, d, o, kvs, ex, hd, q⟩ => ?_)
  subst ex
  obtain rfl : u = Value.ref d := ru
  obtain ⟨hs, atd, hx, _, ents, ph, hdata, many, ent⟩ := held J1 hd
  have hm : DT.Raw t1.heap d ents ph := ⟨o, atd, hx, hdata⟩
  refine ⟨hm.typeIs, ?_, ?_⟩
  · intro a e
    cases e
    exact ⟨o, atd, hx.2.1⟩
  have J2 : Inv X pins σ G1 { t1 with heap := t1.heap.push { cls := .type "dict_items", data := .fields #[.ref d] } } := J1.kept (t' := t1.toks) fun b ob q => Heap.get?_push_of_some _ q
  have fin : wpAny (model X.prog X.w) X.A (pyIter (.ref t1.heap.objs.size)) (PIE X pins σ (.Tuple elts kk tpos) R) X.xe { t1 with heap := t1.heap.push { cls := .type "dict_items", data := .fields #[.ref d] } } :=
    DT.iterI (d := d) ⟨_, Heap.get?_push_size _ rfl, rfl, rfl⟩ (hm.push _) (pi_one (tk := t1.toks) J2 _ (turn _ hdata) ⟨.none, .none, by rw [← many]; exact Heap.get?_push_size _ rfl⟩ q)
  show wpAny _ _ (callWith cpos (.builtin "dict.items") [.ref d] [] []) _ X.xe t1
  exact method_meetsIn F.slot_dict_items F.entry_dict_items rfl (PySem.evalArgs_none ⟨rfl, hm.typeIs, F.args_dict_items_1 _, _, DT.meetsItems (es := ents) (ep := ph) hs, hm, fin⟩)
end KT

/-! list(d.values()), where d's keys are tuples. -/
namespace KT
open PySem PySem.W PySem.Calls PySem.Spec PyProof.V PyProof.Rows L2
/-- the view d.values() at p -/
def valsO (p d : Addr) : HO := .ext fun h => h.IsValuesView p d
theorem valsO_ok {P : Program} {w : World} {H : Hp} {h : Heap} {p d : Addr} (e : h.get? p = some { cls := .type "dict_values", data := .fields #[.ref d] }) : ObjOk P w H h p (valsO p d) :=
  ⟨⟨_, e, rfl, rfl⟩, ⟨_, e⟩, fun h1 h2 x k => let ⟨o, ho, r⟩ := x; ⟨o, k o ho, r⟩⟩
section
variable {X : Cx}
def rValsT : V → List V → Hp → VK → Prop := fun x xs H Q => ∃ (a : Addr) (kvs : List (List Key × V)), x = .ref a ∧ xs = [] ∧ H a = some (.dT kvs) ∧ ∀ p, H p = none → Q (.ref p) (upd H p (valsO p a))
theorem mt_valsT : MtR X "dict.values" rValsT := by
  intro pins s σ H x xs v us Q I ru rus h
  obtain ⟨a, kvs, rfl, rfl, ha, q⟩ := h
  cases ru
  cases rus
  obtain ⟨z, hd, ms, rel, o, ents, ph, ho, hx, hdata, _⟩ := dt_of I.hok ha
  have hm : DT.Raw s.heap a ents ph := ⟨o, ho, hx, hdata⟩
  refine call_meetsIn PySem.F.slot_dict_values hm.typeIs PySem.F.entry_dict_values (PySem.F.args_dict_values_1 _) (meets_dict_values_raw a hd) ⟨⟨ents, ph, o, ho, hx, hdata⟩, ?_⟩
  exact ⟨.ref s.heap.objs.size, upd H s.heap.objs.size (valsO s.heap.objs.size a), I.laid (t' := s.toks) (fun b u e => Heap.get?_push_of_some _ e) (Nat.le_refl _) (valsO_ok (Heap.get?_push_size _ rfl)), rfl, q _ (I.hok.fresh (Nat.le_refl _))⟩
theorem vals_at : ∀ {vs : List V} {us : List Value}, vs.length = us.length → (∀ (j : Nat) (v : V) (u : Value), vs[j]? = some v → us[j]? = some u → RelV v u) → Vals vs us
  | [], [], _, _ => .nil
  | v :: vs, u :: us, h, k => .cons (k 0 v u rfl rfl) (vals_at (by simpa using h) fun j v u e1 e2 => k (j + 1) v u e1 e2)
  | [], _ :: _, h, _ => by cases h
  | _ :: _, [], h, _ => by cases h
def rListV : List V → Hp → VK → Prop := fun xs H Q => ∃ (p a : Addr) (kvs : List (List Key × V)), xs = [.ref p] ∧ H p = some (valsO p a) ∧ H a = some (.dT kvs) ∧ ∀ l, H l = none → Q (.ref l) (upd H l (.lst (kvs.map Prod.snd)))
theorem call_listV (hc : X.calm = true) : CallR X (.type "list") rListV := by
  intro pins s σ H xs us Q I r h
  obtain ⟨p, a, kvs, rfl, hp, ha, q⟩ := h
  obtain ⟨u, rfl, ru⟩ := r.one
  cases ru
  have hv : s.heap.IsValuesView p a := (I.hok p _ hp).1
  obtain ⟨z, hd, ks, pr, o, ents, ph, ho, hx, hdt, he, hn⟩ := (show ObjOk X.prog X.w H s.heap a (.dT kvs) from I.hok a _ ha)
  have m1 : ents.size = ks.length := size_of_entries he
  have m2 : kvs.length = ks.length := Paired.length pr
  refine PySem.W.kdl_call (KdlSrc.rawValues (prog := X.prog) (w := X.w) (r := p) (es := ents) (ep := ph) (d := a)) (I.ok.hd hc) ⟨hv, o, ho, hx, hdt⟩ (by omega) fun h' tk acc' c' kp e it => ?_
  have rv : Vals (kvs.map Prod.snd) acc'.toList := by
    have hl : acc'.toList.length = kvs.length := by rw [Array.length_toList, it.1]; omega
    refine vals_at (by rw [List.length_map]; exact hl.symm) fun j v u e1 e2 => ?_
    obtain ⟨kv, ekv, rfl⟩ := List.getElem?_eq_some_iff.mp e1 |>.elim fun hj ej => (by
      rw [List.getElem_map] at ej
      exact ⟨kvs[j]'(by rw [List.length_map] at hj; exact hj), List.getElem?_eq_getElem _, ej⟩ : ∃ kv, kvs[j]? = some kv ∧ kv.2 = v)
    obtain ⟨b, hb, f1, f2, f3⟩ := paired_get pr ekv
    obtain ⟨hj, rfl⟩ := it.2 j u (by rw [← Array.getElem?_toList]; exact e2)
    have qe := entry_at he j
    rw [hb, Array.getElem?_eq_getElem hj] at qe
    have e3 : ents[j] = entryOfKey (tupleKind (mixKind X.prog X.w)) b := Option.some.inj qe
    rw [e3]
    exact f3
  have few : (kvs.map Prod.snd).length ≤ sizeLine := by rw [List.length_map]; exact z
  refine ⟨.ref s.heap.objs.size, _, I.laid (t' := tk) (o := .lst (kvs.map Prod.snd)) kp (Nat.le_refl _) ?_, rfl, q _ (I.hok.fresh (Nat.le_refl _))⟩
  exact ⟨few, acc'.toList, c', rv, by rw [Array.toArray_toList]; exact e⟩
end
end KT

/-! Dict comprehensions whose keys are tuples. -/
namespace KT
open PySem PySem.Calls PySem.Spec PyProof.V PyProof.Rows L2
section
variable {X : Cx}
/-- a cell of the new dict is told -/
theorem tell {ps : List (Addr × Obj)} {τ : L2.St} {G : Hp} {t : Shared} {Er : Value → Shared → Prop} {D q : Addr} {cs : List (List Key × V)} {k : List Key} {z : V} {r : Value} {R : Unit → Shared → Prop} (hu : X.A.units < cLine) (J : Inv X ps τ G t) (atD : G D = some (.dT cs)) (few : cs.length < sizeLine)
    (atq : G q = some (.tup (k.map kV))) (rz : RelV z r) (go : ∀ t', Inv X ps τ (upd G D (.dT (putK cs k z))) t' → R () t') : wpAny (model X.prog X.w) X.A (dictSet D (.ref q) r) R Er t := by
  obtain ⟨_, lo, ms, pr, dd⟩ := dt_of J.hok atD
  have few2 : ms.length ≤ sizeLine := by have := Paired.length pr; omega
  refine wpAny_dictSet_heap (hsz := few2) (show (tupleKind (mixKind X.prog X.w)).room X.A from hu) (key_of J.hok atq) dd fun g' ⟨ob, ents, ph, e1, e2, e3, e4, _, e6⟩ sb => go _ ?_
  refine d_write J (by rw [atD]; trivial) sb ⟨ob, e1⟩ ⟨by have := length_putK cs k z; omega, lo, _, (pr.put k atq rz).keeps fun c ys ec => ?_, ob, ents, ph, e1, e2, e3, e4, e6⟩
  rw [upd_ne (ne_of ec atD (fun z => nomatch z))]
  exact ec
/-- one turn's end: a cell is told, or none -/
def Told (D : Addr) (tk tv : TE) (Nx : Hp → Prop) (τ : L2.St) (b : Bool) (G : Hp) : Prop :=
  if b = true then tk τ G fun y G1 => tv τ G1 fun z G2 => ∃ (cs : List (List Key × V)) (k : List Key) (q : Addr), y = .ref q ∧ G2 q = some (.tup (k.map kV)) ∧ G2 D = some (.dT cs) ∧ cs.length < sizeLine ∧ Nx (upd G2 D (.dT (putK cs k z))) else Nx G
/-- {k: v for target in iter if ..}, keys tuples -/
def tDcT (wi : TI) (g : TG) (tt : TT) (tk tv : TE) (own : List Nat) : TE := fun σ H Q => wi σ H fun J G => ∀ D, G D = none → ∃ W : Nat → Nat → Hp → Prop, (∃ m, W 0 m (upd G D (.dT []))) ∧ ∀ i m G1, W i m G1 →
  (J.stop i G1 ∧ Q (.ref D) G1) ∨ (J.go i G1 ∧ ∃ Nx : Hp → Prop, (∀ G2, Nx G2 → ∃ m', m' < m ∧ W (i + 1) m' G2) ∧ ∀ x G2, J.yld i G1 x G2 → g x (wipe σ own) G2 fun τ G3 => wipe τ own = wipe σ own ∧ tt τ G3 (Told D tk tv Nx τ))
variable {kx vx tg iter : Expr} {ifs : List Expr} {scope : Scope} {own : List (Str × Nat)} {pos : Pos} {wi : TI} {g : TG} {tt : TT} {tk tv : TE}
/-- what is asked of the parts of the block -/
structure Parts (X : Cx) (scope : Scope) (tg kx vx : Expr) (ifs : List Expr) (g : TG) (tt : TT) (tk tv : TE) : Prop where
  g : ∀ (s : Shared) (H : Hp) (C : Addr) (cl : List (Str × Addr)) (fp : List Addr), PG (X.blk s H scope (compEnvC scope cl C X.env) fp) tg g
  t : ∀ (s : Shared) (H : Hp) (C : Addr) (cl : List (Str × Addr)) (fp : List Addr), PTs (X.blk s H scope (compEnvC scope cl C X.env) fp) ifs tt
  k : ∀ (s : Shared) (H : Hp) (C : Addr) (cl : List (Str × Addr)) (fp : List Addr), PE (X.blk s H scope (compEnvC scope cl C X.env) fp) kx tk
  v : ∀ (s : Shared) (H : Hp) (C : Addr) (cl : List (Str × Addr)) (fp : List Addr), PE (X.blk s H scope (compEnvC scope cl C X.env) fp) vx tv
theorem core {ps : List (Addr × Obj)} {s : Shared} {σ : L2.St} {H : Hp} {Q : VK} {at2 : Pos} {use : Option (Value → Sem Unit)} {Qf : Value → Shared → Prop}
    (hc : X.calm = true) (hu : X.A.units < cLine) (hN : X.N.Nodup) (I : Inv X ps σ H s) (hi : PI X tg iter wi) (ok : BlkOk X.N X.env.scope scope own) (pa : Parts X scope tg kx vx ifs g tt tk tv) (hs : ∀ x, foldedSetIterable iter X.env x = pure x)
    (h : tDcT wi g tt tk tv (own.map (·.2)) σ H Q)
    (fine : ∀ D C t m G, Inv X ps σ G t → Q (.ref D) G → t.heap.Ns C m → FpOk X ps G C → compPost (model X.prog X.w) X.A X.xe use Qf (.ref D) C (.ok .next) t) :
    wpAny (model X.prog X.w) X.A (comprehension (.DictComp kx vx [⟨tg, iter, ifs, 0⟩] scope pos) scope X.env at2 newDict false (eval iter X.env) use) Qf X.xe s := by
  have cells : ∀ y ∈ scope.names, y.2 = .free → ∃ c, X.env.cells.lookup y.1 = some c := fun y hy e => (ok.free y hy e).elim (fun z => I.ok.has _ (.inl z)) fun z => I.ok.has _ (.inr z)
  refine wpAny_comprehension_free (use := use) rfl hs (closure_ok cells) ok.kind (fun y hy e => by rw [ok.uniq y hy, e]) (thn (hi.run ps s σ H _ I h) fun _ _ a => thn a fun _ t2 ⟨it, fp, tn, J, G2, e, I2, T, st, fr, q⟩ => ?_)
  subst e
  refine wpAny_newObj_type (newEnv_comp ?_)
  obtain ⟨D, hD⟩ : ∃ D, t2.heap.objs.size = D := ⟨_, rfl⟩
  obtain ⟨W, ⟨m0, w0⟩, go⟩ := q D (I2.hok.fresh (Nat.le_of_eq hD))
  rw [hD]
  -- the new dict is laid
  obtain ⟨t3, ht3⟩ : ∃ t3 : Shared, t3 = { t2 with heap := t2.heap.push { cls := .type "dict", data := .dict #[] } } := ⟨_, rfl⟩
  have h3 : t3.heap = t2.heap.push { cls := .type "dict", data := .dict #[] } := by rw [ht3]
  have I3 : Inv X ps σ (upd G2 D (.dT [])) t3 := by
    rw [ht3]
    refine I2.laid (t' := t2.toks) (fun b o e => Heap.get?_push_of_some _ e) (Nat.le_of_eq hD) ?_
    rw [← hD]
    exact dt_empty t2.heap I2.big
  have fr3 : ∀ b ∈ fp, FpOk X ps (upd G2 D (.dT [])) b ∧ b < t3.heap.objs.size := fun b hb => by
    obtain ⟨o, e, _⟩ := T.obj _ _ st b hb
    have lt := Heap.lt_size e
    refine ⟨⟨?_, (fr b hb).2⟩, ?_⟩
    · rw [upd_ne (fun z => Nat.lt_irrefl _ (hD ▸ z ▸ lt))]
      exact (fr b hb).1
    · rw [h3, Heap.size_push]
      exact Nat.lt_succ_of_lt lt
  have st3 : tn 0 t3.heap := T.keep _ _ _ st fun b _ o e => by rw [h3]; exact Heap.get?_push_of_some _ e
  have I4 := block_start I3 ok hN fr3
  have pg := pa.g t3 (upd G2 D (.dT [])) t3.heap.objs.size (cellsFrom (t3.heap.objs.size + 1) scope.names (cloFrom X.env.cells scope.names [])) fp
  have pt := pa.t t3 (upd G2 D (.dT [])) t3.heap.objs.size (cellsFrom (t3.heap.objs.size + 1) scope.names (cloFrom X.env.cells scope.names [])) fp
  have pk := pa.k t3 (upd G2 D (.dT [])) t3.heap.objs.size (cellsFrom (t3.heap.objs.size + 1) scope.names (cloFrom X.env.cells scope.names [])) fp
  have pv := pa.v t3 (upd G2 D (.dT [])) t3.heap.objs.size (cellsFrom (t3.heap.objs.size + 1) scope.names (cloFrom X.env.cells scope.names [])) fp
  rw [← ht3]
  show codeAny _ _ (.compStart (.DictComp kx vx [⟨tg, iter, ifs, 0⟩] scope pos) 0 (.ref it) (.ref D) (compEnvC scope (cellsFrom (t3.heap.objs.size + 1) scope.names (cloFrom X.env.cells scope.names [])) t3.heap.objs.size X.env)) (compPost (model X.prog X.w) X.A X.xe use Qf (.ref D) t3.heap.objs.size) { t3 with heap := pushCells (t3.heap.push { cls := .type "dict", data := .dict #[] }) scope.names }
  have none3 : ∀ b ∈ fp, (upd G2 D (.dT [])) b = none := fun b hb => (fr3 b hb).1.1
  obtain ⟨ce, hce⟩ : ∃ ce, compEnvC scope (cellsFrom (t3.heap.objs.size + 1) scope.names (cloFrom X.env.cells scope.names [])) t3.heap.objs.size X.env = ce := ⟨_, rfl⟩
  have locs : ce.locals = t3.heap.objs.size := by rw [← hce]; rfl
  rw [hce] at I4 pg pt pk pv ⊢
  generalize upd G2 D (.dT []) = G3 at I3 I4 pg pt pk pv w0 none3 fr3
  obtain ⟨t4, ht4⟩ : ∃ t4 : Shared, ({ t3 with heap := pushCells (t3.heap.push { cls := .type "dict", data := .dict #[] }) scope.names } : Shared) = t4 := ⟨_, rfl⟩
  rw [ht4] at I4 ⊢
  have st4 : tn 0 t4.heap := T.keep _ _ _ st3 fun b _ o e => by rw [← ht4]; exact pushCells_keeps _ _ _ _ (Heap.get?_push_of_some _ e)
  have still : ∀ {τ : L2.St} {G : Hp} {t : Shared}, Inv (X.blk t3 G3 scope ce fp) [] τ G t → (∀ b ∈ fp, G b = none) → ∀ b ∈ fp, FpOk (X.blk t3 G3 scope ce fp) [] G b := fun {τ G t} J hn b hb =>
    ⟨hn b hb, (J.ok.exf b hb).1, J.ok.exfs b hb, .inl hb, fun x c e => (J.ok.exf b hb).2 x c e, fun p hp => by cases (show p ∈ ([] : List (Addr × Obj)) from hp)⟩
  let S : Nat → Shared → Prop := fun n t => ∃ i G, Inv (X.blk t3 G3 scope ce fp) [] (wipe σ (own.map (·.2))) G t ∧ tn i t.heap ∧ (∀ b ∈ fp, G b = none) ∧ W i n G
  have run : codeAny (model X.prog X.w) X.A (.compLoop (.DictComp kx vx [⟨tg, iter, ifs, 0⟩] scope pos) 0 (.ref it) (.ref D) ce) (compPost (model X.prog X.w) X.A X.xe use Qf (.ref D) t3.heap.objs.size) t4 := by
    refine compLoop_anyD S (fun n t5 ⟨i, G5, I5, st5, n5, w5⟩ => ?_) m0 ⟨0, G3, I4, st4, none3, w0⟩
    rcases go i n G5 w5 with ⟨stop, done⟩ | ⟨more, Nx, next, step⟩
    · refine thnF (T.done (X.blk t3 G3 scope ce fp) rfl rfl rfl hc i [] t5 _ G5 (fun _ _ => False) I5 (still I5 n5) st5 stop) fun r t6 ⟨hr, I6⟩ => ?_
      subst hr
      have I7 : Inv X ps σ G5 t6 := I3.call' (ch := fp) I6.os I6.base I6.hok I6.bare fun b hb => by
        obtain ⟨⟨_, a1, _, a2, a3, a4⟩, _⟩ := fr3 b hb
        exact ⟨a2, a1, a3, a4⟩
      have gone : G5 t3.heap.objs.size = none := locs ▸ (show G5 ce.locals = none from I6.free)
      obtain ⟨m, hn, _⟩ := I6.loc
      exact fine D t3.heap.objs.size t6 m G5 I7 done (locs ▸ (show t6.heap.Ns ce.locals m from hn)) (I3.fpOk (Nat.le_refl _) gone)
    · refine thnF (T.item (X.blk t3 G3 scope ce fp) rfl rfl rfl hc i [] t5 _ G5 (fun _ _ => False) I5 (still I5 n5) st5 more) fun r t6 ⟨u, hr, a6⟩ => ?_
      subst hr
      refine thnF a6 fun _ t7 ⟨x, G7, I7, r7, y7, st7, n7⟩ => ?_
      refine thnF (pg.run _ t7 _ G7 x u _ (I7.pinned (still I7 n7) (T.obj _ _ st7)) r7 (step x G7 y7)) fun _ t8 ⟨τ, G8, I8, wiped, q8⟩ => ?_
      refine thnF (pt.run _ t8 τ G8 _ I8 q8) fun b t9 ⟨G9, I9, q9⟩ => ?_
      have turned : ∀ {t : Shared} {G : Hp}, Inv (X.blk t3 G3 scope ce fp) ([] ++ pinsAt fp t7.heap) τ G t → Nx G → ∃ m, m < n ∧ S m t := fun {t G} J nx => by
        obtain ⟨m, lt, wm⟩ := next G nx
        have pinned : ∀ b ∈ fp, ∀ o, t7.heap.get? b = some o → t.heap.get? b = some o ∧ G b = none := fun b hb o e => by
          obtain ⟨z1, z2, _⟩ := J.pin (b, o) (List.mem_append_right _ (List.mem_append_right _ (mem_pinsAt hb e)))
          exact ⟨z1, z2⟩
        refine ⟨m, lt, i + 1, G, (J.unpinned (pins := [])).weak (by rw [← wiped, wipe_length]) (fun j v e => ?_), T.keep _ _ _ st7 fun b hb o e => (pinned b hb o e).1, fun b hb => ?_, wm⟩
        · rw [← wiped] at e
          exact (wipe_some e).1
        · obtain ⟨o, e, _⟩ := T.obj _ _ st7 b hb
          exact (pinned b hb o e).2
      cases b with
      | false => exact turned I9 q9
      | true =>
        refine thnF (pk.run _ t9 τ G9 _ I9 q9) fun _ t10 ⟨yk, G10, I10, r10, q10⟩ => ?_
        refine thnF (pv.run _ t10 τ G10 _ I10 q10) fun _ t11 ⟨yv, G11, I11, r11, cs, k, a, ek, ha, hD11, few, nx⟩ => ?_
        subst ek
        cases r10
        exact tell (X := X.blk t3 G3 scope ce fp) hu I11 hD11 few ha r11 fun t12 I12 => turned I12 nx
  exact codeAny_compStart_dict run (T.self X.A 0 _ _ _ st4 run)
theorem pe_dcT (hc : X.calm = true) (hu : X.A.units < cLine) (hN : X.N.Nodup) (hi : PI X tg iter wi) (ok : BlkOk X.N X.env.scope scope own) (pa : Parts X scope tg kx vx ifs g tt tk tv) (hs : ∀ x, foldedSetIterable iter X.env x = pure x := by intro _; rfl) : PE X (.DictComp kx vx [⟨tg, iter, ifs, 0⟩] scope pos) (tDcT wi g tt tk tv (own.map (·.2))) :=
  ⟨fun ps s σ H Q I h => by
    rw [arm_eval_DictComp]
    refine core hc hu hN I hi ok pa hs h fun D C t m G J q hn f => ⟨m, hn, fun h'' sb => ?_⟩
    obtain ⟨f0, f1, f2, f3, f4, f5⟩ := f
    exact ⟨.ref D, G, J.turned (t' := t.toks) (fun b o hb e => (sb.2 b hb).trans e) f0 f1 f3 f4 f5, rfl, q⟩⟩
end
end KT

/-! Levels. -/
namespace K52
open PySem PySem.Spec PyProof.Rows L2 KD KL
variable {P : Program} {w : World} {K : PySem.W.Frag} {mg : Str → Option Value} {base : Heap}
-- HINT levels_in dnew pe_dnewT
-- HINT levels_in enum pi_enumQ
-- HINT levels_in it pi_seq
/-- a text as it is passed -/
structure Txt (d : PyData) (ws : List Str) : Prop where
  seq : isSeq d = true
  its : itemsD d = ws.map PyData.str
  few : ws.length ≤ 60
  ok : ∀ z ∈ ws, PyData.strOk z = true
theorem Txt.len {d : PyData} {ws : List Str} (T : Txt d ws) : lenD d = ws.length := by rw [lenD_seq T.seq, T.its, List.length_map]
/-! ### the cells -/
abbrev Ce := Pr × Nat
def lvRow (M : Nat → Nat → Bool) (i : Nat) : Nat → List Ce
  | 0 => []
  | j + 1 => lvRow M i j ++ (if M i j = true then [((i, j), L M i j + 1)] else [])
def lvC (M : Nat → Nat → Bool) (m : Nat) : Nat → List Ce
  | 0 => []
  | i + 1 => lvC M m i ++ lvRow M i m
def keyC (p : Pr) : List Key := [.inl (p.1 : Int), .inl (p.2 : Int)]
def celV (c : Ce) : List Key × V := (keyC c.1, .int (c.2 : Int))
theorem lvRow_in {M : Nat → Nat → Bool} {i : Nat} : ∀ {j : Nat} {c : Ce}, c ∈ lvRow M i j ↔ c.1.1 = i ∧ c.1.2 < j ∧ M c.1.1 c.1.2 = true ∧ c.2 = L M c.1.1 c.1.2 + 1
  | 0, c => ⟨fun h => (by cases h), fun h => (by omega)⟩
  | j + 1, c => by
    rw [lvRow, List.mem_append, lvRow_in (j := j)]
    obtain ⟨⟨a, b⟩, l⟩ := c
    by_cases e : M i j = true
    · rw [if_pos e, List.mem_singleton]
      simp only [Prod.mk.injEq]
      constructor
      · rintro (⟨h1, h2, h3⟩ | ⟨⟨rfl, rfl⟩, rfl⟩)
        · exact ⟨h1, by omega, h3⟩
        · exact ⟨rfl, by omega, e, rfl⟩
      · rintro ⟨h1, h2, h3, h4⟩
        by_cases x : b = j
        · exact .inr ⟨⟨h1, x⟩, by rw [h4, h1, x]⟩
        · exact .inl ⟨h1, by omega, h3, h4⟩
    · rw [if_neg e]
      constructor
      · rintro (⟨h1, h2, h3⟩ | h)
        · exact ⟨h1, by omega, h3⟩
        · cases h
      · rintro ⟨h1, h2, h3, h4⟩
        refine .inl ⟨h1, ?_, h3, h4⟩
        simp only at h1 h2 h3 ⊢
        by_cases x : b = j
        · rw [h1, x] at h3
          exact absurd h3 e
        · omega
theorem lvC_in {M : Nat → Nat → Bool} {m : Nat} : ∀ {i : Nat} {c : Ce}, c ∈ lvC M m i ↔ c.1.1 < i ∧ c.1.2 < m ∧ M c.1.1 c.1.2 = true ∧ c.2 = L M c.1.1 c.1.2 + 1
  | 0, c => ⟨fun h => (by cases h), fun h => (by omega)⟩
  | i + 1, c => by
    rw [lvC, List.mem_append, lvC_in (i := i), lvRow_in]
    constructor
    · rintro (⟨h1, h2⟩ | ⟨h1, h2⟩)
      · exact ⟨by omega, h2⟩
      · exact ⟨by omega, h2⟩
    · rintro ⟨h1, h2⟩
      by_cases x : c.1.1 = i
      · exact .inr ⟨x, h2⟩
      · exact .inl ⟨by omega, h2⟩
theorem lvRow_len {M : Nat → Nat → Bool} {i : Nat} : ∀ {j : Nat}, (lvRow M i j).length ≤ j
  | 0 => Nat.le_refl _
  | j + 1 => by
    have := lvRow_len (M := M) (i := i) (j := j)
    rw [lvRow, List.length_append]
    split <;> simp <;> omega
theorem lvC_len {M : Nat → Nat → Bool} {m : Nat} : ∀ {i : Nat}, (lvC M m i).length ≤ i * m
  | 0 => Nat.zero_le _
  | i + 1 => by
    have := lvC_len (M := M) (m := m) (i := i)
    have := lvRow_len (M := M) (i := i) (j := m)
    rw [lvC, List.length_append, Nat.succ_mul]
    omega
theorem val_none {cs : List Ce} {p : Pr} (h : ∀ c ∈ cs, c.1 ≠ p) : valV (cs.map celV) (keyC p) = none := by
  induction cs with
  | nil => rfl
  | cons c r ih =>
    have h1 := h c List.mem_cons_self
    rw [List.map_cons, valV_neg (by
      show keyC c.1 ≠ keyC p
      intro e
      unfold keyC at e
      simp only [List.cons.injEq, Sum.inl.injEq, and_true] at e
      exact h1 (Prod.ext (by omega) (by omega)))]
    exact ih fun z hz => h z (List.mem_cons_of_mem _ hz)
theorem val_some {cs : List Ce} {p : Pr} {n : Nat} (h : (p, n) ∈ cs) (u : ∀ c ∈ cs, c.1 = p → c.2 = n) : valV (cs.map celV) (keyC p) = some (.int (n : Int)) := by
  induction cs with
  | nil => cases h
  | cons c r ih =>
    rw [List.map_cons]
    by_cases e : c.1 = p
    · rw [valV_pos (by show keyC c.1 = keyC p; rw [e])]
      show some (V.int (c.2 : Int)) = _
      rw [u c List.mem_cons_self e]
    · rw [valV_neg (by
        show keyC c.1 ≠ keyC p
        intro e2
        unfold keyC at e2
        simp only [List.cons.injEq, Sum.inl.injEq, and_true] at e2
        exact e (Prod.ext (by omega) (by omega)))]
      refine ih ((List.mem_cons.mp h).resolve_left fun z => e ?_) fun z hz => u z (List.mem_cons_of_mem _ hz)
      rw [← z]
section
variable {X : Addr → Prop} {σ : L2.St} {H : Hp} {Γ : List Sv} {te tl th : TE} {i : Nat} {D : Addr}
theorem rf_max {ns : List Int} {m : Int} (h0 : 0 < ns.length) (hm : m ∈ ns) (hl : ∀ y ∈ ns, y ≤ m) : RF X (rMax K) [.list (ns.map PyData.int)] (.int m) := fun H us _ rs Q q => by
  cases rs with
  | cons r r2 =>
    cases r2
    obtain ⟨a, vs, rfl, _, ha, rv⟩ := r.lst_inv
    refine ⟨a, ns, rfl, SqL.of (by rw [← rv.ints]; exact ha), h0, fun m' h1 h2 => ?_⟩
    have e : m' = m := by
      have := hl m' h1
      have := h2 m hm
      omega
    rw [e]
    exact q _ H (Same.refl H) (.int m)
theorem g_max {ns : List Int} {m : Int} (t : Trk X H) (h : G X te σ H (.list (ns.map PyData.int))) (h0 : 0 < ns.length) (hm : m ∈ ns) (hl : ∀ y ∈ ns, y ≤ m) : G X (tCB (rMax K) (tCons te tNil)) σ H (.int m) := g_cb t (ga_cons h ga_nil) (rf_max h0 hm hl)
/-- a slice of a list of one's own -/
theorem g_slOwn {xs : List V} {ds : List PyData} {lo hi : Option Int} {tl th : TO} (t : Trk X H) (En : EnvOk X H σ Γ) (hi' : Γ[i]? = some (.val (.ref D))) (hD : H D = some (.lst xs)) (hx : DXs X H xs ds) (hl : GO tl σ H lo) (hh : GO th σ H hi) : G X (tSl (rSlL K) (tVar i) tl th) σ H (.list (cutPD ds lo hi)) := fun H1 s Q q =>
  ⟨.ref D, En.get _ _ hi', hl H1 s _ fun H3 s3 => hh H3 (s.trans s3) _ fun H4 s4 => ⟨D, xs, rfl, SqL.of (((s.trans s3).trans s4) _ _ hD), fun p hp => q _ _ ((s3.trans s4).trans (Same.upd hp)) (DX.newL (((t.mono s).mono s3).mono s4) ((hx.mono (Kp.of ((s.trans s3).trans s4))).cut lo hi) hp)⟩⟩
end
theorem L_z {M : Nat → Nat → Bool} {i : Nat} : L M i 0 = 0 := by cases i <;> rfl
theorem L_s {M : Nat → Nat → Bool} {i j : Nat} : L M (i + 1) (j + 1) = max (max (L M i (j + 1)) (L M (i + 1) j)) (if M i j = true then L M i j + 1 else 0) := rfl
theorem k_nil {σ : L2.St} {H : Hp} {Qa : List V → Hp → Prop} (h : Qa [] H) : tNil σ H Qa := h
theorem k_lstN {ta : TA} {σ : L2.St} {H : Hp} {Q : VK} (h : ta σ H fun vs H1 => vs.length ≤ sizeLine ∧ ∀ p, H1 p = none → Q (.ref p) (upd H1 p (.lst vs))) : tLst ta σ H Q := h
theorem k_seq {tu tz : TS} {D : Ends} {σ : L2.St} {H : Hp} (h : tu { D with nx := tz D } σ H) : tSeq tu tz D σ H := h
theorem k_put {td ty tv : TE} {D : Ends} {σ : L2.St} {H : Hp} (h : tv σ H fun v H1 => td σ H1 fun x H2 => ty σ H2 fun y H3 => ∃ a H4, x = .ref a ∧ DPut H3 a y v H4 ∧ D.nx σ H4) : sDPut td ty tv D σ H := h
theorem q_ifJ {tt : TT} {tu tz : TS} {D : Ends} {σ : L2.St} {H : Hp} {b : Bool} (h : GT tt σ H b) (J : L2.St → Hp → Prop) (hJ : ∀ σ H, J σ H → tz D σ H) (h1 : b = true → (∀ σ H, J σ H → tz D σ H) → ∀ H1, Same H H1 → tu { D with nx := tz D } σ H1) (h0 : b = false → ∀ H1, Same H H1 → J σ H1) : tSeq (tIfS tt tu tNext) tz D σ H :=
  q_if h (fun e H1 s => h1 e hJ H1 s) fun e H1 s => hJ σ H1 (h0 e H1 s)
def lastL (n : Nat) (f : Nat → Nat) : List Nat := match n with
  | 0 => []
  | j + 1 => [f j]
theorem cut_last (f : Nat → PyData) : ∀ j : Nat, cutPD ((List.range j).map f) (some (-1)) none = match j with | 0 => [] | k + 1 => [f k]
  | 0 => rfl
  | k + 1 => by
    show (((List.range (k + 1)).map f).drop (HT.sIx ((List.range (k + 1)).map f).length 0 (some (-1)))).take (HT.sIx ((List.range (k + 1)).map f).length ((List.range (k + 1)).map f).length none - HT.sIx ((List.range (k + 1)).map f).length 0 (some (-1))) = [f k]
    have e : HT.sIx ((List.range (k + 1)).map f).length 0 (some (-1)) = k := by
      unfold HT.sIx
      rw [List.length_map, List.length_range]
      show (if (-1 : Int) < 0 then (-1 + ((k + 1 : Nat) : Int)).toNat else _) = k
      rw [if_pos (by decide)]
      omega
    have e2 : HT.sIx ((List.range (k + 1)).map f).length ((List.range (k + 1)).map f).length none = k + 1 := by
      show ((List.range (k + 1)).map f).length = k + 1
      rw [List.length_map, List.length_range]
    rw [e, e2, List.range_succ, List.map_append, List.drop_append_of_le_length (by simp), List.drop_of_length_le (by simp), List.nil_append, show k + 1 - k = 1 by omega]
    rfl
def befD (M : Nat → Nat → Bool) (m i : Nat) : PyData := .list ((List.range m).map fun j => .int (L M i (j + 1) : Int))
def spLevels : Sp := fun us H Q _ => ∃ (X : Addr → Prop) (v1 v2 : V) (d1 d2 : PyData) (ws vs : List Str), us = [v1, v2] ∧ Trk X H ∧ DX X H v1 d1 ∧ DX X H v2 d2 ∧ Txt d1 ws ∧ Txt d2 vs ∧ ∀ D H', Same H H' → H D = none → H' D = some (.dT ((lvC (Mw ws vs) vs.length ws.length).map celV)) → Q (.ref D) H'
abbrev s_levels_in : Stmt := topS 14
abbrev n_levels_in : List Str := ["one", "other", "before", "levels", "i", "words", "found", "ahead", "j", "said", "longest", "_"]
theorem sc_levels_in : FnScope n_levels_in ["one", "other"] (defScope s_levels_in) := ⟨rfl, rfl, rfl, by decide +kernel, rfl, by decide +kernel, by decide +kernel⟩
theorem ok_levels_in {f : Addr} {fd : FuncData} (F : Fun K "levels_in" "levels_in" s_levels_in f fd) (T : Bl mg) (b_max : mg "max" = none) : FnOk P w K mg base CX0 1 f fd ["one", "other"] spLevels := by
  refine F.ok sc_levels_in (fun vs H Q E h => ?_) (fun cdv A outer s H us Q E hr h => ?_)
  · obtain ⟨X, v1, v2, d1, d2, ws, vs, rfl, _⟩ := h
    rfl
  · obtain ⟨X, v1, v2, d1, d2, ws, vs, rfl, t, r1, r2, T1, T2, q⟩ := h
    refine ⟨_, (pss_cons (ps_setLc (i := 2) (own := [("_", 11)]) (g := (gName 11)) (tt := tYes) rfl sc_levels_in.nd rfl rfl (sw_true rfl rfl rfl (by decide +kernel)) (pi_seq (pv 1)) (blkOk_by (N := n_levels_in) (sc := defScope s_levels_in) (by decide +kernel)) (fun _ _ _ _ _ => (pg_name (i := 11) sc_levels_in.nd rfl (by first | exact Or.inl rfl | exact Or.inr rfl))) (fun _ _ _ _ _ => pts_nil) (fun _ _ _ _ _ => pe_int))
    (pss_cons (ps_set (i := 3) sc_levels_in.nd rfl (by first | exact Or.inl rfl | exact Or.inr rfl) pe_dnewT)
    (pss_cons (ps_for PassesOwn.never rfl (pi_enumQ (by rfl) T.b_enumerate (pa_cons (pv 0) pa_nil)) (pg_tup (n := 2) rfl (pgs_cons (pg_name (i := 4) sc_levels_in.nd rfl (by first | exact Or.inl rfl | exact Or.inr rfl)) (pgs_cons (pg_name (i := 5) sc_levels_in.nd rfl (by first | exact Or.inl rfl | exact Or.inr rfl)) pgs_nil)))
    (pss_cons (ps_set (i := 6) sc_levels_in.nd rfl (by first | exact Or.inl rfl | exact Or.inr rfl) (pe_lst pa_nil))
    (pss_cons (ps_set (i := 7) sc_levels_in.nd rfl (by first | exact Or.inl rfl | exact Or.inr rfl) pe_int)
    (pss_cons (ps_for PassesOwn.never rfl (pi_enumQ (by rfl) T.b_enumerate (pa_cons (pv 1) pa_nil)) (pg_tup (n := 2) rfl (pgs_cons (pg_name (i := 8) sc_levels_in.nd rfl (by first | exact Or.inl rfl | exact Or.inr rfl)) (pgs_cons (pg_name (i := 9) sc_levels_in.nd rfl (by first | exact Or.inl rfl | exact Or.inr rfl)) pgs_nil)))
    (pss_cons (ps_set (i := 10) sc_levels_in.nd rfl (by first | exact Or.inl rfl | exact Or.inr rfl) (pe_callB (cr_max rfl) (by rfl) b_max boot_max (pa_cons (pe_op op_addA (pe_lst (pa_cons (pe_ix ix_seq (pv 2) (pv 8) (fun _ _ => rfl)) pa_nil)) (pe_slice sl_list (pv 6) (po_some (pe_un un_neg pe_int)) po_none)) pa_nil)))
    (pss_cons (ps_if (pt_cmpR (op_eqD hr.units) (pv 5) (pv 9) (nomark _))
    (pss_cons (ps_dput (hu_of hr) (pv 3) (pe_tup (pa_cons (pv 4) (pa_cons (pv 8) pa_nil))) (pe_op op_addA (pv 7) pe_int) rfl)
    (pss_one (ps_set (i := 10) sc_levels_in.nd rfl (by first | exact Or.inl rfl | exact Or.inr rfl) (pe_callB (cr_max rfl) (by rfl) b_max boot_max (pa_cons (pe_lst (pa_cons (pv 10) (pa_cons (pe_op op_addA (pv 7) pe_int) pa_nil))) pa_nil))))) pss_nil)
    (pss_cons (ps_set (i := 7) sc_levels_in.nd rfl (by first | exact Or.inl rfl | exact Or.inr rfl) (pe_ix ix_seq (pv 2) (pv 8) (fun _ _ => rfl)))
    (pss_one (ps_expr (pe_bm PySem.F.plainAttrs_list PySem.F.slot_list_append PySem.F.type_list_append mt_append (pv 6) (pa_cons (pv 10) pa_nil))))))))
    (pss_one (ps_set (i := 2) sc_levels_in.nd rfl (by first | exact Or.inl rfl | exact Or.inr rfl) (pv 6)))))))
    (pss_one (ps_ret (pv 3)))))), ?_⟩
    have En : EnvOk X H (L2.start n_levels_in [v1, v2]) [.dat d1, .dat d2, .un, .un, .un, .un, .un, .un, .un, .un, .un, .un] := env2 (N := n_levels_in) r1 r2 (by decide)
    have w1 := T1.few
    have w2 := T2.few
    obtain ⟨M, hM⟩ : ∃ M, M = Mw ws vs := ⟨_, rfl⟩
    rw [← hM] at q
    refine q_set (i := 2) (d := befD M vs.length 0) En (g_is (g_lc1 (ds := itemsD d2) (Γ2 := fun d => ([.dat d1, .dat d2, .un, .un, .un, .un, .un, .un, .un, .un, .un, .un].set 11 .un).set 11 (.dat d)) (fun _ => .int 0) t (gi_seq (g_var (i := 1) (d := d2) En rfl) T2.seq) (by rw [T2.its, List.length_map]; omega) (fun H3 s3 z hm => tgt_name (En.same s3)) (fun X2 H3 σ2 z hm t3 E3 => g_int)) ?_) fun H1 x1 s1 E1 => ?_
    · rw [T2.its, List.map_map]
      show PyData.list (vs.map fun _ => PyData.int 0) = PyData.list ((List.range vs.length).map fun j => PyData.int 0)
      congr 1
      apply List.ext_getElem?
      intro k
      rw [List.getElem?_map, List.getElem?_map]
      by_cases c : k < vs.length
      · rw [List.getElem?_range c, List.getElem?_eq_getElem c]
        rfl
      · rw [List.getElem?_eq_none (by omega), List.getElem?_eq_none (by rw [List.length_range]; omega)]
        rfl
    have t1 := t.mono s1
    refine k_set fun D hD => ?_
    have nX : ¬ X D := t1.new hD
    have s2 : Same H1 (upd H1 D (.dT [])) := Same.upd hD
    let X1 : Addr → Prop := fun b => X b ∨ b = D
    have t2 : Trk X1 (upd H1 D (.dT [])) := t1.one hD
    have h0 : H D = none := s1.free hD
    let Γ (i : Nat) (a b c e x y z : Sv) : List Sv := [.dat d1, .dat d2, .dat (befD M vs.length i), .val (.ref D), a, b, c, e, x, y, z, .un]
    have E2 : EnvOk X1 (upd H1 D (.dT [])) _ (Γ 0 .un .un .un .un .un .un .un) := ((E1.more (More.one hD)).same s2).setV (i := 3) (v := .ref D)
    refine s_forD (X := X1) (gi_enumQ (g_var (i := 0) (d := d1) E2 rfl) T1.seq) (fun Hb i σ' H' => Kp X1 Hb H' ∧ Trk X1 H' ∧ Same H H' ∧ H' D = some (.dT ((lvC M vs.length i).map celV)) ∧ EnvOk X1 H' σ' (Γ i .un .un .un .un .un .un .un)) (fun Hb sb => ⟨Kp.refl, t2.mono sb, (s1.trans s2).trans sb, sb _ _ upd_same, E2.same sb⟩) (fun Hb i σ' H' p => ⟨p.1, p.2.1⟩) ?_ ?_
    rotate_left
    · rintro Hb σ' H' sb ⟨p1, p2, p3, p4, E⟩
      rw [enumD_len, T1.its, List.length_map] at p4
      show tRet (tVar 3) { nx := fun _ H' => Q .non H', rt := Q } σ' H'
      exact ⟨_, E.get 3 _ rfl, q D H' p3 h0 p4⟩
    rintro Hb i x d σ' H' H'' sb hd ⟨p1, p2, p3, p4, E⟩ s5 dx
    rw [T1.its] at hd
    obtain ⟨hi, rfl⟩ := enum_at hd
    refine g_pair (i := 4) (j := 5) dx fun u v q1 q2 => ?_
    have E6 : EnvOk X1 H'' _ (Γ i (.dat (.int (i : Nat))) (.dat (.str (wAt ws i))) .un .un .un .un .un) := ((E.same s5).set (i := 4) q1).set (i := 5) q2
    have t6 := p2.mono s5
    refine k_set (k_lstN (k_nil ⟨by show 0 ≤ sizeLine; omega, fun Lf hF => ?_⟩))
    have s7 : Same H'' (upd H'' Lf (.lst [])) := Same.upd hF
    have nXF : ¬ X1 Lf := t6.new hF
    let X2 : Addr → Prop := fun b => X1 b ∨ b = Lf
    have t7 : Trk X2 (upd H'' Lf (.lst [])) := t6.one hF
    have E7 := ((E6.more (More.one hF)).same s7).setV (i := 6) (v := .ref Lf)
    refine q_set (i := 7) (d := .int (L M i 0 : Int)) E7 (g_is g_int (by rw [L_z]; rfl)) fun H8 v8 s8 E8 => ?_
    have t8 := t7.mono s8
    have nDL : D ≠ Lf := fun z => nXF (.inr z.symm)
    have s58 : Same H' H8 := (s5.trans s7).trans s8
    have E8 : EnvOk X2 H8 _ (Γ i (.dat (.int (i : Nat))) (.dat (.str (wAt ws i))) (.val (.ref Lf)) (.dat (.int (L M i 0 : Int))) .un .un .un) := E8
    have few : (lvC M vs.length i).length ≤ 3600 := by
      have h1 := lvC_len (M := M) (m := vs.length) (i := i)
      have h2 : i * vs.length ≤ 60 * 60 := Nat.mul_le_mul (by omega) (by omega)
      omega
    refine s_forD (X := X2) (gi_enumQ (g_var (i := 1) (d := d2) E8 rfl) T2.seq) (fun Hc j σ2 H2 => Kp X2 Hc H2 ∧ Trk X2 H2 ∧ (∀ a o, a ≠ D → a ≠ Lf → H8 a = some o → H2 a = some o) ∧ H2 D = some (.dT ((lvC M vs.length i ++ lvRow M i j).map celV)) ∧ (∃ ys, H2 Lf = some (.lst ys) ∧ DXs X2 H2 ys ((List.range j).map fun k => .int (L M (i + 1) (k + 1) : Int))) ∧ EnvOk X2 H2 σ2 (Γ i (.dat (.int (i : Nat))) (.dat (.str (wAt ws i))) (.val (.ref Lf)) (.dat (.int (L M i j : Int))) .un .un .un)) (fun Hc sc => ⟨Kp.refl, t8.mono sc, fun a o _ _ e => sc _ _ e, by rw [lvRow, List.append_nil]; exact sc _ _ (s58 _ _ p4), ⟨[], sc _ _ (s8 _ _ upd_same), .nil⟩, E8.same sc⟩) (fun Hc j σ2 H2 p => ⟨p.1, p.2.1⟩) ?_ ?_
    rotate_left
    · rintro Hc σ2 H2 sc ⟨c1, c2, c3, c4, ⟨ys, c5, c6⟩, E9⟩
      rw [enumD_len, T2.its, List.length_map] at c4 c6 E9
      have Eg : EnvOk X1 H2 σ2 (Γ i (.dat (.int (i : Nat))) (.dat (.str (wAt ws i))) (.dat (befD M vs.length (i + 1))) (.dat (.int (L M i vs.length : Int))) .un .un .un) := EnvOk.give (X := X1) (L := Lf) (i := 6) E9 rfl nXF c5 c6
      refine k_set1 (g_var (i := 6) (d := befD M vs.length (i + 1)) Eg rfl H2 (Same.refl _) _ fun w H3 s3 r3 => ?_)
      have kept : ∀ a o, a ≠ D → H' a = some o → H3 a = some o := fun a o nd e => s3 _ _ (c3 a o nd (fun z => by rw [z, s5.free hF] at e; cases e) (s58 _ _ e))
      refine ⟨fun a o nx e => kept a o (fun z => nx (.inr z)) (p1 a o nx e), fun a h => (c2.mono s3) a (.inl h), fun a o e => kept a o (fun z => by rw [z, h0] at e; cases e) (p3 a o e), s3 _ _ c4, ?_⟩
      exact envUn' (envUn' (envUn' (envUn' ((Eg.same s3).set (i := 2) r3) 4) 5) 6) 7
    rintro Hc j x' d' σ2 H2 H2' sc hd' ⟨c1, c2, c3, c4, ⟨ys, c5, c6⟩, E9⟩ s9 dx'
    rw [T2.its] at hd'
    obtain ⟨hj, rfl⟩ := enum_at hd'
    refine g_pair (i := 8) (j := 9) dx' fun u' v' q3 q4 => ?_
    have t9 := c2.mono s9
    have EA : EnvOk X2 H2' _ (Γ i (.dat (.int (i : Nat))) (.dat (.str (wAt ws i))) (.val (.ref Lf)) (.dat (.int (L M i j : Int))) (.dat (.int (j : Nat))) (.dat (.str (wAt vs j))) .un) := ((E9.same s9).set (i := 8) q3).set (i := 9) q4
    have bef : ∀ {Z : Hp} {τ : L2.St} {Δ : List Sv}, Trk X2 Z → EnvOk X2 Z τ Δ → Δ[2]? = some (.dat (befD M vs.length i)) → Δ[8]? = some (.dat (.int (j : Nat))) → G X2 (tOp (rIx K) (tVar 2) (tVar 8)) τ Z (.int (L M i (j + 1) : Int)) := fun t E e2 e8 => g_ixL t (g_var E e2) (g_var E e8) (atI_nat (by rw [List.getElem?_map, List.getElem?_range hj]; rfl))
    have DA := s9 _ _ c4
    have FA := s9 _ _ c5
    have XA := c6.mono (Kp.of s9)
    have oldl : ∃ ns : List Int, ns.map PyData.int = cutPD ((List.range j).map fun k => .int (L M (i + 1) (k + 1) : Int)) (some (-1)) none ∧ (∀ y ∈ ns, y = (L M (i + 1) j : Int)) ∧ ns.length ≤ 1 ∧ (0 < j → (L M (i + 1) j : Int) ∈ ns) := by
      rw [cut_last (fun k => .int (L M (i + 1) (k + 1) : Int)) j]
      cases j with
      | zero => exact ⟨[], rfl, fun y hy => (by cases hy), by simp, fun h => (by omega)⟩
      | succ k => exact ⟨[(L M (i + 1) (k + 1) : Int)], rfl, fun y hy => List.mem_singleton.mp hy, by simp, fun _ => List.mem_singleton.mpr rfl⟩
    obtain ⟨ns, n1, n2, n3, n4⟩ := oldl
    obtain ⟨lg, hlg⟩ : ∃ lg : Nat, lg = max (L M i (j + 1)) (L M (i + 1) j) := ⟨_, rfl⟩
    refine q_set (i := 10) (d := .int (lg : Int)) EA (g_max (ns := (L M i (j + 1) : Int) :: ns) t9 (g_is (g_cat t9 (g_lst t9 (ga_cons (bef t9 EA rfl rfl) ga_nil) (by simp)) (g_slOwn t9 EA rfl FA XA (go_some (X := X2) g_neg1) go_none) (by rw [← n1, List.length_map]; show 1 + ns.length ≤ _; omega)) (by rw [← n1]; rfl)) (by simp) ?_ ?_) fun HB vB sB EB => ?_
    · by_cases c : L M (i + 1) j ≤ L M i (j + 1)
      · rw [hlg, Nat.max_eq_left c]
        exact List.mem_cons_self
      · rw [hlg, Nat.max_eq_right (by omega)]
        refine List.mem_cons_of_mem _ (n4 ?_)
        by_cases z : j = 0
        · rw [z, L_z] at c
          omega
        · omega
    · intro y hy
      have := Nat.le_max_left (L M i (j + 1)) (L M (i + 1) j)
      have := Nat.le_max_right (L M i (j + 1)) (L M (i + 1) j)
      rcases List.mem_cons.mp hy with rfl | hy
      · omega
      · rw [n2 y hy]
        omega
    have tB := t9.mono sB
    have EB : EnvOk X2 HB _ (Γ i (.dat (.int (i : Nat))) (.dat (.str (wAt ws i))) (.val (.ref Lf)) (.dat (.int (L M i j : Int))) (.dat (.int (j : Nat))) (.dat (.str (wAt vs j))) (.dat (.int (lg : Int)))) := EB
    have sAB := s9.trans sB
    let Jv : L2.St → Hp → Prop := fun σ3 H3 => Kp X2 Hc H3 ∧ Trk X2 H3 ∧ (∀ a o, a ≠ D → a ≠ Lf → H8 a = some o → H3 a = some o) ∧ H3 D = some (.dT ((lvC M vs.length i ++ lvRow M i (j + 1)).map celV)) ∧ (∃ ys, H3 Lf = some (.lst ys) ∧ DXs X2 H3 ys ((List.range j).map fun k => .int (L M (i + 1) (k + 1) : Int))) ∧ EnvOk X2 H3 σ3 (Γ i (.dat (.int (i : Nat))) (.dat (.str (wAt ws i))) (.val (.ref Lf)) (.dat (.int (L M i j : Int))) (.dat (.int (j : Nat))) (.dat (.str (wAt vs j))) (.dat (.int (L M (i + 1) (j + 1) : Int))))
    have okw : ∀ {k : Nat} {us : List Str}, (∀ z ∈ us, PyData.strOk z = true) → k < us.length → SeqAt.shaped (.str (wAt us k)) = true := fun {k us} ok hk => shaped_str (by unfold wAt; rw [List.getD_eq_getElem?_getD, List.getElem?_eq_getElem hk]; exact ok _ (List.getElem_mem hk))
    refine q_ifJ (b := M i j) (gt_is (gt_eqD (K := K) tB (g_var (i := 5) (d := .str (wAt ws i)) EB rfl) (g_var (i := 9) (d := .str (wAt vs j)) EB rfl) rfl rfl (okw T1.ok hi) (okw T2.ok hj)) (by rw [eqv_str, hM]; unfold Mw; exact decide_eq_decide.mpr eq_comm)) Jv (fun σ3 H3 pJ => ?_) (fun hb hJ HC sC => ?_) fun hb HC sC => ?_
    · obtain ⟨e1, e2, e3, e4, ⟨zs, e5, e6⟩, EC⟩ := pJ
      refine q_set (i := 7) (d := .int (L M i (j + 1) : Int)) EC (bef e2 EC rfl rfl) fun HD vD sD ED => ?_
      have tD := e2.mono sD
      refine k_drop1 (q_append (i := 6) (L := Lf) (d := .int (L M (i + 1) (j + 1) : Int)) ED rfl (.inr rfl) tD (sD _ _ e5) (e6.mono (Kp.of sD)) (g_var (i := 10) (d := .int (L M (i + 1) (j + 1) : Int)) ED rfl) (by rw [List.length_map, List.length_range]; omega) fun HE zs' hE xE EE tE kE => ?_)
      refine ⟨(e1.trans (Kp.of sD)).trans fun a o n e => kE a o (fun z => n (.inr z)) e, tE, fun a o n1 n2 e => kE a o n2 (sD _ _ (e3 a o n1 n2 e)), kE _ _ nDL (sD _ _ e4), ⟨zs', hE, ?_⟩, ?_⟩
      · rw [List.range_succ, List.map_append]
        exact xE
      · exact envUn' (envUn' (envUn' EE 8) 9) 10
    · have EC := EB.same sC
      have tC := tB.mono sC
      refine k_seq (k_put ?_)
      refine (g_addI (j := 1) tC (g_var (i := 7) (d := .int (L M i j : Int)) EC rfl) g_int) HC (Same.refl _) _ fun w1 H3 s3 r3 => ⟨_, (EC.same s3).get 3 _ rfl, ?_⟩
      refine g_var (i := 4) (d := .int (i : Nat)) (EC.same s3) rfl H3 (Same.refl _) _ fun w2 H4 s4 r4 => g_var (i := 8) (d := .int (j : Nat)) ((EC.same s3).same s4) rfl H4 (Same.refl _) _ fun w3 H5 s5' r5 => ⟨by show 2 ≤ sizeLine; decide, fun y hy => ?_⟩
      rw [r3.int_inv, r4.int_inv, r5.int_inv]
      have sg : Same HC (upd H5 y (.tup [.int (i : Nat), .int (j : Nat)])) := ((s3.trans s4).trans s5').trans (Same.upd hy)
      have Dg := (sAB.trans (sC.trans sg)) _ _ c4
      have Fg := (sAB.trans (sC.trans sg)) _ _ c5
      have fewr := lvRow_len (M := M) (i := i) (j := j)
      refine ⟨D, _, rfl, DPut.t (k := keyC (i, j)) Dg upd_same (by rw [List.length_map, List.length_append, sizeLine_eq]; omega), ?_⟩
      have eput : putK ((lvC M vs.length i ++ lvRow M i j).map celV) (keyC (i, j)) (.int ((L M i j : Int) + 1)) = (lvC M vs.length i ++ lvRow M i (j + 1)).map celV := by
        rw [putK_new _ (val_none fun c hc e => ?_), lvRow, if_pos hb, ← List.append_assoc, List.map_append (l₁ := lvC M vs.length i ++ lvRow M i j)]
        · rfl
        · rcases List.mem_append.mp hc with h | h
          · have := (lvC_in.mp h).1
            rw [e] at this
            exact absurd this (Nat.lt_irrefl _)
          · have := (lvRow_in.mp h).2.1
            rw [e] at this
            exact absurd this (Nat.lt_irrefl _)
      rw [eput]
      have kp : Kp X2 (upd H5 y (.tup [.int (i : Nat), .int (j : Nat)])) (upd (upd H5 y (.tup [.int (i : Nat), .int (j : Nat)])) D (.dT ((lvC M vs.length i ++ lvRow M i (j + 1)).map celV))) := Kp.put (.inl (.inr rfl))
      have EG := (EC.same sg).mono kp
      have tG := (tC.mono sg).put (p := D) (o := .dT ((lvC M vs.length i ++ lvRow M i (j + 1)).map celV))
      have sAll : Same H2 (upd H5 y (.tup [.int (i : Nat), .int (j : Nat)])) := sAB.trans (sC.trans sg)
      have kept : ∀ a o, a ≠ D → H2 a = some o → upd (upd H5 y (.tup [.int (i : Nat), .int (j : Nat)])) D (.dT ((lvC M vs.length i ++ lvRow M i (j + 1)).map celV)) a = some o := fun a o n e => by
        rw [upd_ne n]
        exact sAll _ _ e
      have hDu : upd (upd H5 y (.tup [.int (i : Nat), .int (j : Nat)])) D (.dT ((lvC M vs.length i ++ lvRow M i (j + 1)).map celV)) D = some (.dT ((lvC M vs.length i ++ lvRow M i (j + 1)).map celV)) := upd_same
      have XG := (c6.mono (Kp.of sAll)).mono kp
      generalize upd (upd H5 y (.tup [.int (i : Nat), .int (j : Nat)])) D (.dT ((lvC M vs.length i ++ lvRow M i (j + 1)).map celV)) = HG at *
      refine k_set1 ((g_max (ns := [(lg : Int), (L M i j : Int) + 1]) (m := (L M (i + 1) (j + 1) : Int)) tG (g_lst tG (ga_cons (g_var (i := 10) (d := .int (lg : Int)) EG rfl) (ga_cons (g_addI (j := 1) tG (g_var (i := 7) (d := .int (L M i j : Int)) EG rfl) g_int) ga_nil)) (by simp)) (by simp) ?_ ?_) HG (Same.refl _) _ fun w9 H9 s9' r9 => hJ _ _ ?_)
      · rw [L_s, if_pos hb, ← hlg]
        by_cases c : L M i j + 1 ≤ lg
        · rw [Nat.max_eq_left c]
          exact List.mem_cons_self
        · rw [Nat.max_eq_right (by omega)]
          exact List.mem_cons_of_mem _ (List.mem_singleton.mpr (by omega))
      · intro z hz
        have e : L M (i + 1) (j + 1) = max lg (L M i j + 1) := by rw [L_s, if_pos hb, ← hlg]
        have := Nat.le_max_left lg (L M i j + 1)
        have := Nat.le_max_right lg (L M i j + 1)
        rcases List.mem_cons.mp hz with rfl | hz
        · omega
        · rw [List.mem_singleton.mp hz]
          omega
      · refine ⟨fun a o n e => s9' _ _ (kept a o (fun z => n (.inl (.inr z))) (c1 a o n e)), tG.mono s9', fun a o n1 n2 e => s9' _ _ (kept a o n1 (c3 a o n1 n2 e)), s9' _ _ hDu, ⟨ys, s9' _ _ (kept _ _ (Ne.symm nDL) c5), XG.mono (Kp.of s9')⟩, (EG.same s9').set (i := 10) r9⟩
    · have sAC := sAB.trans sC
      have e0 : L M (i + 1) (j + 1) = lg := by rw [L_s, if_neg (by rw [hb]; simp), ← hlg]; omega
      refine ⟨c1.trans (Kp.of sAC), tB.mono sC, fun a o n1 n2 e => sAC _ _ (c3 a o n1 n2 e), ?_, ⟨ys, sAC _ _ c5, c6.mono (Kp.of sAC)⟩, ?_⟩
      · rw [lvRow, if_neg (by rw [hb]; simp), List.append_nil]
        exact sAC _ _ c4
      · rw [e0]
        exact EB.same sC
end K52

/-! xs[::-1], where xs is a tuple (or a list). -/
namespace KR
open PySem PySem.Calls PySem.Spec PyProof.Rows HT L2
section
variable {prog : Program} {w : World} {A : Around} {E : Value → Shared → Prop} {s : Shared}
theorem applied {sl : Addr} {va vb vc : Value} {n : Nat} {Q : Int × Int × Nat → Shared → Prop} (hs : s.heap.IsSliceOf sl va vb vc) (pa : IsPart va none) (pb : IsPart vb none) (pc : IsPart vc (some (-1)))
    (h : Q ((n : Int) - 1, -1, n) s) : wpAny (model prog w) A (Builtin.Slice.sliceApplied (.ref sl) (pure (n : Int))) Q E s := by
  obtain ⟨o, ho, hc, hd⟩ := id hs
  unfold Builtin.Slice.sliceApplied Builtin.Slice.sliceFields
  refine wpAny_bind (wpAny_bind (wpAny_field ho hd (x := va) rfl (wpAny_bind (wpAny_field ho hd (x := vb) rfl (wpAny_bind (wpAny_field ho hd (x := vc) rfl (wpAny_pure ?_)))))))
  refine wpAny_bind (slicePart_ pc ?_)
  show wpAny _ _ (if ((-1 : Int) == 0) = true then _ else _) _ _ s
  rw [if_neg (by decide)]
  refine wpAny_bind (slicePart_ pa (wpAny_bind (slicePart_ pb (wpAny_bind (wpAny_pure ?_)))))
  have e : Builtin.Slice.sliceAdjust none none (-1) (n : Int) = ((n : Int) - 1, -1) := by
    unfold Builtin.Slice.sliceAdjust
    simp
  have e2 : Builtin.Slice.slicePlaces ((n : Int) - 1) (-1) (-1) = n := by
    unfold Builtin.Slice.slicePlaces
    rw [if_neg (by decide)]
    by_cases c : n = 0
    · subst c
      decide
    · rw [if_pos (by omega)]
      have : (((n : Int) - 1) - (-1) - 1) / (-(-1)) = (n : Int) - 1 := by
        rw [show (-(-1) : Int) = 1 by decide, Int.ediv_one]
        omega
      rw [this]
      omega
  show wpAny _ _ (match Builtin.Slice.sliceAdjust none none (-1) (n : Int) with | (a, b) => pure (a, (-1 : Int), Builtin.Slice.slicePlaces a b (-1))) _ _ s
  rw [e]
  show wpAny _ _ (pure ((n : Int) - 1, (-1 : Int), Builtin.Slice.slicePlaces ((n : Int) - 1) (-1) (-1))) _ _ s
  rw [e2]
  exact wpAny_pure h
theorem fm_congr {α β : Type} {f g : α → Option β} : ∀ {l : List α}, (∀ a ∈ l, f a = g a) → l.filterMap f = l.filterMap g
  | [], _ => rfl
  | a :: l, h => by rw [List.filterMap_cons, List.filterMap_cons, h a List.mem_cons_self, fm_congr fun b hb => h b (List.mem_cons_of_mem _ hb)]
theorem picked (xs : Array Value) : ((List.range xs.size).filterMap fun (m : Nat) => xs[(((xs.size : Int) - 1) + (m : Int) * (-1)).toNat]?).toArray = xs.toList.reverse.toArray := by
  congr 1
  rw [← PySem.W.krv_all xs, ← List.filterMap_reverse, ← PySem.W.krv_range, List.filterMap_map]
  refine fm_congr fun m hm => ?_
  have := List.mem_range.mp hm
  show xs[(((xs.size : Int) - 1) + (m : Int) * (-1)).toNat]? = xs[xs.size - 1 - m]?
  congr 1
  omega
theorem item {t sl : Addr} {its : Array Value} {va vb vc : Value} {Q : Value → Shared → Prop} (ht : IsTup s.heap t its) (hs : s.heap.IsSliceOf sl va vb vc) (pa : IsPart va none) (pb : IsPart vb none) (pc : IsPart vc (some (-1)))
    (h : Q (.ref s.heap.objs.size) { s with heap := s.heap.push { cls := .type "tuple", data := .seq its.toList.reverse.toArray } }) (hz : its.size ≤ sizeLine) : wpAny (model prog w) A (getItem (.ref t) (.ref sl)) Q E s := by
  have fits : sizeOk (.seq its.toList.reverse.toArray) := by
    show its.toList.reverse.toArray.size ≤ sizeLine
    rw [List.size_toArray, List.length_reverse, Array.length_toList]
    exact hz
  obtain ⟨o, ho, hc, hd⟩ := id hs
  have hT : s.TypeIs (.ref sl) "slice" := ⟨o, ho, hc⟩
  unfold getItem
  try with_reducible refine wpAny_holding ?_
  first | refine wpAny_bind (wpAny_pure ?_) | skip
  refine wpAny_bind (wpAny_sequenceKey ht.typeIs (by decide) (wpAny_bind (wpAny_callSpecial?_slot (name := Str.ofString "__getitem__") ht.typeIs slot_tuple_getitem (wpAny_call_entry slot_tuple_getitem ht.typeIs entry_tuple_getitem ?_ (args_tuple_getitem _ _)))))
  show wpAny _ _ (Builtin.Tuple.tupleItemsOf (.ref t) >>= _) _ _ s
  refine wpAny_bind (tupleItemsOf_ ht (wpAny_bind (wpAny_typeOf hT ?_)))
  rw [if_pos (by decide)]
  refine wpAny_bind (applied hs pa pb pc ?_)
  show wpAny _ _ (if (((its.size : Int) - 1) == 0 && (-1 : Int) == 1 && its.size == its.size) = true then _ else _) _ _ s
  rw [if_neg (by simp)]
  rw [picked]
  first
    | exact wpAny_bind (m := Builtin.Tuple.tupleExact _) (wpAny_newObj_type (wpAny_pure ⟨_, rfl, wpAny_pure h⟩) fits)
    | exact wpAny_bind (wpAny_bind (m := Builtin.Tuple.tupleExact _) (wpAny_newObj_type (wpAny_pure ⟨_, rfl, wpAny_pure h⟩) fits))
    | exact wpAny_bind (m := Builtin.Tuple.tupleExact _) (wpAny_newObj_type (wpAny_bind (wpAny_pure (wpAny_pure ⟨_, rfl, wpAny_pure h⟩))) fits)
end
/-! ### as a reading -/
def tRevT (K : PySem.W.Frag) (te : TE) : TE := fun σ H Q => te σ H fun x H1 => ∃ a xs, x = .ref a ∧ ((SqT K H1 a xs ∧ ∀ p, H1 p = none → Q (.ref p) (upd H1 p (.tup xs.reverse))) ∨ (SqL K H1 a xs ∧ ∀ p, H1 p = none → Q (.ref p) (upd H1 p (.lst xs.reverse))))
theorem pe_revQ {X : Cx} {e : Expr} {te : TE} {k : Nat} {p1 p2 p3 pos : Pos} (he : PE X e te) : PE X (.Subscript e (.Slice none none (some (.UnaryOp .USub (.Constant (.int 1) k p1) p2)) p3) pos) (tRevT X.K te) := by
  refine ⟨fun ps s σ H Q I h => ?_⟩
  refine Subscript_ (thn (he.run ps s σ H _ I h) fun v t1 ⟨x, G1, I1, r1, a, xs, ex, hx⟩ => ?_)
  subst ex
  cases r1
  refine wpAny_Slice (thn (po_none.run ps t1 σ G1 (fun o G => o = none ∧ G = G1) I1 ⟨rfl, rfl⟩) fun va t2 ⟨l, G2, I2, pa, el, e2⟩ => ?_)
  subst el e2
  refine thn (po_none.run ps t2 σ G2 (fun o G => o = none ∧ G = G2) I2 ⟨rfl, rfl⟩) fun vb t3 ⟨u, G3, I3, pb, eu, e3⟩ => ?_
  subst eu e3
  refine thn ((po_some (pe_un un_neg pe_int) : PO X (some (.UnaryOp .USub (.Constant (.int 1) k p1) p2)) _).run ps t3 σ G3 (fun o G => o = some (-1) ∧ G = G3) I3 ⟨1, rfl, -1, rfl, rfl, rfl⟩) fun vc t4 ⟨o, G4, I4, pc, eo, e4⟩ => ?_
  subst eo e4
  have I5 : Inv X ps σ G4 { t4 with heap := t4.heap.push { cls := .type "slice", data := .fields #[va, vb, vc] } } := I4.kept (t' := t4.toks) fun b ob q => Heap.get?_push_of_some _ q
  rcases hx with ⟨hx, q⟩ | ⟨hx, q⟩
  · obtain ⟨its, r, ht, hz⟩ := I5.tuple hx
    have hl := r.length
    show wpAny (model X.prog X.w) X.A (subscriptTail e (.Slice none none (some (.UnaryOp .USub (.Constant (.int 1) k p1) p2)) p3) (.ref a) (.ref t4.heap.objs.size)) (EP X ps σ Q) X.xe { t4 with heap := t4.heap.push { cls := .type "slice", data := .fields #[va, vb, vc] } }
    refine tail_any (ops := [.ref a, .ref t4.heap.objs.size]) ht.typeIs (slot_tuple_getitem.lookup) ?_ (by with_unfolding_all rfl)
    refine item ht (Heap.IsSliceOf.new _ va vb vc) pa pb pc ?_ (by rw [List.size_toArray]; omega)
    refine ⟨.ref _, _, I5.laid (t' := t4.toks) (o := .tup xs.reverse) (fun b ob q => Heap.get?_push_of_some _ q) (Nat.le_refl _) ?_, rfl, q _ (I5.hok.fresh (Nat.le_refl _))⟩
    exact ⟨by rw [List.length_reverse]; exact hz, _, r.reverse, ⟨_, Heap.get?_push_size _ rfl, rfl, 0, rfl⟩⟩
  · obtain ⟨its, r, ht, hz⟩ := I5.list hx
    have hl := r.length
    show wpAny (model X.prog X.w) X.A (subscriptTail e (.Slice none none (some (.UnaryOp .USub (.Constant (.int 1) k p1) p2)) p3) (.ref a) (.ref t4.heap.objs.size)) (EP X ps σ Q) X.xe { t4 with heap := t4.heap.push { cls := .type "slice", data := .fields #[va, vb, vc] } }
    refine tail_any (ops := [.ref a, .ref t4.heap.objs.size]) ht.isList.typeIs (PySem.slot_list_getitem.lookup) ?_ (by with_unfolding_all rfl)
    refine wpAny_getItem_list_slice ht.isList (Heap.IsSliceOf.new _ va vb vc) pa pb pc (by decide) ?_ (by rw [List.size_toArray]; omega)
    rw [PySem.W.krv_pick]
    exact ⟨.ref _, _, I5.laid (t' := t4.toks) (o := .lst xs.reverse) (fun b ob q => Heap.get?_push_of_some _ q) (Nat.le_refl _) ⟨by rw [List.length_reverse]; exact hz, _, 0, r.reverse, Heap.get?_push_size _ rfl⟩, rfl, q _ (I5.hok.fresh (Nat.le_refl _))⟩
end KR

/-! Levels from behind. -/
namespace K52
open PySem PySem.Spec PyProof.Rows L2 KD KL
variable {P : Program} {w : World} {K : PySem.W.Frag} {mg : Str → Option Value} {base : Heap}
-- HINT levels_behind rev KR.pe_revQ
-- HINT levels_behind lctk#1 (tTup (tCons (tOp (rI0 fun i j => V.int (i - j)) (tOp (rI0 fun i j => V.int (i - j)) (tCB (fun xs H Q => ∃ x n, xs = [x] ∧ LenV K x H n ∧ Q (V.int n) H) (tCons (tVar 0) tNil)) (tC (.int 1))) (tVar 4)) (tCons (tOp (rI0 fun i j => V.int (i - j)) (tOp (rI0 fun i j => V.int (i - j)) (tCB (fun xs H Q => ∃ x n, xs = [x] ∧ LenV K x H n ∧ Q (V.int n) H) (tCons (tVar 1) tNil)) (tC (.int 1))) (tVar 5)) tNil)))
theorem dxs_rev {X : Addr → Prop} {H : Hp} : ∀ {xs : List V} {ds : List PyData}, DXs X H xs ds → DXs X H xs.reverse ds.reverse
  | _, _, .nil => .nil
  | _, _, .cons h r => by
    rw [List.reverse_cons, List.reverse_cons]
    exact (dxs_rev r).append (.cons h .nil)
def revQ : PyData → PyData
  | .list ds => .list ds.reverse
  | .tuple ds => .tuple ds.reverse
  | d => d
theorem g_revQ {X : Addr → Prop} {σ : L2.St} {H : Hp} {te : TE} {d : PyData} (t : Trk X H) (h : G X te σ H d) (hs : isSeq d = true) : G X (KR.tRevT K te) σ H (revQ d) := fun H1 s Q q =>
  h H1 s _ fun v H2 s2 r => by
    cases d with
    | list ds =>
      obtain ⟨a, xs, rfl, _, e, rx⟩ := r.lst_inv
      exact ⟨a, xs, rfl, .inr ⟨SqL.of e, fun p hp => q _ _ (s2.trans (Same.upd hp)) (DX.newL ((t.mono s).mono s2) (dxs_rev rx) hp)⟩⟩
    | tuple ds =>
      obtain ⟨a, xs, rfl, _, e, rx⟩ := r.tup_inv
      exact ⟨a, xs, rfl, .inl ⟨SqT.of e, fun p hp => q _ _ (s2.trans (Same.upd hp)) (DX.newT ((t.mono s).mono s2) (dxs_rev rx) hp)⟩⟩
    | _ => cases hs
theorem Txt.rev {d : PyData} {ws : List Str} (T : Txt d ws) : Txt (revQ d) ws.reverse := by
  have e : isSeq (revQ d) = true ∧ itemsD (revQ d) = (itemsD d).reverse := by
    have := T.seq
    cases d <;> first | exact ⟨rfl, rfl⟩ | cases this
  exact ⟨e.1, by rw [e.2, T.its, List.map_reverse], by rw [List.length_reverse]; exact T.few, fun z hz => T.ok z (List.mem_reverse.mp hz)⟩
theorem nxt_congr {f g : Nat → Bool} {b c : Nat → Nat} : ∀ {j : Nat}, (∀ k, k < j → f k = g k) → (∀ k, k ≤ j → b k = c k) → nxt f b j = nxt g c j
  | 0, _, _ => rfl
  | j + 1, h, k => by
    have ih := nxt_congr (j := j) (fun i hi => h i (by omega)) fun i hi => k i (by omega)
    show max (max (b (j + 1)) (nxt f b j)) (if f j = true then b j + 1 else 0) = max (max (c (j + 1)) (nxt g c j)) (if g j = true then c j + 1 else 0)
    rw [ih, k (j + 1) (Nat.le_refl _), k j (by omega), h j (by omega)]
theorem L_congr {M M' : Nat → Nat → Bool} {m : Nat} : ∀ {i j : Nat}, j ≤ m → (∀ a b, a < i → b < m → M a b = M' a b) → L M i j = L M' i j
  | 0, _, _, _ => rfl
  | i + 1, j, hj, h => nxt_congr (fun k hk => h i k (by omega) (by omega)) fun k hk => L_congr (by omega) fun a b ha hb => h a b (by omega) hb
theorem lvRow_congr {M M' : Nat → Nat → Bool} {i m : Nat} (h : ∀ a b, a ≤ i → b < m → M a b = M' a b) : ∀ {j : Nat}, j ≤ m → lvRow M i j = lvRow M' i j
  | 0, _ => rfl
  | j + 1, hj => by
    rw [lvRow, lvRow, lvRow_congr h (j := j) (by omega), h i j (Nat.le_refl _) (by omega), L_congr (M := M) (M' := M') (m := m) (i := i) (j := j) (by omega) fun a b ha hb => h a b (by omega) hb]
theorem lvC_congr {M M' : Nat → Nat → Bool} {m : Nat} : ∀ {i : Nat}, (∀ a b, a < i → b < m → M a b = M' a b) → lvC M m i = lvC M' m i
  | 0, _ => rfl
  | i + 1, h => by rw [lvC, lvC, lvC_congr fun a b ha hb => h a b (by omega) hb, lvRow_congr (fun a b ha hb => h a b (by omega) hb) (Nat.le_refl _)]
theorem Mw_rev {ws vs : List Str} {i j : Nat} (hi : i < ws.length) (hj : j < vs.length) : Mw ws.reverse vs.reverse i j = rv (Mw ws vs) ws.length vs.length i j := by
  unfold rv Mw wAt
  rw [List.getD_eq_getElem?_getD, List.getD_eq_getElem?_getD, List.getD_eq_getElem?_getD, List.getD_eq_getElem?_getD, List.getElem?_reverse hj, List.getElem?_reverse hi]
theorem lvRow_pair {M : Nat → Nat → Bool} {i : Nat} : ∀ {j : Nat}, (lvRow M i j).Pairwise fun a b => a.1 ≠ b.1
  | 0 => .nil
  | j + 1 => by
    rw [lvRow]
    refine List.pairwise_append.mpr ⟨lvRow_pair, ?_, fun a ha b hb e => ?_⟩
    · split <;> simp
    · have := (lvRow_in.mp ha).2.1
      split at hb
      · rw [List.mem_singleton] at hb
        rw [e, hb] at this
        exact Nat.lt_irrefl _ this
      · cases hb
theorem lvC_pair {M : Nat → Nat → Bool} {m : Nat} : ∀ {i : Nat}, (lvC M m i).Pairwise fun a b => a.1 ≠ b.1
  | 0 => .nil
  | i + 1 => by
    rw [lvC]
    refine List.pairwise_append.mpr ⟨lvC_pair, lvRow_pair, fun a ha b hb e => ?_⟩
    have h1 := (lvC_in.mp ha).1
    have h2 := (lvRow_in.mp hb).1
    rw [e] at h1
    omega
theorem wipe_three {σ : L2.St} {i j l : Nat} {x y z : Option V} : wipe ((((wipe σ [i, j, l]).set i x).set j y).set l z) [i, j, l] = wipe σ [i, j, l] := by
  show ((((((((σ.set l none).set j none).set i none).set i x).set j y).set l z).set l none).set j none).set i none = ((σ.set l none).set j none).set i none
  apply List.ext_getElem?
  intro n
  simp only [List.getElem?_set, List.length_set]
  by_cases h1 : i = n <;> by_cases h2 : j = n <;> by_cases h3 : l = n <;> simp_all
theorem k_callS {sp : Sp} {E : XK} {Q : VK} {σ : L2.St} {H : Hp} {tl : TA} (h : tl σ H fun vs H1 => sp (vs ++ []) H1 Q E) : tCall sp [] E tl σ H Q := h
theorem k_lock {t : TE} {σ : L2.St} {H : Hp} {Q : VK} (h : ∃ d u, H d = some u ∧ Mut (some u) ∧ ∀ od, t σ (upd H d (.frz od u)) fun v H' => H' d = some (.frz od u) ∧ Q v (upd H' d u)) : tLockE t σ H Q := h
def spBehind : Sp := fun us H Q _ => ∃ (X : Addr → Prop) (v1 v2 : V) (d1 d2 : PyData) (ws vs : List Str), us = [v1, v2] ∧ Trk X H ∧ DX X H v1 d1 ∧ DX X H v2 d2 ∧ Txt d1 ws ∧ Txt d2 vs ∧ ∀ D H', Same H H' → H D = none → H' D = some (.dT (((lvC (rv (Mw ws vs) ws.length vs.length) vs.length ws.length).map fun c => (tp ws.length vs.length c.1, c.2)).map celV)) → Q (.ref D) H'
abbrev s_levels_behind : Stmt := topS 15
abbrev n_levels_behind : List Str := ["one", "other", "turned_levels", "level", "i", "j"]
theorem sc_levels_behind : FnScope n_levels_behind ["one", "other"] (defScope s_levels_behind) := ⟨rfl, rfl, rfl, by decide +kernel, rfl, by decide +kernel, by decide +kernel⟩
theorem ok_levels_behind {f : Addr} {fd : FuncData} (F : Fun K "levels_behind" "levels_behind" s_levels_behind f fd) (T : Bl mg) (O_levels_in : Own P w K mg base CX0 1 "levels_in" ["one", "other"] spLevels) : FnOk P w K mg base CX0 2 f fd ["one", "other"] spBehind := by
  refine F.ok sc_levels_behind (fun vs H Q E h => ?_) (fun cdv A outer s H us Q E hr h => ?_)
  · obtain ⟨X, v1, v2, d1, d2, ws, vs, rfl, _⟩ := h
    rfl
  · obtain ⟨X, v1, v2, d1, d2, ws, vs, rfl, t, r1, r2, T1, T2, q⟩ := h
    refine ⟨_, (pss_cons (ps_set (i := 2) sc_levels_behind.nd rfl (by first | exact Or.inl rfl | exact Or.inr rfl) (pe_own O_levels_in hr (by decide) (by rfl) (pa_cons (KR.pe_revQ (pv 0)) (pa_cons (KR.pe_revQ (pv 1)) pa_nil))))
    (pss_one (ps_ret (pe_lock (KT.pe_dcT (own := [("i", 4), ("j", 5), ("level", 3)]) (g := (gTup K 2 (gCons (gTup K 2 (gCons (gName 4) (gCons (gName 5) gNil))) (gCons (gName 3) gNil)))) (tt := tYes) (tk := (tTup (tCons (tOp (rI0 fun i j => V.int (i - j)) (tOp (rI0 fun i j => V.int (i - j)) (tCB (fun xs H Q => ∃ x n, xs = [x] ∧ LenV K x H n ∧ Q (V.int n) H) (tCons (tVar 0) tNil)) (tC (.int 1))) (tVar 4)) (tCons (tOp (rI0 fun i j => V.int (i - j)) (tOp (rI0 fun i j => V.int (i - j)) (tCB (fun xs H Q => ∃ x n, xs = [x] ∧ LenV K x H n ∧ Q (V.int n) H) (tCons (tVar 1) tNil)) (tC (.int 1))) (tVar 5)) tNil)))) rfl (Nat.lt_of_succ_lt (hu_of hr)) sc_levels_behind.nd (KT.pi_itT (pv 2)) (blkOk_by (N := n_levels_behind) (sc := defScope s_levels_behind) (by decide +kernel)) (KT.Parts.mk (fun _ _ _ _ _ => (pg_tup (n := 2) rfl (pgs_cons (by exact (pg_tup (n := 2) rfl (pgs_cons (pg_name (i := 4) sc_levels_behind.nd rfl (by first | exact Or.inl rfl | exact Or.inr rfl)) (pgs_cons (pg_name (i := 5) sc_levels_behind.nd rfl (by first | exact Or.inl rfl | exact Or.inr rfl)) pgs_nil)))) (pgs_cons (pg_name (i := 3) sc_levels_behind.nd rfl (by first | exact Or.inl rfl | exact Or.inr rfl)) pgs_nil)))) (fun _ _ _ _ _ => pts_nil) (fun _ _ _ _ _ => (pe_tup (pa_cons (pe_op op_sub (pe_op op_sub (pe_callB call_len (by rfl) T.b_len boot_len (pa_cons (pv 0) pa_nil)) pe_int) (pv 4)) (pa_cons (pe_op op_sub (pe_op op_sub (pe_callB call_len (by rfl) T.b_len boot_len (pa_cons (pv 1) pa_nil)) pe_int) (pv 5)) pa_nil)))) (fun _ _ _ _ _ => (pv 3)))))))), ?_⟩
    have En : EnvOk X H (L2.start n_levels_behind [v1, v2]) [.dat d1, .dat d2, .un, .un, .un, .un] := env2 (N := n_levels_behind) r1 r2 (by decide)
    have w1 := T1.few
    have w2 := T2.few
    refine k_set (k_callS ((ga_cons (g_revQ (K := K) t (g_var (i := 0) (d := d1) En rfl) T1.seq) (ga_cons (g_revQ (K := K) t (g_var (i := 1) (d := d2) En rfl) T2.seq) ga_nil)) H (Same.refl _) _ fun us H1 s1 rs => ?_))
    have t1 := t.mono s1
    refine ⟨X, us.getD 0 .non, us.getD 1 .non, revQ d1, revQ d2, ws.reverse, vs.reverse, ?_, t1, ?_, ?_, T1.rev, T2.rev, fun D1 H2 s2 hD1 eD1 => ?_⟩
    · cases rs with
      | cons a rs =>
        cases rs with
        | cons b rs =>
          cases rs
          rfl
    · cases rs with
      | cons a rs => exact a
    · cases rs with
      | cons a rs =>
        cases rs with
        | cons b rs => exact b
    have ecs : lvC (Mw ws.reverse vs.reverse) vs.reverse.length ws.reverse.length = lvC (rv (Mw ws vs) ws.length vs.length) vs.length ws.length := by
      rw [List.length_reverse, List.length_reverse]
      exact lvC_congr fun a b ha hb => Mw_rev ha hb
    rw [ecs] at eD1
    have pw := lvC_pair (M := rv (Mw ws vs) ws.length vs.length) (m := vs.length) (i := ws.length)
    have ins : ∀ c ∈ lvC (rv (Mw ws vs) ws.length vs.length) vs.length ws.length, c.1.1 < ws.length ∧ c.1.2 < vs.length := fun c hc => ⟨(lvC_in.mp hc).1, (lvC_in.mp hc).2.1⟩
    have few : (lvC (rv (Mw ws vs) ws.length vs.length) vs.length ws.length).length ≤ 3600 := by
      have h1 := lvC_len (M := rv (Mw ws vs) ws.length vs.length) (m := vs.length) (i := ws.length)
      have h2 : ws.length * vs.length ≤ 60 * 60 := Nat.mul_le_mul (by omega) (by omega)
      omega
    generalize lvC (rv (Mw ws vs) ws.length vs.length) vs.length ws.length = cs at *
    let X1 : Addr → Prop := fun b => X b ∨ b = D1
    have s12 := s1.trans s2
    have t2 : Trk X1 H2 := fun a z => z.elim (fun z => t.mono s12 a z) fun z => ⟨_, z ▸ eD1⟩
    have E2 : EnvOk X1 H2 ((L2.start n_levels_behind [v1, v2]).set 2 (some (.ref D1))) [.dat d1, .dat d2, .val (.ref D1), .un, .un, .un] := (((En.same s1).more (More.one hD1)).same s2).setV (i := 2) (v := .ref D1)
    let σ2 : L2.St := (L2.start n_levels_behind [v1, v2]).set 2 (some (.ref D1))
    have E2 : EnvOk X1 H2 σ2 [.dat d1, .dat d2, .val (.ref D1), .un, .un, .un] := E2
    refine k_ret (k_lock ⟨D1, _, eD1, trivial, fun od => ?_⟩)
    have hL1 : upd H2 D1 (.frz od (.dT (cs.map celV))) D1 = some (.frz od (.dT (cs.map celV))) := upd_same
    have kL : Kp X1 H2 (upd H2 D1 (.frz od (.dT (cs.map celV)))) := Kp.put (.inr rfl)
    have tL : Trk X1 (upd H2 D1 (.frz od (.dT (cs.map celV)))) := t2.put
    have EL := E2.mono kL
    have nL : ∀ a, a ≠ D1 → upd H2 D1 (.frz od (.dT (cs.map celV))) a = H2 a := fun a h => upd_ne h
    generalize upd H2 D1 (.frz od (.dT (cs.map celV))) = HL at *
    refine ⟨.ref D1, EL.get 2 _ rfl, D1, od, cs.map celV, rfl, hL1, fun D hD => ?_⟩
    have nD : D ≠ D1 := fun z => by rw [z, hL1] at hD; cases hD
    have hD2 : H2 D = none := by rw [← nL D nD]; exact hD
    let X2 : Addr → Prop := fun b => X1 b ∨ b = D
    let tn : Ce → Ce := fun c => (tp ws.length vs.length c.1, c.2)
    let Γ : List Sv := [.dat d1, .dat d2, .val (.ref D1), .un, .un, .un]
    have E3 : EnvOk X2 (upd HL D (.dT [])) σ2 Γ := (EL.more (More.one hD)).same (Same.upd hD)
    have t3 : Trk X2 (upd HL D (.dT [])) := tL.one hD
    let Pv : Nat → Hp → Prop := fun i G => G D1 = some (.frz od (.dT (cs.map celV))) ∧ G D = some (.dT (((cs.take i).map tn).map celV)) ∧ (∀ a o, a ≠ D1 → H2 a = some o → G a = some o) ∧ Trk X2 G ∧ EnvOk X2 G σ2 Γ
    refine ⟨fun i m G => m = cs.length - i ∧ i ≤ cs.length ∧ Pv i G, ⟨_, rfl, Nat.zero_le _, ?_, upd_same, fun a o n e => ?_, t3, E3⟩, ?_⟩
    · rw [upd_ne (Ne.symm nD)]
      exact hL1
    · have : a ≠ D := fun z => by rw [z, hD2] at e; cases e
      rw [upd_ne this, nL a n]
      exact e
    rintro i m G ⟨rfl, hi, p1, p2, p3, p4, p5⟩
    by_cases lt : i < cs.length
    rotate_left
    · have e : i = cs.length := by omega
      subst e
      rw [List.take_length] at p2
      refine .inl ⟨⟨p1, by rw [List.length_map]; exact Nat.le_refl _⟩, p1, q D _ (fun a o e => ?_) (s12.free hD2) (by rw [upd_ne nD]; exact p2)⟩
      have n1 : a ≠ D1 := fun z => by rw [z, s1.free hD1] at e; cases e
      rw [upd_ne n1]
      exact p3 a o n1 (s12 _ _ e)
    · refine .inr ⟨⟨p1, by rw [List.length_map]; exact lt⟩, Pv (i + 1), fun G2 pn => ⟨_, by omega, rfl, lt, pn⟩, fun x G2 y => ?_⟩
      obtain ⟨Tp, qk, k, v, e1, e2, rfl, e4, rfl⟩ := y
      rw [List.getElem?_map, List.getElem?_eq_getElem lt] at e1
      obtain ⟨⟨⟩⟩ : (celV cs[i]) = (k, v) ∧ True := ⟨Option.some.inj e1, trivial⟩
      have s4 : Same G (upd G Tp (.tup [.ref qk, .int (cs[i].2 : Int)])) := Same.upd e4
      have E4 := ((((p5.same s4).wipe [4, 5, 3]).set (i := 4) (v := .int (cs[i].1.1 : Int)) (d := .int (cs[i].1.1 : Int)) (.int _)).set (i := 5) (v := .int (cs[i].1.2 : Int)) (d := .int (cs[i].1.2 : Int)) (.int _)).setV (i := 3) (v := .int (cs[i].2 : Int))
      refine ⟨Tp, _, rfl, SqT.of upd_same, rfl, _, _, rfl, qk, _, rfl, SqT.of (s4 _ _ e2), rfl, _, _, rfl, _, _, rfl, rfl, _, _, rfl, rfl, wipe_three, ?_⟩
      have t4 := p4.mono s4
      have D4 := s4 _ _ p2
      have L4 := s4 _ _ p1
      have P4 : ∀ a o, a ≠ D1 → H2 a = some o → upd G Tp (.tup [.ref qk, .int (cs[i].2 : Int)]) a = some o := fun a o n e => s4 _ _ (p3 a o n e)
      have F4 := p5.same s4
      generalize upd G Tp (.tup [.ref qk, .int (cs[i].2 : Int)]) = G4 at *
      show KT.Told D _ _ _ _ true _
      unfold KT.Told
      rw [if_pos rfl]
      obtain ⟨c1, c2⟩ := ins cs[i] (List.getElem_mem lt)
      have lenA : ∀ {Z : Hp} {τ : L2.St} {Δ : List Sv}, Trk X2 Z → EnvOk X2 Z τ Δ → Δ[0]? = some (.dat d1) → KD.G X2 (tCB (fun xs H Q => ∃ x n, xs = [x] ∧ LenV K x H n ∧ Q (V.int n) H) (tCons (tVar 0) tNil)) τ Z (.int (ws.length : Int)) := fun t E e => g_is (g_len t (g_var E e) (hasLen_seq T1.seq)) (by rw [T1.len])
      have lenB : ∀ {Z : Hp} {τ : L2.St} {Δ : List Sv}, Trk X2 Z → EnvOk X2 Z τ Δ → Δ[1]? = some (.dat d2) → KD.G X2 (tCB (fun xs H Q => ∃ x n, xs = [x] ∧ LenV K x H n ∧ Q (V.int n) H) (tCons (tVar 1) tNil)) τ Z (.int (vs.length : Int)) := fun t E e => g_is (g_len t (g_var E e) (hasLen_seq T2.seq)) (by rw [T2.len])
      refine (g_sub t4 (g_sub t4 (lenA t4 E4 rfl) g_int) (g_var (i := 4) (d := .int (cs[i].1.1 : Int)) E4 rfl)) G4 (Same.refl _) _ fun x1 Ga sa ra => (g_sub (t4.mono sa) (g_sub (t4.mono sa) (lenB (t4.mono sa) (E4.same sa) rfl) g_int) (g_var (i := 5) (d := .int (cs[i].1.2 : Int)) (E4.same sa) rfl)) Ga (Same.refl _) _ fun x2 Gb sb rb => ⟨by show 2 ≤ sizeLine; decide, fun p hp => ?_⟩
      rw [ra.int_inv, rb.int_inv]
      have sc : Same G4 (upd Gb p (.tup [.int ((ws.length : Int) - 1 - (cs[i].1.1 : Int)), .int ((vs.length : Int) - 1 - (cs[i].1.2 : Int))])) := (sa.trans sb).trans (Same.upd hp)
      have D5 := sc _ _ D4
      have L5 := sc _ _ L4
      have lti : ((cs.take i).map tn).length ≤ 3600 := by rw [List.length_map, List.length_take]; omega
      refine ⟨_, E4.get 3 _ rfl, ((cs.take i).map tn).map celV, keyC (tn cs[i]).1, p, rfl, ?_, D5, by rw [List.length_map, sizeLine_eq]; omega, ?_⟩
      · rw [upd_same]
        show some (HO.tup [_, _]) = some (HO.tup [.int ((ws.length - 1 - cs[i].1.1 : Nat) : Int), .int ((vs.length - 1 - cs[i].1.2 : Nat) : Int)])
        rw [show ((ws.length - 1 - cs[i].1.1 : Nat) : Int) = (ws.length : Int) - 1 - (cs[i].1.1 : Int) by omega, show ((vs.length - 1 - cs[i].1.2 : Nat) : Int) = (vs.length : Int) - 1 - (cs[i].1.2 : Int) by omega]
      have eput : putK (((cs.take i).map tn).map celV) (keyC (tn cs[i]).1) (.int (cs[i].2 : Int)) = ((cs.take (i + 1)).map tn).map celV := by
        rw [putK_new _ (val_none fun c hc e => ?_), List.take_add_one, List.getElem?_eq_getElem lt]
        · show _ = ((cs.take i ++ [cs[i]]).map tn).map celV
          rw [List.map_append, List.map_append]
          rfl
        · obtain ⟨b, hb, rfl⟩ := List.mem_map.mp hc
          obtain ⟨j, hj, ej⟩ := List.mem_iff_getElem.mp hb
          rw [List.length_take] at hj
          rw [List.getElem_take] at ej
          obtain ⟨b1, b2⟩ := ins b (List.mem_of_mem_take hb)
          have ne := List.pairwise_iff_getElem.mp pw j i (by omega) lt (by omega)
          rw [ej] at ne
          have x1 : ws.length - 1 - b.1.1 = ws.length - 1 - cs[i].1.1 := congrArg Prod.fst e
          have x2 : vs.length - 1 - b.1.2 = vs.length - 1 - cs[i].1.2 := congrArg Prod.snd e
          exact ne (Prod.ext (by omega) (by omega))
      rw [eput]
      have kp : Kp X2 (upd Gb p (.tup [.int ((ws.length : Int) - 1 - (cs[i].1.1 : Int)), .int ((vs.length : Int) - 1 - (cs[i].1.2 : Int))])) (upd (upd Gb p (.tup [.int ((ws.length : Int) - 1 - (cs[i].1.1 : Int)), .int ((vs.length : Int) - 1 - (cs[i].1.2 : Int))])) D (.dT (((cs.take (i + 1)).map tn).map celV))) := Kp.put (.inr rfl)
      refine ⟨?_, upd_same, fun a o n e => ?_, ((t4.mono sc).put), (F4.same sc).mono kp⟩
      · rw [upd_ne (Ne.symm nD)]
        exact L5
      · have : a ≠ D := fun z => by rw [z, hD2] at e; cases e
        rw [upd_ne this]
        exact sc _ _ (P4 a o n e)
end K52

/-! Matches, looked at. -/
namespace K52
open PySem PySem.Spec PyProof.Rows L2 KD KL
-- RAISES check_texts is_common_row common_row
-- HINT are_matches it pi_seq
-- HINT is_common_row slice sl_seq
-- HINT is_common_row enum pi_enumQ
-- HINT is_common_row ix (ix_seqK (K := K) rfl)
variable {P : Program} {w : World} {K : PySem.W.Frag} {mg : Str → Option Value} {base : Heap}
theorem ix_seqK {X : Cx} (h : X.K = K) : IxR X (rIx K) := h ▸ ix_seq
abbrev s_is_pair : Stmt := topS 7
abbrev n_is_pair : List Str := ["thing"]
theorem sc_is_pair : FnScope n_is_pair ["thing"] (defScope s_is_pair) := ⟨rfl, rfl, rfl, by decide +kernel, rfl, by decide +kernel, by decide +kernel⟩
theorem ok_is_pair {f : Addr} {fd : FuncData} (F : Fun K "is_pair" "is_pair" s_is_pair f fd) (T : Bl mg) (O_is_list : Own P w K mg base CX0 1 "is_list" ["thing"] (sp1 (fun _ => True) fun d => .bool (isSeq d))) : FnOk P w K mg base CX0 2 f fd ["thing"] (sp1 (fun _ => True) fun d => .bool (isSeq d && decide (lenD d = 2))) := by
  refine ok1 F sc_is_pair (by decide) fun cdv A outer s H E X d Q hr t hp q => ⟨_, (pss_one (ps_ret (pe_and (pe_own O_is_list hr (by decide) (by rfl) (pa_cons (pv 0) pa_nil)) (pe_one (pe_cmpR (op_eqD hr.units) (pe_callB call_len (by rfl) T.b_len boot_len (pa_cons (pv 0) pa_nil)) pe_int (nomark _)))))), fun σ En => ?_⟩
  refine s_ret (g_is (g_and (a := isSeq d) (b := decide (lenD d = 2)) (g_call1 t (g_var (i := 0) En rfl) trivial) fun h => ?_) rfl) q
  refine g_is (g_eqD (K := K) t (g_len t (g_var (i := 0) En rfl) (hasLen_seq h)) g_int rfl rfl (shaped_int _) (shaped_int _)) ?_
  rw [eqv_int]
  congr 1
  exact decide_eq_decide.mpr (by omega)
def isMatchD (ws vs : List Str) (d : PyData) : Bool := (isSeq d && decide (lenD d = 2)) && (isNumD (it d 0) && isNumD (it d 1)) && (decide (intOf (it d 0) < (ws.length : Int)) && (decide (intOf (it d 1) < (vs.length : Int)) && Mw ws vs (intOf (it d 0)).toNat (intOf (it d 1)).toNat))
def mtPre (a b : PyData) : Prop := (∃ ws, Txt a ws) ∧ ∃ vs, Txt b vs
theorem Txt.of {d : PyData} {ws : List Str} (T : Txt d ws) : wsOf d = ws := by
  unfold wsOf
  rw [T.its, List.map_map]
  exact (List.map_congr_left fun _ _ => rfl).trans (List.map_id ws)
section
variable {x qual : Str} {st : Stmt} {f : Addr} {fd : FuncData} {N : List Str} {k : Nat} {a b c : Str}
theorem ok3 {pre : PyData → PyData → PyData → Prop} {g : PyData → PyData → PyData → PyData} (F : Fun K x qual st f fd) (S : FnScope N [a, b, c] (defScope st)) (hN : 3 ≤ N.length)
    (hbody : ∀ (cdv : Value) (A : Around) (outer : List Env) (s : Shared) (H : Hp) (E : XK) (X : Addr → Prop) (d1 d2 d3 : PyData) (Q : VK), Room k (A.deeper (envOfC qual (defScope st) s.heap.objs.size f cdv)) → Trk X H → pre d1 d2 d3 → (∀ w H', Same H H' → DX X H' w (g d1 d2 d3) → Q w H') →
      ∃ t, PSs (cxOf CX0 P w K mg base N qual (defScope st) f cdv A outer s H E).nox (defBody st) t ∧ ∀ σ, EnvOk X H σ (pad N [.dat d1, .dat d2, .dat d3]) → t { nx := fun _ H' => Q .non H', rt := Q } σ H) : FnOk P w K mg base CX0 (k + 1) f fd [a, b, c] (sp3 pre g) := by
  refine F.ok S (fun vs H Q E h => ?_) (fun cdv A outer s H vs Q E hr h => ?_)
  · obtain ⟨X, v1, v2, v3, d1, d2, d3, rfl, _⟩ := h
    rfl
  · obtain ⟨X, v1, v2, v3, d1, d2, d3, rfl, t, r1, r2, r3, hp, q⟩ := h
    obtain ⟨tt, h1, h2⟩ := hbody cdv A outer s H E X d1 d2 d3 Q hr t hp q
    exact ⟨tt, h1, h2 _ (env3 r1 r2 r3 hN)⟩
end
theorem isNumD_int {d : PyData} (h : isNumD d = true) : ∃ i : Int, d = .int i ∧ 0 ≤ i := by
  cases d <;> simp [isNumD] at h ⊢
  exact h
theorem g_all {X : Addr → Prop} {σ : L2.St} {H : Hp} {te : TE} {bs : List Bool} (t : Trk X H) (h : G X te σ H (.list (bs.map PyData.bool))) : G X (tCB (rAll K) (tCons te tNil)) σ H (.bool (bs.all id)) := g_cb t (ga_cons h ga_nil) rf_all
/-! ### slices of lists and tuples -/
def rSlQ (K : PySem.W.Frag) : V → Option Int → Option Int → Hp → VK → Prop := fun x lo hi H Q => rSlL K x lo hi H Q ∨ rSlA K x lo hi H Q
theorem sl_seq {X : Cx} : SlR X (rSlQ X.K) := SlR.or sl_list sl_tupA
/-- a slice has the slice's items -/
theorem g_slQ {X : Addr → Prop} {te : TE} {tl th : TO} {σ : L2.St} {H : Hp} {d : PyData} {lo hi : Option Int} (t : Trk X H) (h : G X te σ H d) (hs : isSeq d = true) (hl : GO tl σ H lo) (hh : GO th σ H hi) : ∃ e, isSeq e = true ∧ itemsD e = cutPD (itemsD d) lo hi ∧ G X (tSl (rSlQ K) te tl th) σ H e := by
  cases d with
  | list ds =>
    refine ⟨.list (cutPD ds lo hi), rfl, rfl, fun H1 s Q q => ?_⟩
    exact h H1 s _ fun v H2 s2 r => hl H2 (s.trans s2) _ fun H3 s3 => hh H3 ((s.trans s2).trans s3) _ fun H4 s4 => by
      obtain ⟨a, xs, rfl, n, e, rx⟩ := (r.mono (Kp.of (s3.trans s4))).lst_inv
      exact .inl ⟨a, xs, rfl, SqL.of e, fun p hp => q _ _ (((s2.trans s3).trans s4).trans (Same.upd hp)) (DX.newL ((((t.mono s).mono s2).mono s3).mono s4) (rx.cut lo hi) hp)⟩
  | tuple ds =>
    refine ⟨.tuple (cutPD ds lo hi), rfl, rfl, fun H1 s Q q => ?_⟩
    exact h H1 s _ fun v H2 s2 r => hl H2 (s.trans s2) _ fun H3 s3 => hh H3 ((s.trans s2).trans s3) _ fun H4 s4 => by
      obtain ⟨a, xs, rfl, n, e, rx⟩ := (r.mono (Kp.of (s3.trans s4))).tup_inv
      have lx := rx.length
      refine .inr ⟨a, xs, rfl, SqT.of e, fun hw => q _ _ ((s2.trans s3).trans s4) ?_, fun _ p hp => q _ _ (((s2.trans s3).trans s4).trans (Same.upd hp)) (DX.newT ((((t.mono s).mono s2).mono s3).mono s4) (rx.cut lo hi) hp)⟩
      have e2 : cutPD ds lo hi = ds := by
        show (ds.drop (HT.sIx ds.length 0 lo)).take (HT.sIx ds.length ds.length hi - HT.sIx ds.length 0 lo) = ds
        rw [← lx, hw.1, hw.2, List.drop_zero, Nat.sub_zero, lx, List.take_length]
      rw [e2]
      exact .tup n e rx
  | _ => cases hs

abbrev s_is_match : Stmt := topS 20
abbrev n_is_match : List Str := ["one", "other", "thing"]
theorem sc_is_match : FnScope n_is_match ["one", "other", "thing"] (defScope s_is_match) := ⟨rfl, rfl, rfl, by decide +kernel, rfl, by decide +kernel, by decide +kernel⟩
theorem ok_is_match {f : Addr} {fd : FuncData} (F : Fun K "is_match" "is_match" s_is_match f fd) (T : Bl mg) (O_is_pair : Own P w K mg base CX0 2 "is_pair" ["thing"] (sp1 (fun _ => True) fun d => .bool (isSeq d && decide (lenD d = 2)))) (O_is_number : Own P w K mg base CX0 2 "is_number" ["thing"] (sp1 (fun _ => True) fun d => .bool (isNumD d))) : FnOk P w K mg base CX0 3 f fd ["one", "other", "thing"] (sp3 (fun a b _ => mtPre a b) fun a b c => .bool (isMatchD (wsOf a) (wsOf b) c)) := by
  refine ok3 F sc_is_match (by decide) fun cdv A outer s H E X d1 d2 d Q hr t hp q => ⟨_, (pss_cons (ps_if (PW.pt (pw_or (pt_not (pt_val (pe_own O_is_pair hr (by decide) (by rfl) (pa_cons (pv 2) pa_nil)))) (pw_or (pt_not (pt_val (pe_own O_is_number hr (by decide) (by rfl) (pa_cons (pe_ix ix_seq (pv 2) pe_int (fun _ _ => rfl)) pa_nil)))) (pw_or1 (pt_not (pt_val (pe_own O_is_number hr (by decide) (by rfl) (pa_cons (pe_ix ix_seq (pv 2) pe_int (fun _ _ => rfl)) pa_nil))))))))
    (pss_one (ps_ret pe_bl)) pss_nil)
    (pss_one (ps_ret (pe_and (pe_cmpR op_lt (pe_ix ix_seq (pv 2) pe_int (fun _ _ => rfl)) (pe_callB call_len (by rfl) T.b_len boot_len (pa_cons (pv 0) pa_nil)) (nomark _)) (pe_and (pe_cmpR op_lt (pe_ix ix_seq (pv 2) pe_int (fun _ _ => rfl)) (pe_callB call_len (by rfl) T.b_len boot_len (pa_cons (pv 1) pa_nil)) (nomark _)) (pe_one (pe_cmpR (op_eqD hr.units) (pe_ix ix_seq (pv 0) (pe_ix ix_seq (pv 2) pe_int (fun _ _ => rfl)) (fun _ _ => rfl)) (pe_ix ix_seq (pv 1) (pe_ix ix_seq (pv 2) pe_int (fun _ _ => rfl)) (fun _ _ => rfl)) (nomark _)))))))), fun σ En => ?_⟩
  obtain ⟨⟨ws, T1⟩, vs, T2⟩ := hp
  rw [T1.of, T2.of] at q
  have v2 : ∀ {H'}, Same H H' → G X (tVar 2) σ H' d := fun s => g_var (i := 2) (En.same s) rfl
  by_cases hs : (isSeq d && decide (lenD d = 2)) = true
  rotate_left
  · have e : isMatchD ws vs d = false := by unfold isMatchD; rw [Bool.eq_false_iff.mpr hs]; rfl
    rw [e] at q
    refine q_if (b := true) (gt_is (gt_or (a := true) (b := true) (gt_is (gt_not (gt_B (g_call1 t (v2 (Same.refl _)) trivial))) (by rw [Bool.eq_false_iff.mpr hs]; rfl)) fun h => by cases h) rfl) (fun _ H1 s1 => ?_) fun h => by cases h
    exact s_ret g_bl fun w H2 s2 dw => q w H2 (s1.trans s2) dw
  have hs2 := hs
  rw [Bool.and_eq_true, decide_eq_true_iff] at hs2
  obtain ⟨hsq, h2⟩ := hs2
  rw [lenD_seq hsq] at h2
  have at0 : atI (itemsD d) 0 = some (it d 0) := it_at rfl (by omega)
  have at1 : atI (itemsD d) 1 = some (it d 1) := it_at rfl (by omega)
  have e0 : isMatchD ws vs d = ((isNumD (it d 0) && isNumD (it d 1)) && (decide (intOf (it d 0) < (ws.length : Int)) && (decide (intOf (it d 1) < (vs.length : Int)) && Mw ws vs (intOf (it d 0)).toNat (intOf (it d 1)).toNat))) := by unfold isMatchD; rw [hs, Bool.true_and]
  rw [e0] at q
  refine q_if (b := !(isNumD (it d 0) && isNumD (it d 1))) (gt_is (gt_or (a := false) (gt_is (gt_not (gt_B (g_call1 t (v2 (Same.refl _)) trivial))) (by rw [hs]; rfl)) fun _ => gt_or (gt_not (gt_B (g_call1 t (g_ix t (v2 (Same.refl _)) hsq g_int at0) trivial))) fun _ => gt_not (gt_B (g_call1 t (g_ix t (v2 (Same.refl _)) hsq g_int at1) trivial))) (by simp [Bool.not_and])) (fun hb H1 s1 => ?_) fun hb H1 s1 => ?_
  · have e : (isNumD (it d 0) && isNumD (it d 1)) = false := by rw [Bool.not_eq_true'] at hb; exact hb
    rw [e, Bool.false_and] at q
    exact s_ret g_bl fun w H2 s2 dw => q w H2 (s1.trans s2) dw
  · have e : (isNumD (it d 0) && isNumD (it d 1)) = true := by rw [Bool.not_eq_false'] at hb; exact hb
    rw [e, Bool.true_and] at q
    have t1 := t.mono s1
    obtain ⟨i, ei, i0⟩ := isNumD_int (Bool.and_eq_true _ _ ▸ e).1
    obtain ⟨j, ej, j0⟩ := isNumD_int (Bool.and_eq_true _ _ ▸ e).2
    rw [ei, ej] at q
    have gi : ∀ {H'}, Trk X H' → Same H H' → G X (tOp (rIx K) (tVar 2) (tC (.int 0))) σ H' (.int i) := fun t s => g_is (g_ix t (v2 s) hsq g_int at0) ei
    have gj : ∀ {H'}, Trk X H' → Same H H' → G X (tOp (rIx K) (tVar 2) (tC (.int 1))) σ H' (.int j) := fun t s => g_is (g_ix t (v2 s) hsq g_int at1) ej
    have g0 : G X (tVar 0) σ H1 d1 := g_var (i := 0) (En.same s1) rfl
    have g1 : G X (tVar 1) σ H1 d2 := g_var (i := 1) (En.same s1) rfl
    refine s_ret (g_and (a := decide (i < (ws.length : Int))) (g_cmpI t1 (g := fun i j => decide (i < j)) (gi t1 s1) (g_is (g_len t1 g0 (hasLen_seq T1.seq)) (by rw [T1.len]))) fun ha => g_and (a := decide (j < (vs.length : Int))) (g_cmpI t1 (g := fun i j => decide (i < j)) (gj t1 s1) (g_is (g_len t1 g1 (hasLen_seq T2.seq)) (by rw [T2.len]))) fun hb2 => ?_) fun w H2 s2 dw => q w H2 (s1.trans s2) dw
    have li := of_decide_eq_true ha
    have lj := of_decide_eq_true hb2
    have okw : ∀ {k : Nat} {us : List Str}, (∀ z ∈ us, PyData.strOk z = true) → k < us.length → SeqAt.shaped (.str (wAt us k)) = true := fun {k us} ok hk => shaped_str (by unfold wAt; rw [List.getD_eq_getElem?_getD, List.getElem?_eq_getElem hk]; exact ok _ (List.getElem_mem hk))
    obtain ⟨a, rfl⟩ := Int.eq_ofNat_of_zero_le i0
    obtain ⟨b, rfl⟩ := Int.eq_ofNat_of_zero_le j0
    refine g_is (g_eqD (K := K) t1 (x := .str (wAt ws a)) (y := .str (wAt vs b)) (g_ix t1 g0 T1.seq (gi t1 s1) (atI_nat (by rw [T1.its, List.getElem?_map, List.getElem?_eq_getElem (by omega)]; unfold wAt; rw [List.getD_eq_getElem?_getD, List.getElem?_eq_getElem (by omega)]; rfl))) (g_ix t1 g1 T2.seq (gj t1 s1) (atI_nat (by rw [T2.its, List.getElem?_map, List.getElem?_eq_getElem (by omega)]; unfold wAt; rw [List.getD_eq_getElem?_getD, List.getElem?_eq_getElem (by omega)]; rfl))) rfl rfl (okw T1.ok (by omega)) (okw T2.ok (by omega))) ?_
    show PyData.bool (PyData.eqv (.str (wAt ws a)) (.str (wAt vs b))) = .bool (Mw ws vs ((a : Int)).toNat ((b : Int)).toNat)
    rw [eqv_str, show ((a : Int)).toNat = a by omega, show ((b : Int)).toNat = b by omega]
    unfold Mw
    congr 1
    exact decide_eq_decide.mpr eq_comm
def areD (ws vs : List Str) (d : PyData) : Bool := isSeq d && (itemsD d).all (isMatchD ws vs)
abbrev s_are_matches : Stmt := topS 21
abbrev n_are_matches : List Str := ["one", "other", "thing", "match"]
theorem sc_are_matches : FnScope n_are_matches ["one", "other", "thing"] (defScope s_are_matches) := ⟨rfl, rfl, rfl, by decide +kernel, rfl, by decide +kernel, by decide +kernel⟩
theorem ok_are_matches {f : Addr} {fd : FuncData} (F : Fun K "are_matches" "are_matches" s_are_matches f fd) (T : Bl mg) (O_is_list : Own P w K mg base CX0 1 "is_list" ["thing"] (sp1 (fun _ => True) fun d => .bool (isSeq d))) (O_is_match : Own P w K mg base CX0 3 "is_match" ["one", "other", "thing"] (sp3 (fun a b _ => mtPre a b) fun a b c => .bool (isMatchD (wsOf a) (wsOf b) c))) : FnOk P w K mg base CX0 4 f fd ["one", "other", "thing"] (sp3 (fun a b c => mtPre a b ∧ (isSeq c = true → (itemsD c).length ≤ 100000)) fun a b c => .bool (areD (wsOf a) (wsOf b) c)) := by
  refine ok3 F sc_are_matches (by decide) fun cdv A outer s H E X d1 d2 d Q hr t hp q => ⟨_, (pss_one (ps_ret (pe_and (pe_own O_is_list hr (by decide) (by rfl) (pa_cons (pv 2) pa_nil)) (pe_one (pe_callB (cr_all rfl) (by rfl) T.b_all boot_all (pa_cons (pe_lc (own := [("match", 3)]) (g := (gName 3)) (tt := tYes) rfl sc_are_matches.nd (pi_seq (pv 2)) (blkOk_by (N := n_are_matches) (sc := defScope s_are_matches) (by decide +kernel)) (fun _ _ _ _ _ => (pg_name (i := 3) sc_are_matches.nd rfl (by first | exact Or.inl rfl | exact Or.inr rfl))) (fun _ _ _ _ _ => pts_nil) (fun _ _ _ _ _ => (pe_own O_is_match hr (by decide) (by rfl) (pa_cons (pv 0) (pa_cons (pv 1) (pa_cons (pv 3) pa_nil)))))) pa_nil)))))), fun σ En => ?_⟩
  obtain ⟨hm, hl⟩ := hp
  refine s_ret (g_is (g_and (a := isSeq d) (b := (itemsD d).all (isMatchD (wsOf d1) (wsOf d2))) (g_call1 t (g_var (i := 2) En rfl) trivial) fun hs => ?_) rfl) q
  refine g_is (g_all (bs := (itemsD d).map (isMatchD (wsOf d1) (wsOf d2))) t (g_is (g_lc1 (ds := itemsD d) (Γ2 := fun z => ([.dat d1, .dat d2, .dat d, .un].set 3 .un).set 3 (.dat z)) (fun z => .bool (isMatchD (wsOf d1) (wsOf d2) z)) t (gi_seq (g_var (i := 2) En rfl) hs) (by have := hl hs; omega) (fun H3 s3 z hz => tgt_name (En.same s3)) (fun X2 H3 σ2 z hz t3 E3 => g_call3 t3 (g_var (i := 0) (d := d1) E3 rfl) (g_var (i := 1) (d := d2) E3 rfl) (g_var (i := 3) (d := z) E3 rfl) hm)) (by rw [List.map_map]; rfl))) ?_
  rw [List.all_map]
  rfl
end K52

/-! Several texts, looked at. -/
namespace K52
open PySem PySem.Spec PyProof.Rows L2 KD KL
-- RAISES check_texts
variable {P : Program} {w : World} {K : PySem.W.Frag} {mg : Str → Option Value} {base : Heap}
def textsOutN (C : Addr) : List PyData → Out
  | [] => .val .none
  | d :: r => if isNone (wrongD d) then textsOutN C r else .err C "index" (wrongD d)
theorem textsN_ok {C : Addr} {ds : List PyData} (h : ∀ d ∈ ds, isNone (wrongD d) = true) : textsOutN C ds = .val .none := by
  induction ds with
  | nil => rfl
  | cons d r ih =>
    rw [textsOutN, if_pos (h d List.mem_cons_self)]
    exact ih fun z hz => h z (List.mem_cons_of_mem _ hz)
theorem textsN_no {C : Addr} {d : PyData} (h2 : isNone (wrongD d) = false) : ∀ {ds : List PyData} {i : Nat}, ds[i]? = some d → (∀ j < i, ∀ e, ds[j]? = some e → isNone (wrongD e) = true) → textsOutN C ds = .err C "index" (wrongD d)
  | [], _, h, _ => by cases h
  | e :: r, 0, h, _ => by
    cases h
    rw [textsOutN, if_neg (by rw [h2]; simp)]
  | e :: r, i + 1, h, k => by
    rw [textsOutN, if_pos (k 0 (by omega) e rfl)]
    exact textsN_no h2 (i := i) h fun j hj z hz => k (j + 1) (by omega) z hz
abbrev s_check_texts : Stmt := topS 12
abbrev n_check_texts : List Str := ["texts", "text", "index"]
theorem sc_check_texts : FnScope n_check_texts ["texts"] (defScope s_check_texts) := ⟨rfl, rfl, rfl, by decide +kernel, rfl, by decide +kernel, by decide +kernel⟩
theorem ok_check_textsN {f C : Addr} {fd : FuncData} (F : Fun K "check_texts" "check_texts" s_check_texts f fd) (T : Bl mg) (O_wrong_words : Own P w K mg base CX0 2 "wrong_words" ["things"] (sp1 wordsAll wrongD)) (E_NoText : Ec P w K mg base "NoText" "index" C) : FnOk P w K mg base (L2.CX P w) 3 f fd ["texts"] (spX1 (fun D => ∃ ds, D = .list ds ∧ ∀ d ∈ ds, wordsAll d) fun D => textsOutN C (itemsD D)) := by
  refine okX1 F sc_check_texts (by decide) fun cdv A outer s H E X d Q hr t hp q => ⟨_, (pss_one (ps_for (passes_of rfl) rfl (pi_list (pv 0)) (pg_name (i := 1) sc_check_texts.nd rfl (by first | exact Or.inl rfl | exact Or.inr rfl))
    (pss_cons (ps_set (i := 2) sc_check_texts.nd rfl (by first | exact Or.inl rfl | exact Or.inr rfl) (pe_own O_wrong_words hr (by decide) (by rfl) (pa_cons (pv 1) pa_nil)))
    (pss_one (ps_if (pt_cmpR op_notN (pv 2) pe_non (nomark _))
    (pss_one (ps_err rfl E_NoText hr (by decide) (takes_of rfl rfl rfl rfl) (by rfl) (pa_cons (pv 2) pa_nil))) pss_nil))))), fun σ En => ?_⟩
  obtain ⟨ds, rfl, hw⟩ := hp
  have q : EndQ X H (textsOutN C ds) Q E := q
  refine s_forD (X := X) (gi_list (g_var (i := 0) (d := .list ds) En rfl)) (fun Hb i σ' H' => Same Hb H' ∧ Trk X H' ∧ EnvOk X H' σ' [.dat (.list ds), .un, .un] ∧ ∀ j < i, ∀ e, ds[j]? = some e → isNone (wrongD e) = true) (fun Hb sb => ⟨Same.refl _, t.mono sb, En.same sb, fun j h => by omega⟩) (fun Hb i σ' H' p => ⟨Kp.of p.1, p.2.1⟩) ?_ ?_
  · rintro Hb i x d' σ' H' H'' sb hd ⟨p1, p2, E0, p4⟩ s2 dx
    have E2 := (E0.same s2).set (i := 1) dx
    have t2 := p2.mono s2
    refine q_set (i := 2) E2 (g_call1 t2 (g_var (i := 1) E2 rfl) (hw d' (List.mem_of_getElem? hd))) fun H3 v3 s3 E3 => ?_
    have t3 := t2.mono s3
    refine s_if (b := !isNone (wrongD d')) (gt_op t3 (g_var (i := 2) E3 rfl) g_non rb_notN) (fun hb H4 s4 => ?_) fun hb H4 s4 => ?_
    · have e : isNone (wrongD d') = false := by simpa using hb
      refine mk_err (X := X) (g_var (i := 2) (E3.same s4) rfl) fun a v H5 s5 e5 dv => q.2 C "index" (wrongD d') (textsN_no e hd p4) a v H5 (((((sb.trans p1).trans s2).trans s3).trans s4).trans s5) e5 dv
    · have e : isNone (wrongD d') = true := by simpa using hb
      refine ⟨((p1.trans s2).trans s3).trans s4, t3.mono s4, envUn' (envUn' (E3.same s4) 1) 2, fun j hj z hz => ?_⟩
      by_cases h : j = i
      · subst h
        rw [hd] at hz
        cases hz
        exact e
      · exact p4 j (by omega) z hz
  · rintro Hb σ' H' sb ⟨p1, p2, E0, p4⟩
    exact q.1 .none (textsN_ok fun d hd => by
      obtain ⟨i, hi⟩ := List.mem_iff_getElem?.mp hd
      exact p4 i (List.getElem?_eq_some_iff.mp hi).1 d hi) .non H' (sb.trans p1) .non fun a z => by cases z
end K52

/-! A common row, looked at. -/
namespace K52
open PySem PySem.Spec PyProof.Rows L2 KD KL
-- RAISES check_texts is_common_row common_row
-- HINT is_common_row slice sl_seq
-- HINT is_common_row enum pi_enumQ
-- HINT is_common_row ix (ix_seqK (K := K) rfl)
-- HINT is_common_row lcte#1 (tCall (sp2 pqPre fun a b => .bool (behD a b)) [] E0 (tCons (tVar 4) (tCons (tOp (rIx K) (tVar 2) (tVar 3)) tNil)))
variable {P : Program} {w : World} {K : PySem.W.Frag} {mg : Str → Option Value} {base : Heap}
def Pq (d : PyData) : Prop := ∃ i j : Int, isSeq d = true ∧ itemsD d = [.int i, .int j]
def pqPre (a b : PyData) : Prop := Pq a ∧ Pq b
def behD (a b : PyData) : Bool := decide (intOf (it b 0) < intOf (it a 0)) && decide (intOf (it b 1) < intOf (it a 1))
abbrev s_comes_behind : Stmt := topS 17
abbrev n_comes_behind : List Str := ["match", "other"]
theorem sc_comes_behind : FnScope n_comes_behind ["match", "other"] (defScope s_comes_behind) := ⟨rfl, rfl, rfl, by decide +kernel, rfl, by decide +kernel, by decide +kernel⟩
theorem ok_comes_behind {f : Addr} {fd : FuncData} (F : Fun K "comes_behind" "comes_behind" s_comes_behind f fd) (T : Bl mg) : FnOk P w K mg base CX0 1 f fd ["match", "other"] (sp2 pqPre fun a b => .bool (behD a b)) := by
  refine ok2 F sc_comes_behind (by decide) fun cdv A outer s H E X d1 d2 Q hr t hp q => ⟨_, (pss_one (ps_ret (pe_and (pe_cmpR op_gt (pe_ix ix_seq (pv 0) pe_int (fun _ _ => rfl)) (pe_ix ix_seq (pv 1) pe_int (fun _ _ => rfl)) (nomark _)) (pe_one (pe_cmpR op_gt (pe_ix ix_seq (pv 0) pe_int (fun _ _ => rfl)) (pe_ix ix_seq (pv 1) pe_int (fun _ _ => rfl)) (nomark _)))))), fun σ En => ?_⟩
  obtain ⟨⟨a, b, s1, i1⟩, c, d, s2, i2⟩ := hp
  have e : behD d1 d2 = (decide (c < a) && decide (d < b)) := by unfold behD it; rw [i1, i2]; rfl
  rw [e] at q
  have ix1 : ∀ {k : Int} {z : PyData}, atI (itemsD d1) k = some z → G X (tOp (rIx K) (tVar 0) (tC (.int k))) σ H z := fun h => g_ix t (g_var (i := 0) (d := d1) En rfl) s1 g_int h
  have ix2 : ∀ {k : Int} {z : PyData}, atI (itemsD d2) k = some z → G X (tOp (rIx K) (tVar 1) (tC (.int k))) σ H z := fun h => g_ix t (g_var (i := 1) (d := d2) En rfl) s2 g_int h
  refine s_ret (X := X) (g_and (a := decide (c < a)) (b := decide (d < b)) (g_cmpI t (g := fun i j => decide (j < i)) (ix1 (z := .int a) (by rw [i1]; exact atI_nat (xs := [PyData.int a, .int b]) (j := 0) rfl)) (ix2 (z := .int c) (by rw [i2]; exact atI_nat (xs := [PyData.int c, .int d]) (j := 0) rfl))) fun _ => g_cmpI t (g := fun i j => decide (j < i)) (ix1 (z := .int b) (by rw [i1]; exact atI_nat (xs := [PyData.int a, .int b]) (j := 1) rfl)) (ix2 (z := .int d) (by rw [i2]; exact atI_nat (xs := [PyData.int c, .int d]) (j := 1) rfl))) q
def stepsD : List PyData → Bool
  | a :: b :: r => behD b a && stepsD (b :: r)
  | _ => true
def isRowD (ws vs : List Str) (d : PyData) : Bool := areD ws vs d && stepsD (itemsD d)
theorem match_pq {ws vs : List Str} {d : PyData} (h : isMatchD ws vs d = true) : Pq d := by
  unfold isMatchD at h
  simp only [Bool.and_eq_true, decide_eq_true_eq] at h
  obtain ⟨⟨⟨h1, h2⟩, h3, h4⟩, _⟩ := h
  rw [lenD_seq h1] at h2
  obtain ⟨i, ei, _⟩ := isNumD_int h3
  obtain ⟨j, ej, _⟩ := isNumD_int h4
  refine ⟨i, j, h1, ?_⟩
  unfold it at ei ej
  match hd : itemsD d, h2 with
  | [a, b], _ =>
    rw [hd] at ei ej
    have e1 : a = .int i := ei
    have e2 : b = .int j := ej
    rw [e1, e2]
theorem steps_iff : ∀ l : List PyData, stepsD l = true ↔ ∀ (j : Nat) (a b : PyData), l[j]? = some a → l[j + 1]? = some b → behD b a = true
  | [] => ⟨fun _ j a b h => (by simp at h), fun _ => rfl⟩
  | [x] => ⟨fun _ j a b h h2 => (by simp at h2), fun _ => rfl⟩
  | x :: y :: r => by
    have ih := steps_iff (y :: r)
    show (behD y x && stepsD (y :: r)) = true ↔ _
    rw [Bool.and_eq_true, ih]
    constructor
    · rintro ⟨h1, h2⟩ j a b ha hb
      cases j with
      | zero =>
        cases ha
        cases hb
        exact h1
      | succ j => exact h2 j a b ha hb
    · intro h
      exact ⟨h 0 x y rfl rfl, fun j a b ha hb => h (j + 1) a b ha hb⟩
theorem enum_mem {ds : List PyData} {z : PyData} (h : z ∈ enumD ds) : ∃ (j : Nat) (b : PyData), ds[j]? = some b ∧ z = .tuple [.int (j : Nat), b] := by
  obtain ⟨j, hj⟩ := List.mem_iff_getElem?.mp h
  have hl : j < ds.length := by
    have := (List.getElem?_eq_some_iff.mp hj).1
    rw [enumD_len] at this
    exact this
  have e := enumD_get (ds := ds) (List.getElem?_eq_getElem hl)
  rw [hj] at e
  exact ⟨j, _, List.getElem?_eq_getElem hl, Option.some.inj e⟩
theorem cut_one (ds : List PyData) : cutPD ds (some 1) none = ds.drop 1 := by
  show (ds.drop (HT.sIx ds.length 0 (some 1))).take (HT.sIx ds.length ds.length none - HT.sIx ds.length 0 (some 1)) = ds.drop 1
  rw [sIx_nn (by decide)]
  show (ds.drop (min 1 ds.length)).take (ds.length - min 1 ds.length) = ds.drop 1
  rw [List.take_of_length_le (by rw [List.length_drop]; exact Nat.le_refl _)]
  by_cases h : 1 ≤ ds.length
  · rw [Nat.min_eq_left h]
  · have : ds = [] := List.length_eq_zero_iff.mp (by omega)
    rw [this]
    rfl
theorem all_steps (l : List PyData) : ((enumD (l.drop 1)).map fun z => behD (it z 1) (l.getD (intOf (it z 0)).toNat .none)).all id = stepsD l := by
  rw [Bool.eq_iff_iff, steps_iff, List.all_eq_true]
  constructor
  · intro h j a b ha hb
    have hz : PyData.tuple [.int (j : Nat), b] ∈ enumD (l.drop 1) := List.mem_of_getElem? (enumD_get (ds := l.drop 1) (i := j) (by rw [List.getElem?_drop, Nat.add_comm]; exact hb))
    have := h _ (List.mem_map.mpr ⟨_, hz, rfl⟩)
    have e : behD b (l.getD ((j : Nat) : Int).toNat .none) = true := this
    rw [show ((j : Nat) : Int).toNat = j by omega, List.getD_eq_getElem?_getD, ha] at e
    exact e
  · intro h x hx
    obtain ⟨z, hz, rfl⟩ := List.mem_map.mp hx
    obtain ⟨j, b, hb, rfl⟩ := enum_mem hz
    rw [List.getElem?_drop, Nat.add_comm] at hb
    have hj : j < l.length := by have := (List.getElem?_eq_some_iff.mp hb).1; omega
    show behD b (l.getD ((j : Nat) : Int).toNat .none) = true
    rw [show ((j : Nat) : Int).toNat = j by omega, List.getD_eq_getElem?_getD, List.getElem?_eq_getElem hj]
    exact h j _ b (List.getElem?_eq_getElem hj) hb
theorem k_drop {te : TE} {tz : TS} {D : Ends} {σ : L2.St} {H : Hp} (h : te σ H fun _ H1 => tz D σ H1) : tSeq (tDrop te) tz D σ H := h
def Good (d : PyData) : Prop := isNone (wrongD d) = true ∧ wordsAll d
def spRow : Sp := fun us H Q _ => ∃ (X : Addr → Prop) (v1 v2 v3 : V) (d1 d2 d3 : PyData) (ws vs : List Str), us = [v1, v2, v3] ∧ Trk X H ∧ DX X H v1 d1 ∧ DX X H v2 d2 ∧ DX X H v3 d3 ∧ Txt d1 ws ∧ Txt d2 vs ∧ Good d1 ∧ Good d2 ∧ (isSeq d3 = true → (itemsD d3).length ≤ 1000) ∧ ∀ w H', Same H H' → DX X H' w (.bool (isRowD ws vs d3)) → Q w H'
end K52

/-! By levels. -/
namespace K52
open PySem PySem.Spec PyProof.Rows L2 KD KL
variable {P : Program} {w : World} {K : PySem.W.Frag} {mg : Str → Option Value} {base : Heap}
def topC : List Ce → Nat
  | [] => 0
  | c :: r => max c.2 (topC r)
theorem foldl_top : ∀ (cs : List Ce) (n : Nat), (cs.map fun c => (c.2 : Int)).foldl max (n : Int) = ((max n (topC cs) : Nat) : Int)
  | [], n => by show (n : Int) = _; rw [topC, Nat.max_zero]
  | c :: r, n => by
    show (r.map fun c => (c.2 : Int)).foldl max (max (n : Int) (c.2 : Int)) = _
    rw [show max (n : Int) (c.2 : Int) = ((max n c.2 : Nat) : Int) by omega, foldl_top r, topC, Nat.max_assoc]
theorem most_top (cs : List Ce) : KD.mostD 0 (cs.map fun c => (c.2 : Int)) = (topC cs : Int) := by
  cases cs with
  | nil => rfl
  | cons c r => exact foldl_top r c.2
theorem top_ge : ∀ {cs : List Ce} {c : Ce}, c ∈ cs → c.2 ≤ topC cs
  | a :: r, c, h => by
    rw [topC]
    rcases List.mem_cons.mp h with rfl | h
    · exact Nat.le_max_left _ _
    · exact Nat.le_trans (top_ge h) (Nat.le_max_right _ _)
/-- a key's own tuple -/
def KeyAt (H : Hp) (v : V) (p : Pr) : Prop := ∃ q, v = .ref q ∧ H q = some (.tup ((keyC p).map kV))
def KeysAt (H : Hp) : List V → List Pr → Prop
  | [], [] => True
  | v :: vs, p :: ps => KeyAt H v p ∧ KeysAt H vs ps
  | _, _ => False
theorem KeysAt.mono {H H' : Hp} (s : ∀ a xs, H a = some (.tup xs) → H' a = some (.tup xs)) : ∀ {vs : List V} {ps : List Pr}, KeysAt H vs ps → KeysAt H' vs ps
  | [], [], _ => trivial
  | v :: vs, p :: ps, ⟨⟨q, e, h⟩, r⟩ => ⟨⟨q, e, s _ _ h⟩, r.mono s⟩
theorem KeysAt.snoc {H : Hp} {v : V} {p : Pr} (k : KeyAt H v p) : ∀ {vs : List V} {ps : List Pr}, KeysAt H vs ps → KeysAt H (vs ++ [v]) (ps ++ [p])
  | [], [], _ => ⟨k, trivial⟩
  | _ :: _, _ :: _, ⟨h, r⟩ => ⟨h, KeysAt.snoc k r⟩
def ofLev (cs : List Ce) (k : Nat) : List Pr := (cs.filter fun c => decide (c.2 = k + 1)).map fun c => c.1
/-- the lists, one for each level -/
def Lists (H : Hp) (as : List Addr) (cs : List Ce) : Prop := ∀ k a, as[k]? = some a → ∃ vs, H a = some (.lst vs) ∧ KeysAt H vs (ofLev cs k)
def spByLevel : Sp := fun us H Q _ => ∃ (D : Addr) (cs : List Ce), us = [.ref D] ∧ H D = some (.dT (cs.map celV)) ∧ cs.length ≤ 3600 ∧ topC cs ≤ 60 ∧ (∀ c ∈ cs, 0 < c.2) ∧ ∀ F as H', Same H H' → H F = none → H' F = some (.lst (as.map V.ref)) → as.length = topC cs → (∀ a ∈ as, H a = none) → Lists H' as cs → Q (.ref F) H'
theorem walk_itT {d : Addr} {o : Obj} {kvs : List (List Key × V)} : Walk (KT.ItiT d o kvs) kvs.length (fun H => H d = some (.frz o (.dT kvs))) (fun i H x H' => ∃ (T q : Addr) (k : List Key) (v : V), kvs[i]? = some (k, v) ∧ H q = some (.tup (k.map kV)) ∧ x = .ref T ∧ H T = none ∧ H' = upd H T (.tup [.ref q, v])) :=
  ⟨fun i H hi g => ⟨g, hi⟩, fun H g => ⟨g, Nat.le_refl _⟩, fun i H x H' hi g y => y⟩
section
variable {σ : L2.St} {H : Hp} {Q : VK} {D : Ends}
theorem k_ckw {r : List V → List V → Hp → VK → Prop} {t tk : TA} (h : t σ H fun vs H1 => tk σ H1 fun zs H2 => r vs zs H2 Q) : tCKw r t tk σ H Q := h
theorem k_bm0 {T : String} {r : V → List V → Hp → VK → Prop} {to : TE} (h : to σ H fun x H1 => tyV K T x H1 ∧ r x [] H1 Q) : tBM0 K T r to σ H Q := h
theorem k_lockS {t tz : TS} (h : ∃ d u, H d = some u ∧ Mut (some u) ∧ ∀ od, t ⟨fun σ' H' => H' d = some (.frz od u) ∧ tz D σ' (upd H' d u), fun v H' => H' d = some (.frz od u) ∧ D.rt v (upd H' d u), fun σ' H' => H' d = some (.frz od u) ∧ D.bk σ' (upd H' d u), fun σ' H' => H' d = some (.frz od u) ∧ D.ct σ' (upd H' d u)⟩ σ (upd H d (.frz od u))) : tSeq (tLock t) tz D σ H := h
end
abbrev s_by_level : Stmt := topS 16
abbrev n_by_level : List Str := ["levels", "found", "match", "level", "_"]
theorem sc_by_level : FnScope n_by_level ["levels"] (defScope s_by_level) := ⟨rfl, rfl, rfl, by decide +kernel, rfl, by decide +kernel, by decide +kernel⟩
theorem ok_by_level {f : Addr} {fd : FuncData} (F : Fun K "by_level" "by_level" s_by_level f fd) (T : Bl mg) (b_max : mg "max" = none) : FnOk P w K mg base CX0 1 f fd ["levels"] spByLevel := by
  refine F.ok sc_by_level (fun vs H Q E h => ?_) (fun cdv A outer s H us Q E hr h => ?_)
  · obtain ⟨D, cs, rfl, _⟩ := h
    rfl
  · obtain ⟨D, cs, rfl, hD, few, top, pos, q⟩ := h
    refine ⟨_, (pss_cons (ps_setLc (i := 1) (own := [("_", 4)]) (g := (gName 4)) (tt := tYes) rfl sc_by_level.nd rfl rfl (sw_true rfl rfl rfl (by decide +kernel)) (pi_range1 (by rfl) T.b_range (pa_cons (pe_callBK (cr_maxDef rfl hr.units) (by rfl) b_max boot_max (pa_cons (pe_callTy (KT.call_listV rfl) (by rfl) T.b_list boot_list (pa_cons (pe_bm0 PySem.F.plainAttrs_dict PySem.F.slot_dict_values PySem.F.type_dict_values KT.mt_valsT (pv 0)) pa_nil)) pa_nil) (pk_cons pe_int pk_nil)) pa_nil)) (blkOk_by (N := n_by_level) (sc := defScope s_by_level) (by decide +kernel)) (fun _ _ _ _ _ => (pg_name (i := 4) sc_by_level.nd rfl (by first | exact Or.inl rfl | exact Or.inr rfl))) (fun _ _ _ _ _ => pts_nil) (fun _ _ _ _ _ => (pe_lst pa_nil)))
    (pss_cons (ps_lock (ps_for PassesOwn.never rfl (KT.pi_itT (pv 0)) (pg_tup (n := 2) rfl (pgs_cons (pg_name (i := 2) sc_by_level.nd rfl (by first | exact Or.inl rfl | exact Or.inr rfl)) (pgs_cons (pg_name (i := 3) sc_by_level.nd rfl (by first | exact Or.inl rfl | exact Or.inr rfl)) pgs_nil)))
    (pss_one (ps_expr (pe_bm PySem.F.plainAttrs_list PySem.F.slot_list_append PySem.F.type_list_append mt_append (pe_ix ix_seq (pv 1) (pe_op op_sub (pv 3) pe_int) (fun _ _ => rfl)) (pa_cons (pv 2) pa_nil))))))
    (pss_one (ps_ret (pv 1))))), ?_⟩
    refine k_set (k_lcR (k_cons (k_ckw (k_cons (k_cb (k_cons (k_bm0 ?_)))))))
    refine ⟨.ref D, rfl, .inr (.inr (.inl ⟨rfl, .inr ⟨_, hD⟩⟩)), D, _, rfl, rfl, hD, fun p hp => ?_⟩
    have s1 : Same H (upd H p (KT.valsO p D)) := Same.upd hp
    refine ⟨p, D, _, rfl, upd_same, s1 _ _ hD, fun l hl => ?_⟩
    have s2 : Same (upd H p (KT.valsO p D)) (upd (upd H p (KT.valsO p D)) l (.lst ((cs.map celV).map Prod.snd))) := Same.upd hl
    have e2 : (cs.map celV).map Prod.snd = (cs.map fun c => (c.2 : Int)).map V.int := by rw [List.map_map, List.map_map]; rfl
    have s12 := s1.trans s2
    have hl2 : upd (upd H p (KT.valsO p D)) l (.lst ((cs.map celV).map Prod.snd)) l = some (.lst ((cs.map fun c => (c.2 : Int)).map V.int)) := by rw [upd_same, e2]
    generalize upd (upd H p (KT.valsO p D)) l (.lst ((cs.map celV).map Prod.snd)) = H2 at *
    refine ⟨l, cs.map fun c => (c.2 : Int), 0, rfl, rfl, SqL.of hl2, ?_⟩
    rw [most_top]
    refine ⟨(topC cs : Int), rfl, by omega, by omega, ?_⟩
    intro Fa hF
    rw [show ((topC cs : Int)).toNat = topC cs by omega]
    have hD2 := s12 _ _ hD
    refine lc_it walk_range (fun k G => Same H2 G ∧ ∃ as : List Addr, G Fa = some (.lst (as.map V.ref)) ∧ as.length = k ∧ as.Nodup ∧ ∀ a ∈ as, H2 a = none ∧ a ≠ Fa ∧ G a = some (.lst [])) ⟨Same.upd hF, [], upd_same, rfl, List.nodup_nil, fun a h => by cases h⟩ (fun _ _ _ _ => trivial) (fun i x G G' hi p y => ?_) fun G p => ?_
    · obtain ⟨rfl, rfl⟩ := y
      obtain ⟨sG, as, f1, f2, f3, f4⟩ := p
      refine k_name ⟨wipe_one, k_yes (k_lstN (k_nil ⟨by show 0 ≤ sizeLine; omega, fun a ha => ?_⟩))⟩
      have nF : Fa ≠ a := fun z => by rw [z, ha] at f1; cases f1
      refine ⟨as.map V.ref, by rw [upd_ne nF]; exact f1, by rw [List.length_map, f2, sizeLine_eq]; omega, fun b o e => ?_, as ++ [a], by rw [upd_same, List.map_append]; rfl, by rw [List.length_append, f2]; rfl, ?_, fun b hb => ?_⟩
      · have n1 : b ≠ Fa := fun z => by rw [z, hF] at e; cases e
        have n2 : b ≠ a := fun z => by have := sG _ _ e; rw [z, ha] at this; cases this
        rw [upd_ne n1, upd_ne n2]
        exact sG _ _ e
      · refine List.nodup_append.mpr ⟨f3, by simp, fun b hb c hc e => ?_⟩
        rw [List.mem_singleton.mp hc] at e
        have := (f4 b hb).2.2
        rw [e, ha] at this
        cases this
      · rcases List.mem_append.mp hb with hb | hb
        · obtain ⟨g1, g2, g3⟩ := f4 b hb
          have n2 : b ≠ a := fun z => by rw [z, ha] at g3; cases g3
          exact ⟨g1, g2, by rw [upd_ne g2, upd_ne n2]; exact g3⟩
        · rw [List.mem_singleton.mp hb]
          exact ⟨sG.free ha, Ne.symm nF, by rw [upd_ne (Ne.symm nF)]; exact upd_same⟩
    obtain ⟨sG, as, f1, f2, f3, f4⟩ := p
    have hDG := sG _ _ hD2
    let XT : Addr → Prop := fun _ => True
    let Γ : List Sv := [.val (.ref D), .val (.ref Fa), .un, .un, .un]
    have En : EnvOk XT G ((L2.start n_by_level [.ref D]).set 1 (some (.ref Fa))) Γ := ⟨rfl, fun i s e => by
      match i, e with
      | 0, e => cases e; rfl
      | 1, e => cases e; rfl
      | 2, e => cases e; trivial
      | 3, e => cases e; trivial
      | 4, e => cases e; trivial
      | _ + 5, e => cases e⟩
    have nDF : D ≠ Fa := fun z => by rw [z, hF] at hD2; cases hD2
    have kT : ∀ {A B : Hp}, Kp XT A B := fun {A B} a o n e => absurd trivial n
    refine k_lockS ⟨D, _, hDG, trivial, fun od => ?_⟩
    refine ⟨.ref D, rfl, D, od, cs.map celV, rfl, upd_same, ?_⟩
    let Pw : Nat → L2.St → Hp → Prop := fun i σ' G' => EnvOk XT G' σ' Γ ∧ G' D = some (.frz od (.dT (cs.map celV))) ∧ G' Fa = some (.lst (as.map V.ref)) ∧ (∀ b o, H2 b = some o → b ≠ D → G' b = some o) ∧ Lists G' as (cs.take i)
    refine for_it walk_itT Pw ⟨En.mono kT, upd_same, by rw [upd_ne (Ne.symm nDF)]; exact f1, fun b o e n => by rw [upd_ne n]; exact sG _ _ e, fun k a hk => ?_⟩ (fun i σ' G' _ p => p.2.1) (fun i x σ' G1 G2 hi p y => ?_) (fun σ' G' p => ?_)
    · obtain ⟨g1, g2, g3⟩ := f4 a (List.mem_of_getElem? hk)
      have : a ≠ D := fun z => by rw [z, hD2] at g1; cases g1
      exact ⟨[], by rw [upd_ne this]; exact g3, trivial⟩
    rotate_left
    · obtain ⟨E1, p1, p2, p3, p4⟩ := p
      rw [List.length_map, List.take_length] at p4
      refine ⟨p1, ?_⟩
      show tRet (tVar 1) { nx := fun _ H' => Q .non H', rt := Q } σ' _
      refine ⟨.ref Fa, E1.get 1 _ rfl, q Fa as _ (fun b o e => ?_) (s12.free hF) (by rw [upd_ne (Ne.symm nDF)]; exact p2) f2 (fun a ha => s12.free (f4 a ha).1) fun k a hk => ?_⟩
      · by_cases z : b = D
        · rw [z, upd_same]
          rw [z, hD] at e
          exact e
        · rw [upd_ne z]
          exact p3 b o (s12 _ _ e) z
      · obtain ⟨vs, h1, h2⟩ := p4 k a hk
        obtain ⟨g1, _, _⟩ := f4 a (List.mem_of_getElem? hk)
        have : a ≠ D := fun z => by rw [z, hD2] at g1; cases g1
        refine ⟨vs, by rw [upd_ne this]; exact h1, h2.mono fun b xs e => ?_⟩
        have : b ≠ D := fun z => by rw [z, p1] at e; cases e
        rw [upd_ne this]
        exact e
    rw [List.length_map] at hi
    obtain ⟨E1, p1, p2, p3, p4⟩ := p
    obtain ⟨Tp, qk, k, v, e1, e2, rfl, e4, rfl⟩ := y
    rw [List.getElem?_map, List.getElem?_eq_getElem hi] at e1
    obtain ⟨⟨⟩⟩ : (celV cs[i]) = (k, v) ∧ True := ⟨Option.some.inj e1, trivial⟩
    have sT : Same G1 (upd G1 Tp (.tup [.ref qk, .int (cs[i].2 : Int)])) := Same.upd e4
    refine ⟨Tp, _, rfl, SqT.of upd_same, rfl, _, _, rfl, _, _, rfl, rfl, ?_⟩
    have E2 := (((E1.mono kT : EnvOk XT (upd G1 Tp (.tup [.ref qk, .int (cs[i].2 : Int)])) σ' Γ).setV (i := 2) (v := .ref qk)).setV (i := 3) (v := .int (cs[i].2 : Int)))
    have P1 := sT _ _ p1
    have P2 := sT _ _ p2
    have P3 : ∀ b o, H2 b = some o → b ≠ D → upd G1 Tp (.tup [.ref qk, .int (cs[i].2 : Int)]) b = some o := fun b o e n => sT _ _ (p3 b o e n)
    have P4 : Lists (upd G1 Tp (.tup [.ref qk, .int (cs[i].2 : Int)])) as (cs.take i) := fun k a hk => by
      obtain ⟨vs, h1, h2⟩ := p4 k a hk
      exact ⟨vs, sT _ _ h1, h2.mono fun b xs e => sT _ _ e⟩
    have Q2 := sT _ _ e2
    generalize upd G1 Tp (.tup [.ref qk, .int (cs[i].2 : Int)]) = G2 at *
    have cp := pos cs[i] (List.getElem_mem hi)
    have ct := top_ge (List.getElem_mem hi)
    obtain ⟨kk, hkk⟩ : ∃ kk : Nat, cs[i].2 = kk + 1 := ⟨cs[i].2 - 1, by omega⟩
    have lk : kk < as.length := by omega
    have hka : as[kk]? = some as[kk] := List.getElem?_eq_getElem lk
    obtain ⟨vs, v1, v2⟩ := P4 kk as[kk] hka
    obtain ⟨g1, g2, _⟩ := f4 as[kk] (List.getElem_mem lk)
    have nD : D ≠ as[kk] := fun z => by rw [← z, hD2] at g1; cases g1
    have hvs : vs.length ≤ 3600 := by
      have : ∀ {vs : List V} {ps : List Pr}, KeysAt G2 vs ps → vs.length = ps.length := by
        intro vs
        induction vs with
        | nil => intro ps h; cases ps with
          | nil => rfl
          | cons _ _ => cases h
        | cons a r ih => intro ps h; cases ps with
          | nil => cases h
          | cons b t => rw [List.length_cons, List.length_cons, ih h.2]
      rw [this v2]
      unfold ofLev
      rw [List.length_map]
      have h1 := List.length_filter_le (fun c : Ce => decide (c.2 = kk + 1)) (cs.take i)
      rw [List.length_take] at h1
      omega
    refine k_drop1 (k_drop ?_)
    refine ⟨.ref Fa, E2.get 1 _ rfl, .int (cs[i].2 : Int), E2.get 3 _ rfl, (cs[i].2 : Int), 1, rfl, rfl, .inl ⟨Fa, as.map V.ref, (cs[i].2 : Int) - 1, .ref as[kk], rfl, rfl, SqL.of P2, ?_, .inl ⟨rfl, _, SqL.of v1⟩, .ref qk, E2.get 2 _ rfl, as[kk], vs, .ref qk, rfl, rfl, v1, by rw [sizeLine_eq]; omega, ?_⟩⟩
    · rw [show (cs[i].2 : Int) - 1 = ((kk : Nat) : Int) by omega]
      exact atI_nat (by rw [List.getElem?_map, hka]; rfl)
    refine ⟨envUn' (envUn' (E2.mono kT) 2) 3, by rw [upd_ne nD]; exact P1, by rw [upd_ne (Ne.symm g2)]; exact P2, fun b o e n => ?_, fun k' a' hk' => ?_⟩
    · have : b ≠ as[kk] := fun z => by rw [z, g1] at e; cases e
      rw [upd_ne this]
      exact P3 b o e n
    have tups : ∀ b xs, G2 b = some (.tup xs) → upd G2 as[kk] (.lst (vs ++ [.ref qk])) b = some (.tup xs) := fun b xs e => by
      have : b ≠ as[kk] := fun z => by rw [z, v1] at e; cases e
      rw [upd_ne this]
      exact e
    have etake : cs.take (i + 1) = cs.take i ++ [cs[i]] := by rw [List.take_add_one, List.getElem?_eq_getElem hi]; rfl
    by_cases z : k' = kk
    · subst z
      rw [hka] at hk'
      cases hk'
      refine ⟨vs ++ [.ref qk], upd_same, ?_⟩
      have e : ofLev (cs.take (i + 1)) k' = ofLev (cs.take i) k' ++ [cs[i].1] := by
        unfold ofLev
        rw [etake, List.filter_append, List.map_append]
        congr 1
        rw [List.filter_cons, if_pos (decide_eq_true hkk)]
        rfl
      rw [e]
      exact KeysAt.snoc ⟨qk, rfl, tups _ _ Q2⟩ (v2.mono tups)
    · obtain ⟨vs', w1, w2⟩ := P4 k' a' hk'
      have na : a' ≠ as[kk] := fun e => z (by
        obtain ⟨lk', ea⟩ := List.getElem?_eq_some_iff.mp hk'
        have pw := List.pairwise_iff_getElem.mp f3
        by_cases c : k' < kk
        · exact absurd (ea.trans e) (pw k' kk lk' lk c)
        · by_cases c2 : kk < k'
          · exact absurd (ea.trans e).symm (pw kk k' lk lk' c2)
          · omega)
      refine ⟨vs', by rw [upd_ne na]; exact w1, ?_⟩
      have e : ofLev (cs.take (i + 1)) k' = ofLev (cs.take i) k' := by
        unfold ofLev
        rw [etake, List.filter_append, List.filter_cons, if_neg (by rw [decide_eq_true_iff]; omega), List.filter_nil, List.append_nil]
      rw [e]
      exact w2.mono tups
end K52

/-! The matches on a longest row, by levels. -/
namespace K52
open PySem PySem.Spec PyProof.Rows L2 KD KL
variable {P : Program} {w : World} {K : PySem.W.Frag} {mg : Str → Option Value} {base : Heap}
-- HINT longest_levels dgetn rest
-- HINT longest_levels lctt#1 (tTest (tOp (rEqD K) (tOp rAddA (tVar 6) (tDGet (tVar 3) (tVar 5))) (tOp rAddA (tVar 4) (tC (.int 1)))))
def keptC (M : Nat → Nat → Bool) (n m : Nat) : List Ce := (lvC M m n).filter fun c => decide (c.2 + rst M n m c.1 = topC (lvC M m n) + 1)
theorem tp_tp {n m : Nat} {p : Pr} (h1 : p.1 < n) (h2 : p.2 < m) : tp n m (tp n m p) = p := Prod.ext (by show n - 1 - (n - 1 - p.1) = p.1; omega) (by show m - 1 - (m - 1 - p.2) = p.2; omega)
theorem rest_at {M : Nat → Nat → Bool} {n m : Nat} {p : Pr} (h1 : p.1 < n) (h2 : p.2 < m) (h3 : M p.1 p.2 = true) : valV (((lvC (rv M n m) m n).map fun c => (tp n m c.1, c.2)).map celV) (keyC p) = some (.int (rst M n m p : Int)) := by
  refine val_some (List.mem_map.mpr ⟨(tp n m p, rst M n m p), lvC_in.mpr ⟨?_, ?_, ?_, rfl⟩, Prod.ext (tp_tp h1 h2) rfl⟩) fun c hc e => ?_
  · show n - 1 - p.1 < n
    omega
  · show m - 1 - p.2 < m
    omega
  · show M (n - 1 - (n - 1 - p.1)) (m - 1 - (m - 1 - p.2)) = true
    rw [show n - 1 - (n - 1 - p.1) = p.1 by omega, show m - 1 - (m - 1 - p.2) = p.2 by omega]
    exact h3
  · obtain ⟨b, hb, rfl⟩ := List.mem_map.mp hc
    obtain ⟨b1, b2, _, b4⟩ := lvC_in.mp hb
    have e2 : tp n m p = b.1 := by rw [← e]; exact tp_tp b1 b2
    show b.2 = rst M n m p
    rw [b4, ← e2]
    rfl
theorem env_conv {X Y : Addr → Prop} {H H' : Hp} {σ : L2.St} {Γ : List Sv} (E : EnvOk X H σ Γ) (h : ∀ s ∈ Γ, (∃ v, s = .val v) ∨ s = .un) : EnvOk Y H' σ Γ := ⟨E.len, fun i s e => by
  have := E.get i s e
  rcases h s (List.mem_of_getElem? e) with ⟨v, rfl⟩ | rfl
  · exact this
  · trivial⟩
theorem g_val {X : Addr → Prop} {H : Hp} {σ : L2.St} {Γ : List Sv} {i : Nat} {n : Int} (E : EnvOk X H σ Γ) (h : Γ[i]? = some (.val (.int n))) : G X (tVar i) σ H (.int n) := fun H1 s Q q => ⟨.int n, E.get i _ h, q _ H1 (Same.refl _) (.int _)⟩
theorem topC_le {B : Nat} : ∀ {cs : List Ce}, (∀ c ∈ cs, c.2 ≤ B) → topC cs ≤ B
  | [], _ => Nat.zero_le _
  | c :: r, h => Nat.max_le.mpr ⟨h c List.mem_cons_self, topC_le fun z hz => h z (List.mem_cons_of_mem _ hz)⟩
theorem L_le {M : Nat → Nat → Bool} {i j : Nat} : L M i j ≤ i := by
  obtain ⟨l, h1, h2, h3⟩ := L_is (M := M) i j
  have := len_fst h1 (lo := 0) (hi := i) fun p hp => ⟨Nat.zero_le _, (h2 p hp).1⟩
  omega
def spLongest : Sp := fun us H Q _ => ∃ (X : Addr → Prop) (v1 v2 : V) (d1 d2 : PyData) (ws vs : List Str), us = [v1, v2] ∧ Trk X H ∧ DX X H v1 d1 ∧ DX X H v2 d2 ∧ Txt d1 ws ∧ Txt d2 vs ∧ ∀ F as H', Same H H' → H F = none → H' F = some (.lst (as.map V.ref)) → as.length = topC (keptC (Mw ws vs) ws.length vs.length) → (∀ a ∈ as, H a = none) → Lists H' as (keptC (Mw ws vs) ws.length vs.length) → Q (.ref F) H'
abbrev s_longest_levels : Stmt := topS 18
abbrev n_longest_levels : List Str := ["one", "other", "levels", "rest", "longest", "match", "level"]
theorem sc_longest_levels : FnScope n_longest_levels ["one", "other"] (defScope s_longest_levels) := ⟨rfl, rfl, rfl, by decide +kernel, rfl, by decide +kernel, by decide +kernel⟩
theorem ok_longest_levels {f : Addr} {fd : FuncData} (F : Fun K "longest_levels" "longest_levels" s_longest_levels f fd) (T : Bl mg) (b_max : mg "max" = none) (O_levels_in : Own P w K mg base CX0 1 "levels_in" ["one", "other"] spLevels) (O_levels_behind : Own P w K mg base CX0 2 "levels_behind" ["one", "other"] spBehind) (O_by_level : Own P w K mg base CX0 1 "by_level" ["levels"] spByLevel) : FnOk P w K mg base CX0 3 f fd ["one", "other"] spLongest := by
  refine F.ok sc_longest_levels (fun vs H Q E h => ?_) (fun cdv A outer s H us Q E hr h => ?_)
  · obtain ⟨X, v1, v2, d1, d2, ws, vs, rfl, _⟩ := h
    rfl
  · obtain ⟨X, v1, v2, d1, d2, ws, vs, rfl, t, r1, r2, T1, T2, q⟩ := h
    refine ⟨_, (pss_cons (ps_set (i := 2) sc_longest_levels.nd rfl (by first | exact Or.inl rfl | exact Or.inr rfl) (pe_own O_levels_in hr (by decide) (by rfl) (pa_cons (pv 0) (pa_cons (pv 1) pa_nil))))
    (pss_cons (ps_set (i := 3) sc_longest_levels.nd rfl (by first | exact Or.inl rfl | exact Or.inr rfl) (pe_own O_levels_behind hr (by decide) (by rfl) (pa_cons (pv 0) (pa_cons (pv 1) pa_nil))))
    (pss_cons (ps_set (i := 4) sc_longest_levels.nd rfl (by first | exact Or.inl rfl | exact Or.inr rfl) (pe_callBK (cr_maxDef rfl hr.units) (by rfl) b_max boot_max (pa_cons (pe_callTy (KT.call_listV rfl) (by rfl) T.b_list boot_list (pa_cons (pe_bm0 PySem.F.plainAttrs_dict PySem.F.slot_dict_values PySem.F.type_dict_values KT.mt_valsT (pv 2)) pa_nil)) pa_nil) (pk_cons pe_int pk_nil)))
    (pss_one (ps_ret (pe_own O_by_level hr (by decide) (by rfl) (pa_cons (pe_lock (KT.pe_dcT (own := [("match", 5), ("level", 6)]) (g := (gTup K 2 (gCons (gName 5) (gCons (gName 6) gNil)))) (tt := (tTest (tOp (rEqD K) (tOp rAddA (tVar 6) (tDGet (tVar 3) (tVar 5))) (tOp rAddA (tVar 4) (tC (.int 1)))))) rfl (Nat.lt_of_succ_lt (hu_of hr)) sc_longest_levels.nd (KT.pi_itT (pv 2)) (blkOk_by (N := n_longest_levels) (sc := defScope s_longest_levels) (by decide +kernel)) (KT.Parts.mk (fun _ _ _ _ _ => (pg_tup (n := 2) rfl (pgs_cons (pg_name (i := 5) sc_longest_levels.nd rfl (by first | exact Or.inl rfl | exact Or.inr rfl)) (pgs_cons (pg_name (i := 6) sc_longest_levels.nd rfl (by first | exact Or.inl rfl | exact Or.inr rfl)) pgs_nil)))) (fun _ _ _ _ _ => (pts_one (pt_cmpR (op_eqD hr.units) (pe_op op_addA (pv 6) (pe_dget (hu_of hr) (pv 3) (pv 5) (fun _ _ => rfl))) (pe_op op_addA (pv 4) pe_int) (nomark _)))) (fun _ _ _ _ _ => (pv 5)) (fun _ _ _ _ _ => (pv 6))))) pa_nil))))))), ?_⟩
    have En : EnvOk X H (L2.start n_longest_levels [v1, v2]) [.dat d1, .dat d2, .un, .un, .un, .un, .un] := env2 (N := n_longest_levels) r1 r2 (by decide)
    have w1 := T1.few
    have w2 := T2.few
    have two : ∀ {Z : Hp} {us : List V}, DXs X Z us [d1, d2] → us ++ [] = [us.getD 0 .non, us.getD 1 .non] ∧ DX X Z (us.getD 0 .non) d1 ∧ DX X Z (us.getD 1 .non) d2 := fun {Z us} rs => by
      cases rs with
      | cons a rs =>
        cases rs with
        | cons b rs =>
          cases rs
          exact ⟨rfl, a, b⟩
    refine k_set (k_callS ((ga_cons (g_var (i := 0) (d := d1) En rfl) (ga_cons (g_var (i := 1) (d := d2) En rfl) ga_nil)) H (Same.refl _) _ fun us H1 s1 rs => ?_))
    obtain ⟨a1, a2, a3⟩ := two rs
    refine ⟨X, _, _, d1, d2, ws, vs, a1, t.mono s1, a2, a3, T1, T2, fun D1 H2 s2 hD1 eD1 => ?_⟩
    have s12 := s1.trans s2
    have E2 := (En.same s12).setV (i := 2) (v := .ref D1)
    have t2 := t.mono s12
    refine k_set (k_callS ((ga_cons (g_var (i := 0) (d := d1) E2 rfl) (ga_cons (g_var (i := 1) (d := d2) E2 rfl) ga_nil)) H2 (Same.refl _) _ fun us' H3 s3 rs' => ?_))
    obtain ⟨b1, b2, b3⟩ := two rs'
    refine ⟨X, _, _, d1, d2, ws, vs, b1, t2.mono s3, b2, b3, T1, T2, fun D2 H4 s4 hD2 eD2 => ?_⟩
    have s34 := s3.trans s4
    have E4 := (E2.same s34).setV (i := 3) (v := .ref D2)
    have eD1' := s34 _ _ eD1
    have s14 := s12.trans s34
    have nDD : D2 ≠ D1 := fun z => by rw [z, s3 _ _ eD1] at hD2; cases hD2
    obtain ⟨M, hM⟩ : ∃ M, M = Mw ws vs := ⟨_, rfl⟩
    rw [← hM] at q eD1' eD2
    obtain ⟨cs, hcs⟩ : ∃ cs, cs = lvC M vs.length ws.length := ⟨_, rfl⟩
    rw [← hcs] at eD1'
    refine k_set (k_ckw (k_cons (k_cb (k_cons (k_bm0 ?_)))))
    refine ⟨.ref D1, E4.get 2 _ rfl, .inr (.inr (.inl ⟨rfl, .inr ⟨_, eD1'⟩⟩)), D1, _, rfl, rfl, eD1', fun p hp => ?_⟩
    have s5 : Same H4 (upd H4 p (KT.valsO p D1)) := Same.upd hp
    refine ⟨p, D1, _, rfl, upd_same, s5 _ _ eD1', fun l hl => ?_⟩
    have s6 : Same (upd H4 p (KT.valsO p D1)) (upd (upd H4 p (KT.valsO p D1)) l (.lst ((cs.map celV).map Prod.snd))) := Same.upd hl
    have e6 : (cs.map celV).map Prod.snd = (cs.map fun c => (c.2 : Int)).map V.int := by rw [List.map_map, List.map_map]; rfl
    have s46 := s5.trans s6
    have hl6 : upd (upd H4 p (KT.valsO p D1)) l (.lst ((cs.map celV).map Prod.snd)) l = some (.lst ((cs.map fun c => (c.2 : Int)).map V.int)) := by rw [upd_same, e6]
    generalize upd (upd H4 p (KT.valsO p D1)) l (.lst ((cs.map celV).map Prod.snd)) = H6 at *
    refine ⟨l, cs.map fun c => (c.2 : Int), 0, rfl, rfl, SqL.of hl6, ?_⟩
    rw [most_top]
    have E6 := (E4.same s46).setV (i := 4) (v := .int (topC cs : Int))
    have F1 := s46 _ _ eD1'
    have F2 := s46 _ _ eD2
    have s16 := s14.trans s46
    refine k_ret (k_callS (k_cons (k_lock ⟨D1, _, F1, trivial, fun od => ?_⟩)))
    have ins : ∀ c ∈ cs, c.1.1 < ws.length ∧ c.1.2 < vs.length ∧ M c.1.1 c.1.2 = true ∧ c.2 = L M c.1.1 c.1.2 + 1 := fun c hc => lvC_in.mp (hcs ▸ hc)
    have few : cs.length ≤ 3600 := by
      have h1 := lvC_len (M := M) (m := vs.length) (i := ws.length)
      have h2 : ws.length * vs.length ≤ 60 * 60 := Nat.mul_le_mul (by omega) (by omega)
      rw [hcs]
      omega
    have pw : cs.Pairwise fun a b => a.1 ≠ b.1 := hcs ▸ lvC_pair
    let pc : Ce → Bool := fun c => decide (c.2 + rst M ws.length vs.length c.1 = topC cs + 1)
    have hkept : keptC M ws.length vs.length = cs.filter pc := by unfold keptC; rw [← hcs]
    rw [hkept] at q
    let XF : Addr → Prop := fun _ => False
    let Γ : List Sv := [.un, .un, .val (.ref D1), .val (.ref D2), .val (.int (topC cs : Int)), .un, .un]
    have hvals : ∀ s ∈ Γ, (∃ v, s = Sv.val v) ∨ s = Sv.un := fun s hs => by
      simp only [Γ, List.mem_cons, List.not_mem_nil, or_false] at hs
      rcases hs with rfl | rfl | rfl | rfl | rfl | rfl | rfl <;> first | exact .inr rfl | exact .inl ⟨_, rfl⟩
    have EF : ∀ {Z : Hp}, EnvOk XF Z (((L2.start n_longest_levels [v1, v2]).set 2 (some (.ref D1))).set 3 (some (.ref D2)) |>.set 4 (some (.int (topC cs : Int)))) Γ := fun {Z} => ⟨rfl, fun i s e => by
      match i, e with
      | 0, e => cases e; trivial
      | 1, e => cases e; trivial
      | 2, e => cases e; rfl
      | 3, e => cases e; rfl
      | 4, e => cases e; rfl
      | 5, e => cases e; trivial
      | 6, e => cases e; trivial
      | _ + 7, e => cases e⟩
    have hL1 : upd H6 D1 (.frz od (.dT (cs.map celV))) D1 = some (.frz od (.dT (cs.map celV))) := upd_same
    have nL : ∀ a, a ≠ D1 → upd H6 D1 (.frz od (.dT (cs.map celV))) a = H6 a := fun a h => upd_ne h
    generalize upd H6 D1 (.frz od (.dT (cs.map celV))) = HL at *
    refine ⟨.ref D1, EF.get (H := HL) 2 _ rfl, D1, od, cs.map celV, rfl, hL1, fun D hD => ?_⟩
    have nD : D ≠ D1 := fun z => by rw [z, hL1] at hD; cases hD
    have hD6 : H6 D = none := by rw [← nL D nD]; exact hD
    have nD2 : D2 ≠ D := fun z => by rw [z, hD6] at F2; cases F2
    let Pv : Nat → Hp → Prop := fun i G => G D1 = some (.frz od (.dT (cs.map celV))) ∧ G D = some (.dT (((cs.take i).filter pc).map celV)) ∧ (∀ a o, a ≠ D1 → H6 a = some o → G a = some o)
    refine ⟨fun i m G => m = cs.length - i ∧ i ≤ cs.length ∧ Pv i G, ⟨_, rfl, Nat.zero_le _, by rw [upd_ne (Ne.symm nD)]; exact hL1, upd_same, fun a o n e => ?_⟩, ?_⟩
    · have : a ≠ D := fun z => by rw [z, hD6] at e; cases e
      rw [upd_ne this, nL a n]
      exact e
    rintro i m G ⟨rfl, hi, p1, p2, p3⟩
    by_cases lt : i < cs.length
    rotate_left
    · have e : i = cs.length := by omega
      subst e
      rw [List.take_length] at p2
      have sG : Same H (upd G D1 (.dT (cs.map celV))) := fun a o e => by
        have n1 : a ≠ D1 := fun z => by rw [z, s1.free hD1] at e; cases e
        rw [upd_ne n1]
        exact p3 a o n1 (s16 _ _ e)
      refine .inl ⟨⟨p1, by rw [List.length_map]; exact Nat.le_refl _⟩, p1, D, cs.filter pc, rfl, by rw [upd_ne nD]; exact p2, Nat.le_trans (List.length_filter_le _ _) few, topC_le fun c hc => ?_, fun c hc => ?_, fun F as H' s' hF hF' la na LL => q F as H' (sG.trans s') (sG.free hF) hF' la (fun a ha => sG.free (na a ha)) LL⟩
      · obtain ⟨c1, _, _, c4⟩ := ins c ((List.mem_filter.mp hc).1)
        have := L_le (M := M) (i := c.1.1) (j := c.1.2)
        omega
      · obtain ⟨_, _, _, c4⟩ := ins c ((List.mem_filter.mp hc).1)
        omega
    refine .inr ⟨⟨p1, by rw [List.length_map]; exact lt⟩, Pv (i + 1), fun G2 pn => ⟨_, by omega, rfl, lt, pn⟩, fun x G2 y => ?_⟩
    obtain ⟨Tp, qk, k, v, e1, e2, rfl, e4, rfl⟩ := y
    rw [List.getElem?_map, List.getElem?_eq_getElem lt] at e1
    obtain ⟨⟨⟩⟩ : (celV cs[i]) = (k, v) ∧ True := ⟨Option.some.inj e1, trivial⟩
    have sT : Same G (upd G Tp (.tup [.ref qk, .int (cs[i].2 : Int)])) := Same.upd e4
    refine ⟨Tp, _, rfl, SqT.of upd_same, rfl, _, _, rfl, _, _, rfl, rfl, wipe_two (by decide), ?_⟩
    have q1 := sT _ _ p1
    have q2 := sT _ _ p2
    have q3 : ∀ a o, a ≠ D1 → H6 a = some o → upd G Tp (.tup [.ref qk, .int (cs[i].2 : Int)]) a = some o := fun a o n e => sT _ _ (p3 a o n e)
    have q5 := sT _ _ e2
    generalize upd G Tp (.tup [.ref qk, .int (cs[i].2 : Int)]) = G4 at *
    have E4' := (((EF (Z := G4)).wipe [5, 6]).setV (i := 5) (v := .ref qk)).setV (i := 6) (v := .int (cs[i].2 : Int))
    have tF : Trk XF G4 := fun a z => z.elim
    obtain ⟨c1, c2, c3, c4⟩ := ins cs[i] (List.getElem_mem lt)
    have gget : KD.G XF (tDGet (tVar 3) (tVar 5)) _ G4 (.int (rst M ws.length vs.length cs[i].1 : Int)) := fun Z s Q' q' => ⟨.ref D2, E4'.get 3 _ rfl, .ref qk, E4'.get 5 _ rfl, D2, _, rfl, by rw [← rest_at c1 c2 c3]; exact DGet.t (s _ _ (q3 _ _ nDD F2)) (s _ _ q5), q' _ Z (Same.refl _) (.int _)⟩
    refine gt_eqI tF (g_addI tF (g_val E4' rfl) gget) (g_addI (j := 1) tF (g_val E4' rfl) g_int) G4 (Same.refl _) _ fun G5 s5' => ?_
    have etake : cs.take (i + 1) = cs.take i ++ [cs[i]] := by rw [List.take_add_one, List.getElem?_eq_getElem lt]; rfl
    have z1 := s5' _ _ q1
    have z2 := s5' _ _ q2
    have z3 : ∀ a o, a ≠ D1 → H6 a = some o → G5 a = some o := fun a o n e => s5' _ _ (q3 a o n e)
    have fewt : ((cs.take i).filter pc).length ≤ 3600 := Nat.le_trans (List.length_filter_le _ _) (by rw [List.length_take]; omega)
    show KT.Told D (tVar 5) (tVar 6) (Pv (i + 1)) _ _ G5
    unfold KT.Told
    by_cases hpc : cs[i].2 + rst M ws.length vs.length cs[i].1 = topC cs + 1
    · rw [decide_eq_true (by omega), if_pos rfl]
      refine ⟨.ref qk, E4'.get 5 _ rfl, .int (cs[i].2 : Int), E4'.get 6 _ rfl, ((cs.take i).filter pc).map celV, keyC cs[i].1, qk, rfl, s5' _ _ q5, z2, by rw [List.length_map, sizeLine_eq]; omega, ?_⟩
      have eput : putK (((cs.take i).filter pc).map celV) (keyC cs[i].1) (.int (cs[i].2 : Int)) = ((cs.take (i + 1)).filter pc).map celV := by
        rw [putK_new _ (val_none fun c hc e => ?_), etake, List.filter_append, List.map_append]
        · congr 1
          have : List.filter pc [cs[i]] = [cs[i]] := by rw [List.filter_cons, if_pos (decide_eq_true hpc)]; rfl
          rw [this]
          rfl
        · obtain ⟨j, hj, ej⟩ := List.mem_iff_getElem.mp (List.mem_filter.mp hc).1
          rw [List.length_take] at hj
          rw [List.getElem_take] at ej
          have ne := List.pairwise_iff_getElem.mp pw j i (by omega) lt (by omega)
          rw [ej] at ne
          exact ne e
      rw [eput]
      refine ⟨by rw [upd_ne (Ne.symm nD)]; exact z1, upd_same, fun a o n e => ?_⟩
      have : a ≠ D := fun z => by rw [z, hD6] at e; cases e
      rw [upd_ne this]
      exact z3 a o n e
    · rw [decide_eq_false (by omega), if_neg (by simp)]
      refine ⟨z1, ?_, z3⟩
      have : List.filter pc [cs[i]] = [] := by rw [List.filter_cons, if_neg (by simp only [pc, decide_eq_true_eq]; exact hpc)]; rfl
      rw [etake, List.filter_append, this, List.append_nil]
      exact z2
end K52

/-! What is kept is on a longest row. -/
namespace K52
open KL
variable {M : Nat → Nat → Bool} {n m : Nat}
theorem lev_top {p : Pr} (h1 : p.1 < n) (h2 : p.2 < m) (h3 : M p.1 p.2 = true) : lev M p ≤ L M n m := by
  obtain ⟨l, a, b, c⟩ := lev_is (M := M) p h3
  have := L_up n m (l ++ [p]) a fun q hq => by
    rcases List.mem_append.mp hq with hq | hq
    · have := b q hq
      omega
    · rw [List.mem_singleton.mp hq]
      exact ⟨h1, h2⟩
  rw [List.length_append, List.length_singleton] at this
  omega
theorem topC_L : topC (lvC M m n) = L M n m := by
  refine Nat.le_antisymm (topC_le fun c hc => ?_) ?_
  · obtain ⟨h1, h2, h3, h4⟩ := lvC_in.mp hc
    rw [h4]
    exact lev_top h1 h2 h3
  · obtain ⟨l, a, b, c⟩ := L_is (M := M) n m
    rcases snoc (l := l) with rfl | ⟨k, p, rfl⟩
    · rw [← c]
      exact Nat.zero_le _
    · have hp := b p (List.mem_append_right _ (List.mem_singleton.mpr rfl))
      have hm := a.2 p (List.mem_append_right _ (List.mem_singleton.mpr rfl))
      have h1 := lev_up a
      have h2 := top_ge (cs := lvC M m n) (c := (p, lev M p)) (lvC_in.mpr ⟨hp.1, hp.2, hm, rfl⟩)
      rw [List.length_append, List.length_singleton] at c
      simp only at h2
      omega
theorem kept_on {c : Ce} : c ∈ keptC M n m ↔ On M n m c.2 c.1 := by
  unfold keptC On
  rw [List.mem_filter, lvC_in, topC_L, decide_eq_true_iff]
  constructor
  · rintro ⟨⟨h1, h2, h3, h4⟩, h5⟩
    have e : lev M c.1 = c.2 := h4.symm
    exact ⟨h3, h1, h2, e, by rw [e]; exact h5⟩
  · rintro ⟨h3, h1, h2, h4, h5⟩
    exact ⟨⟨h1, h2, h3, h4.symm⟩, by rw [← h4]; exact h5⟩
theorem ofLev_on {k : Nat} {p : Pr} : p ∈ ofLev (keptC M n m) k ↔ On M n m (k + 1) p := by
  unfold ofLev
  rw [List.mem_map]
  constructor
  · rintro ⟨c, hc, rfl⟩
    obtain ⟨h1, h2⟩ := List.mem_filter.mp hc
    have := kept_on.mp h1
    rw [of_decide_eq_true h2] at this
    exact this
  · intro h
    exact ⟨(p, k + 1), List.mem_filter.mpr ⟨kept_on.mpr h, decide_eq_true rfl⟩, rfl⟩
theorem top_kept : topC (keptC M n m) = L M n m := by
  refine Nat.le_antisymm (topC_le fun c hc => (on_le (kept_on.mp hc)).2) ?_
  by_cases h : L M n m = 0
  · omega
  · obtain ⟨l, a, b, c⟩ := L_is (M := M) n m
    rcases snoc (l := l) with rfl | ⟨k, p, rfl⟩
    · exact absurd c.symm h
    · have hp := b p (List.mem_append_right _ (List.mem_singleton.mpr rfl))
      have hm := a.2 p (List.mem_append_right _ (List.mem_singleton.mpr rfl))
      have h1 := lev_up a
      have h2 := lev_top hp.1 hp.2 hm
      have h3 := sum_le hm hp.1 hp.2
      have h4 : 1 ≤ rst M n m p := Nat.le_add_left _ _
      rw [List.length_append, List.length_singleton] at c
      have on : On M n m (lev M p) p := ⟨hm, hp.1, hp.2, rfl, by omega⟩
      have := top_ge (kept_on (c := (p, lev M p)).mpr on)
      simp only at this
      omega
end K52

/-! The row that is gone, level by level. -/
namespace K52
open KL
def stepR (row ps : List Pr) : List Pr := row ++ (match ps.filter (okNext row) with
  | [] => []
  | p :: _ => [p])
def rowG (M : Nat → Nat → Bool) (n m : Nat) : Nat → List Pr
  | 0 => []
  | k + 1 => stepR (rowG M n m k) (ofLev (keptC M n m) k)
variable {M : Nat → Nat → Bool} {n m : Nat}
/-- what holds of the row behind k levels -/
structure Gone (M : Nat → Nat → Bool) (n m k : Nat) (row : List Pr) : Prop where
  len : row.length = k
  ch : Ch M row
  bd : Bd n m row
  last : 0 < k → ∃ r q, row = r ++ [q] ∧ On M n m k q
theorem ok_last {r : List Pr} {q p : Pr} : okNext (r ++ [q]) p = bhB q p := by
  unfold okNext
  rw [List.getLast?_append]
  rfl
theorem next_some {k : Nat} {row : List Pr} (g : Gone M n m k row) (hk : k < L M n m) : ∃ p r, (ofLev (keptC M n m) k).filter (okNext row) = p :: r := by
  have : ∃ p, p ∈ (ofLev (keptC M n m) k).filter (okNext row) := by
    by_cases h : 0 < k
    · obtain ⟨r, q, e, on⟩ := g.last h
      obtain ⟨p, on2, hb⟩ := on_next on hk
      exact ⟨p, List.mem_filter.mpr ⟨ofLev_on.mpr on2, by rw [e, ok_last]; exact bhB_iff.mpr hb⟩⟩
    · have e : row = [] := List.length_eq_zero_iff.mp (by have := g.len; omega)
      obtain ⟨p, on⟩ := on_first (M := M) (n := n) (m := m) (by omega)
      have k0 : k = 0 := by omega
      exact ⟨p, List.mem_filter.mpr ⟨ofLev_on.mpr (by rw [k0]; exact on), by rw [e]; rfl⟩⟩
  obtain ⟨p, hp⟩ := this
  cases h : (ofLev (keptC M n m) k).filter (okNext row) with
  | nil => rw [h] at hp; cases hp
  | cons a r => exact ⟨a, r, rfl⟩
theorem gone_step {k : Nat} {row : List Pr} (g : Gone M n m k row) (hk : k < L M n m) : Gone M n m (k + 1) (stepR row (ofLev (keptC M n m) k)) := by
  obtain ⟨p, r, e⟩ := next_some g hk
  have hp : p ∈ (ofLev (keptC M n m) k).filter (okNext row) := by rw [e]; exact List.mem_cons_self
  obtain ⟨h1, h2⟩ := List.mem_filter.mp hp
  have on := ofLev_on.mp h1
  have es : stepR row (ofLev (keptC M n m) k) = row ++ [p] := by
    unfold stepR
    rw [e]
  rw [es]
  refine ⟨by rw [List.length_append, g.len]; rfl, ch_app g.ch (ch_one on.1) fun a ha b hb => ?_, fun q hq => ?_, fun _ => ⟨row, p, rfl, on⟩⟩
  · rw [List.mem_singleton.mp hb]
    by_cases h : 0 < k
    · obtain ⟨r', q, er, _⟩ := g.last h
      rw [er, ok_last] at h2
      have hq := bhB_iff.mp h2
      rw [er] at ha
      rcases List.mem_append.mp ha with ha | ha
      · have := ch_last (er ▸ g.ch) a ha
        unfold bh at *
        omega
      · rw [List.mem_singleton.mp ha]
        exact hq
    · have e0 : row = [] := List.length_eq_zero_iff.mp (by have := g.len; omega)
      rw [e0] at ha
      cases ha
  · rcases List.mem_append.mp hq with hq | hq
    · exact g.bd q hq
    · rw [List.mem_singleton.mp hq]
      exact ⟨on.2.1, on.2.2.1⟩
theorem gone_row : ∀ k, k ≤ L M n m → Gone M n m k (rowG M n m k)
  | 0, _ => ⟨rfl, ch_nil, fun p h => (by cases h), fun h => (by omega)⟩
  | k + 1, h => gone_step (gone_row k (by omega)) (by omega)
end K52

/-! A longest common row. -/
namespace K52
open PySem PySem.Spec PyProof.Rows L2 KD KL
-- RAISES check_texts is_common_row common_row
-- HINT common_row ix (ix_seqK (K := K) rfl)
-- HINT common_row lctt#1 (tOr (tTest (tOp (rEqD K) (tCB (fun xs H Q => ∃ x n, xs = [x] ∧ LenV K x H n ∧ Q (V.int n) H) (tCons (tVar 2) tNil)) (tC (.int 0)))) (tB (tCall (sp2 pqPre fun a b => .bool (behD a b)) [] E0 (tCons (tVar 4) (tCons (tOp (rIx K) (tVar 2) (tUn (rU fun i => .int (-i)) (tC (.int 1)))) tNil)))))
variable {P : Program} {w : World} {K : PySem.W.Frag} {mg : Str → Option Value} {base : Heap}
/-- no address of X holds a tuple -/
def NoT (X : Addr → Prop) (H : Hp) : Prop := ∀ a, X a → ∀ xs, H a ≠ some (.tup xs)
theorem NoT.mono {X : Addr → Prop} {H H' : Hp} (t : Trk X H) (n : NoT X H) (s : Same H H') : NoT X H' := fun a ha xs e => by
  obtain ⟨o, ho⟩ := t a ha
  have := s _ _ ho
  rw [e] at this
  cases this
  exact n a ha xs ho
theorem dxs_at {X : Addr → Prop} {H : Hp} : ∀ {vs : List V} {ds : List PyData}, vs.length = ds.length → (∀ (k : Nat) (v : V) (d : PyData), vs[k]? = some v → ds[k]? = some d → DX X H v d) → DXs X H vs ds
  | [], [], _, _ => .nil
  | v :: vs, d :: ds, h, k => .cons (k 0 v d rfl rfl) (dxs_at (by simpa using h) fun j v d e1 e2 => k (j + 1) v d e1 e2)
  | [], _ :: _, h, _ => by simp at h
  | _ :: _, [], h, _ => by simp at h
theorem keys_dx {X : Addr → Prop} {H : Hp} (n : NoT X H) : ∀ {vs : List V} {ps : List Pr}, KeysAt H vs ps → DXs X H vs (ps.map prD)
  | [], [], _ => .nil
  | v :: vs, p :: ps, ⟨⟨q, e, h⟩, r⟩ => by
    subst e
    exact .cons (.tup (fun hx => n q hx _ h) h (.cons (.int _) (.cons (.int _) .nil))) (keys_dx n r)
def levD (M : Nat → Nat → Bool) (n m : Nat) : PyData := .list ((List.range (L M n m)).map fun k => rowD (ofLev (keptC M n m) k))
theorem g_longest {X : Addr → Prop} {σ : L2.St} {H : Hp} {ta tb : TE} {E : XK} {d1 d2 : PyData} {ws vs : List Str} (t : Trk X H) (n : NoT X H) (h1 : G X ta σ H d1) (h2 : G X tb σ H d2) (T1 : Txt d1 ws) (T2 : Txt d2 vs) : G X (tCall spLongest [] E (tCons ta (tCons tb tNil))) σ H (levD (Mw ws vs) ws.length vs.length) :=
  g_call (ga_cons h1 (ga_cons h2 ga_nil)) fun us H1 s rs Q q => by
    cases rs with
    | cons r1 rs =>
      cases rs with
      | cons r2 rs =>
        cases rs
        refine ⟨X, _, _, d1, d2, ws, vs, rfl, t.mono s, r1, r2, T1, T2, fun F as H' s' nF hF la na LL => q _ H' s' (.lst ((t.mono s).new nF) hF (dxs_at (by rw [List.length_map, List.length_map, List.length_range, la, top_kept]) fun k v d e1 e2 => ?_))⟩
        rw [List.getElem?_map] at e1 e2
        obtain ⟨a, ha, rfl⟩ := Option.map_eq_some_iff.mp e1
        obtain ⟨k', hk', rfl⟩ := Option.map_eq_some_iff.mp e2
        have hk : k' = k := by
          obtain ⟨hl, e⟩ := List.getElem?_eq_some_iff.mp hk'
          rw [List.getElem_range] at e
          exact e.symm
        subst hk
        obtain ⟨xs, x1, x2⟩ := LL k' a ha
        exact .lst ((t.mono s).new (na a (List.mem_of_getElem? ha))) x1 (keys_dx ((n.mono t s).mono (t.mono s) s') x2)
def spCommon : Sp := fun us H Q _ => ∃ (X : Addr → Prop) (v1 v2 : V) (d1 d2 : PyData) (ws vs : List Str), us = [v1, v2] ∧ Trk X H ∧ NoT X H ∧ DX X H v1 d1 ∧ DX X H v2 d2 ∧ Txt d1 ws ∧ Txt d2 vs ∧ Good d1 ∧ Good d2 ∧ ∀ w H', Same H H' → DX X H' w (rowD (rowG (Mw ws vs) ws.length vs.length (L (Mw ws vs) ws.length vs.length))) → Nw H w → Q w H'
theorem beh_pr (p q : Pr) : behD (prD p) (prD q) = bhB q p := by
  unfold bhB
  show (decide ((q.1 : Int) < (p.1 : Int)) && decide ((q.2 : Int) < (p.2 : Int))) = _
  congr 1
  · exact decide_eq_decide.mpr (by omega)
  · exact decide_eq_decide.mpr (by omega)
theorem pq_pr (p : Pr) : Pq (prD p) := ⟨_, _, rfl, rfl⟩
theorem filt_pr (row ps : List Pr) : (ps.map prD).filter (fun z => okNext row (prOf z)) = (ps.filter (okNext row)).map prD := by
  rw [List.filter_map]
  congr 1
abbrev s_common_row : Stmt := topS 19
abbrev n_common_row : List Str := ["one", "other", "row", "matches", "match"]
theorem sc_common_row : FnScope n_common_row ["one", "other"] (defScope s_common_row) := ⟨rfl, rfl, rfl, by decide +kernel, rfl, by decide +kernel, by decide +kernel⟩
theorem ok_common_row {f C : Addr} {fd : FuncData} (F : Fun K "common_row" "common_row" s_common_row f fd) (T : Bl mg) (O_check_texts : Own P w K mg base (L2.CX P w) 3 "check_texts" ["texts"] (spX1 (fun D => ∃ ds, D = .list ds ∧ ∀ d ∈ ds, wordsAll d) fun D => textsOutN C (itemsD D)))
    (O_longest_levels : Own P w K mg base CX0 3 "longest_levels" ["one", "other"] spLongest) (O_comes_behind : Own P w K mg base CX0 1 "comes_behind" ["match", "other"] (sp2 pqPre fun a b => .bool (behD a b))) :
    FnOk P w K mg base (L2.CX P w) 4 f fd ["one", "other"] spCommon := by
  refine F.okX sc_common_row (fun vs H Q E h => ?_) (fun cdv A outer s H us Q E hr h => ?_)
  · obtain ⟨X, v1, v2, d1, d2, ws, vs, rfl, _⟩ := h
    rfl
  · obtain ⟨X, v1, v2, d1, d2, ws, vs, rfl, t, nt, r1, r2, T1, T2, g1, g2, q⟩ := h
    refine ⟨_, (pss_cons (ps_expr (pe_ownX O_check_texts hr (by decide) (takes_of rfl rfl rfl rfl) (by rfl) (pa_cons (pe_lst (pa_cons (pv 0) (pa_cons (pv 1) pa_nil))) pa_nil)))
    (pss_cons (ps_set (i := 2) sc_common_row.nd rfl (by first | exact Or.inl rfl | exact Or.inr rfl) (pe_lst pa_nil))
    (pss_cons (ps_for (passes_of rfl) rfl (pi_list (pe_own O_longest_levels hr (by decide) (by rfl) (pa_cons (pv 0) (pa_cons (pv 1) pa_nil)))) (pg_name (i := 3) sc_common_row.nd rfl (by first | exact Or.inl rfl | exact Or.inr rfl))
    (pss_one (ps_expr (pe_bm PySem.F.plainAttrs_list PySem.F.slot_list_append PySem.F.type_list_append mt_append (pv 2) (pa_cons (pe_ix (ix_seqK (K := K) rfl) (pe_lc (own := [("match", 4)]) (g := (gName 4)) (tt := (tOr (tTest (tOp (rEqD K) (tCB (fun xs H Q => ∃ x n, xs = [x] ∧ LenV K x H n ∧ Q (V.int n) H) (tCons (tVar 2) tNil)) (tC (.int 0)))) (tB (tCall (sp2 pqPre fun a b => .bool (behD a b)) [] E0 (tCons (tVar 4) (tCons (tOp (rIx K) (tVar 2) (tUn (rU fun i => .int (-i)) (tC (.int 1)))) tNil)))))) rfl sc_common_row.nd (pi_list (pv 3)) (blkOk_by (N := n_common_row) (sc := defScope s_common_row) (by decide +kernel)) (fun _ _ _ _ _ => (pg_name (i := 4) sc_common_row.nd rfl (by first | exact Or.inl rfl | exact Or.inr rfl))) (fun _ _ _ _ _ => (pts_one (PW.pt (pw_or (pt_cmpR (op_eqD hr.units) (pe_callB call_len (by rfl) T.b_len boot_len (pa_cons (pv 2) pa_nil)) pe_int (nomark _)) (pw_or1 (pt_val (pe_own O_comes_behind hr (by decide) (by rfl) (pa_cons (pv 4) (pa_cons (pe_ix (ix_seqK (K := K) rfl) (pv 2) (pe_un un_neg pe_int) (fun _ _ => rfl)) pa_nil))))))))) (fun _ _ _ _ _ => (pv 4))) pe_int (fun _ _ => rfl)) pa_nil)))))
    (pss_one (ps_ret (pv 2)))))), ?_⟩
    have En : EnvOk X H (L2.start n_common_row [v1, v2]) [.dat d1, .dat d2, .un, .un, .un] := env2 (N := n_common_row) r1 r2 (by decide)
    refine k_drop (c_X1 t (g_lst t (ga_cons (g_var (i := 0) (d := d1) En rfl) (ga_cons (g_var (i := 1) (d := d2) En rfl) ga_nil)) (by simp)) ⟨[d1, d2], rfl, by simp; exact ⟨g1.2, g2.2⟩⟩ ⟨fun r e w0 H1 s1 dw _ => ?_, fun C' fl r e a v H1 s1 ea dv => ?_⟩)
    rotate_left
    · exfalso
      rw [show textsOutN C (itemsD (.list [d1, d2])) = .val .none from textsN_ok (by simp [itemsD]; exact ⟨g1.1, g2.1⟩)] at e
      cases e
    have E1 := En.same s1
    have t1 := t.mono s1
    have n1 := nt.mono t s1
    obtain ⟨M, hM⟩ : ∃ M, M = Mw ws vs := ⟨_, rfl⟩
    have lL : L M ws.length vs.length ≤ 60 := by
      have := L_le (M := M) (i := ws.length) (j := vs.length)
      have := T1.few
      omega
    refine k_own (i := 2) E1 t1 (gn_lst t1 ga_nil (by simp)) fun Lr H2 xs2 f2 s2 h2 x2 E2 t2 => ?_
    let X' : Addr → Prop := fun b => X b ∨ b = Lr
    have nX : ¬ X Lr := t1.new f2
    have n2 : NoT X' H2 := fun a ha xs e => ha.elim (fun h => (n1.mono t1 s2) a h xs e) fun h => by rw [h, h2] at e; cases e
    let Γ : List Sv := [.dat d1, .dat d2, .val (.ref Lr), .un, .un]
    have E2 : EnvOk X' H2 _ Γ := E2
    have GL := g_longest (E := E0) t2 n2 (g_var (i := 0) (d := d1) E2 rfl) (g_var (i := 1) (d := d2) E2 rfl) T1 T2
    rw [← hM] at GL q
    refine s_forD (X := X') (ds := (List.range (L M ws.length vs.length)).map fun k => rowD (ofLev (keptC M ws.length vs.length) k)) (gi_list GL) (fun Hb k σ' H' => Kp X' Hb H' ∧ Trk X' H' ∧ Same H1 H' ∧ ∃ ys, H' Lr = some (.lst ys) ∧ DXs X' H' ys ((rowG M ws.length vs.length k).map prD) ∧ EnvOk X' H' σ' Γ) ?_ ?_ ?_ ?_
    · intro Hb sb
      cases x2
      exact ⟨Kp.refl, t2.mono sb, s2.trans sb, [], sb _ _ h2, .nil, E2.same sb⟩
    · rintro Hb k σ' H' ⟨p1, p2, _⟩
      exact ⟨p1, p2⟩
    · rintro Hb k x d σ' H' H'' sb hd ⟨p1, p2, p3, ys, p4, p5, E⟩ s5 dx
      rw [List.getElem?_map] at hd
      obtain ⟨k', hk', rfl⟩ := Option.map_eq_some_iff.mp hd
      have hk : k' = k ∧ k < L M ws.length vs.length := by
        obtain ⟨hl, e⟩ := List.getElem?_eq_some_iff.mp hk'
        rw [List.getElem_range] at e
        rw [List.length_range] at hl
        exact ⟨e.symm, hl⟩
      obtain ⟨rfl, lk⟩ := hk
      refine k_name ?_
      have E5 := (E.same s5).set (i := 3) dx
      have t5 := p2.mono s5
      have h5 := s5 _ _ p4
      have x5 := p5.mono (Kp.of s5)
      have gone := gone_row (M := M) (n := ws.length) (m := vs.length) k' (by omega)
      obtain ⟨p, r, er⟩ := next_some gone lk
      have estep : rowG M ws.length vs.length (k' + 1) = rowG M ws.length vs.length k' ++ [p] := by
        show stepR _ _ = _
        unfold stepR
        rw [er]
      have llen : (rowG M ws.length vs.length k').length = k' := gone.len
      have EG : EnvOk X H'' (σ'.set 3 (some x)) [.dat d1, .dat d2, .dat (rowD (rowG M ws.length vs.length k')), .dat (rowD (ofLev (keptC M ws.length vs.length) k')), .un] := EnvOk.give (i := 2) E5 rfl nX h5 x5
      have tG : Trk X H'' := fun a h => t5 a (.inl h)
      have fewp : (ofLev (keptC M ws.length vs.length) k').length ≤ 3600 := by
        unfold ofLev keptC
        rw [List.length_map]
        have h1 := lvC_len (M := M) (m := vs.length) (i := ws.length)
        have h2 : ws.length * vs.length ≤ 60 * 60 := Nat.mul_le_mul T1.few T2.few
        exact Nat.le_trans (List.length_filter_le _ _) (Nat.le_trans (List.length_filter_le _ _) (by omega))
      generalize rowG M ws.length vs.length k' = row at *
      generalize ofLev (keptC M ws.length vs.length) k' = ps at *
      refine k_drop1 (k_drop ?_)
      refine ⟨.ref Lr, E5.get 2 _ rfl, .inl ⟨rfl, _, SqL.of h5⟩, ?_⟩
      refine k_cons ?_
      refine (g_ixL (z := prD p) (ds := ((ps.map prD).filter fun z => okNext row (prOf z)).map fun z => z) tG (g_lc (ds := ps.map prD) (Γ2 := fun z => ([.dat d1, .dat d2, .dat (rowD row), .dat (rowD ps), .un].set 4 .un).set 4 (.dat z)) (fun z => okNext row (prOf z)) (fun z => z) tG (gi_list (g_var (i := 3) (d := rowD ps) EG rfl)) (by rw [List.length_map]; omega) (fun H3 s3 z hz => tgt_name (EG.same s3)) (fun X2 H3 σ2 z hz t3 E3 => ?_) (fun X2 H3 σ2 z hz _ t3 E3 => g_var (i := 4) (d := z) E3 rfl)) g_int (by rw [filt_pr, er, List.map_id']; exact atI_nat (j := 0) rfl)) H'' (Same.refl _) _ fun v H6 s6 r6 => ⟨Lr, ys, v, rfl, rfl, s6 _ _ h5, by rw [x5.length, List.length_map, llen, sizeLine_eq]; omega, ?_⟩
      · obtain ⟨b, hb, rfl⟩ := List.mem_map.mp hz
        rw [prOf_prD]
        rcases snoc (l := row) with rfl | ⟨r', q', rfl⟩
        · refine gt_is (gt_or (a := true) (b := true) (gt_is (gt_eqI t3 (g_len t3 (g_var (i := 2) (d := rowD []) E3 rfl) rfl) g_int) rfl) fun h => by cases h) rfl
        · rw [ok_last]
          refine gt_is (gt_or (a := false) (b := bhB q' b) (gt_is (gt_eqI t3 (g_len t3 (g_var (i := 2) (d := rowD (r' ++ [q'])) E3 rfl) rfl) g_int) ?_) fun _ => gt_B (g_is (g_call2 t3 (g_var (i := 4) (d := prD b) E3 rfl) (g_ixL t3 (g_var (i := 2) (d := rowD (r' ++ [q'])) E3 rfl) g_neg1 atI_last) ⟨pq_pr b, pq_pr q'⟩) (by rw [beh_pr]))) rfl
          show decide ((((r' ++ [q']).map prD).length : Int) = 0) = false
          rw [List.length_map, List.length_append, List.length_singleton]
          exact decide_eq_false (by omega)
      have n6 : Lr ≠ Lr ∨ True := .inr trivial
      obtain ⟨qq, xs, rfl, nq, eq, rq⟩ := r6.tup_inv
      have h6 := s6 _ _ h5
      have nql : qq ≠ Lr := fun z => by rw [z, h6] at eq; cases eq
      have dv : DX X' H6 (.ref qq) (prD p) := .tup (fun z => z.elim nq nql) eq (by
        cases rq with
        | cons a rq =>
          cases rq with
          | cons b rq =>
            cases rq
            rw [a.int_inv, b.int_inv]
            exact .cons (.int _) (.cons (.int _) .nil))
      have kp : Kp X' H6 (upd H6 Lr (.lst (ys ++ [.ref qq]))) := Kp.put (.inr rfl)
      refine ⟨((p1.trans (Kp.of s5)).trans (Kp.of s6)).trans kp, (t5.mono s6).put, fun a o e => ?_, ys ++ [.ref qq], upd_same, ?_, envUn' ((E5.same s6).mono kp) 3⟩
      · have : a ≠ Lr := fun z => by rw [z, f2] at e; cases e
        rw [upd_ne this]
        exact s6 _ _ (s5 _ _ (p3 a o e))
      · rw [estep, List.map_append]
        exact (((x5.mono (Kp.of s6)).mono kp).append (.cons (dv.mono kp) .nil))
    · rintro Hb σ' H' sb ⟨p1, p2, p3, ys, p4, p5, E⟩
      rw [List.length_map, List.length_range] at p5
      show tRet (tVar 2) { nx := fun _ H' => Q .non H', rt := Q } σ' H'
      exact ⟨_, E.get 2 _ rfl, q _ H' (s1.trans p3) (.lst nX p4 (p5.less fun _ => .inl)) fun a z => by cases z; exact s1.free f2⟩
end K52

/-! A text near to another one. -/
namespace K52
open PySem PySem.Spec PyProof.Rows L2 KD KL
variable {P : Program} {w : World} {K : PySem.W.Frag} {mg : Str → Option Value} {base : Heap}
def nW : List Str := ["x", "y", "z", "", "a b", "0", "new"]
def Nw7 (ds : List PyData) : Prop := ∀ d ∈ ds, d ∈ nW.map PyData.str
theorem Nw7.app {a b : List PyData} (h : Nw7 a) (k : Nw7 b) : Nw7 (a ++ b) := fun d hd => (List.mem_append.mp hd).elim (h d) (k d)
theorem Nw7.cut {a : List PyData} {lo hi : Option Int} (h : Nw7 a) : Nw7 (cutPD a lo hi) := fun d hd => h d (List.mem_of_mem_drop (List.mem_of_mem_take hd))
theorem cutPD_len (ds : List PyData) (lo hi : Option Int) : (cutPD ds lo hi).length ≤ ds.length := by
  unfold cutPD
  rw [List.length_take, List.length_drop]
  omega
section
variable {X : Addr → Prop} {σ : L2.St} {H : Hp} {g : TG} {tu tz : TS} {D : Ends} {ta : TA} {te : TE} {Q : VK}
def ForR (g : TG) (tb : TS) (D : Ends) (σ : L2.St) (vs : List V) (H1 : Hp) : Prop := ∃ j : Int, vs = [.int j] ∧ -(2 ^ 62) ≤ j ∧ j < 2 ^ 62 ∧ tFor (fun _ H R => R (Itr 0 j.toNat) H) g tb D σ H1
theorem k_forR (h : ta σ H fun vs H1 => ForR g tu { D with nx := tz D } σ vs H1) : tSeq (tFor (iRng1 ta) g tu) tz D σ H := h
theorem k_lst (h : ta σ H fun vs H1 => vs.length ≤ sizeLine ∧ ∀ p, H1 p = none → Q (.ref p) (upd H1 p (.lst vs))) : tLst ta σ H Q := h
theorem rd_addL {xs ys : List PyData} (h : xs.length + ys.length ≤ 1000000) : RD X rAddA (.list xs) (.list ys) (.list (xs ++ ys)) := RD.or2 (RD.or1 (rd_cat h))
end
abbrev s__law_m_near : Stmt := topS 26
abbrev n__law_m_near : List Str := ["_law_stream", "_law_text", "_law_most", "_law_found", "_law_k", "_law_at", "_law_way"]
theorem sc__law_m_near : FnScope n__law_m_near ["_law_stream", "_law_text", "_law_most"] (defScope s__law_m_near) := ⟨rfl, rfl, rfl, by decide +kernel, rfl, by decide +kernel, by decide +kernel⟩
def spNear : Sp := fun vs H Q _ => ∃ (X : Addr → Prop) (st cl : Addr) (n m : Nat) (v1 : V) (ds : List PyData), vs = [.ref st, v1, .int (m : Int)] ∧ Sg X st cl n H ∧ n + 100 ≤ 1000000000 ∧ DX X H v1 (.list ds) ∧ ds.length ≤ 8 ∧ Nw7 ds ∧ m ≤ 20 ∧ ∀ w es H', es.length ≤ m → Nw7 es → Sg X st cl (n + 20) H' → KpS st cl H H' → DX X H' w (.list es) → Q w H'
theorem ok_m_near {f : Addr} {fd : FuncData} (F : Fun K "_law_m_near" "_law_m_near" s__law_m_near f fd) (T : Bl mg) (O__law_draw : Own P w K mg base CX0 1 "_law_draw" ["_law_stream", "_law_many"] spDraw) (O__law_pick : Own P w K mg base CX0 2 "_law_pick" ["_law_stream", "_law_some"] spPick) :
    FnOk P w K mg base CX0 3 f fd ["_law_stream", "_law_text", "_law_most"] spNear := by
  refine F.ok sc__law_m_near (fun vs H Q E h => ?_) (fun cdv A outer s H vs Q E hr h => ?_)
  · obtain ⟨X, st, cl, n, m, v1, ds, rfl, _⟩ := h
    rfl
  · obtain ⟨X, st, cl, n, m, v1, ds, rfl, S, hn, d1, l1, w1, hm, q⟩ := h
    refine ⟨_, (pss_cons (ps_set (i := 3) sc__law_m_near.nd rfl (by first | exact Or.inl rfl | exact Or.inr rfl) (pe_callTy call_list_of (by rfl) T.b_list boot_list (pa_cons (pv 1) pa_nil)))
    (pss_cons (ps_for PassesOwn.never rfl (pi_range1 (by rfl) T.b_range (pa_cons (pe_op op_addA pe_int (pe_own O__law_draw hr (by decide) (by rfl) (pa_cons (pv 0) (pa_cons pe_int pa_nil)))) pa_nil)) (pg_name (i := 4) sc__law_m_near.nd rfl (by first | exact Or.inl rfl | exact Or.inr rfl))
    (pss_cons (ps_par (i := 5) (j := 6) (by rfl) sc__law_m_near.nd rfl rfl (by decide) rfl rfl (pa_cons (pe_own O__law_draw hr (by decide) (by rfl) (pa_cons (pv 0) (pa_cons (pe_op op_addA (pe_callB call_len (by rfl) T.b_len boot_len (pa_cons (pv 3) pa_nil)) pe_int) pa_nil))) (pa_cons (pe_own O__law_draw hr (by decide) (by rfl) (pa_cons (pv 0) (pa_cons pe_int pa_nil))) pa_nil)) (by rfl))
    (pss_one (ps_if (pt_cmpR (op_eqD hr.units) (pv 6) pe_int (nomark _))
    (pss_one (ps_set (i := 3) sc__law_m_near.nd rfl (by first | exact Or.inl rfl | exact Or.inr rfl) (pe_op op_addA (pe_slice sl_list (pv 3) po_none (po_some (pv 5))) (pe_slice sl_list (pv 3) (po_some (pe_op op_addA (pv 5) pe_int)) po_none)))) (pss_one (ps_if (pt_cmpR (op_eqD hr.units) (pv 6) pe_int (nomark _))
    (pss_one (ps_set (i := 3) sc__law_m_near.nd rfl (by first | exact Or.inl rfl | exact Or.inr rfl) (pe_op op_addA (pe_op op_addA (pe_slice sl_list (pv 3) po_none (po_some (pv 5))) (pe_lst (pa_cons (pe_own O__law_pick hr (by decide) (by rfl) (pa_cons (pv 0) (pa_cons (pe_op op_addA (pv 1) (pe_lst (pa_cons pe_str (pa_cons pe_str pa_nil)))) pa_nil))) pa_nil))) (pe_slice sl_list (pv 3) (po_some (pv 5)) po_none)))) (pss_one (ps_if (pt_cmpR (op_eqD hr.units) (pv 6) pe_int (nomark _))
    (pss_one (ps_set (i := 3) sc__law_m_near.nd rfl (by first | exact Or.inl rfl | exact Or.inr rfl) (pe_op op_addA (pe_op op_addA (pe_slice sl_list (pv 3) po_none (po_some (pv 5))) (pe_lst (pa_cons pe_str pa_nil))) (pe_slice sl_list (pv 3) (po_some (pe_op op_addA (pv 5) pe_int)) po_none)))) (pss_one (ps_set (i := 3) sc__law_m_near.nd rfl (by first | exact Or.inl rfl | exact Or.inr rfl) (pe_op op_addA (pe_slice sl_list (pv 3) (po_some (pv 5)) po_none) (pe_slice sl_list (pv 3) po_none (po_some (pv 5))))))))))))))
    (pss_one (ps_ret (pe_slice sl_list (pv 3) po_none (po_some (pv 2))))))), ?_⟩
    have En : EnvOk X H (L2.start n__law_m_near [.ref st, v1, .int (m : Int)]) [.val (.ref st), .dat (.list ds), .dat (.int (m : Int)), .un, .un, .un, .un] := ⟨rfl, fun i s e => by
      match i, e with
      | 0, e => cases e; rfl
      | 1, e => cases e; exact ⟨_, rfl, d1⟩
      | 2, e => cases e; exact ⟨_, rfl, .int _⟩
      | 3, e => cases e; trivial
      | 4, e => cases e; trivial
      | 5, e => cases e; trivial
      | 6, e => cases e; trivial
      | _ + 7, e => cases e⟩
    refine q_set (i := 3) (d := .list ds) En (g_listOf S.t (g_var (i := 1) (d := .list ds) En rfl) rfl) fun H1 v3 s1 E1 => ?_
    have S1 := S.same s1
    have k1 := KpS.of (st := st) (cl := cl) s1
    refine k_forR (k_cons (k_op (g_int (X := X) (i := 1) H1 (Same.refl _) _ fun v4 H2 s2 r2 => ?_)))
    have S2 := S1.same s2
    have r2' := r2.int_inv
    subst r2'
    refine c_draw (m := 3) S2 (gv_var (i := 0) (E1.same s2) rfl) g_int (by omega) (by decide) (by decide) fun j H3 j0 j1 S3 k3 => ?_
    refine .inl ⟨1, j, rfl, rfl, ?_⟩
    refine ⟨1 + j, rfl, by omega, by omega, ?_⟩
    have k4 := (k1.trans (KpS.of s2)).trans k3
    refine for_it walk_range (fun i σ' H' => ∃ es : List PyData, es.length ≤ 8 + i ∧ Nw7 es ∧ Sg X st cl (n + 1 + 3 * i) H' ∧ KpS st cl H H' ∧ EnvOk X H' σ' [.val (.ref st), .dat (.list ds), .dat (.int (m : Int)), .dat (.list es), .un, .un, .un]) ⟨ds, by omega, w1, S3, k4, (E1.same s2).kps S2 k3⟩ (fun _ _ _ _ _ => trivial) (fun i x σ' H4 H5 hi p y => ?_) (fun σ' H4 p => ?_)
    rotate_left
    · obtain ⟨es, p1, p2, p3, p4, E⟩ := p
      refine k_ret (g_sl (K := K) p3.t (g_var (i := 3) (d := .list es) E rfl) go_none (go_some (g_var (i := 2) E rfl)) H4 (Same.refl _) _ fun w H5 s5 dw => q w _ H5 ?_ (Nw7.cut p2) ((p3.same s5).le ?_) (p4.trans (KpS.of s5)) dw)
      · show ((es.drop (HT.sIx es.length 0 none)).take (HT.sIx es.length es.length (some (m : Int)) - HT.sIx es.length 0 none)).length ≤ m
        rw [sIx_nn (by omega), List.length_take]
        show min (min (m : Int).toNat es.length - 0) _ ≤ m
        omega
      · have : (1 + j).toNat ≤ 3 := by omega
        omega
    · obtain ⟨rfl, rfl⟩ := y
      obtain ⟨es, p1, p2, p3, p4, E⟩ := p
      have hi3 : i < 3 := by omega
      refine k_name ?_
      have E6 := E.setV (i := 4) (v := .int (0 + (i : Int)))
      have t6 := p3.t
      refine k_par (c_draw (m := ((es.length : Int) + 1)) p3 (gv_var (i := 0) E6 rfl) (g_addI t6 (g_len t6 (g_var (i := 3) (d := .list es) E6 rfl) rfl) g_int) (by omega) (by omega) (by omega) fun at_ H6 a0 a1 S6 k6 => ?_)
      have E7 := E6.kps p3 k6
      refine c_draw (m := 4) S6 (gv_var (i := 0) E7 rfl) g_int (by omega) (by decide) (by decide) fun way H7 b0 b1 S7 k7 => ⟨_, _, rfl, ?_⟩
      have E8 := ((E7.kps S6 k7).set (i := 5) (v := .int at_) (d := .int at_) (.int _)).set (i := 6) (v := .int way) (d := .int way) (.int _)
      have k8 := p4.trans (k6.trans k7)
      clear E E6 E7 S6 k6 k7 p3 p4 t6
      have sh : ∀ i : Int, SeqAt.shaped (.int i) = true := shaped_int
      have fin : ∀ {H9 : Hp} {es' : List PyData} {v : V} {mm : Nat}, es'.length ≤ 8 + (i + 1) → Nw7 es' → mm ≤ n + 1 + 3 * (i + 1) → Sg X st cl mm H9 → KpS st cl H H9 → EnvOk X H9 (((σ'.set 4 (some (.int (0 + (i : Int))))).set 5 (some (.int at_))).set 6 (some (.int way))) [.val (.ref st), .dat (.list ds), .dat (.int (m : Int)), .dat (.list es), .val (.int (0 + (i : Int))), .dat (.int at_), .dat (.int way)] → DX X H9 v (.list es') → ∃ es : List PyData, es.length ≤ 8 + (i + 1) ∧ Nw7 es ∧ Sg X st cl (n + 1 + 3 * (i + 1)) H9 ∧ KpS st cl H H9 ∧ EnvOk X H9 ((((σ'.set 4 (some (.int (0 + (i : Int))))).set 5 (some (.int at_))).set 6 (some (.int way))).set 3 (some v)) [.val (.ref st), .dat (.list ds), .dat (.int (m : Int)), .dat (.list es), .un, .un, .un] := fun a b c S k E d => ⟨_, a, b, S.le c, k, envUn' (envUn' (envUn' (E.set (i := 3) d) 4) 5) 6⟩
      have wn : ∀ s ∈ nW, Nw7 [.str s] := fun s hs d hd => by
        rw [List.mem_singleton.mp hd]
        exact List.mem_map.mpr ⟨s, hs, rfl⟩
      have c1 := cutPD_len es none (some at_)
      have c2 := cutPD_len es (some (at_ + 1)) none
      have c3 := cutPD_len es (some at_) none
      have tk : (cutPD es none (some at_)).length ≤ at_.toNat := by
        show ((es.drop (HT.sIx es.length 0 none)).take (HT.sIx es.length es.length (some at_) - HT.sIx es.length 0 none)).length ≤ _
        rw [sIx_nn a0, List.length_take]
        show min (min at_.toNat es.length - 0) _ ≤ _
        omega
      have dk : (cutPD es (some at_) none).length ≤ es.length - at_.toNat := by
        show ((es.drop (HT.sIx es.length 0 (some at_))).take _).length ≤ _
        rw [sIx_nn a0, List.length_take, List.length_drop]
        omega
      have dk1 : (cutPD es (some (at_ + 1)) none).length ≤ es.length - (at_ + 1).toNat := by
        show ((es.drop (HT.sIx es.length 0 (some (at_ + 1)))).take _).length ≤ _
        rw [sIx_nn (by omega), List.length_take, List.length_drop]
        omega
      refine s_if (gt_eqD S7.t (x := .int way) (y := .int 0) (g_var (i := 6) E8 rfl) g_int rfl rfl (sh _) (sh _)) (fun _ H9 s9 => ?_) fun _ H9 s9 => ?_
      · have S9 := S7.same s9
        have E9 := E8.same s9
        refine k_set1 (g_cat S9.t (g_sl (K := K) S9.t (g_var (i := 3) (d := .list es) E9 rfl) go_none (go_some (g_var (i := 5) E9 rfl))) (g_sl (K := K) S9.t (g_var (i := 3) (d := .list es) E9 rfl) (go_some (g_addI S9.t (g_var (i := 5) E9 rfl) g_int)) go_none) (by omega) H9 (Same.refl _) _ fun v HA sA dv => fin (by rw [List.length_append]; omega) (Nw7.app (Nw7.cut p2) (Nw7.cut p2)) (by omega) (S9.same sA) (k8.trans ((KpS.of s9).trans (KpS.of sA))) (E9.same sA) dv)
      refine s_if (gt_eqD (S7.same s9).t (x := .int way) (y := .int 1) (g_var (i := 6) (E8.same s9) rfl) g_int rfl rfl (sh _) (sh _)) (fun _ HB sB => ?_) fun _ HB sB => ?_
      · have S9 := (S7.same s9).same sB
        have E9 := (E8.same s9).same sB
        refine k_set1 (k_op (k_op (g_sl (K := K) S9.t (g_var (i := 3) (d := .list es) E9 rfl) go_none (go_some (g_var (i := 5) E9 rfl)) HB (Same.refl _) _ fun v5 HC sC rC => k_lst (k_cons ?_))))
        have SC := S9.same sC
        have EC := E9.same sC
        refine c_pick (ds := ds ++ [.str "x", .str "new"]) SC (gv_var (i := 0) EC rfl) (g_cat SC.t (g_var (i := 1) (d := .list ds) EC rfl) (g_lst SC.t (ga_cons g_str (ga_cons g_str ga_nil)) (by simp)) (by simp; omega)) (by omega) (by simp) (by simp; omega) fun w d HD hd SD kD dw => ?_
        have ED := EC.kps SC kD
        refine ⟨by show 1 ≤ sizeLine; decide, fun q1 hq => ?_⟩
        have sq : Same HD (upd HD q1 (.lst [w])) := Same.upd hq
        have SE := SD.same sq
        have EE := ED.same sq
        have dq : DX X (upd HD q1 (.lst [w])) (.ref q1) (.list [d]) := DX.newL SD.t (.cons dw .nil) hq
        have rC' := (rC.mono (SC.kp kD)).mono (Kp.of sq)
        refine rd_addL (xs := cutPD es none (some at_)) (ys := [d]) (by simp; omega) _ _ _ SE.t rC' dq _ fun x HG s2 dx => ?_
        have SG := SE.same s2
        have EG := EE.same s2
        refine g_sl (K := K) SG.t (g_var (i := 3) (d := .list es) EG rfl) (go_some (g_var (i := 5) EG rfl)) go_none HG (Same.refl _) _ fun y HI s3 dy => ?_
        refine rd_addL (xs := cutPD es none (some at_) ++ [d]) (ys := cutPD es (some at_) none) (by simp; omega) _ _ _ (SG.t.mono s3) (dx.mono (Kp.of s3)) dy _ fun z HJ s4 dz => ?_
        have nd : Nw7 [d] := fun d' hd' => by
          rw [List.mem_singleton.mp hd']
          rcases List.mem_append.mp hd with h | h
          · exact w1 d h
          · simp at h
            rcases h with rfl | rfl
            · exact wn "x" (by decide +kernel) _ List.mem_cons_self
            · exact wn "new" (by decide +kernel) _ List.mem_cons_self
        exact fin (by rw [List.length_append, List.length_append]; simp; omega) (Nw7.app (Nw7.app (Nw7.cut p2) nd) (Nw7.cut p2)) (by omega) ((SG.same s3).same s4) (k8.trans ((((KpS.of s9).trans (KpS.of sB)).trans (KpS.of sC)).trans (kD.trans ((KpS.of sq).trans ((KpS.of s2).trans ((KpS.of s3).trans (KpS.of s4))))))) ((EG.same s3).same s4) dz
      refine s_if (gt_eqD ((S7.same s9).same sB).t (x := .int way) (y := .int 2) (g_var (i := 6) ((E8.same s9).same sB) rfl) g_int rfl rfl (sh _) (sh _)) (fun _ HC sC => ?_) fun _ HC sC => ?_
      · have S9 := ((S7.same s9).same sB).same sC
        have E9 := ((E8.same s9).same sB).same sC
        refine k_set1 (g_cat S9.t (g_cat S9.t (g_sl (K := K) S9.t (g_var (i := 3) (d := .list es) E9 rfl) go_none (go_some (g_var (i := 5) E9 rfl))) (g_lst S9.t (ga_cons g_str ga_nil) (by simp)) (by simp; omega)) (g_sl (K := K) S9.t (g_var (i := 3) (d := .list es) E9 rfl) (go_some (g_addI S9.t (g_var (i := 5) E9 rfl) g_int)) go_none) (by simp; omega) HC (Same.refl _) _ fun v HA sA dv => fin (by rw [List.length_append, List.length_append]; simp; omega) (Nw7.app (Nw7.app (Nw7.cut p2) (wn "new" (by decide +kernel))) (Nw7.cut p2)) (by omega) (S9.same sA) (k8.trans ((((KpS.of s9).trans (KpS.of sB)).trans (KpS.of sC)).trans (KpS.of sA))) (E9.same sA) dv)
      · have S9 := ((S7.same s9).same sB).same sC
        have E9 := ((E8.same s9).same sB).same sC
        refine k_set1 (g_cat S9.t (g_sl (K := K) S9.t (g_var (i := 3) (d := .list es) E9 rfl) (go_some (g_var (i := 5) E9 rfl)) go_none) (g_sl (K := K) S9.t (g_var (i := 3) (d := .list es) E9 rfl) go_none (go_some (g_var (i := 5) E9 rfl))) (by omega) HC (Same.refl _) _ fun v HA sA dv => fin (by rw [List.length_append]; omega) (Nw7.app (Nw7.cut p2) (Nw7.cut p2)) (by omega) (S9.same sA) (k8.trans ((((KpS.of s9).trans (KpS.of sB)).trans (KpS.of sC)).trans (KpS.of sA))) (E9.same sA) dv)
end K52

/-! What is drawn: texts, differences. -/
namespace K52
open PySem PySem.Spec PyProof.Rows L2 KD
variable {P : Program} {w : World} {K : PySem.W.Frag} {mg : Str → Option Value} {base : Heap}
theorem c_mixed {X : Addr → Prop} {st cl : Addr} {n : Nat} {H : Hp} {σ : L2.St} {ts tm : TE} {E : XK} {ds : List PyData} {Q : VK} (S : Sg X st cl n H) (hv : GV ts σ H (.ref st)) (hm : G X tm σ H (.list ds)) (hn : n + ds.length ≤ 1000000000) (h1 : ds.length < 1000000)
    (k : ∀ w es H', es.Perm ds → Sg X st cl (n + ds.length) H' → KpS st cl H H' → DX X H' w (.list es) → Q w H') : tCall spMixed [] E (tCons ts (tCons tm tNil)) σ H Q :=
  hv H (Same.refl H) _ (hm H (Same.refl H) _ fun v H1 s1 r => ⟨X, st, cl, n, v, ds, rfl, S.same s1, hn, r, h1, fun w es H' hp S2 kk dw _ => k w es H' hp S2 ((KpS.of s1).trans kk) dw⟩)
theorem k_sl {te : TE} {to th : TO} {rs : V → Option Int → Option Int → Hp → VK → Prop} {σ : L2.St} {H : Hp} {Q : VK} (h : te σ H fun x H1 => to σ H1 fun l H2 => th σ H2 fun u H3 => rs x l u H3 Q) : tSl rs te to th σ H Q := h
theorem cutP_to (ds : List PyData) {q : Int} (hq : 0 ≤ q) : cutPD ds none (some q) = ds.take q.toNat := by
  show (ds.drop (HT.sIx ds.length 0 none)).take (HT.sIx ds.length ds.length (some q) - HT.sIx ds.length 0 none) = _
  rw [sIx_nn hq]
  show (ds.drop 0).take (min q.toNat ds.length - 0) = _
  rw [List.drop_zero, Nat.sub_zero]
  by_cases h : q.toNat ≤ ds.length
  · rw [Nat.min_eq_left h]
  · rw [Nat.min_eq_right (by omega), List.take_length, List.take_of_length_le (by omega)]
def mW : List Str := ["x", "y", "z", "", "a b", "0"]
def dW : List Str := ["x", "y", "z", "", "a b", " ", "line a.0 x", "0", "x"]
abbrev s__law_m_text : Stmt := topS 25
abbrev n__law_m_text : List Str := ["_law_stream", "_law_most", "_law_some", "_law_k"]
theorem sc__law_m_text : FnScope n__law_m_text ["_law_stream", "_law_most"] (defScope s__law_m_text) := ⟨rfl, rfl, rfl, by decide +kernel, rfl, by decide +kernel, by decide +kernel⟩
def spMText : Sp := fun vs H Q _ => ∃ (X : Addr → Prop) (st cl : Addr) (n m : Nat), vs = [.ref st, .int (m : Int)] ∧ Sg X st cl n H ∧ n + 100 ≤ 1000000000 ∧ m ≤ 20 ∧ ∀ w ws H', ws.length ≤ m → (∀ z ∈ ws, z ∈ mW) → Sg X st cl (n + 40) H' → KpS st cl H H' → DX X H' w (wsD ws) → Q w H'
theorem ok_m_text {f : Addr} {fd : FuncData} (F : Fun K "_law_m_text" "_law_m_text" s__law_m_text f fd) (T : Bl mg) (O__law_draw : Own P w K mg base CX0 1 "_law_draw" ["_law_stream", "_law_many"] spDraw) (O__law_pick : Own P w K mg base CX0 2 "_law_pick" ["_law_stream", "_law_some"] spPick) (O__law_mixed : Own P w K mg base CX0 2 "_law_mixed" ["_law_stream", "_law_some"] spMixed) :
    FnOk P w K mg base CX0 3 f fd ["_law_stream", "_law_most"] spMText := by
  refine F.ok sc__law_m_text (fun vs H Q E h => ?_) (fun cdv A outer s H vs Q E hr h => ?_)
  · obtain ⟨X, st, cl, n, m, rfl, _⟩ := h
    rfl
  · obtain ⟨X, st, cl, n, m, rfl, S, hn, hm, k⟩ := h
    refine ⟨_, (pss_cons (ps_set (i := 2) sc__law_m_text.nd rfl (by first | exact Or.inl rfl | exact Or.inr rfl) (pe_slice sl_list (pe_own O__law_mixed hr (by decide) (by rfl) (pa_cons (pv 0) (pa_cons (pe_lst (pa_cons pe_str (pa_cons pe_str (pa_cons pe_str (pa_cons pe_str (pa_cons pe_str (pa_cons pe_str pa_nil))))))) pa_nil))) po_none (po_some (pe_op op_addA pe_int (pe_own O__law_draw hr (by decide) (by rfl) (pa_cons (pv 0) (pa_cons pe_int pa_nil)))))))
    (pss_one (ps_ret (pe_lc (own := [("_law_k", 3)]) (g := (gName 3)) (tt := tYes) rfl sc__law_m_text.nd (pi_range1 (by rfl) T.b_range (pa_cons (pe_own O__law_draw hr (by decide) (by rfl) (pa_cons (pv 0) (pa_cons (pe_op op_addA (pv 1) pe_int) pa_nil))) pa_nil)) (blkOk_by (N := n__law_m_text) (sc := defScope s__law_m_text) (by decide +kernel)) (fun _ _ _ _ _ => (pg_name (i := 3) sc__law_m_text.nd rfl (by first | exact Or.inl rfl | exact Or.inr rfl))) (fun _ _ _ _ _ => pts_nil) (fun _ _ _ _ _ => (pe_own O__law_pick hr (by decide) (by rfl) (pa_cons (pv 0) (pa_cons (pv 2) pa_nil)))))))), ?_⟩
    have En : EnvOk X H (L2.start n__law_m_text [.ref st, .int (m : Int)]) (pad n__law_m_text [.val (.ref st), .dat (.int (m : Int))]) := env_s1 ⟨_, rfl, .int _⟩ (by decide)
    refine k_set (k_sl (c_mixed (ds := mW.map PyData.str) S (gv_var (i := 0) En rfl) (g_lst S.t (ga_strs mW) (by decide)) (by show n + 6 ≤ _; omega) (by decide) fun w1 es H1 hp S1 k1 d1 => ?_))
    have E1 := En.kps S k1
    refine k_op (c_draw (m := 3) S1 (gv_var (i := 0) E1 rfl) g_int (by show n + 6 ≤ _; omega) (by decide) (by decide) fun j H2 j0 j1 S2 k2 => ?_)
    have E2 := E1.kps S1 k2
    refine .inl ⟨2, j, rfl, rfl, ?_⟩
    obtain ⟨a, us, rfl, na, ea, ra⟩ := (d1.mono (S1.kp k2)).lst_inv
    refine ⟨2 + j, rfl, a, us, rfl, SqL.of ea, fun p hp2 => ?_⟩
    have s3 : Same H2 (upd H2 p (.lst (cutV us none (some (2 + j))))) := Same.upd hp2
    have les : es.length = 6 := hp.length_eq
    have d3 : DX X (upd H2 p (.lst (cutV us none (some (2 + j))))) (.ref p) (.list (es.take (2 + j).toNat)) := by
      have := DX.newL S2.t (ra.cut none (some (2 + j))) hp2
      rw [cutP_to es (by omega)] at this
      exact this
    have S3 := S2.same s3
    have E3 := (E2.same s3).set (i := 2) d3
    refine k_ret ?_
    refine c_draw (m := (m : Int) + 1) S3 (gv_var (i := 0) E3 rfl) (g_addI S3.t (g_var (i := 1) E3 rfl) g_int) (by show n + 6 + 1 ≤ _; omega) (by omega) (by omega) fun i H4 i0 i1 S4 k4 => ?_
    have E4 := E3.kps S3 k4
    refine ⟨i, rfl, by omega, by omega, ?_⟩
    refine lc_draws (X := X) (cl := cl) (i := 3) (m := i.toNat) (fun d => d ∈ mW.map PyData.str) S4 E4 (by omega) (fun X' H5 σ2 jj Q1 hj E5 S5 q1 => ?_) fun w ds H6 hl hd S6 k6 dw nw => ?_
    · refine c_pick (ds := es.take (2 + j).toNat) S5 (gv_var (i := 0) E5 rfl) (g_var (i := 2) E5 rfl) (by show n + 6 + 1 + 1 + jj ≤ _; omega) (by rw [List.length_take]; omega) (by rw [List.length_take]; omega) fun w d H7 hd S7 k7 dw => q1 w d H7 (hp.mem_iff.mp (List.mem_of_mem_take hd)) S7 k7 dw
    · obtain ⟨ws, rfl, hw⟩ := strs_of hd
      rw [List.length_map] at hl
      exact k w ws H6 (by omega) hw (S6.le (by show n + 6 + 1 + 1 + i.toNat ≤ _; omega)) (((k1.trans k2).trans ((KpS.of s3).trans k4)).trans k6) dw
abbrev s__law_m_passed : Stmt := topS 32
abbrev n__law_m_passed : List Str := ["_law_stream", "_law_text"]
theorem sc__law_m_passed : FnScope n__law_m_passed ["_law_stream", "_law_text"] (defScope s__law_m_passed) := ⟨rfl, rfl, rfl, by decide +kernel, rfl, by decide +kernel, by decide +kernel⟩
theorem g_tupOf {X : Addr → Prop} {σ : L2.St} {H : Hp} {te : TE} {ds : List PyData} (t : Trk X H) (h : G X te σ H (.list ds)) : G X (tCB (fun xs H Q => ∃ p ys, xs = [V.ref p] ∧ ((SqL K H p ys ∧ ∀ l, H l = none → Q (.ref l) (upd H l (.tup ys))) ∨ (SqT K H p ys ∧ Q (.ref p) H))) (tCons te tNil)) σ H (.tuple ds) :=
  g_cb t (ga_cons h ga_nil) (rf_tuple (K := K) (d := .list ds) rfl)
def spMPassed : Sp := fun vs H Q _ => ∃ (X : Addr → Prop) (st cl : Addr) (n : Nat) (v1 : V) (ds : List PyData), vs = [.ref st, v1] ∧ Sg X st cl n H ∧ n ≤ 1000000000 ∧ DX X H v1 (.list ds) ∧ ds.length ≤ 1000 ∧ ∀ w d H', (d = .list ds ∨ d = .tuple ds) → Sg X st cl (n + 1) H' → KpS st cl H H' → DX X H' w d → Q w H'
theorem ok_m_passed {f : Addr} {fd : FuncData} (F : Fun K "_law_m_passed" "_law_m_passed" s__law_m_passed f fd) (T : Bl mg) (O__law_pick : Own P w K mg base CX0 2 "_law_pick" ["_law_stream", "_law_some"] spPick) : FnOk P w K mg base CX0 3 f fd ["_law_stream", "_law_text"] spMPassed := by
  refine F.ok sc__law_m_passed (fun vs H Q E h => ?_) (fun cdv A outer s H vs Q E hr h => ?_)
  · obtain ⟨X, st, cl, n, v1, ds, rfl, _⟩ := h
    rfl
  · obtain ⟨X, st, cl, n, v1, ds, rfl, S, hn, d1, hl, k⟩ := h
    refine ⟨_, (pss_one (ps_ret (pe_own O__law_pick hr (by decide) (by rfl) (pa_cons (pv 0) (pa_cons (pe_lst (pa_cons (pe_callTy call_list_of (by rfl) T.b_list boot_list (pa_cons (pv 1) pa_nil)) (pa_cons (pe_callTy call_tuple_of (by rfl) T.b_tuple boot_tuple (pa_cons (pv 1) pa_nil)) pa_nil))) pa_nil))))), ?_⟩
    have En : EnvOk X H (L2.start n__law_m_passed [.ref st, v1]) (pad n__law_m_passed [.val (.ref st), .dat (.list ds)]) := env_s1 ⟨_, rfl, d1⟩ (by decide)
    refine k_ret (c_pick (ds := [.list ds, .tuple ds]) S (gv_var (i := 0) En rfl) (g_lst S.t (ga_cons (g_is (g_listOf S.t (g_var (i := 1) (d := .list ds) En rfl) rfl) rfl) (ga_cons (g_tupOf S.t (g_var (i := 1) (d := .list ds) En rfl)) ga_nil)) (by simp)) hn (by simp) (by simp) fun w d H' hd S' k' dw => k w d H' (by simpa using hd) S' k' dw)
end K52

/-! Whether a thing is a row, by the law. -/
namespace K52
open PySem PySem.Spec PyProof.Rows L2 KD KL
-- RAISES check_texts is_common_row common_row _law_turned_right
-- HINT _law_m_is_row it pi_seq
-- HINT _law_m_is_row zip RZ.pi_zipA
-- HINT _law_m_is_row lcte#1 (tAndV (tCB (rIsi K) (tCons (tVar 5) (tCons (tC (.ty "int")) tNil))) (tNotV (tCB (rIsi K) (tCons (tVar 5) (tCons (tC (.ty "bool")) tNil)))))
-- HINT _law_m_is_row slice sl_seq
-- HINT _law_m_is_row inNotIn (op_notInD (Nat.lt_of_le_of_lt (Nat.add_le_add_left (by decide : 65 ≤ 16 * 1 + 200) _) (Nat.add_assoc _ _ _ ▸ hr.un)))
variable {P : Program} {w : World} {K : PySem.W.Frag} {mg : Str → Option Value} {base : Heap}
theorem ok_behindQ {f : Addr} {fd : FuncData} (F : Fun K "_law_m_behind" "_law_m_behind" s__law_m_behind f fd) (T : Bl mg) : FnOk P w K mg base CX0 1 f fd ["_law_pair", "_law_near"] (sp2 pqPre fun a b => .bool (behD a b)) := by
  refine ok2 F sc__law_m_behind (by decide) fun cdv A outer s H E X d1 d2 Q hr t hp q => ⟨_, (pss_one (ps_ret (pe_and (pe_cmpR op_gt (pe_ix ix_seq (pv 0) pe_int (fun _ _ => rfl)) (pe_ix ix_seq (pv 1) pe_int (fun _ _ => rfl)) (nomark _)) (pe_one (pe_cmpR op_gt (pe_ix ix_seq (pv 0) pe_int (fun _ _ => rfl)) (pe_ix ix_seq (pv 1) pe_int (fun _ _ => rfl)) (nomark _)))))), fun σ En => ?_⟩
  obtain ⟨⟨a, b, s1, i1⟩, c, d, s2, i2⟩ := hp
  have e : behD d1 d2 = (decide (c < a) && decide (d < b)) := by unfold behD it; rw [i1, i2]; rfl
  rw [e] at q
  have ix1 : ∀ {k : Int} {z : PyData}, atI (itemsD d1) k = some z → G X (tOp (rIx K) (tVar 0) (tC (.int k))) σ H z := fun h => g_ix t (g_var (i := 0) (d := d1) En rfl) s1 g_int h
  have ix2 : ∀ {k : Int} {z : PyData}, atI (itemsD d2) k = some z → G X (tOp (rIx K) (tVar 1) (tC (.int k))) σ H z := fun h => g_ix t (g_var (i := 1) (d := d2) En rfl) s2 g_int h
  refine s_ret (X := X) (g_and (a := decide (c < a)) (b := decide (d < b)) (g_cmpI t (g := fun i j => decide (j < i)) (ix1 (z := .int a) (by rw [i1]; exact atI_nat (xs := [PyData.int a, .int b]) (j := 0) rfl)) (ix2 (z := .int c) (by rw [i2]; exact atI_nat (xs := [PyData.int c, .int d]) (j := 0) rfl))) fun _ => g_cmpI t (g := fun i j => decide (j < i)) (ix1 (z := .int b) (by rw [i1]; exact atI_nat (xs := [PyData.int a, .int b]) (j := 1) rfl)) (ix2 (z := .int d) (by rw [i2]; exact atI_nat (xs := [PyData.int c, .int d]) (j := 1) rfl))) q
abbrev s__law_m_is_row : Stmt := topS 31
abbrev n__law_m_is_row : List Str := ["_law_one", "_law_other", "_law_thing", "_law_pair", "_law_near", "_law_at"]
theorem sc__law_m_is_row : FnScope n__law_m_is_row ["_law_one", "_law_other", "_law_thing"] (defScope s__law_m_is_row) := ⟨rfl, rfl, rfl, by decide +kernel, rfl, by decide +kernel, by decide +kernel⟩
section
variable {X : Addr → Prop} {te ta tb : TE} {tl th : TO} {σ : L2.St} {H : Hp} {lo hi : Option Int} {ds : List PyData} {d : PyData}
theorem g_slL (t : Trk X H) (h : G X te σ H (.list ds)) (hl : GO tl σ H lo) (hh : GO th σ H hi) : G X (tSl (rSlQ K) te tl th) σ H (.list (cutPD ds lo hi)) := fun H1 s Q q =>
  h H1 s _ fun v H2 s2 r => hl H2 (s.trans s2) _ fun H3 s3 => hh H3 ((s.trans s2).trans s3) _ fun H4 s4 => by
    obtain ⟨a, xs, rfl, n, e, rx⟩ := (r.mono (Kp.of (s3.trans s4))).lst_inv
    exact .inl ⟨a, xs, rfl, SqL.of e, fun p hp => q _ _ (((s2.trans s3).trans s4).trans (Same.upd hp)) (DX.newL ((((t.mono s).mono s2).mono s3).mono s4) (rx.cut lo hi) hp)⟩
theorem g_slT (t : Trk X H) (h : G X te σ H (.tuple ds)) (hl : GO tl σ H lo) (hh : GO th σ H hi) : G X (tSl (rSlQ K) te tl th) σ H (.tuple (cutPD ds lo hi)) := fun H1 s Q q =>
  h H1 s _ fun v H2 s2 r => hl H2 (s.trans s2) _ fun H3 s3 => hh H3 ((s.trans s2).trans s3) _ fun H4 s4 => by
    obtain ⟨a, xs, rfl, n, e, rx⟩ := (r.mono (Kp.of (s3.trans s4))).tup_inv
    have lx := rx.length
    refine .inr ⟨a, xs, rfl, SqT.of e, fun hw => q _ _ ((s2.trans s3).trans s4) ?_, fun _ p hp => q _ _ (((s2.trans s3).trans s4).trans (Same.upd hp)) (DX.newT ((((t.mono s).mono s2).mono s3).mono s4) (rx.cut lo hi) hp)⟩
    have e2 : cutPD ds lo hi = ds := by
      show (ds.drop (HT.sIx ds.length 0 lo)).take (HT.sIx ds.length ds.length hi - HT.sIx ds.length 0 lo) = ds
      rw [← lx, hw.1, hw.2, List.drop_zero, Nat.sub_zero, lx, List.take_length]
    rw [e2]
    exact .tup n e rx
theorem gt_notIn (t : Trk X H) (ha : G X ta σ H d) (hb : G X tb σ H (.list ds)) (n1 : noDict d = true) (n2 : noDict (.list ds) = true) (s1 : SeqAt.shaped d = true) (s2 : SeqAt.shaped (.list ds) = true) : GT (tTest (tOp (rNotInD K) ta tb)) σ H (!ds.any fun z => PyData.eqv z d) :=
  gt_op t ha hb fun H u v _ ru rv Q q => ⟨d, ds, ru.dp n1, rv.dp n2, s1, s2, q⟩
theorem g_tupQ (t : Trk X H) (h : G X te σ H d) (hs : isSeq d = true) : G X (tCB (fun xs H Q => ∃ p ys, xs = [V.ref p] ∧ ((SqL K H p ys ∧ ∀ l, H l = none → Q (.ref l) (upd H l (.tup ys))) ∨ (SqT K H p ys ∧ Q (.ref p) H))) (tCons te tNil)) σ H (.tuple (itemsD d)) := g_cb t (ga_cons h ga_nil) (rf_tuple hs)
end
def irPre (a b c : PyData) : Prop := ws2 a b ∧ (isSeq c = true → (itemsD c).length ≤ 1000)
theorem row_no {ws vs : List Str} {d z : PyData} {i : Nat} (hz : (itemsD d)[i]? = some z) (h : isMatchD ws vs z = false) : isRowD ws vs d = false := by
  have : (itemsD d).all (isMatchD ws vs) = false := by
    rw [Bool.eq_false_iff]
    intro ha
    rw [List.all_eq_true] at ha
    have := ha z (List.mem_of_getElem? hz)
    rw [h] at this
    cases this
  unfold isRowD areD
  rw [this, Bool.and_false, Bool.false_and]
theorem zip_steps (l : List PyData) : ((zipD l (l.drop 1)).map fun z => behD (it z 1) (it z 0)).all id = stepsD l := by
  unfold zipD
  rw [Bool.eq_iff_iff, steps_iff, List.all_eq_true]
  constructor
  · intro h j a b ha hb
    have hz : (List.zipWith (fun d e => PyData.tuple [d, e]) l (l.drop 1))[j]? = some (.tuple [a, b]) := by
      rw [List.getElem?_zipWith, ha, List.getElem?_drop, Nat.add_comm, hb]
    exact h _ (List.mem_map.mpr ⟨_, List.mem_of_getElem? hz, rfl⟩)
  · intro h x hx
    obtain ⟨z, hz, rfl⟩ := List.mem_map.mp hx
    obtain ⟨j, hj⟩ := List.mem_iff_getElem?.mp hz
    rw [List.getElem?_zipWith, List.getElem?_drop, Nat.add_comm] at hj
    cases ea : l[j]? with
    | none => rw [ea] at hj; cases hj
    | some a =>
      cases eb : l[j + 1]? with
      | none => rw [ea, eb] at hj; cases hj
      | some b =>
        rw [ea, eb] at hj
        have hj := Option.some.inj hj
        subst hj
        exact h j a b ea eb
theorem zip_mem {l : List PyData} {z : PyData} (h : z ∈ zipD l (l.drop 1)) : ∃ a b, z = .tuple [a, b] ∧ a ∈ l ∧ b ∈ l := by
  unfold zipD at h
  obtain ⟨j, hj⟩ := List.mem_iff_getElem?.mp h
  rw [List.getElem?_zipWith, List.getElem?_drop, Nat.add_comm] at hj
  cases ea : l[j]? with
  | none => rw [ea] at hj; cases hj
  | some a =>
    cases eb : l[j + 1]? with
    | none => rw [ea, eb] at hj; cases hj
    | some b =>
      rw [ea, eb] at hj
      exact ⟨a, b, (Option.some.inj hj).symm, List.mem_of_getElem? ea, List.mem_of_getElem? eb⟩
theorem eqv_pair (a b c d : Int) : PyData.eqv (.tuple [.int a, .int b]) (.tuple [.int c, .int d]) = (decide (a = c) && decide (b = d)) := by
  have h1 := eqv_int a c
  have h2 := eqv_int b d
  simp only [PyData.eqv, PyData.eqvAll] at h1 h2 ⊢
  rw [h1, h2, Bool.and_true]
theorem in_matches {ws vs : List Str} {d : PyData} {i j : Int} (hs : isSeq d = true) (hi : itemsD d = [.int i, .int j]) : (((matchL ws vs).map prD).any fun z => PyData.eqv z (.tuple [.int i, .int j])) = isMatchD ws vs d := by
  have e : isMatchD ws vs d = ((decide (0 ≤ i) && decide (0 ≤ j)) && (decide (i < (ws.length : Int)) && (decide (j < (vs.length : Int)) && Mw ws vs i.toNat j.toNat))) := by
    unfold isMatchD
    rw [hs, lenD_seq hs]
    unfold it
    rw [hi]
    rfl
  rw [e, Bool.eq_iff_iff, List.any_eq_true]
  simp only [Bool.and_eq_true, decide_eq_true_eq]
  constructor
  · rintro ⟨z, hz, hq⟩
    obtain ⟨p, hp, rfl⟩ := List.mem_map.mp hz
    obtain ⟨a, b⟩ := p
    have hm := (psL_mem _).mp (show (a, b) ∈ psL (Mw ws vs) ws.length vs.length from hp)
    have hq : PyData.eqv (.tuple [.int (a : Nat), .int (b : Nat)]) (.tuple [.int i, .int j]) = true := hq
    rw [eqv_pair, Bool.and_eq_true, decide_eq_true_iff, decide_eq_true_iff] at hq
    obtain ⟨rfl, rfl⟩ := hq
    obtain ⟨h1, h2, h3⟩ := hm
    exact ⟨⟨by omega, by omega⟩, by simp only at h1; omega, by simp only at h2; omega, by rw [Int.toNat_natCast, Int.toNat_natCast]; exact h3⟩
  · rintro ⟨⟨h1, h2⟩, h3, h4, h5⟩
    obtain ⟨a, rfl⟩ := Int.eq_ofNat_of_zero_le h1
    obtain ⟨b, rfl⟩ := Int.eq_ofNat_of_zero_le h2
    rw [Int.toNat_natCast, Int.toNat_natCast] at h5
    refine ⟨prD (a, b), List.mem_map.mpr ⟨(a, b), (psL_mem _).mpr ⟨by show a < ws.length; omega, by show b < vs.length; omega, h5⟩, rfl⟩, ?_⟩
    show PyData.eqv (.tuple [.int (a : Nat), .int (b : Nat)]) (.tuple [.int (a : Int), .int (b : Int)]) = true
    rw [eqv_pair, Bool.and_eq_true, decide_eq_true_iff, decide_eq_true_iff]
    exact ⟨rfl, rfl⟩
theorem match_no {ws vs : List Str} {z : PyData} (h : (isSeq z && decide (lenD z = 2)) = false) : isMatchD ws vs z = false := by
  unfold isMatchD
  rw [h]
  rfl
theorem match_int {ws vs : List Str} {z : PyData} (hs : isSeq z = true) (h2 : (itemsD z).length = 2) (h : (itemsD z).all isIntD = false) : isMatchD ws vs z = false := by
  rw [Bool.eq_false_iff] at h ⊢
  intro hm
  obtain ⟨i, j, _, hi⟩ := match_pq hm
  exact h (by rw [hi]; rfl)
theorem isIntD_is {d : PyData} (h : isIntD d = true) : ∃ i : Int, d = .int i := by
  cases d <;> first | exact ⟨_, rfl⟩ | cases h
theorem ok_is_row {f : Addr} {fd : FuncData} (F : Fun K "_law_m_is_row" "_law_m_is_row" s__law_m_is_row f fd) (T : Bl mg) (O__law_m_matches : Own P w K mg base CX0 1 "_law_m_matches" ["_law_one", "_law_other"] (sp2 ws2 fun a b => rowD (matchL (wsOf a) (wsOf b)))) (O__law_m_behind : Own P w K mg base CX0 1 "_law_m_behind" ["_law_pair", "_law_near"] (sp2 pqPre fun a b => .bool (behD a b))) : FnOk P w K mg base CX0 2 f fd ["_law_one", "_law_other", "_law_thing"] (sp3 irPre fun a b c => .bool (isRowD (wsOf a) (wsOf b) c)) := by
  refine ok3 F sc__law_m_is_row (by decide) fun cdv A outer s H E X d1 d2 d Q hr t hp q => ⟨_, (pss_cons (ps_if (pt_not (pt_val (pe_callB call_isiT (by rfl) T.b_isinstance boot_isinstance (pa_cons (pv 2) (pa_cons (pe_tup (pa_cons (pe_bltn (v := .ty "list") (by rfl) T.b_list boot_list rfl) (pa_cons (pe_bltn (v := .ty "tuple") (by rfl) T.b_tuple boot_tuple rfl) pa_nil))) pa_nil)))))
    (pss_one (ps_ret pe_bl)) pss_nil)
    (pss_cons (ps_for PassesOwn.never rfl (pi_seq (pv 2)) (pg_name (i := 3) sc__law_m_is_row.nd rfl (by first | exact Or.inl rfl | exact Or.inr rfl))
    (pss_cons (ps_if (PW.pt (pw_or (pt_not (pt_val (pe_callB call_isiT (by rfl) T.b_isinstance boot_isinstance (pa_cons (pv 3) (pa_cons (pe_tup (pa_cons (pe_bltn (v := .ty "list") (by rfl) T.b_list boot_list rfl) (pa_cons (pe_bltn (v := .ty "tuple") (by rfl) T.b_tuple boot_tuple rfl) pa_nil))) pa_nil))))) (pw_or1 (pt_cmpR (op_neD hr.units) (pe_callB call_len (by rfl) T.b_len boot_len (pa_cons (pv 3) pa_nil)) pe_int (nomark _)))))
    (pss_one (ps_ret pe_bl)) pss_nil)
    (pss_cons (ps_if (pt_not (pt_val (pe_callB (cr_all rfl) (by rfl) T.b_all boot_all (pa_cons (pe_lc (own := [("_law_at", 5)]) (g := (gName 5)) (tt := tYes) (te := (tAndV (tCB (rIsi K) (tCons (tVar 5) (tCons (tC (.ty "int")) tNil))) (tNotV (tCB (rIsi K) (tCons (tVar 5) (tCons (tC (.ty "bool")) tNil)))))) rfl sc__law_m_is_row.nd (pi_seq (pv 3)) (blkOk_by (N := n__law_m_is_row) (sc := defScope s__law_m_is_row) (by decide +kernel)) (fun _ _ _ _ _ => (pg_name (i := 5) sc__law_m_is_row.nd rfl (by first | exact Or.inl rfl | exact Or.inr rfl))) (fun _ _ _ _ _ => pts_nil) (fun _ _ _ _ _ => (pe_and (pe_callB call_isi (by rfl) T.b_isinstance boot_isinstance (pa_cons (pv 5) (pa_cons (pe_bltn (v := .ty "int") (by rfl) T.b_int boot_int rfl) pa_nil))) (pe_one (pe_not (pe_callB call_isi (by rfl) T.b_isinstance boot_isinstance (pa_cons (pv 5) (pa_cons (pe_bltn (v := .ty "bool") (by rfl) T.b_bool boot_bool rfl) pa_nil)))))))) pa_nil))))
    (pss_one (ps_ret pe_bl)) pss_nil)
    (pss_one (ps_if (pt_cmpR (op_notInD (Nat.lt_of_le_of_lt (Nat.add_le_add_left (by decide : 65 ≤ 16 * 1 + 200) _) (Nat.add_assoc _ _ _ ▸ hr.un))) (pe_callTy call_tuple_of (by rfl) T.b_tuple boot_tuple (pa_cons (pv 3) pa_nil)) (pe_own O__law_m_matches hr (by decide) (by rfl) (pa_cons (pv 0) (pa_cons (pv 1) pa_nil))) (by rfl))
    (pss_one (ps_ret pe_bl)) pss_nil)))))
    (pss_one (ps_ret (pe_callB (cr_all rfl) (by rfl) T.b_all boot_all (pa_cons (pe_lc (own := [("_law_near", 4), ("_law_pair", 3)]) (g := (gTup K 2 (gCons (gName 4) (gCons (gName 3) gNil)))) (tt := tYes) rfl sc__law_m_is_row.nd (RZ.pi_zipA (by rfl) T.b_zip (pa_cons (pv 2) (pa_cons (pe_slice sl_seq (pv 2) (po_some pe_int) po_none) pa_nil))) (blkOk_by (N := n__law_m_is_row) (sc := defScope s__law_m_is_row) (by decide +kernel)) (fun _ _ _ _ _ => (pg_tup (n := 2) rfl (pgs_cons (pg_name (i := 4) sc__law_m_is_row.nd rfl (by first | exact Or.inl rfl | exact Or.inr rfl)) (pgs_cons (pg_name (i := 3) sc__law_m_is_row.nd rfl (by first | exact Or.inl rfl | exact Or.inr rfl)) pgs_nil)))) (fun _ _ _ _ _ => pts_nil) (fun _ _ _ _ _ => (pe_own O__law_m_behind hr (by decide) (by rfl) (pa_cons (pv 3) (pa_cons (pv 4) pa_nil))))) pa_nil)))))), fun σ En => ?_⟩
  obtain ⟨hw, hl⟩ := hp
  have hw2 := hw
  obtain ⟨ws, vs, rfl, rfl, l1, l2, k1, k2⟩ := hw2
  rw [wsOf_wsD, wsOf_wsD] at q
  refine q_if (b := !isSeq d) (gt_not (gt_B (g_isSeq (g_var (i := 2) (d := d) En rfl)))) (fun hb H1 s1 => ?_) fun hb H1 s1 => ?_
  · have e : isRowD ws vs d = false := by
      unfold isRowD areD
      rw [Bool.not_eq_true'] at hb
      rw [hb]
      rfl
    rw [e] at q
    exact s_ret g_bl fun w H2 s2 dw => q w H2 (s1.trans s2) dw
  have hs : isSeq d = true := by rw [Bool.not_eq_false'] at hb; exact hb
  have ll := hl hs
  have E1 := En.same s1
  have t1 := t.mono s1
  let Γ : List Sv := [.dat (wsD ws), .dat (wsD vs), .dat d, .un, .un, .un]
  refine s_forD (X := X) (gi_seq (g_var (i := 2) (d := d) E1 rfl) hs) (fun Hb i σ' H' => Same Hb H' ∧ Trk X H' ∧ EnvOk X H' σ' Γ ∧ ∀ j < i, ∀ e, (itemsD d)[j]? = some e → isMatchD ws vs e = true) (fun Hb sb => ⟨Same.refl _, t1.mono sb, E1.same sb, fun j h => by omega⟩) (fun Hb i σ' H' p => ⟨Kp.of p.1, p.2.1⟩) ?_ ?_
  · rintro Hb i x z σ' H' H'' sb hz ⟨p1, p2, E0, p4⟩ s2 dx
    refine k_name ?_
    have E2 := (E0.same s2).set (i := 3) dx
    have t2 := p2.mono s2
    have noZ : isMatchD ws vs z = false → ∀ w H3, Same H'' H3 → DX X H3 w (.bool false) → Q w H3 := fun hm w H3 s3 dw => q w H3 ((((s1.trans sb).trans p1).trans s2).trans s3) (by rw [row_no hz hm]; exact dw)
    refine q_if (b := !(isSeq z && decide (lenD z = 2))) (gt_is (gt_or (a := !isSeq z) (b := !decide ((lenD z : Int) = 2)) (gt_not (gt_B (g_isSeq (g_var (i := 3) (d := z) E2 rfl)))) fun h => gt_neI (K := K) t2 (g_len t2 (g_var (i := 3) (d := z) E2 rfl) (hasLen_seq (by rw [Bool.not_eq_false'] at h; exact h))) g_int) ?_) (fun hb2 H3 s3 => ?_) fun hb2 H3 s3 => ?_
    · rw [Bool.not_and]
      congr 2
      exact decide_eq_decide.mpr (by omega)
    · rw [Bool.not_eq_true'] at hb2
      exact s_ret g_bl fun w H4 s4 dw => noZ (match_no hb2) w H4 (s3.trans s4) dw
    rw [Bool.not_eq_false', Bool.and_eq_true, decide_eq_true_iff] at hb2
    obtain ⟨hsz, h2⟩ := hb2
    rw [lenD_seq hsz] at h2
    have E3 := E2.same s3
    have t3 := t2.mono s3
    refine q_if (b := !(itemsD z).all isIntD) (gt_not (gt_B (g_is (g_all (bs := (itemsD z).map isIntD) t3 (g_is (g_lc1 (ds := itemsD z) (Γ2 := fun y => [.dat (wsD ws), .dat (wsD vs), .dat d, .dat z, .un, .dat y]) (fun y => .bool (isIntD y)) t3 (gi_seq (g_var (i := 3) (d := z) E3 rfl) hsz) (by omega) (fun H4 s4 y hy => tgt_name (E3.same s4)) (fun X2 H4 σ2 y hy t4 E4 => g_and (g_isInt (g_var (i := 5) (d := y) E4 rfl)) fun _ => g_not (g_isBool (g_var (i := 5) (d := y) E4 rfl)))) (by rw [List.map_map]; rfl))) (by rw [List.all_map]; rfl)))) (fun hb3 H4 s4 => ?_) fun hb3 H4 s4 => ?_
    · rw [Bool.not_eq_true'] at hb3
      exact s_ret g_bl fun w H5 s5 dw => noZ (match_int hsz h2 hb3) w H5 ((s3.trans s4).trans s5) dw
    rw [Bool.not_eq_false', List.all_eq_true] at hb3
    obtain ⟨a, b, hi⟩ : ∃ a b : Int, itemsD z = [.int a, .int b] := by
      match hd : itemsD z, h2 with
      | [u, v], _ =>
        obtain ⟨a, ea⟩ := isIntD_is (hb3 u (by rw [hd]; simp))
        obtain ⟨b, eb⟩ := isIntD_is (hb3 v (by rw [hd]; simp))
        exact ⟨a, b, by rw [ea, eb]⟩
    have E4 := E3.same s4
    have t4 := t3.mono s4
    refine s_if (b := !isMatchD ws vs z) (gt_is (gt_notIn (K := K) (d := .tuple [.int a, .int b]) (ds := (matchL ws vs).map prD) t4 (g_is (g_tupQ t4 (g_var (i := 3) (d := z) E4 rfl) hsz) (by rw [hi])) (g_is (g_call2 t4 (g_var (i := 0) (d := wsD ws) E4 rfl) (g_var (i := 1) (d := wsD vs) E4 rfl) hw) (by rw [wsOf_wsD, wsOf_wsD]; rfl)) (by simp [noDict, noDicts]) (row_shaped _).1 (by simp [SeqAt.shaped, PyData.canLay0, PyData.canLayAll0, PyData.depth, PyData.depthAll]) (row_sh _)) (by rw [in_matches hsz hi])) (fun hb4 H5 s5 => ?_) fun hb4 H5 s5 => ?_
    · rw [Bool.not_eq_true'] at hb4
      exact s_ret g_bl fun w H6 s6 dw => noZ hb4 w H6 (((s3.trans s4).trans s5).trans s6) dw
    · rw [Bool.not_eq_false'] at hb4
      refine ⟨(((p1.trans s2).trans s3).trans s4).trans s5, t4.mono s5, envUn' (E4.same s5) 3, fun j hj e he => ?_⟩
      by_cases h : j = i
      · subst h
        rw [hz] at he
        cases he
        exact hb4
      · exact p4 j (by omega) e he
  · rintro Hb σ' H' sb ⟨p1, p2, E0, p4⟩
    have hall : (itemsD d).all (isMatchD ws vs) = true := by
      rw [List.all_eq_true]
      intro z hz
      obtain ⟨j, hj⟩ := List.mem_iff_getElem?.mp hz
      exact p4 j (List.getElem?_eq_some_iff.mp hj).1 z hj
    have er : isRowD ws vs d = stepsD (itemsD d) := by
      unfold isRowD areD
      rw [hs, hall]
      rfl
    rw [er] at q
    rw [List.all_eq_true] at hall
    have gz : ∃ wi, GI X wi σ' H' (zipD (itemsD d) ((itemsD d).drop 1)) ∧ wi = RZ.iZipA K (tCons (tVar 2) (tCons (tSl (rSlQ K) (tVar 2) (tPart (tC (.int 1))) tNoPart) tNil)) := by
      refine ⟨_, ?_, rfl⟩
      cases d with
      | list ds =>
        have := gi_zipL (K := K) (g_var (i := 2) (d := .list ds) E0 rfl) (g_slL (K := K) (lo := some 1) (hi := none) p2 (g_var (i := 2) (d := .list ds) E0 rfl) (go_some (X := X) g_int) go_none)
        rw [cut_one] at this
        exact this
      | tuple ds =>
        have := gi_zipT (K := K) (g_var (i := 2) (d := .tuple ds) E0 rfl) (g_slT (K := K) (lo := some 1) (hi := none) p2 (g_var (i := 2) (d := .tuple ds) E0 rfl) (go_some (X := X) g_int) go_none)
        rw [cut_one] at this
        exact this
      | _ => cases hs
    obtain ⟨wi, gz, rfl⟩ := gz
    refine s_ret (X := X) (g_is (g_all (bs := (zipD (itemsD d) ((itemsD d).drop 1)).map fun z => behD (it z 1) (it z 0)) p2 (g_is (g_lc1 (ds := zipD (itemsD d) ((itemsD d).drop 1)) (Γ2 := fun z => [.dat (wsD ws), .dat (wsD vs), .dat d, .dat (it z 1), .dat (it z 0), .un]) (fun z => .bool (behD (it z 1) (it z 0))) p2 gz (by unfold zipD; rw [List.length_zipWith]; omega) (fun H3 s3 z hz => ?_) (fun X2 H3 σ2 z hz t3 E3 => ?_)) (by rw [List.map_map]; rfl))) (by rw [zip_steps])) fun w H9 s9 dw => q w H9 (((s1.trans sb).trans p1).trans s9) dw
    · obtain ⟨a, b, rfl, ha, hb⟩ := zip_mem hz
      exact tgt_pair (E0.same s3) (by decide)
    · obtain ⟨a, b, rfl, ha, hb⟩ := zip_mem hz
      exact g_call2 t3 (g_var (i := 3) (d := b) E3 rfl) (g_var (i := 4) (d := a) E3 rfl) ⟨match_pq (hall b hb), match_pq (hall a ha)⟩
end K52

/-! Gaps between two rows of one base, and what is merged: the mathematics. -/
namespace KL
variable {α : Type}
abbrev Tr := Nat × Nat × Nat
/-- what a row has at a place -/
def look (l : List Pr) (p : Nat) : Option Nat := (l.find? fun x => decide (x.1 = p)).map (·.2)
def ends (l r : List Pr) : List Tr := l.filterMap fun x => (look r x.1).map fun q => (x.1, x.2, q)
def cut (ws : List α) (a b : Nat) : List α := (ws.drop a).take (b - a)
def gapL (ws us vs : List α) : Tr → List Tr → List (List α × List α × List α)
  | _, [] => []
  | s, e :: r => (cut ws s.1 e.1, cut us s.2.1 e.2.1, cut vs s.2.2 e.2.2) :: gapL ws us vs (e.1 + 1, e.2.1 + 1, e.2.2 + 1) r
def swT (e : Tr) : Tr := (e.1, e.2.2, e.2.1)
def swG (g : List α × List α × List α) : List α × List α × List α := (g.1, g.2.2, g.2.1)
/-- strictly growing, both ways -/
def Inc (l : List Pr) : Prop := l.Pairwise bh
theorem look_some {l : List Pr} (h : Inc l) {p q : Nat} : look l p = some q ↔ (p, q) ∈ l := by
  unfold look
  constructor
  · intro e
    obtain ⟨x, hx, rfl⟩ := Option.map_eq_some_iff.mp e
    have h1 := List.find?_some hx
    have h2 := List.mem_of_find?_eq_some hx
    rw [decide_eq_true_iff] at h1
    subst h1
    exact h2
  · intro hm
    cases e : l.find? fun x => decide (x.1 = p) with
    | none =>
      have := List.find?_eq_none.mp e (p, q) hm
      simp at this
    | some x =>
      have h1 := List.find?_some e
      have h2 := List.mem_of_find?_eq_some e
      rw [decide_eq_true_iff] at h1
      have : x = (p, q) := by
        obtain ⟨i, hi, e1⟩ := List.mem_iff_getElem.mp h2
        obtain ⟨j, hj, e2⟩ := List.mem_iff_getElem.mp hm
        rcases Nat.lt_trichotomy i j with z | z | z
        · have := List.pairwise_iff_getElem.mp h i j hi hj z
          rw [e1, e2] at this
          have h3 := this.1
          simp only at h3
          omega
        · subst z
          rw [← e1, e2]
        · have := List.pairwise_iff_getElem.mp h j i hj hi z
          rw [e1, e2] at this
          have h3 := this.1
          simp only at h3
          omega
      rw [this]
      rfl
theorem ends_mem {l r : List Pr} (hl : Inc l) (hr : Inc r) {e : Tr} : e ∈ ends l r ↔ (e.1, e.2.1) ∈ l ∧ (e.1, e.2.2) ∈ r := by
  unfold ends
  rw [List.mem_filterMap]
  constructor
  · rintro ⟨x, hx, h⟩
    obtain ⟨q, hq, rfl⟩ := Option.map_eq_some_iff.mp h
    exact ⟨hx, (look_some hr).mp hq⟩
  · rintro ⟨h1, h2⟩
    exact ⟨(e.1, e.2.1), h1, by rw [(look_some hr).mpr h2]; rfl⟩
def bh3 (a b : Tr) : Prop := a.1 < b.1 ∧ a.2.1 < b.2.1 ∧ a.2.2 < b.2.2
theorem ends_inc {l r : List Pr} (hl : Inc l) (hr : Inc r) : (ends l r).Pairwise bh3 := by
  unfold ends
  rw [List.pairwise_filterMap]
  refine hl.imp fun {a b} hab x hx y hy => ?_
  obtain ⟨q, hq, rfl⟩ := Option.map_eq_some_iff.mp hx
  obtain ⟨s, hs, rfl⟩ := Option.map_eq_some_iff.mp hy
  have m1 := (look_some hr).mp hq
  have m2 := (look_some hr).mp hs
  refine ⟨hab.1, hab.2, ?_⟩
  obtain ⟨i, hi, e1⟩ := List.mem_iff_getElem.mp m1
  obtain ⟨j, hj, e2⟩ := List.mem_iff_getElem.mp m2
  rcases Nat.lt_trichotomy i j with z | z | z
  · have := List.pairwise_iff_getElem.mp hr i j hi hj z
    rw [e1, e2] at this
    exact this.2
  · subst z
    rw [e1] at e2
    have h1 : a.1 = b.1 := (Prod.mk.inj e2).1
    have := hab.1
    omega
  · have := List.pairwise_iff_getElem.mp hr j i hj hi z
    rw [e1, e2] at this
    have h1 := this.1
    have h2 := hab.1
    simp only at h1
    omega
/-- two growing rows of the same members are one -/
theorem inc_ext {R : Tr → Tr → Prop} (irr : ∀ a, ¬ R a a) (asy : ∀ a b, R a b → ¬ R b a) : ∀ {l r : List Tr}, l.Pairwise R → r.Pairwise R → (∀ x, x ∈ l ↔ x ∈ r) → l = r
  | [], [], _, _, _ => rfl
  | [], b :: r, _, _, h => absurd ((h b).mpr List.mem_cons_self) (by simp)
  | a :: l, [], _, _, h => absurd ((h a).mp List.mem_cons_self) (by simp)
  | a :: l, b :: r, h1, h2, h => by
    rw [List.pairwise_cons] at h1 h2
    have e : a = b := by
      rcases List.mem_cons.mp ((h a).mp List.mem_cons_self) with e | m
      · exact e
      · rcases List.mem_cons.mp ((h b).mpr List.mem_cons_self) with e | m2
        · exact e.symm
        · exact absurd (h1.1 b m2) (asy _ _ (h2.1 a m))
    subst e
    rw [inc_ext irr asy h1.2 h2.2 fun x => ?_]
    have na : a ∉ l := fun m => irr _ (h1.1 a m)
    have nb : a ∉ r := fun m => irr _ (h2.1 a m)
    constructor
    · intro hx
      rcases List.mem_cons.mp ((h x).mp (List.mem_cons_of_mem _ hx)) with e | m
      · exact absurd (e ▸ hx) na
      · exact m
    · intro hx
      rcases List.mem_cons.mp ((h x).mpr (List.mem_cons_of_mem _ hx)) with e | m
      · exact absurd (e ▸ hx) nb
      · exact m
theorem ends_swap {l r : List Pr} (hl : Inc l) (hr : Inc r) : ends r l = (ends l r).map swT := by
  refine inc_ext (R := bh3) (fun a h => absurd h.1 (by omega)) (fun a b h k => absurd h.1 (by have := k.1; omega)) (ends_inc hr hl) ?_ fun x => ?_
  · rw [List.pairwise_map]
    exact (ends_inc hl hr).imp fun {a b} h => ⟨h.1, h.2.2, h.2.1⟩
  · rw [ends_mem hr hl, List.mem_map]
    constructor
    · rintro ⟨h1, h2⟩
      exact ⟨(x.1, x.2.2, x.2.1), (ends_mem hl hr).mpr ⟨h2, h1⟩, rfl⟩
    · rintro ⟨y, hy, rfl⟩
      have := (ends_mem hl hr).mp hy
      exact ⟨this.2, this.1⟩
theorem gap_swap (ws us vs : List α) : ∀ (es : List Tr) (s : Tr), gapL ws vs us (swT s) (es.map swT) = (gapL ws us vs s es).map swG
  | [], _ => rfl
  | e :: r, s => by
    show _ :: gapL ws vs us (swT (e.1 + 1, e.2.1 + 1, e.2.2 + 1)) (r.map swT) = _
    rw [gap_swap ws us vs r]
    rfl
theorem gap_len (ws us vs : List α) : ∀ (es : List Tr) (s : Tr), (gapL ws us vs s es).length = es.length
  | [], _ => rfl
  | e :: r, s => by
    show (gapL ws us vs _ r).length + 1 = _
    rw [gap_len ws us vs r]
    rfl
/-! ### what is merged -/
def givenS [DecidableEq α] (g : List α × List α × List α) : Option (List α) := if g.2.1 = g.1 then some g.2.2 else if g.2.2 = g.1 ∨ g.2.2 = g.2.1 then some g.2.1 else none
theorem given_swap [DecidableEq α] (g : List α × List α × List α) : givenS (swG g) = givenS g := by
  obtain ⟨o, m, t⟩ := g
  unfold givenS swG
  simp only
  by_cases h1 : m = o <;> by_cases h2 : t = o <;> by_cases h3 : t = m <;> simp_all
  · intro e
    exact absurd e.symm h3
/-- the parts with the held words between them -/
def inter : List (List α) → List α → List α
  | [], _ => []
  | p :: _, [] => p
  | p :: ps, w :: ws => p ++ w :: inter ps ws
def mergeS [DecidableEq α] (gs : List (List α × List α × List α)) (hs : List α) : Option (List α) := if gs.all fun g => (givenS g).isSome then some (inter (gs.map fun g => (givenS g).getD []) hs) else none
theorem merge_swap [DecidableEq α] (gs : List (List α × List α × List α)) (hs : List α) : mergeS (gs.map swG) hs = mergeS gs hs := by
  unfold mergeS
  rw [List.all_map, List.map_map]
  have e : (fun g => (givenS g).isSome) ∘ swG = fun (g : List α × List α × List α) => (givenS g).isSome := funext fun g => by
    show (givenS (swG g)).isSome = _
    rw [given_swap]
  have e2 : (fun g => (givenS g).getD []) ∘ swG = fun (g : List α × List α × List α) => (givenS g).getD [] := funext fun g => by
    show (givenS (swG g)).getD [] = _
    rw [given_swap]
  rw [e, e2]
theorem cut_all (vs : List α) {a : Nat} : cut vs a vs.length = vs.drop a := by
  unfold cut
  rw [List.take_of_length_le (by rw [List.length_drop]; exact Nat.le_refl _)]
theorem cut_step (vs : List α) {a b : Nat} {w : α} (h : a ≤ b) (hw : vs[b]? = some w) : cut vs a b ++ w :: vs.drop (b + 1) = vs.drop a := by
  unfold cut
  have e : vs.drop b = w :: vs.drop (b + 1) := by
    obtain ⟨hl, e⟩ := List.getElem?_eq_some_iff.mp hw
    rw [List.drop_eq_getElem_cons hl, e]
  rw [← e]
  have : vs.drop b = (vs.drop a).drop (b - a) := by rw [List.drop_drop, show a + (b - a) = b by omega]
  rw [this, List.take_append_drop]
/-- parts of one text, with its own words between them, are the text -/
theorem inter_third {ws us vs : List α} {n m : Nat} (w : Tr → α) : ∀ (es : List Tr) (s : Tr), es.Pairwise bh3 → (∀ e ∈ es, s.2.2 ≤ e.2.2 ∧ vs[e.2.2]? = some (w e)) → inter ((gapL ws us vs s (es ++ [(n, m, vs.length)])).map fun g => g.2.2) (es.map w) = vs.drop s.2.2
  | [], s, _, _ => cut_all vs
  | e :: r, s, hp, h => by
    rw [List.pairwise_cons] at hp
    have ih := inter_third (ws := ws) (us := us) (vs := vs) (n := n) (m := m) w r (e.1 + 1, e.2.1 + 1, e.2.2 + 1) hp.2 fun x hx => ⟨(hp.1 x hx).2.2, (h x (List.mem_cons_of_mem _ hx)).2⟩
    show cut vs s.2.2 e.2.2 ++ w e :: inter ((gapL ws us vs (e.1 + 1, e.2.1 + 1, e.2.2 + 1) (r ++ [(n, m, vs.length)])).map fun g => g.2.2) (r.map w) = _
    rw [ih]
    obtain ⟨h1, h2⟩ := h e List.mem_cons_self
    exact cut_step vs h1 h2
theorem inter_second {ws us vs : List α} {n k : Nat} (w : Tr → α) (es : List Tr) (s : Tr) (hp : es.Pairwise bh3) (h : ∀ e ∈ es, s.2.1 ≤ e.2.1 ∧ us[e.2.1]? = some (w e)) : inter ((gapL ws us vs s (es ++ [(n, us.length, k)])).map fun g => g.2.1) (es.map w) = us.drop s.2.1 := by
  have e := inter_third (ws := ws) (us := vs) (vs := us) (n := n) (m := k) (fun e => w (swT e)) (es.map swT) (swT s) (by rw [List.pairwise_map]; exact hp.imp fun {a b} h => ⟨h.1, h.2.2, h.2.1⟩) fun x hx => by
    obtain ⟨y, hy, rfl⟩ := List.mem_map.mp hx
    exact h y hy
  have e2 : es.map swT ++ [(n, k, us.length)] = (es ++ [(n, us.length, k)]).map swT := by rw [List.map_append]; rfl
  rw [e2, gap_swap, List.map_map, List.map_map] at e
  exact e
section
variable [DecidableEq α]
theorem merge_third {gs : List (List α × List α × List α)} {hs : List α} (h : ∀ g ∈ gs, givenS g = some g.2.2) : mergeS gs hs = some (inter (gs.map fun g => g.2.2) hs) := by
  unfold mergeS
  rw [if_pos (List.all_eq_true.mpr fun g hg => by rw [h g hg]; rfl)]
  congr 2
  exact List.map_congr_left fun g hg => by rw [h g hg]; rfl
theorem merge_second {gs : List (List α × List α × List α)} {hs : List α} (h : ∀ g ∈ gs, givenS g = some g.2.1) : mergeS gs hs = some (inter (gs.map fun g => g.2.1) hs) := by
  unfold mergeS
  rw [if_pos (List.all_eq_true.mpr fun g hg => by rw [h g hg]; rfl)]
  congr 2
  exact List.map_congr_left fun g hg => by rw [h g hg]; rfl
end
theorem gap_all {ws us vs : List α} {P : List α × List α × List α → Prop} {I : Tr → Prop} (h : ∀ s e, I s → I e → P (cut ws s.1 e.1, cut us s.2.1 e.2.1, cut vs s.2.2 e.2.2)) (hs : ∀ e, I e → I (e.1 + 1, e.2.1 + 1, e.2.2 + 1)) : ∀ (es : List Tr) (s : Tr), I s → (∀ e ∈ es, I e) → ∀ g ∈ gapL ws us vs s es, P g
  | [], _, _, _, g, hg => by cases hg
  | e :: r, s, i, k, g, hg => by
    rcases List.mem_cons.mp hg with rfl | hg
    · exact h s e i (k e List.mem_cons_self)
    · exact gap_all h hs r _ (hs e (k e List.mem_cons_self)) (fun x hx => k x (List.mem_cons_of_mem _ hx)) g hg
/-- what three texts make by two rows -/
def mergedS [DecidableEq α] (ws us vs : List α) (l r : List Pr) (w : Tr → α) : Option (List α) := mergeS (gapL ws us vs (0, 0, 0) (ends l r ++ [(ws.length, us.length, vs.length)])) ((ends l r).map w)
theorem merged_swap [DecidableEq α] {ws us vs : List α} {l r : List Pr} {w w2 : Tr → α} (hl : Inc l) (hr : Inc r) (hw : ∀ e, w2 (swT e) = w e) : mergedS ws vs us r l w2 = mergedS ws us vs l r w := by
  unfold mergedS
  rw [ends_swap hl hr]
  have e : (ends l r).map swT ++ [(ws.length, vs.length, us.length)] = (ends l r ++ [(ws.length, us.length, vs.length)]).map swT := by rw [List.map_append]; rfl
  rw [e, show ((0, 0, 0) : Tr) = swT (0, 0, 0) from rfl, gap_swap, merge_swap, List.map_map]
  congr 1
  exact List.map_congr_left fun x _ => hw x
def wholeL (n : Nat) : List Pr := (List.range n).map fun k => (k, k)
theorem whole_mem {n : Nat} {p : Pr} : p ∈ wholeL n ↔ p.1 = p.2 ∧ p.1 < n := by
  unfold wholeL
  rw [List.mem_map]
  constructor
  · rintro ⟨k, hk, rfl⟩
    exact ⟨rfl, List.mem_range.mp hk⟩
  · rintro ⟨h1, h2⟩
    exact ⟨p.1, List.mem_range.mpr h2, Prod.ext rfl h1⟩
theorem whole_inc {n : Nat} : Inc (wholeL n) := by
  unfold Inc wholeL
  rw [List.pairwise_map]
  exact List.pairwise_lt_range.imp fun h => ⟨h, h⟩
theorem merged_right [DecidableEq α] {ws vs : List α} {r : List Pr} {w : Tr → α} (hr : Inc r) (hw : ∀ e ∈ ends (wholeL ws.length) r, vs[e.2.2]? = some (w e)) : mergedS ws ws vs (wholeL ws.length) r w = some vs := by
  have hm : ∀ e ∈ ends (wholeL ws.length) r, e.1 = e.2.1 := fun e he => (whole_mem.mp ((ends_mem whole_inc hr).mp he).1).1
  unfold mergedS
  rw [merge_third, inter_third w _ _ (ends_inc whole_inc hr) fun e he => ⟨Nat.zero_le _, hw e he⟩]
  · rfl
  · refine gap_all (I := fun e => e.1 = e.2.1) (P := fun g => givenS g = some g.2.2) (fun s e i j => ?_) (fun e i => congrArg (· + 1) i) _ _ rfl fun e he => ?_
    · unfold givenS
      simp only
      rw [i, j, if_pos rfl]
    · rcases List.mem_append.mp he with he | he
      · exact hm e he
      · rw [List.mem_singleton.mp he]
theorem merged_left [DecidableEq α] {ws us : List α} {l : List Pr} {w : Tr → α} (hl : Inc l) (hw : ∀ e ∈ ends l (wholeL ws.length), us[e.2.1]? = some (w e)) : mergedS ws us ws l (wholeL ws.length) w = some us := by
  have hm : ∀ e ∈ ends l (wholeL ws.length), e.1 = e.2.2 := fun e he => (whole_mem.mp ((ends_mem hl whole_inc).mp he).2).1
  unfold mergedS
  rw [merge_second, inter_second w _ _ (ends_inc hl whole_inc) fun e he => ⟨Nat.zero_le _, hw e he⟩]
  · rfl
  · refine gap_all (I := fun e => e.1 = e.2.2) (P := fun g => givenS g = some g.2.1) (fun s e i j => ?_) (fun e i => congrArg (· + 1) i) _ _ rfl fun e he => ?_
    · unfold givenS
      simp only
      rw [i, j]
      by_cases h : cut us s.2.1 e.2.1 = cut ws s.2.2 e.2.2
      · rw [if_pos h, h]
      · rw [if_neg h, if_pos (.inl rfl)]
    · rcases List.mem_append.mp he with he | he
      · exact hm e he
      · rw [List.mem_singleton.mp he]
theorem merged_alike [DecidableEq α] {ws us : List α} {l : List Pr} {w : Tr → α} (hl : Inc l) (hw : ∀ e ∈ ends l l, us[e.2.1]? = some (w e)) : mergedS ws us us l l w = some us := by
  have hm : ∀ e ∈ ends l l, e.2.1 = e.2.2 := fun e he => by
    obtain ⟨h1, h2⟩ := (ends_mem hl hl).mp he
    have a := (look_some hl).mpr h1
    have b := (look_some hl).mpr h2
    rw [a] at b
    exact Option.some.inj b
  unfold mergedS
  rw [merge_second, inter_second w _ _ (ends_inc hl hl) fun e he => ⟨Nat.zero_le _, hw e he⟩]
  · rfl
  · refine gap_all (I := fun e => e.2.1 = e.2.2) (P := fun g => givenS g = some g.2.1) (fun s e i j => ?_) (fun e i => congrArg (· + 1) i) _ _ rfl fun e he => ?_
    · unfold givenS
      simp only
      rw [i, j]
      by_cases h : cut us s.2.2 e.2.2 = cut ws s.1 e.1
      · rw [if_pos h]
      · rw [if_neg h, if_pos (.inr rfl)]
    · rcases List.mem_append.mp he with he | he
      · exact hm e he
      · rw [List.mem_singleton.mp he]
end KL

/-! Dicts made of rows: places as keys. -/
namespace KD
open PySem PySem.Spec PyProof.Rows L2 KL
def kvsOf (l : List Pr) : List (Key × V) := l.map fun p => (.inl (p.1 : Int), .int (p.2 : Int))
theorem putK_row {l : List Pr} {p : Pr} (h : ∀ x ∈ l, x.1 ≠ p.1) : putK (kvsOf l) (.inl (p.1 : Int)) (.int (p.2 : Int)) = kvsOf (l ++ [p]) := by
  unfold putK
  rw [if_neg]
  · unfold kvsOf
    rw [List.map_append]
    rfl
  · rw [List.any_eq_true]
    rintro ⟨kv, hkv, e⟩
    obtain ⟨x, hx, rfl⟩ := List.mem_map.mp hkv
    have e := of_decide_eq_true e
    have e2 : (x.1 : Int) = (p.1 : Int) := Sum.inl.inj e
    exact h x hx (by omega)
theorem inc_ne {l : List Pr} {p : Pr} (h : Inc (l ++ [p])) : ∀ x ∈ l, x.1 ≠ p.1 := fun x hx => by
  have := (List.pairwise_append.mp h).2.2 x hx p (List.mem_singleton.mpr rfl)
  have := this.1
  omega
theorem merge_row : ∀ (l pre : List Pr), Inc (pre ++ l) → mergeK (kvsOf pre) (kvsOf l) = kvsOf (pre ++ l)
  | [], pre, _ => by rw [List.append_nil]; rfl
  | p :: r, pre, h => by
    have h1 : Inc ((pre ++ [p]) ++ r) := by rw [List.append_assoc]; exact h
    have ih := merge_row r (pre ++ [p]) h1
    rw [List.append_assoc] at ih
    show mergeK (putK (kvsOf pre) (.inl (p.1 : Int)) (.int (p.2 : Int))) (kvsOf r) = _
    rw [putK_row (inc_ne (List.pairwise_append.mp h1).1), ih]
    rfl
theorem val_look {l : List Pr} {p : Nat} : valV (kvsOf l) (.inl (p : Int)) = (look l p).map fun (q : Nat) => V.int (q : Int) := by
  unfold valV look kvsOf
  induction l with
  | nil => rfl
  | cons x r ih =>
    rw [List.map_cons, List.find?_cons, List.find?_cons]
    by_cases h : x.1 = p
    · rw [decide_eq_true h, decide_eq_true (show ((Sum.inl (x.1 : Int) : Key) = .inl (p : Int)) by rw [h])]
      rfl
    · rw [decide_eq_false h, decide_eq_false (fun e => h (by have := Sum.inl.inj e; omega))]
      exact ih
/-- a row as it is told -/
structure Rw (d : PyData) (l : List Pr) : Prop where
  seq : isSeq d = true
  len : (itemsD d).length = l.length
  its : ∀ (i : Nat) (z : PyData) (p : Pr), (itemsD d)[i]? = some z → l[i]? = some p → isSeq z = true ∧ itemsD z = [.int (p.1 : Nat), .int (p.2 : Nat)]
section
variable {X : Addr → Prop} {σ : L2.St} {H H' : Hp} {Γ : List Sv} {te ty : TE} {d : PyData} {ds : List PyData} {l : List Pr} {K : PySem.W.Frag} {Q : VK} {A : Addr}
theorem k_dc {j : Nat} (t : Trk X H) (E : EnvOk X H σ Γ) (hj : j < Γ.length) (h : G X te σ H d) (R : Rw d l) (few : l.length ≤ 1000) (inc : Inc l) (q : ∀ D H', H D = none → Same H H' → H' D = some (.dK (kvsOf l)) → Q (.ref D) H') :
    tDc (iSeq K te) (gName j) tYes (tOp (rIx K) (tVar j) (tC (.int 0))) (tOp (rIx K) (tVar j) (tC (.int 1))) [j] σ H Q := by
  refine gi_seq (K := K) h R.seq H (Same.refl _) _ fun J H2 s2 w D hD => ?_
  obtain ⟨Gd, Y, w1, w2⟩ := w
  let X' : Addr → Prop := fun a => X a ∨ a = D
  have m2 : More X X' H2 := More.one hD
  let Pv : Nat → Hp → Prop := fun i Gh => Same H2 Gh ∧ Trk X' Gh ∧ Gh D = some (.dK (kvsOf (l.take i)))
  have ln := R.len
  refine ⟨fun i m Gh => m = l.length - i ∧ i ≤ l.length ∧ Pv i Gh, ⟨_, rfl, Nat.zero_le _, Same.upd hD, (t.mono s2).one hD, upd_same⟩, ?_⟩
  rintro i m Gh ⟨rfl, hi, p1, p2, p3⟩
  have q0 := w2 X' m2.2 Gh (Kp.of p1) p2
  by_cases lt : i < l.length
  rotate_left
  · have e : i = l.length := by omega
    subst e
    rw [List.take_length] at p3
    have st := w1.stops Gh q0.1
    rw [ln] at st
    exact .inl ⟨st, q D Gh (s2.free hD) (s2.trans p1) p3⟩
  have lt2 : i < (itemsD d).length := by omega
  refine .inr ⟨w1.goes i Gh lt2 q0.1, Pv (i + 1), fun G' p' => ⟨_, by omega, rfl, lt, p'⟩, fun x G' y => ?_⟩
  obtain ⟨s4, z, hz, dx⟩ := q0.2 i x G' (w1.yields i Gh x G' lt2 q0.1 y)
  obtain ⟨zs, zi⟩ := R.its i z l[i] hz (List.getElem?_eq_getElem lt)
  have hslot : ((wipe σ [j]).set j (some x))[j]? = some (some x) := by
    refine List.getElem?_set_self ?_
    show j < (σ.set j none).length
    rw [List.length_set, E.len]
    exact hj
  show wipe ((wipe σ [j]).set j (some x)) [j] = wipe σ [j] ∧ _
  refine ⟨wipe_one, ?_⟩
  have hy : ∀ {σ : L2.St} {H : Hp} {Qb : Bool → Hp → Prop}, Qb true H → tYes σ H Qb := fun h => h
  refine hy (iteT ?_)
  have t4 := p2.mono s4
  have gv : G X' (tVar j) ((wipe σ [j]).set j (some x)) G' z := fun H1 s Q q => ⟨x, hslot, q x H1 (Same.refl _) (dx.mono (Kp.of s))⟩
  refine g_ix (K := K) t4 gv zs g_int (z := .int ((l[i].1 : Nat) : Int)) (by rw [zi]; rfl) G' (Same.refl _) _ fun v5 H5 s5 r5 => ?_
  refine g_ix (K := K) (t4.mono s5) (gv.mono s5) zs g_int (z := .int ((l[i].2 : Nat) : Int)) (by rw [zi]; rfl) H5 (Same.refl _) _ fun v6 H6 s6 r6 => ?_
  rw [r5.int_inv, r6.int_inv]
  have s46 := (s4.trans s5).trans s6
  refine ⟨kvsOf (l.take i), .inl (l[i].1 : Int), rfl, s46 _ _ p3, by unfold kvsOf; rw [List.length_map, List.length_take, sizeLine_eq]; omega, fun a o e => ?_, ?_, ?_⟩
  · have : a ≠ D := fun z => by rw [z, hD] at e; cases e
    rw [upd_ne this]
    exact s46 _ _ (p1 a o e)
  · exact (p2.mono s46).put
  · have et : l.take (i + 1) = l.take i ++ [l[i]] := by rw [List.take_add_one, List.getElem?_eq_getElem lt]; rfl
    rw [putK_row (inc_ne (p := l[i]) (l := l.take i) (by rw [← et]; exact inc.sublist (List.take_sublist _ _))), et, upd_same]
/-! ### what is told of other things while a dict is locked -/
theorem upd_ne' {a b : Addr} {o u : HO} {H : Hp} (h : H a = some u) (hb : ∀ v, H b = some v → v ≠ u) : a ≠ b := fun e => hb u (e ▸ h) rfl
mutual
theorem DX.lock {kvs : List (Key × V)} {o : HO} (hA : H A = some (.dK kvs)) : ∀ {v : V} {d : PyData}, DX X H v d → noDict d = true → DX X (upd H A o) v d
  | _, _, .non, _ => .non
  | _, _, .bl b, _ => .bl b
  | _, _, .int i, _ => .int i
  | _, _, .str x, _ => .str x
  | _, _, .lst (a := a) n h r, k => .lst n (by rw [upd_ne (fun e => by rw [e, hA] at h; cases h)]; exact h) (DXs.lock hA r (by simpa [noDict] using k))
  | _, _, .tup (a := a) n h r, k => .tup n (by rw [upd_ne (fun e => by rw [e, hA] at h; cases h)]; exact h) (DXs.lock hA r (by simpa [noDict] using k))
  | _, _, .dic _ _ _, k => by simp [noDict] at k
theorem DXs.lock {kvs : List (Key × V)} {o : HO} (hA : H A = some (.dK kvs)) : ∀ {vs : List V} {ds : List PyData}, DXs X H vs ds → noDicts ds = true → DXs X (upd H A o) vs ds
  | _, _, .nil, _ => .nil
  | _, _, .cons (d := d) (ds := ds) h r, k => by
    have k' : noDict d = true ∧ noDicts ds = true := by simpa [noDicts] using k
    exact .cons (DX.lock hA h k'.1) (DXs.lock hA r k'.2)
end
mutual
theorem DX.unlock {od : Obj} {u o : HO} (hA : H A = some (.frz od u)) : ∀ {v : V} {d : PyData}, DX X H v d → DX X (upd H A o) v d
  | _, _, .non => .non
  | _, _, .bl b => .bl b
  | _, _, .int i => .int i
  | _, _, .str x => .str x
  | _, _, .lst n h r => .lst n (by rw [upd_ne (fun e => by rw [e, hA] at h; cases h)]; exact h) (DXs.unlock hA r)
  | _, _, .tup n h r => .tup n (by rw [upd_ne (fun e => by rw [e, hA] at h; cases h)]; exact h) (DXs.unlock hA r)
  | _, _, .dic n h r => .dic n (by rw [upd_ne (fun e => by rw [e, hA] at h; cases h)]; exact h) (DXk.unlock hA r)
theorem DXs.unlock {od : Obj} {u o : HO} (hA : H A = some (.frz od u)) : ∀ {vs : List V} {ds : List PyData}, DXs X H vs ds → DXs X (upd H A o) vs ds
  | _, _, .nil => .nil
  | _, _, .cons h r => .cons (DX.unlock hA h) (DXs.unlock hA r)
theorem DXk.unlock {od : Obj} {u o : HO} (hA : H A = some (.frz od u)) : ∀ {vs : List (Key × V)} {ds : List (PyData × PyData)}, DXk X H vs ds → DXk X (upd H A o) vs ds
  | _, _, .nil => .nil
  | _, _, .cons h r => .cons (DX.unlock hA h) (DXk.unlock hA r)
end
theorem EnvOk.lock {kvs : List (Key × V)} {o : HO} (E : EnvOk X H σ Γ) (hA : H A = some (.dK kvs)) (nd : ∀ d, Sv.dat d ∈ Γ → noDict d = true) : EnvOk X (upd H A o) σ Γ := ⟨E.len, fun i s e => by
  have h := E.get i s e
  cases s with
  | dat d =>
    obtain ⟨v, e1, r⟩ := h
    exact ⟨v, e1, r.lock hA (nd d (List.mem_of_getElem? e))⟩
  | val v => exact h
  | un => trivial⟩
theorem EnvOk.unlock {od : Obj} {u o : HO} (E : EnvOk X H σ Γ) (hA : H A = some (.frz od u)) : EnvOk X (upd H A o) σ Γ := ⟨E.len, fun i s e => by
  have h := E.get i s e
  cases s with
  | dat d =>
    obtain ⟨v, e1, r⟩ := h
    exact ⟨v, e1, r.unlock hA⟩
  | val v => exact h
  | un => trivial⟩
/-! ### a dict's places -/
theorem gi_keys {i : Nat} {od : Obj} (E : EnvOk X H σ Γ) (hi : Γ[i]? = some (.val (.ref A))) (hA : H A = some (.frz od (.dK (kvsOf l)))) (nA : ¬ X A) : GI X (iKeys (tVar i)) σ H (l.map fun p => .int (p.1 : Nat)) := fun H1 s R r => by
  have h1 := s _ _ hA
  refine ⟨.ref A, (E.same s).get i _ hi, A, od, rfl, .inl ⟨_, h1, r _ H1 (Same.refl _) ⟨_, _, by rw [List.length_map]; exact (show l.length = (kvsOf l).length by simp [kvsOf]) ▸ walk_keys, fun X' m H3 k t => ?_⟩⟩⟩
  have n' : ¬ X' A := fun z => (m A z).elim nA fun q => by rw [h1] at q; cases q
  refine ⟨k A _ n' h1, fun j x H4 y => ?_⟩
  obtain ⟨rfl, kk, v, e1, rfl⟩ := y
  unfold kvsOf at e1
  rw [List.getElem?_map] at e1
  obtain ⟨p, hp, e2⟩ := Option.map_eq_some_iff.mp e1
  cases e2
  exact ⟨Same.refl _, _, by rw [List.getElem?_map, hp]; rfl, .int _⟩
theorem g_dgetI {i : Nat} {p q : Nat} (E : EnvOk X H σ Γ) (hi : Γ[i]? = some (.val (.ref A))) (hA : Rd H A (.dK (kvsOf l))) (hk : G X ty σ H (.int (p : Int))) (hv : look l p = some q) : G X (tDGet (tVar i) ty) σ H (.int (q : Int)) := fun H1 s Q r =>
  ⟨.ref A, (E.same s).get i _ hi, hk H1 s _ fun v H2 s2 rv => ⟨A, .int (q : Int), rfl, by
    have h2 : Rd H2 A (.dK (kvsOf l)) := by
      rcases hA with h | ⟨o, h⟩
      · exact .inl (s2 _ _ (s _ _ h))
      · exact .inr ⟨o, s2 _ _ (s _ _ h)⟩
    rw [rv.int_inv]
    refine .inl ⟨_, .inl (p : Int), h2, rfl, ?_⟩
    rw [val_look, hv]
    rfl, r _ H2 s2 (.int _)⟩⟩
theorem gt_dinI {i : Nat} {p : Nat} (E : EnvOk X H σ Γ) (hi : Γ[i]? = some (.val (.ref A))) (hA : Rd H A (.dK (kvsOf l))) (hk : G X ty σ H (.int (p : Int))) : GT (tB (tDIn ty (tVar i))) σ H (look l p).isSome := fun H1 s Q r =>
  hk H1 s _ fun v H2 s2 rv => ⟨.ref A, (E.same (s.trans s2)).get i _ hi, A, valV (kvsOf l) (.inl (p : Int)), rfl, by
    have h2 : Rd H2 A (.dK (kvsOf l)) := by
      rcases hA with h | ⟨o, h⟩
      · exact .inl (s2 _ _ (s _ _ h))
      · exact .inr ⟨o, s2 _ _ (s _ _ h)⟩
    rw [rv.int_inv]
    exact .inl ⟨_, .inl (p : Int), h2, rfl, rfl⟩, _, rfl, by
    rw [val_look, Option.isSome_map]
    exact r H2 s2⟩
/-- a comprehension, the heap known to be kept (KDat2's g_lc otherwise) -/
theorem g_lcS {wi : TI} {g : TG} {tt : TT} {te : TE} {vs : List Nat} {Γ2 : PyData → List Sv} (f : PyData → Bool) (h : PyData → PyData) (t : Trk X H) (hi : GI X wi σ H ds) (hl : ds.length ≤ 1000000)
    (hg : ∀ H1, Same H H1 → ∀ d ∈ ds, Tgt X g σ (Γ2 d) vs d H1)
    (ht : ∀ X' H1 σ2 d, d ∈ ds → Same H H1 → Trk X' H1 → EnvOk X' H1 σ2 (Γ2 d) → GT tt σ2 H1 (f d))
    (he : ∀ X' H1 σ2 d, d ∈ ds → f d = true → Same H H1 → Trk X' H1 → EnvOk X' H1 σ2 (Γ2 d) → G X' te σ2 H1 (h d)) : G X (tLc wi g tt te vs) σ H (.list ((ds.filter f).map h)) := fun H1 s Q q =>
  hi H1 s _ fun J H2 s2 w => by
    intro D hD
    obtain ⟨Gd, Y, w1, w2⟩ := w
    have s02 : Same H H2 := s.trans s2
    have t2 : Trk X H2 := t.mono s02
    let X' : Addr → Prop := fun a => X a ∨ a = D
    have m2 : More X X' H2 := More.one hD
    have key : ∀ H3, Same H2 H3 ∧ Trk X' H3 → Gd H3 := fun H3 p => (w2 X' m2.2 H3 (Kp.of p.1) p.2).1
    refine lc_it w1 (fun i H3 => Same H2 H3 ∧ Trk X' H3 ∧ ∃ acc, H3 D = some (.lst acc) ∧ DXs X' H3 acc (((ds.take i).filter f).map h)) ?_ ?_ ?_ ?_
    · exact ⟨Same.upd hD, t2.one hD, [], upd_same, .nil⟩
    · rintro i H3 _ ⟨p1, p2, _⟩
      exact key H3 ⟨p1, p2⟩
    · rintro i x H3 H4 hi' ⟨p1, p2, acc, p3, p4⟩ y
      obtain ⟨s4, d, hd, dx⟩ := (w2 X' m2.2 H3 (Kp.of p1) p2).2 i x H4 y
      have hmem : d ∈ ds := List.mem_of_getElem? hd
      have k4 : Kp X' H2 H4 := Kp.of (p1.trans s4)
      have t4 : Trk X' H4 := p2.mono s4
      refine hg H2 s02 d hmem X' H4 m2 k4 t4 x dx _ fun σ2 E2 hw => ⟨hw, ?_⟩
      have etake : ds.take (i + 1) = ds.take i ++ [d] := by rw [List.take_succ, hd]; rfl
      refine ht X' H4 σ2 d hmem (s02.trans (p1.trans s4)) t4 E2 H4 (Same.refl _) _ fun H5 s5 => ?_
      have lacc : acc.length ≤ 1000000 := by
        rw [p4.length, List.length_map]
        exact Nat.le_trans (List.length_filter_le _ _) (Nat.le_trans (List.length_take_le _ _) (by omega))
      cases hf : f d with
      | true =>
        refine iteT ?_
        refine he X' H4 σ2 d hmem hf (s02.trans (p1.trans s4)) t4 E2 H5 s5 _ fun y H6 s6 ry => ?_
        have s36 : Same H3 H6 := (s4.trans s5).trans s6
        refine ⟨acc, s36 D _ p3, by rw [sizeLine_eq]; omega, ?_, ?_, acc ++ [y], upd_same, ?_⟩
        · exact Same.mut (p1.trans s36) hD
        · exact (p2.mono s36).put
        · rw [etake, List.filter_append, List.map_append]
          have ef : List.filter f [d] = [d] := by simp [hf]
          rw [ef]
          exact ((p4.mono (Kp.of s36)).snoc ry).mono (Kp.put (.inr rfl))
      | false =>
        refine iteF ?_
        have s35 : Same H3 H5 := s4.trans s5
        refine ⟨p1.trans s35, p2.mono s35, acc, s35 D _ p3, ?_⟩
        rw [etake, List.filter_append, List.map_append]
        have ef : List.filter f [d] = [] := by simp [hf]
        rw [ef, List.map_nil, List.append_nil]
        exact p4.mono (Kp.of s35)
    · rintro H3 ⟨p1, p2, acc, p3, p4⟩
      rw [List.take_length] at p4
      have nXD : ¬ X D := t2.new hD
      -- D itself is a datum again
      exact q (.ref D) H3 (s2.trans p1) (.lst nXD p3 (p4.less fun a => .inl))
theorem ends_data {l r : List Pr} {h : PyData → PyData} (hh : ∀ p q s, look l p = some q → look r p = some s → h (.int (p : Nat)) = .tuple [.int (p : Nat), .int (q : Nat), .int (s : Nat)]) (hl : Inc l) : ((l.map fun p => PyData.int (p.1 : Nat)).filter fun z => (look r (match z with | .int i => i.toNat | _ => 0)).isSome).map h = (ends l r).map fun e => PyData.tuple [.int (e.1 : Nat), .int (e.2.1 : Nat), .int (e.2.2 : Nat)] := by
  have key : ∀ l' : List Pr, (∀ x ∈ l', x ∈ l) → ((l'.map fun p => PyData.int (p.1 : Nat)).filter fun z => (look r (match z with | .int i => i.toNat | _ => 0)).isSome).map h = (ends l' r).map fun e => PyData.tuple [.int (e.1 : Nat), .int (e.2.1 : Nat), .int (e.2.2 : Nat)] := by
    intro l'
    induction l' with
    | nil => intro _; rfl
    | cons x rest ih =>
      intro hx
      have ih := ih fun y hy => hx y (List.mem_cons_of_mem _ hy)
      rw [List.map_cons, List.filter_cons]
      have e0 : ((x.1 : Nat) : Int).toNat = x.1 := by omega
      simp only [e0]
      unfold ends
      rw [List.filterMap_cons]
      cases hs : look r x.1 with
      | none =>
        rw [if_neg (by simp)]
        exact ih
      | some s =>
        rw [if_pos (by simp), List.map_cons, hh x.1 x.2 s ((look_some hl).mpr (hx x List.mem_cons_self)) hs]
        show _ :: _ = _ :: _
        congr 1
  exact key l fun x hx => hx
end
end KD

/-! Comprehensions of two clauses, over data. -/
namespace KD
open PySem PySem.Spec PyProof.Rows L2
section
variable {X : Addr → Prop} {σ : L2.St} {H : Hp} {ds : List PyData}
theorem g_lc2 {wi wi1 : TI} {g g1 : TG} {tt1 : TT} {te : TE} {vs vs1 : List Nat} {Γ2 : PyData → List Sv} {Γ3 : PyData → PyData → List Sv} (ds2 : PyData → List PyData) (f : PyData → PyData → Bool) (h : PyData → PyData → PyData) (t : Trk X H) (hi : GI X wi σ H ds) (hl : (ds.flatMap fun z => ((ds2 z).filter (f z)).map (h z)).length ≤ 1000000)
    (hg : ∀ H1, Same H H1 → ∀ d ∈ ds, Tgt X g σ (Γ2 d) vs d H1)
    (hi1 : ∀ X' H1 σ2 d, d ∈ ds → Same H H1 → Trk X' H1 → EnvOk X' H1 σ2 (Γ2 d) → GI X' wi1 σ2 H1 (ds2 d))
    (hg1 : ∀ X' H1 σ2 d, d ∈ ds → Same H H1 → Trk X' H1 → EnvOk X' H1 σ2 (Γ2 d) → ∀ e ∈ ds2 d, Tgt X' g1 σ2 (Γ3 d e) vs1 e H1)
    (ht : ∀ X' H1 σ3 d e, d ∈ ds → e ∈ ds2 d → Same H H1 → Trk X' H1 → EnvOk X' H1 σ3 (Γ3 d e) → GT tt1 σ3 H1 (f d e))
    (he : ∀ X' H1 σ3 d e, d ∈ ds → e ∈ ds2 d → f d e = true → Same H H1 → Trk X' H1 → EnvOk X' H1 σ3 (Γ3 d e) → G X' te σ3 H1 (h d e)) : G X (tLc2 wi g tYes wi1 g1 tt1 te vs vs1) σ H (.list (ds.flatMap fun z => ((ds2 z).filter (f z)).map (h z))) := fun H1 s Q q =>
  hi H1 s _ fun J H2 s2 w => by
    intro D hD
    obtain ⟨Gd, Y, w1, w2⟩ := w
    have s02 : Same H H2 := s.trans s2
    have t2 : Trk X H2 := t.mono s02
    let X' : Addr → Prop := fun a => X a ∨ a = D
    have m2 : More X X' H2 := More.one hD
    have nXD : ¬ X D := t2.new hD
    let R : Nat → List PyData := fun i => (ds.take i).flatMap fun z => ((ds2 z).filter (f z)).map (h z)
    have hR : ∀ i d, ds[i]? = some d → R (i + 1) = R i ++ ((ds2 d).filter (f d)).map (h d) := fun i d hd => by
      show (ds.take (i + 1)).flatMap _ = _
      rw [List.take_add_one, hd, Option.toList_some, List.flatMap_append]
      simp [R]
    have lR : ∀ i, (R i).length ≤ 1000000 := fun i => by
      have e : ds.flatMap (fun z => ((ds2 z).filter (f z)).map (h z)) = R i ++ (ds.drop i).flatMap fun z => ((ds2 z).filter (f z)).map (h z) := by
        show _ = (ds.take i).flatMap _ ++ _
        rw [← List.flatMap_append, List.take_append_drop]
      rw [e, List.length_append] at hl
      omega
    let Pv : Nat → Hp → Prop := fun i H3 => Same H2 H3 ∧ Trk X' H3 ∧ ∃ acc, H3 D = some (.lst acc) ∧ DXs X' H3 acc (R i)
    refine ⟨fun i m H3 => m = ds.length - i ∧ i ≤ ds.length ∧ Pv i H3, ⟨_, rfl, Nat.zero_le _, Same.upd hD, t2.one hD, [], upd_same, .nil⟩, ?_⟩
    rintro i m H3 ⟨rfl, hi', p1, p2, acc, p3, p4⟩
    have gd := (w2 X' m2.2 H3 (Kp.of p1) p2).1
    by_cases lt : i < ds.length
    rotate_left
    · have e : i = ds.length := by omega
      subst e
      have eR : R ds.length = ds.flatMap fun z => ((ds2 z).filter (f z)).map (h z) := by
        show (ds.take ds.length).flatMap _ = _
        rw [List.take_length]
      rw [eR] at p4
      exact .inl ⟨w1.stops H3 gd, q (.ref D) H3 (s2.trans p1) (.lst nXD p3 (p4.less fun a => .inl))⟩
    refine .inr ⟨w1.goes i H3 lt gd, Pv (i + 1), fun H' p' => ⟨_, by omega, rfl, lt, p'⟩, fun x H4 y => ?_⟩
    have y := w1.yields i H3 x H4 lt gd y
    obtain ⟨s4, d, hd, dx⟩ := (w2 X' m2.2 H3 (Kp.of p1) p2).2 i x H4 y
    have hmem : d ∈ ds := List.mem_of_getElem? hd
    have t4 : Trk X' H4 := p2.mono s4
    have s24 := p1.trans s4
    refine hg H2 s02 d hmem X' H4 m2 (Kp.of s24) t4 x dx _ fun σ2 E2 hw => ⟨hw, ?_⟩
    show wi1 σ2 H4 _
    refine hi1 X' H4 σ2 d hmem (s02.trans s24) t4 E2 H4 (Same.refl _) _ fun J1 H5 s5 wj => ?_
    obtain ⟨Gd1, Y1, v1, v2⟩ := wj
    have E5 := E2.same s5
    have t5 := t4.mono s5
    have s25 := s24.trans s5
    let es := ds2 d
    let Pw : Nat → Hp → Prop := fun j Hx => Kp X' H5 Hx ∧ Same H2 Hx ∧ Trk X' Hx ∧ ∃ acc, Hx D = some (.lst acc) ∧ DXs X' Hx acc (R i ++ ((es.take j).filter (f d)).map (h d))
    refine ⟨fun j k Hx => k = es.length - j ∧ j ≤ es.length ∧ Pw j Hx, ⟨_, rfl, Nat.zero_le _, Kp.refl, s25, t5, acc, (s4.trans s5) D _ p3, by simpa using p4.mono (Kp.of (s4.trans s5))⟩, ?_⟩
    rintro j k Hx ⟨rfl, hj, c1, c2, c3, acc2, c4, c5⟩
    have gd1 := (v2 X' (fun _ z => .inl z) Hx c1 c3).1
    by_cases lj : j < es.length
    rotate_left
    · have e : j = es.length := by omega
      subst e
      rw [List.take_length, ← hR i d hd] at c5
      exact .inl ⟨v1.stops Hx gd1, c2, c3, acc2, c4, c5⟩
    refine .inr ⟨v1.goes j Hx lj gd1, Pw (j + 1), fun H' p' => ⟨_, by omega, rfl, lj, p'⟩, fun x1 H6 y1 => ?_⟩
    have y1 := v1.yields j Hx x1 H6 lj gd1 y1
    obtain ⟨s6, e, he1, dx1⟩ := (v2 X' (fun _ z => .inl z) Hx c1 c3).2 j x1 H6 y1
    have hmem1 : e ∈ es := List.mem_of_getElem? he1
    have t6 := c3.mono s6
    have s26 := c2.trans s6
    refine hg1 X' H5 σ2 d hmem (s02.trans s25) t5 E5 e hmem1 X' H6 ⟨fun _ z => z, fun _ z => .inl z⟩ (c1.trans (Kp.of s6)) t6 x1 dx1 _ fun σ3 E6 hw1 => ⟨hw1, ?_⟩
    refine ht X' H6 σ3 d e hmem hmem1 (s02.trans s26) t6 E6 H6 (Same.refl _) _ fun H7 s7 => ?_
    have etake : es.take (j + 1) = es.take j ++ [e] := by rw [List.take_add_one, he1]; rfl
    have lacc : acc2.length ≤ 1000000 := by
      rw [c5.length]
      have h1 := lR (i + 1)
      rw [hR i d hd, List.length_append, List.length_map] at h1
      rw [List.length_append, List.length_map]
      have h2 : ((es.take j).filter (f d)).length ≤ (es.filter (f d)).length := (List.Sublist.filter _ (List.take_sublist _ _)).length_le
      have h3 : (es.filter (f d)).length = ((ds2 d).filter (f d)).length := rfl
      omega
    cases hf : f d e with
    | true =>
      refine iteT ?_
      refine he X' H6 σ3 d e hmem hmem1 hf (s02.trans s26) t6 E6 H7 s7 _ fun yv H8 s8 ry => ?_
      have s68 : Same Hx H8 := (s6.trans s7).trans s8
      refine ⟨acc2, s68 D _ c4, by rw [sizeLine_eq]; omega, ?_, ?_, ?_, acc2 ++ [yv], upd_same, ?_⟩
      · exact (c1.trans (Kp.of s68)).trans (Kp.put (.inr rfl))
      · exact Same.mut (c2.trans s68) hD
      · exact (c3.mono s68).put
      · rw [etake, List.filter_append, List.map_append, ← List.append_assoc]
        have ef : List.filter (f d) [e] = [e] := by simp [hf]
        rw [ef]
        exact ((c5.mono (Kp.of s68)).snoc ry).mono (Kp.put (.inr rfl))
    | false =>
      refine iteF ?_
      have s67 : Same Hx H7 := s6.trans s7
      refine ⟨c1.trans (Kp.of s67), c2.trans s67, c3.mono s67, acc2, s67 D _ c4, ?_⟩
      rw [etake, List.filter_append, List.map_append]
      have ef : List.filter (f d) [e] = [] := by simp [hf]
      rw [ef, List.map_nil, List.append_nil]
      exact c5.mono (Kp.of s67)
end
end KD

/-! List comprehensions of any number of clauses: what a clause does behind its tests is its body, and the last body adds to the list. -/
namespace KCl
open PySem PySem.Spec PyProof.Rows L2
/-- the body of clause d: the next clause's loop, or the item that is added -/
def Bod (M : Model) (A : Around) (elt : Expr) (gens : List Comprehension) (scope : Scope) (pos : Pos) (d : Nat) (acc : Value) (env : Env) (Pf : Shared → Prop) (s : Shared) : Prop :=
  match gens[d + 1]? with
  | some g => wpAny M A (eval g.iter env) (fun x s4 => wpAny M A (pyIter x) (fun jt s5 => codeAny M A (.compStart (.ListComp elt gens scope pos) (d + 1) jt acc env) (fun r s' => match r with | .ok _ => Pf s' | .error _ => False) s5) (fun _ _ => False) s4) (fun _ _ => False) s
  | none => wpAny M A (eval elt env) (fun x s4 => wpAny M A (call (.builtin "list.append") [acc, x]) (fun _ s5 => Pf s5) (fun _ _ => False) s4) (fun _ _ => False) s
theorem low {α : Type} {M : Model} {A : Around} {t : Sem α} {Q : α → Shared → Prop} {E : Value → Shared → Prop} {s : Shared} (h : wpAny M A t Q (fun _ _ => False) s) : wpAny M A t Q E s := thnF h fun _ _ z => z
theorem wpAny_of_eq' {α : Type} {M : Model} {A : Around} {t : Sem α} {v : α} {Q : α → Shared → Prop} {E : Value → Shared → Prop} {s : Shared} (e : t = pure v) (h : Q v s) : wpAny M A t Q E s := by
  rw [e]
  exact wpAny_pure h
section
variable {prog : Program} {w : World} {A : Around} {R : Result → Shared → Prop} {s : Shared} {elt tg iter : Expr} {ifs : List Expr} {gens : List Comprehension} {scope : Scope} {pos : Pos} {d : Nat} {it acc : Value} {env : Env}
theorem turn_ok {Q : Fin → Shared → Prop} (hg : gens[d]? = some ⟨tg, iter, ifs, 0⟩) (hn : ∀ g, gens[d + 1]? = some g → g.is_async = 0 ∧ ∀ x, foldedSetIterable g.iter env x = pure x)
    (h : wpAny (model prog w) A (pyNext it) (fun r s1 => match r with
      | none => Q (.done .next) s1
      | some v => wpAny (model prog w) A (letOwnedTupleGo tg it v) (fun _ s2 => wpAny (model prog w) A (assign tg env v) (fun _ s3 => wpAny (model prog w) A (forIn ifs true fun c r => if r = true then do let ok ← isTrue c env (eval c env); pure (ForInStep.yield ok) else pure (ForInStep.yield r)) (fun ok s4 =>
          if ok = true then Bod (model prog w) A elt gens scope pos d acc env (fun s5 => Q (.again (.compLoop (.ListComp elt gens scope pos) d it acc env)) s5) s4
          else Q (.again (.compLoop (.ListComp elt gens scope pos) d it acc env)) s4) (fun _ _ => False) s3) (fun _ _ => False) s2) (fun _ _ => False) s1) (fun _ _ => False) s) :
    wpAny (model prog w) A (compTurn (.ListComp elt gens scope pos) d it acc env) Q (fun _ _ => False) s := by
  unfold compTurn
  simp only [hg]
  refine wpAny_bind (wpAny_standAt (wpAny_bind ?_))
  refine wpAny_mono h (fun r s1 h1 => ?_) fun _ _ z => z
  cases r with
  | none => exact wpAny_pure h1
  | some v =>
    refine wpAny_bind (wpAny_mono h1 (fun _ s2 h2 => wpAny_bind (wpAny_mono h2 (fun _ s3 h3 => wpAny_bind (wpAny_mono h3 (fun ok s4 h4 => ?_) fun _ _ z => z)) fun _ _ z => z)) fun _ _ z => z)
    cases ok with
    | false => exact wpAny_pure h4
    | true =>
      have h4 : Bod (model prog w) A elt gens scope pos d acc env _ s4 := h4
      unfold Bod at h4
      cases hx : gens[d + 1]? with
      | none =>
        rw [hx] at h4
        exact wpAny_bind (wpAny_bind (wpAny_mono h4 (fun x s5 h5 => wpAny_bind (wpAny_mono h5 (fun _ s6 h6 => wpAny_pure (wpAny_pure h6)) fun _ _ z => z)) fun _ _ z => z))
      | some g =>
        obtain ⟨ga, gf⟩ := hn g hx
        rw [hx] at h4
        refine wpAny_bind (wpAny_mono h4 (fun x s5 h5 => ?_) fun _ _ z => z)
        refine wpAny_bind (wpAny_standAt ?_)
        simp only [ga]
        refine wpAny_bind (wpAny_of_eq' (gf x) ?_)
        refine wpAny_bind (wpAny_holding (wpAny_mono h5 (fun jt s6 h6 => ?_) fun _ _ z => z))
        refine wpAny_bind (wpAny_runOwn ?_)
        rw [Around.mark_none]
        refine codeAny_mono h6 fun r s7 h7 => ?_
        cases r with
        | error e => exact False.elim h7
        | ok f => exact wpAny_pure h7
/-- a clause's loop -/
theorem loop_ok (hg : gens[d]? = some ⟨tg, iter, ifs, 0⟩) (hn : ∀ g, gens[d + 1]? = some g → g.is_async = 0 ∧ ∀ x, foldedSetIterable g.iter env x = pure x) (J : Nat → Shared → Prop)
    (step : ∀ n s, J n s → wpAny (model prog w) A (pyNext it) (fun r s1 => match r with
      | none => R (.ok .next) s1
      | some v => wpAny (model prog w) A (letOwnedTupleGo tg it v) (fun _ s2 => wpAny (model prog w) A (assign tg env v) (fun _ s3 => wpAny (model prog w) A (forIn ifs true fun c r => if r = true then do let ok ← isTrue c env (eval c env); pure (ForInStep.yield ok) else pure (ForInStep.yield r)) (fun ok s4 =>
          if ok = true then Bod (model prog w) A elt gens scope pos d acc env (fun s5 => ∃ m, m < n ∧ J m s5) s4
          else ∃ m, m < n ∧ J m s4) (fun _ _ => False) s3) (fun _ _ => False) s2) (fun _ _ => False) s1) (fun _ _ => False) s)
    (n : Nat) (h : J n s) : codeAny (model prog w) A (.compLoop (.ListComp elt gens scope pos) d it acc env) R s := by
  refine codeAny_loop rfl J (fun k u hu => wpAny_noted (low ?_)) n h
  refine turn_ok hg hn (wpAny_mono (step k u hu) (fun r s1 h1 => ?_) fun _ _ z => z)
  cases r with
  | none => exact h1
  | some v =>
    refine wpAny_mono h1 (fun _ s2 h2 => wpAny_mono h2 (fun _ s3 h3 => wpAny_mono h3 (fun ok s4 h4 => ?_) fun _ _ z => z) fun _ _ z => z) fun _ _ z => z
    cases ok with
    | false => exact ⟨rfl, h4⟩
    | true =>
      have h4 : Bod (model prog w) A elt gens scope pos d acc env (fun s5 => ∃ m, m < k ∧ J m s5) s4 := h4
      show Bod (model prog w) A elt gens scope pos d acc env _ s4
      unfold Bod at h4 ⊢
      cases hx : gens[d + 1]? with
      | none =>
        rw [hx] at h4
        exact wpAny_mono h4 (fun x s5 h5 => wpAny_mono h5 (fun _ s6 h6 => ⟨rfl, h6⟩) fun _ _ z => z) fun _ _ z => z
      | some g =>
        rw [hx] at h4
        refine wpAny_mono h4 (fun x s5 h5 => wpAny_mono h5 (fun jt s6 h6 => codeAny_mono h6 fun r s7 h7 => ?_) fun _ _ z => z) fun _ _ z => z
        cases r with
        | error e => exact h7
        | ok f => exact ⟨rfl, h7⟩
theorem start_ok (hg : gens[d]? = some ⟨tg, iter, ifs, 0⟩) (h0 : codeAny (model prog w) A (.compLoop (.ListComp elt gens scope pos) d it acc env) R s)
    (h : wpAny (model prog w) A (pyIter it) (fun jt s1 => codeAny (model prog w) A (.compLoop (.ListComp elt gens scope pos) d jt acc env) R s1) (fun _ _ => False) s) :
    codeAny (model prog w) A (.compStart (.ListComp elt gens scope pos) d it acc env) R s := by
  refine codeAny_of_tree (wpAny_notedAt (E := fun x s' => R (.error x) s') ?_)
  have e : clausesOf (.ListComp elt gens scope pos) = gens := rfl
  unfold compStart
  simp only [e, hg]
  refine wpAny_bind (wpAny_askSetting (wpAny_ite ?_))
  split
  · exact wpAny_bind (wpAny_pure (wpAny_pure ⟨rfl, h0⟩))
  · exact wpAny_bind (wpAny_rule (wpAny_bind (wpAny_standAt (wpAny_bind (wpAny_mono h (fun jt s1 h1 => wpAny_pure ⟨rfl, h1⟩) fun _ _ z => z.elim)))))
end
/-! ### bodies, read -/
abbrev BB := L2.St → Hp → (Hp → Prop) → Prop
def Kn (vs : List Nat) (σ σ' : L2.St) : Prop := (wipe σ vs).length = σ'.length ∧ ∀ (j : Nat) v, (wipe σ vs)[j]? = some (some v) → σ'[j]? = some (some v)
theorem Kn.refl {vs : List Nat} {σ : L2.St} : Kn vs σ (wipe σ vs) := ⟨rfl, fun _ _ e => e⟩
structure PB (X : Cx) (elt : Expr) (gens : List Comprehension) (scope : Scope) (pos : Pos) (d : Nat) (D : Addr) (vs : List Nat) (B : BB) : Prop where
  run : ∀ (pins : List (Addr × Obj)) (s : Shared) (σ : L2.St) (H : Hp) (Nx : Hp → Prop), Inv X pins σ H s → B σ H Nx →
    Bod (model X.prog X.w) X.A elt gens scope pos d (.ref D) X.env (fun s' => ∃ σ' H', Inv X pins σ' H' s' ∧ Kn vs σ σ' ∧ Nx H') s
def bApp (te : TE) (D : Addr) : BB := fun σ H Nx => te σ H fun y H1 => ∃ acc, H1 D = some (.lst acc) ∧ acc.length < sizeLine ∧ Nx (upd H1 D (.lst (acc ++ [y])))
/-- what a clause's turn comes to, with the body B -/
def Turns (J : It) (g : TG) (tt : TT) (B : BB) (vs : List Nat) (σ : L2.St) (End : Hp → Prop) (W : Nat → Nat → Hp → Prop) : Prop := ∀ i m H, W i m H →
  (J.stop i H ∧ End H) ∨ (J.go i H ∧ ∃ Nx : Hp → Prop, (∀ H', Nx H' → ∃ k, k < m ∧ W (i + 1) k H') ∧ ∀ x H', J.yld i H x H' → g x (wipe σ vs) H' fun σ2 H2 => wipe σ2 vs = wipe σ vs ∧ tt σ2 H2 fun b H3 => if b = true then B σ2 H3 Nx else Nx H3)
def bCl (wi : TI) (g : TG) (tt : TT) (B : Addr → BB) (vs : List Nat) (D : Addr) : BB := fun σ H Nx => wi σ H fun J H1 => ∃ W : Nat → Nat → Hp → Prop, (∃ m, W 0 m H1) ∧ Turns J g tt (B D) vs σ Nx W
def tLcN (wi : TI) (g : TG) (tt : TT) (B : Addr → BB) (vs : List Nat) : TE := fun σ H Q => wi σ H fun J H1 => ∀ D, H1 D = none → ∃ W : Nat → Nat → Hp → Prop, (∃ m, W 0 m (upd H1 D (.lst []))) ∧ Turns J g tt (B D) vs σ (fun H' => Q (.ref D) H') W
def NextOk (gens : List Comprehension) (d : Nat) : Prop := ∀ (env : Env) (g : Comprehension), gens[d + 1]? = some g → g.is_async = 0 ∧ ∀ x, foldedSetIterable g.iter env x = pure x
section
variable {X : Cx} {pins : List (Addr × Obj)} {s : Shared} {σ : L2.St} {elt tg iter : Expr} {ifs : List Expr} {gens : List Comprehension} {scope : Scope} {pos : Pos} {d : Nat} {D : Addr} {vs vs1 : List Nat} {wi : TI} {g : TG} {tt : TT} {te : TE} {B : Addr → BB}
theorem loop_core {fp : List Addr} {jt : Addr} {tn : Nat → Heap → Prop} {J : It} {R : Result → Shared → Prop} {Bd : BB} {H : Hp} {m : Nat} (hc : X.calm = true) (hxe : X.xe = fun _ _ => False) (hg : gens[d]? = some ⟨tg, iter, ifs, 0⟩) (hn : NextOk gens d) (T : Turn X.prog X.w X.K tg J fp jt tn) (pg : PG X tg g) (pt : PTs X ifs tt) (pb : PB X elt gens scope pos d D vs1 Bd) (hv : ∀ i ∈ vs1, i ∈ vs)
    (stat : ∀ {σ' : L2.St} {H' : Hp} {s' : Shared}, Inv X pins σ' H' s' → (∀ b ∈ fp, H' b = none) → ∀ b ∈ fp, FpOk X pins H' b) {W : Nat → Nat → Hp → Prop} {End : Hp → Prop} (turn : Turns J g tt Bd vs σ End W)
    (fin : ∀ s' H', Inv X pins (wipe σ vs) H' s' → End H' → R (.ok .next) s') (I : Inv X pins (wipe σ vs) H s) (st : tn 0 s.heap) (n0 : ∀ b ∈ fp, H b = none) (w0 : W 0 m H) :
    codeAny (model X.prog X.w) X.A (.compLoop (.ListComp elt gens scope pos) d (.ref jt) (.ref D) X.env) R s := by
  refine loop_ok hg (hn X.env) (fun k s' => ∃ i H', (Inv X pins (wipe σ vs) H' s' ∧ tn i s'.heap) ∧ (∀ b ∈ fp, H' b = none) ∧ W i k H') ?_ m ⟨0, H, ⟨I, st⟩, n0, w0⟩
  rintro k s1 ⟨i, H1, ⟨I1, st1⟩, n1, w1⟩
  rcases turn i k H1 w1 with ⟨stop, ee⟩ | ⟨go, Nx, hNx, step⟩
  · refine wpAny_mono (T.done X rfl rfl rfl hc i _ s1 _ H1 _ I1 (stat I1 n1) st1 stop) (fun r s2 ⟨hr, I2⟩ => ?_) fun _ _ z => z
    cases hr
    exact fin s2 H1 I2 ee
  refine wpAny_mono (T.item X rfl rfl rfl hc i _ s1 _ H1 _ I1 (stat I1 n1) st1 go) (fun r s2 ⟨u, hr, h2⟩ => ?_) fun _ _ z => z
  cases hr
  refine wpAny_mono h2 (fun _ s3 ⟨x, H3, I3, r3, y3, st3, n3⟩ => ?_) fun _ _ z => z
  have ob := T.obj _ _ st3
  have I4 := I3.pinned (stat I3 n3) ob
  have go4 := pg.run _ s3 _ H3 x u _ I4 r3 (step x H3 y3)
  rw [hxe] at go4
  refine wpAny_mono go4 (fun _ s4 ⟨σ4, H4, I5, w4, q4⟩ => ?_) fun _ _ z => z
  have go5 := pt.run _ s4 σ4 H4 _ I5 q4
  rw [hxe] at go5
  refine wpAny_mono go5 (fun b s5 ⟨H5, I6, q5⟩ => ?_) fun _ _ z => z
  have back : ∀ {σ9 : L2.St} {s' : Shared} {H' : Hp}, Inv X (pins ++ pinsAt fp s3.heap) σ9 H' s' → Kn vs1 σ4 σ9 → Nx H' → ∃ m', m' < k ∧ ∃ i H', (Inv X pins (wipe σ vs) H' s' ∧ tn i s'.heap) ∧ (∀ b ∈ fp, H' b = none) ∧ W i m' H' := fun {σ9 s' H'} I' kn nx => by
    obtain ⟨m', lt, w'⟩ := hNx H' nx
    have held : ∀ b ∈ fp, ∀ o, s3.heap.get? b = some o → s'.heap.get? b = some o ∧ H' b = none := fun b hb o e => by
      have z := I'.pin (b, o) (List.mem_append_right _ (List.mem_append_right _ (mem_pinsAt hb e)))
      exact ⟨z.1, z.2.1⟩
    refine ⟨m', lt, i + 1, H', ⟨I'.unpinned.weak ?_ fun j v e => ?_, T.keep _ _ _ st3 fun b hb o e => (held b hb o e).1⟩, fun b hb => ?_, w'⟩
    · rw [← kn.1, ← w4, wipe_length, wipe_length]
    · refine kn.2 j v ?_
      rw [← w4] at e
      obtain ⟨a, c⟩ := wipe_some e
      rw [wipe_out fun z => c (hv j z)]
      exact a
    · obtain ⟨o, e, _⟩ := ob b hb
      exact (held b hb o e).2
  cases b with
  | false =>
    rw [if_neg Bool.false_ne_true] at q5 ⊢
    exact back I6 ⟨wipe_length _ _, fun j v e => (wipe_some e).1⟩ q5
  | true =>
    rw [if_pos rfl] at q5 ⊢
    have hb := pb.run _ s5 σ4 H5 _ I6 q5
    unfold Bod at hb ⊢
    cases hx : gens[d + 1]? with
    | none =>
      rw [hx] at hb
      exact wpAny_mono hb (fun _ s6 h6 => wpAny_mono h6 (fun _ s7 ⟨σ7, H7, I7, k7, n7⟩ => back I7 k7 n7) fun _ _ z => z) fun _ _ z => z
    | some g2 =>
      rw [hx] at hb
      refine wpAny_mono hb (fun _ s6 h6 => wpAny_mono h6 (fun _ s7 h7 => codeAny_mono h7 fun r s8 h8 => ?_) fun _ _ z => z) fun _ _ z => z
      cases r with
      | error e => exact h8
      | ok f =>
        obtain ⟨σ8, H8, I8, k8, n8⟩ := h8
        exact back I8 k8 n8
theorem pb_last (hx : gens[d + 1]? = none) (hxe : X.xe = fun _ _ => False) (pe : PE X elt te) : PB X elt gens scope pos d D [] (bApp te D) := by
  refine ⟨fun pins s σ H Nx I b => ?_⟩
  have h1 := pe.run pins s σ H _ I b
  rw [hxe] at h1
  unfold Bod
  rw [hx]
  refine wpAny_mono h1 (fun v s1 ⟨y, H1, I1, r1, acc, e1, z1, nx⟩ => ?_) fun _ _ z => z
  exact app_ok I1 e1 z1 r1 fun s2 I2 => ⟨σ, _, I2, ⟨rfl, fun _ _ e => e⟩, nx⟩
theorem pb_next (hx : gens[d + 1]? = some ⟨tg, iter, ifs, 0⟩) (hn : NextOk gens (d + 1)) (hc : X.calm = true) (hxe : X.xe = fun _ _ => False) (hi : PI X tg iter wi) (pg : PG X tg g) (pt : PTs X ifs tt) (pb : PB X elt gens scope pos (d + 1) D vs1 (B D)) (hv : ∀ i ∈ vs1, i ∈ vs) : PB X elt gens scope pos d D vs (bCl wi g tt B vs D) := by
  refine ⟨fun pins s σ H Nx I b => ?_⟩
  have h1 := hi.run pins s σ H _ I b
  rw [hxe] at h1
  unfold Bod
  rw [hx]
  refine wpAny_mono h1 (fun v s1 h2 => wpAny_mono h2 (fun jv s2 h3 => ?_) fun _ _ z => z) fun _ _ z => z
  obtain ⟨jt, fp, tn, J, H2, rfl, I2, T, st2, f2, W, ⟨m, w0⟩, turn⟩ := h3
  have lp := loop_core (elt := elt) (scope := scope) (pos := pos) (R := fun r s' => match r with | .ok _ => ∃ σ' H', Inv X pins σ' H' s' ∧ Kn vs σ σ' ∧ Nx H' | .error _ => False) hc hxe hx hn T pg pt pb hv (fun I' n b hb => ⟨n b hb, (f2 b hb).2⟩) turn (fun s' H' I' e => ⟨_, H', I', Kn.refl, e⟩) (I2.weak (wipe_length _ _) fun j v e => (wipe_some e).1) st2 (fun b hb => (f2 b hb).1) w0
  exact start_ok hx lp (T.self X.A 0 _ _ _ st2 lp)
/-- the block's context, for the rules of what stands in it -/
abbrev Blk (X : Cx) (scope : Scope) (Pr : Cx → Prop) : Prop := ∀ (u : Shared) (G : Hp) (C : Addr) (cl : List (Str × Addr)) (fp : List Addr), Pr (X.blk u G scope (compEnvC scope cl C X.env) fp)
theorem pe_lcN {rest : List Comprehension} {own : List (Str × Nat)} (hc : X.calm = true) (hN : X.N.Nodup) (hi : PI X tg iter wi) (ok : BlkOk X.N X.env.scope scope own)
    (hg : Blk X scope fun Y => PG Y tg g) (ht : Blk X scope fun Y => PTs Y ifs tt) (hb : ∀ D, Blk X scope fun Y => PB Y elt (⟨tg, iter, ifs, 0⟩ :: rest) scope pos 0 D vs1 (B D)) (hv : ∀ i ∈ vs1, i ∈ own.map (·.2)) (hn : NextOk (⟨tg, iter, ifs, 0⟩ :: rest) 0)
    (hs : ∀ x, foldedSetIterable iter X.env x = pure x := by intro _; rfl) :
    PE X (.ListComp elt (⟨tg, iter, ifs, 0⟩ :: rest) scope pos) (tLcN wi g tt B (own.map (·.2))) := by
  refine ⟨fun pins s σ H Q I h => ?_⟩
  rw [eval_ListComp]
  have caught : ∀ y ∈ scope.names, y.2 = .free → ∃ c, X.env.cells.lookup y.1 = some c := fun y hy e =>
    (ok.free y hy e).elim (fun k => I.ok.has _ (.inl k)) fun k => I.ok.has _ (.inr k)
  refine wpAny_comprehension_free (use := none) rfl hs (closure_ok caught) ok.kind (fun y hy e => by rw [ok.uniq y hy, e]) (thn (hi.run pins s σ H _ I h) fun _ s1 h1 => thn h1 fun _ s2 h2 => ?_)
  obtain ⟨jt, fp, tn, J, H2, rfl, I2, T, st2, f2, q⟩ := h2
  refine wpAny_newObj_type (newEnv_comp ?_) (by show 0 ≤ sizeLine; decide)
  obtain ⟨D, hD⟩ : ∃ D, D = s2.heap.objs.size := ⟨_, rfl⟩
  rw [← hD]
  obtain ⟨W, ⟨m, w0⟩, turn⟩ := q D (I2.hok.fresh (Nat.le_of_eq hD.symm))
  obtain ⟨s3, e3⟩ : ∃ s3 : Shared, s3 = { s2 with heap := s2.heap.push { cls := .type "list", data := .seq ([] : List Value).toArray } } := ⟨_, rfl⟩
  rw [← e3]
  have h3 : s3.heap = s2.heap.push { cls := .type "list", data := .seq ([] : List Value).toArray } := by
    rw [e3]
  have old : ∀ {b : Addr} {o : Obj}, s2.heap.get? b = some o → s3.heap.get? b = some o := fun e => h3 ▸ Heap.get?_push_of_some _ e
  have I3 : Inv X pins σ (upd H2 D (.lst [])) s3 := by
    have z := I2.laid (a := D) (o := .lst []) (h' := s3.heap) (t' := s2.toks) (fun b o e => old e) (Nat.le_of_eq hD.symm) ⟨Nat.zero_le _, [], 0, .nil, by rw [h3, hD]; exact Heap.get?_push_size _ rfl⟩
    rw [e3] at z ⊢
    exact z
  have small : ∀ b ∈ fp, b < s2.heap.objs.size := fun b hb => by
    obtain ⟨_, e, _⟩ := T.obj _ _ st2 b hb
    exact Heap.lt_size e
  have f3 : ∀ b ∈ fp, FpOk X pins (upd H2 D (.lst [])) b ∧ b < s3.heap.objs.size := fun b hb => by
    have lt := small b hb
    have ne : b ≠ D := fun z => Nat.lt_irrefl _ (hD ▸ z ▸ lt)
    exact ⟨⟨(upd_ne ne).trans (f2 b hb).1, (f2 b hb).2⟩, by rw [h3, Heap.size_push]; exact Nat.lt_of_lt_of_le lt (Nat.le_succ _)⟩
  have st3 : tn 0 s3.heap := T.keep _ _ _ st2 fun b _ o e => old e
  have I4 := block_start I3 ok hN f3
  obtain ⟨cl, ecl⟩ : ∃ cl, cl = cellsFrom (s3.heap.objs.size + 1) scope.names (cloFrom X.env.cells scope.names []) := ⟨_, rfl⟩
  obtain ⟨H3, eH3⟩ : ∃ H3, H3 = upd H2 D (.lst []) := ⟨_, rfl⟩
  obtain ⟨Y, eY⟩ : ∃ Y, Y = X.blk s3 H3 scope (compEnvC scope cl s3.heap.objs.size X.env) fp := ⟨_, rfl⟩
  have pg : PG Y tg g := eY ▸ hg _ _ _ _ _
  have pt : PTs Y ifs tt := eY ▸ ht _ _ _ _ _
  have pb : PB Y elt (⟨tg, iter, ifs, 0⟩ :: rest) scope pos 0 D vs1 (B D) := eY ▸ hb D _ _ _ _ _
  rw [← ecl, ← eH3, ← eY] at I4
  rw [← eH3] at I3 f3 w0
  obtain ⟨s4, e4⟩ : ∃ s4 : Shared, s4 = { s3 with heap := pushCells (s3.heap.push { cls := .type "dict", data := .dict #[] }) scope.names } := ⟨_, rfl⟩
  rw [← e4] at I4 ⊢
  have st4 : tn 0 s4.heap := T.keep _ _ _ st3 fun b _ o e => by
    rw [e4]
    exact pushCells_keeps _ _ _ _ (Heap.get?_push_of_some _ e)
  have a1 : Y.prog = X.prog := by rw [eY]
  have a2 : Y.w = X.w := by rw [eY]
  have a3 : Y.K = X.K := by rw [eY]
  have a4 : Y.A = X.A := by rw [eY]
  have a5 : Y.env = compEnvC scope cl s3.heap.objs.size X.env := by rw [eY]
  have a6 : Y.env.locals = s3.heap.objs.size := by rw [a5]; rfl
  have T' : Turn Y.prog Y.w Y.K tg J fp jt tn := by
    rw [a1, a2, a3]
    exact T
  have stat : ∀ {σ' : L2.St} {H' : Hp} {s' : Shared}, Inv Y [] σ' H' s' → (∀ b ∈ fp, H' b = none) → ∀ b ∈ fp, FpOk Y [] H' b := fun {σ' H' s'} I' hn b hb => by
    have x1 := I'.ok.exf b (by rw [eY]; exact hb)
    have x2 := I'.ok.exfs b (by rw [eY]; exact hb)
    refine ⟨hn b hb, x1.1, x2, .inl (by rw [eY]; exact hb), fun x c e => x1.2 x c e, fun p hp => ?_⟩
    rw [eY] at hp
    cases hp
  have lp := loop_core (X := Y) (elt := elt) (gens := ⟨tg, iter, ifs, 0⟩ :: rest) (scope := scope) (pos := pos) (d := 0) (D := D) (R := compPost (model X.prog X.w) X.A X.xe none (fun v s' => ∃ x H1, Inv X pins σ H1 s' ∧ RelV x v ∧ Q x H1) (.ref D) s3.heap.objs.size) (by rw [eY]; exact hc) (by rw [eY]) rfl hn T' pg pt pb hv stat turn (fun s' H' I' e => ?_) I4 st4 (fun b hb => (f3 b hb).1.1) w0
  rotate_left
  · have I7 : Inv X pins σ H' s' := by
      rw [eY] at I'
      exact I3.call' (ch := fp) I'.os I'.base I'.hok I'.bare fun b hb => by
        obtain ⟨⟨_, z1, z2, z3, z4, z5⟩, _⟩ := f3 b hb
        exact ⟨z3, z1, z4, z5⟩
    have free : H' s3.heap.objs.size = none := by
      have z := I'.free
      rw [a6] at z
      exact z
    obtain ⟨k, ns, _⟩ := I'.loc
    rw [a6] at ns
    obtain ⟨f0, f1, f2, f3, f4, f5⟩ := I3.fpOk (Nat.le_refl _) free
    exact ⟨k, ns, fun h' sb => ⟨.ref D, H', I7.turned (t' := s'.toks) (fun b o hb e => (sb.2 b hb).trans e) f0 f1 f3 f4 f5, rfl, e⟩⟩
  rw [a1, a2, a4, a5, ecl] at lp
  exact codeAny_compStart_list lp (T.self X.A 0 _ _ _ st4 lp)
end
end KCl

/-! List comprehensions of any number of clauses, over data. -/
namespace KCl
open PySem PySem.Spec PyProof.Rows L2 KD
/-- the body adds es to the list at D -/
def GB (X : Addr → Prop) (B : BB) (D : Addr) (σ : L2.St) (H H0 : Hp) (es : List PyData) : Prop := ∀ H1, Same H H1 → ∀ (acc : List V) (ds : List PyData) (Nx : Hp → Prop), H1 D = some (.lst acc) → DXs X H1 acc ds → ds.length + es.length ≤ 1000000 →
  (∀ H' acc', Kp X H1 H' → Same H0 H' → Trk X H' → H' D = some (.lst acc') → DXs X H' acc' (ds ++ es) → Nx H') → B σ H1 Nx
/-- where a body stands -/
structure At (X : Addr → Prop) (D : Addr) (H0 H : Hp) : Prop where
  at_ : X D
  new : H0 D = none
  old : Same H0 H
  t : Trk X H
theorem At.mono {X : Addr → Prop} {D : Addr} {H0 H H1 : Hp} (a : At X D H0 H) (s : Same H H1) : At X D H0 H1 := ⟨a.at_, a.new, a.old.trans s, a.t.mono s⟩
section
variable {X : Addr → Prop} {D : Addr} {σ : L2.St} {H H0 : Hp} {wi : TI} {g : TG} {tt : TT} {te : TE} {B : Addr → BB} {vs : List Nat} {ds : List PyData}
theorem gb_app {d : PyData} (a : At X D H0 H) (h : G X te σ H d) : GB X (bApp te D) D σ H H0 [d] := fun H1 s1 acc ds Nx e dx l k => by
  refine h H1 s1 _ fun y H2 s2 r => ⟨acc, s2 _ _ e, ?_, ?_⟩
  · rw [dx.length, sizeLine_eq]
    simp only [List.length_singleton] at l
    omega
  · have a2 := (a.mono s1).mono s2
    exact k _ (acc ++ [y]) ((Kp.of s2).trans (Kp.put a.at_)) (Same.mut a2.old a.new) a2.t.put upd_same (((dx.mono (Kp.of s2)).snoc r).mono (Kp.put a.at_))
theorem gb_cl {Γ : PyData → List Sv} (f : PyData → Bool) (h : PyData → List PyData) (a : At X D H0 H) (hi : GI X wi σ H ds) (hg : ∀ H1, Same H H1 → ∀ e ∈ ds, Tgt X g σ (Γ e) vs e H1)
    (hb : ∀ H1 σ3 e, e ∈ ds → At X D H0 H1 → EnvOk X H1 σ3 (Γ e) → GT tt σ3 H1 (f e) ∧ (f e = true → GB X (B D) D σ3 H1 H0 (h e))) : GB X (bCl wi g tt B vs D) D σ H H0 ((ds.filter f).flatMap h) := fun H1 s1 acc es Nx e dx l k => by
  refine hi H1 s1 _ fun J H2 s2 w => ?_
  obtain ⟨Gd, Y, w1, w2⟩ := w
  let Pw : Nat → Hp → Prop := fun j G => Kp X H2 G ∧ At X D H0 G ∧ ∃ acc', G D = some (.lst acc') ∧ DXs X G acc' (es ++ ((ds.take j).filter f).flatMap h)
  refine ⟨fun j m G => m = ds.length - j ∧ j ≤ ds.length ∧ Pw j G, ⟨_, rfl, Nat.zero_le _, Kp.refl, (a.mono s1).mono s2, acc, s2 _ _ e, by simpa using dx.mono (Kp.of s2)⟩, ?_⟩
  rintro j m G ⟨rfl, hj, c1, c2, acc2, c4, c5⟩
  have both := w2 X (fun _ z => .inl z) G c1 c2.t
  by_cases lj : j < ds.length
  rotate_left
  · have ej : j = ds.length := by omega
    subst ej
    rw [List.take_length] at c5
    exact .inl ⟨w1.stops G both.1, k G acc2 ((Kp.of s2).trans c1) c2.old c2.t c4 c5⟩
  refine .inr ⟨w1.goes j G lj both.1, Pw (j + 1), fun H' p' => ⟨_, by omega, rfl, lj, p'⟩, fun x G2 y => ?_⟩
  obtain ⟨s3, e3, m3, dx3⟩ := both.2 j x G2 (w1.yields j G x G2 lj both.1 y)
  have mem := List.mem_of_getElem? m3
  have a3 := c2.mono s3
  refine hg H2 (s1.trans s2) e3 mem X G2 ⟨fun _ z => z, fun _ z => .inl z⟩ (c1.trans (Kp.of s3)) a3.t x dx3 _ fun σ3 E3 hw => ⟨hw, ?_⟩
  obtain ⟨b1, b2⟩ := hb G2 σ3 e3 mem a3 E3
  have more : ds.take (j + 1) = ds.take j ++ [e3] := by rw [List.take_add_one, m3]; rfl
  refine b1 G2 (Same.refl _) _ fun G3 s4 => ?_
  cases hf : f e3 with
  | true =>
    refine iteT (b2 hf G3 s4 acc2 _ _ ((s3.trans s4) _ _ c4) (c5.mono (Kp.of (s3.trans s4))) ?_ fun G4 acc4 q1 q2 q3 q4 q5 => ⟨(c1.trans (Kp.of (s3.trans s4))).trans q1, ⟨a.at_, a.new, q2, q3⟩, acc4, q4, ?_⟩)
    · have all : ((ds.filter f).flatMap h).length = (((ds.take (j + 1)).filter f).flatMap h).length + (((ds.drop (j + 1)).filter f).flatMap h).length := by
        rw [← List.length_append, ← List.flatMap_append, ← List.filter_append, List.take_append_drop]
      rw [more, List.filter_append, List.flatMap_append, List.length_append] at all
      have one : ([e3].filter f).flatMap h = h e3 := by simp [hf]
      rw [one] at all
      rw [List.length_append]
      omega
    · rw [more, List.filter_append, List.flatMap_append, ← List.append_assoc]
      have one : ([e3].filter f).flatMap h = h e3 := by simp [hf]
      rw [one]
      exact q5
  | false =>
    refine iteF ⟨c1.trans (Kp.of (s3.trans s4)), a3.mono s4, acc2, (s3.trans s4) _ _ c4, ?_⟩
    rw [more, List.filter_append, List.flatMap_append]
    have one : ([e3].filter f).flatMap h = [] := by simp [hf]
    rw [one, List.append_nil]
    exact c5.mono (Kp.of (s3.trans s4))
theorem g_lcN {Γ : PyData → List Sv} (f : PyData → Bool) (h : PyData → List PyData) (t : Trk X H) (hi : GI X wi σ H ds) (hl : ((ds.filter f).flatMap h).length ≤ 1000000) (hg : ∀ H1, Same H H1 → ∀ e ∈ ds, Tgt X g σ (Γ e) vs e H1)
    (hb : ∀ X' D H0 H1 σ3 e, e ∈ ds → At X' D H0 H1 → EnvOk X' H1 σ3 (Γ e) → GT tt σ3 H1 (f e) ∧ (f e = true → GB X' (B D) D σ3 H1 H0 (h e))) : G X (tLcN wi g tt B vs) σ H (.list ((ds.filter f).flatMap h)) := fun H1 s1 Q q =>
  hi H1 s1 _ fun J H2 s2 w => by
    intro D hD
    obtain ⟨Gd, Y, w1, w2⟩ := w
    have s02 := s1.trans s2
    have t2 : Trk X H2 := t.mono s02
    let X' : Addr → Prop := fun b => X b ∨ b = D
    have m2 : More X X' H2 := More.one hD
    have nD : ¬ X D := t2.new hD
    let Pw : Nat → Hp → Prop := fun j G => At X' D H2 G ∧ ∃ acc', G D = some (.lst acc') ∧ DXs X' G acc' (((ds.take j).filter f).flatMap h)
    refine ⟨fun j m G => m = ds.length - j ∧ j ≤ ds.length ∧ Pw j G, ⟨_, rfl, Nat.zero_le _, ⟨.inr rfl, hD, Same.upd hD, t2.one hD⟩, [], upd_same, .nil⟩, ?_⟩
    rintro j m G ⟨rfl, hj, c2, acc2, c4, c5⟩
    have both := w2 X' m2.2 G (Kp.of c2.old) c2.t
    by_cases lj : j < ds.length
    rotate_left
    · have ej : j = ds.length := by omega
      subst ej
      rw [List.take_length] at c5
      exact .inl ⟨w1.stops G both.1, q (.ref D) G (s2.trans c2.old) (.lst nD c4 (c5.less fun _ => .inl))⟩
    refine .inr ⟨w1.goes j G lj both.1, Pw (j + 1), fun H' p' => ⟨_, by omega, rfl, lj, p'⟩, fun x G2 y => ?_⟩
    obtain ⟨s3, e3, m3, dx3⟩ := both.2 j x G2 (w1.yields j G x G2 lj both.1 y)
    have mem := List.mem_of_getElem? m3
    have a3 := c2.mono s3
    refine hg H2 s02 e3 mem X' G2 m2 (Kp.of a3.old) a3.t x dx3 _ fun σ3 E3 hw => ⟨hw, ?_⟩
    obtain ⟨b1, b2⟩ := hb X' D H2 G2 σ3 e3 mem a3 E3
    have more : ds.take (j + 1) = ds.take j ++ [e3] := by rw [List.take_add_one, m3]; rfl
    refine b1 G2 (Same.refl _) _ fun G3 s4 => ?_
    cases hf : f e3 with
    | true =>
      refine iteT (b2 hf G3 s4 acc2 _ _ ((s3.trans s4) _ _ c4) (c5.mono (Kp.of (s3.trans s4))) ?_ fun G4 acc4 q1 q2 q3 q4 q5 => ⟨⟨.inr rfl, hD, q2, q3⟩, acc4, q4, ?_⟩)
      · have all : ((ds.filter f).flatMap h).length = (((ds.take (j + 1)).filter f).flatMap h).length + (((ds.drop (j + 1)).filter f).flatMap h).length := by
          rw [← List.length_append, ← List.flatMap_append, ← List.filter_append, List.take_append_drop]
        rw [more, List.filter_append, List.flatMap_append, List.length_append] at all
        have one : ([e3].filter f).flatMap h = h e3 := by simp [hf]
        rw [one] at all
        omega
      · rw [more, List.filter_append, List.flatMap_append]
        have one : ([e3].filter f).flatMap h = h e3 := by simp [hf]
        rw [one]
        exact q5
    | false =>
      refine iteF ⟨a3.mono s4, acc2, (s3.trans s4) _ _ c4, ?_⟩
      rw [more, List.filter_append, List.flatMap_append]
      have one : ([e3].filter f).flatMap h = [] := by simp [hf]
      rw [one, List.append_nil]
      exact c5.mono (Kp.of (s3.trans s4))
theorem wipe_at {j : Nat} : ∀ {vs : List Nat} {σ : L2.St}, j ∈ vs → (wipe σ vs)[j]? = if j < σ.length then some none else none
  | v :: vs, σ, h => by
    unfold wipe
    by_cases e : v = j
    · subst e
      rw [List.getElem?_set_self', wipe_length_at]
    · rw [List.getElem?_set_ne e]
      exact wipe_at ((List.mem_cons.mp h).resolve_left fun z => e z.symm)
where
  wipe_length_at {j : Nat} {vs : List Nat} {σ : L2.St} : Functor.map (Function.const (Option V) none) ((wipe σ vs)[j]?) = if j < σ.length then some (none : Option V) else none := by
    by_cases h : j < σ.length
    · rw [if_pos h, List.getElem?_eq_getElem (by rw [wipe_length]; exact h)]
      rfl
    · rw [if_neg h, List.getElem?_eq_none (by rw [wipe_length]; omega)]
      rfl
theorem wipe_in {σ : L2.St} {vs : List Nat} {i : Nat} {x : Option V} (h : i ∈ vs) : wipe ((wipe σ vs).set i x) vs = wipe σ vs := by
  refine List.ext_getElem? fun j => ?_
  by_cases hj : j ∈ vs
  · rw [wipe_at hj, wipe_at hj, List.length_set, wipe_length]
  · have n1 : i ≠ j := fun e => hj (by rw [← e]; exact h)
    rw [wipe_out hj, List.getElem?_set_ne n1]
/-- a name, where more is forgotten than it -/
theorem tgt_in {i : Nat} {Γ : List Sv} {d : PyData} (E : EnvOk X H σ Γ) (h : i ∈ vs) : Tgt X (gName i) σ ((vs.foldr (fun v g => g.set v .un) Γ).set i (.dat d)) vs d H := fun X' H3 m k t v hd Ψ q => q _ ((((E.more m).mono k).wipe vs).set (i := i) hd) (wipe_in h)
theorem wipe_in2 {σ : L2.St} {i j : Nat} {x y : Option V} (h : i ∈ vs) (h2 : j ∈ vs) : wipe (((wipe σ vs).set i x).set j y) vs = wipe σ vs := by
  refine List.ext_getElem? fun l => ?_
  by_cases hj : l ∈ vs
  · rw [wipe_at hj, wipe_at hj, List.length_set, List.length_set, wipe_length]
  · have n1 : i ≠ l := fun e => hj (by rw [← e]; exact h)
    have n2 : j ≠ l := fun e => hj (by rw [← e]; exact h2)
    rw [wipe_out hj, List.getElem?_set_ne n2, List.getElem?_set_ne n1]
theorem tgt_pairIn {K : PySem.W.Frag} {i j : Nat} {Γ : List Sv} {d e : PyData} (E : EnvOk X H σ Γ) (h : i ∈ vs) (h2 : j ∈ vs) : Tgt X (gTup K 2 (gCons (gName i) (gCons (gName j) gNil))) σ (((vs.foldr (fun v g => g.set v .un) Γ).set i (.dat d)).set j (.dat e)) vs (.tuple [d, e]) H := fun X' H3 m k t v hd Ψ q =>
  g_pair hd fun u w h1 h4 => q _ ((((E.more m).mono k).wipe vs |>.set h1).set h4) (wipe_in2 h h2)
end
end KCl

/-! sorted of a list of data that stand in one order. -/
namespace KD
open PySem PySem.Spec PyProof.Rows L2
/-- the data in order -/
def sortD (ds : List PyData) : List PyData := ds.mergeSort (PySem.W.dataLe false id)
theorem sortD_perm (ds : List PyData) : (sortD ds).Perm ds := List.mergeSort_perm _ _
def rSortD : List V → Hp → VK → Prop := fun xs H Q => ∃ (X0 : Addr → Prop) (v : V) (ds : List PyData), xs = [v] ∧ DX X0 H v (.list ds) ∧ noDicts ds = true ∧ PySem.W.AllAlike ds ∧ PySem.W.Sortable ds ∧ (∀ d ∈ ds, d.depth ≤ 40) ∧
  ∀ p ys, H p = none → DXs X0 H ys (sortD ds) → Q (.ref p) (upd H p (.lst ys))
section
variable {X0 : Addr → Prop} {H : Hp}
theorem each_dx : ∀ {xs : List V} {ds : List PyData} {us : List Value}, DXs X0 H xs ds → Vals xs us → PySem.W.EachIs (fun u d => ∃ v, RelV v u ∧ DX X0 H v d) us ds
  | _, _, _, .nil, r => by
    cases r
    exact .nil
  | _, _, _, .cons h rs, r => by
    cases r with
    | cons r1 r2 => exact .cons ⟨_, r1, h⟩ (each_dx rs r2)
theorem dx_each : ∀ {ds : List PyData} {us : List Value}, PySem.W.EachIs (fun u d => ∃ v, RelV v u ∧ DX X0 H v d) us ds → ∃ xs, Vals xs us ∧ DXs X0 H xs ds
  | _, _, .nil => ⟨[], .nil, .nil⟩
  | _, _, .cons ⟨v, r, h⟩ t => by
    obtain ⟨xs, a, b⟩ := dx_each t
    exact ⟨v :: xs, .cons r a, .cons h b⟩
end
theorem cr_sortD {X : Cx} (hu : X.A.units + 64 < cLine) : CallR X (.builtin "sorted") rSortD := by
  intro pins s σ H vs us Q I r h
  obtain ⟨X0, v, ds, rfl, hd, nd, al, sb, dp, q⟩ := h
  cases hd with
  | @lst a xs _ n e rx =>
    obtain ⟨its, rv, hl, hz⟩ := I.list (SqL.of e)
    rw [Vals.ref1 r]
    obtain ⟨as, rd⟩ := Dp.readsAll I ds xs its (rx.dp nd) rv
    have mid : ds.map id = ds := List.map_id ds
    have hlen : ds.length ≤ sizeLine := by rw [← rx.length]; exact hz
    refine PySem.W.sorted_data (enc := id) (bs := ds) (R := fun u d => ∃ v, RelV v u ∧ DX X0 H v d) hl.isList (each_dx rx rv) (PySem.W.readsAll_each id (by rw [mid]; exact rd)) (by rw [mid]; exact al) (by rw [mid]; exact sb) hlen (fun b hb => ?_) fun out h1 h2 => ?_
    · have := dp b hb
      show X.A.units + 2 + b.depth < cLine
      omega
    · obtain ⟨ys, rys, dys⟩ := dx_each h2
      obtain ⟨ep, he'⟩ := PyProof.Rows.sortedAll_at s.heap its out.toArray
      have hy : ys.length ≤ sizeLine := by
        rw [dys.length, (List.mergeSort_perm ds _).length_eq]
        exact hlen
      exact ⟨.ref _, upd H (s.heap.objs.size + 1) (.lst ys), I.laid (t' := s.toks) (fun _ _ => PyProof.Rows.sortedAll_old) (Nat.le_succ _) ⟨hy, out, ep, rys, he'⟩, rfl, q _ ys (I.hok.fresh (Nat.le_succ _)) dys⟩
/-- sorted as a datum -/
theorem g_sorted {X : Addr → Prop} {σ : L2.St} {H : Hp} {te : TE} {ds : List PyData} (t : Trk X H) (h : G X te σ H (.list ds)) (nd : noDicts ds = true) (al : PySem.W.AllAlike ds) (sb : PySem.W.Sortable ds) (dp : ∀ d ∈ ds, d.depth ≤ 40) : GN X (tCB rSortD (tCons te tNil)) σ H (.list (sortD ds)) := fun H1 s Q q =>
  h H1 s _ fun v H2 s2 r => ⟨X, v, ds, rfl, r, nd, al, sb, dp, fun p ys hp dys => q _ _ (s2.trans (Same.upd hp)) (DX.newL ((t.mono s).mono s2) dys hp) (Nw.back s2 (Nw.of hp))⟩
end KD

/-! How many rows end at a match: mathematics over levels. -/
namespace KD
open PySem PySem.Spec PyProof.Rows L2 KL
abbrev IP := Int × Int
def ipD (p : IP) : PyData := .tuple [.int p.1, .int p.2]
def lvD (l : List IP) : PyData := .list (l.map ipD)
def levI (ls : List (List IP)) : PyData := .list (ls.map lvD)
/-- the second comes behind the first -/
def bhI (o m : IP) : Bool := decide (o.1 < m.1) && decide (o.2 < m.2)
def cntOne (prev : Option (List (IP × Int))) (m : IP) : Int := match prev with
  | none => 1
  | some ps => ((ps.filter fun o => bhI o.1 m).map (·.2)).sum
def stepC (prev : Option (List (IP × Int))) (l : List IP) : List (IP × Int) := l.map fun m => (m, cntOne prev m)
def endC : Option (List (IP × Int)) → List (List IP) → List (List (IP × Int))
  | _, [] => []
  | prev, l :: r => stepC prev l :: endC (some (stepC prev l)) r
/-- the level before the i-th -/
def pvA (prev : Option (List (IP × Int))) (ls : List (List IP)) : Nat → Option (List (IP × Int))
  | 0 => prev
  | i + 1 => (endC prev ls)[i]?
theorem endC_at : ∀ (ls : List (List IP)) (prev : Option (List (IP × Int))) (i : Nat) (l : List IP), ls[i]? = some l → (endC prev ls)[i]? = some (stepC (pvA prev ls i) l)
  | [], _, _, _, h => by simp at h
  | l :: r, prev, 0, _, h => by
    cases h
    rfl
  | l :: r, prev, i + 1, l', h => by
    show (endC (some (stepC prev l)) r)[i]? = _
    rw [endC_at r _ i l' (by simpa using h)]
    cases i with
    | zero => rfl
    | succ k => rfl
theorem endC_len : ∀ (ls : List (List IP)) (prev : Option (List (IP × Int))), (endC prev ls).length = ls.length
  | [], _ => rfl
  | l :: r, prev => by show (endC _ r).length + 1 = r.length + 1; rw [endC_len r]
theorem stepC_keys (prev : Option (List (IP × Int))) (l : List IP) : (stepC prev l).map (·.1) = l := by
  unfold stepC
  rw [List.map_map]
  exact (List.map_congr_left fun _ _ => rfl).trans (List.map_id l)
theorem endC_keys : ∀ (ls : List (List IP)) (prev : Option (List (IP × Int))), (endC prev ls).flatten.map (·.1) = ls.flatten
  | [], _ => rfl
  | l :: r, prev => by
    show (stepC prev l ++ (endC _ r).flatten).map (·.1) = l ++ r.flatten
    rw [List.map_append, stepC_keys, endC_keys r]
def keyI (p : IP) : List Key := [.inl p.1, .inl p.2]
def celI (c : IP × Int) : List Key × V := (keyI c.1, .int c.2)
theorem keyI_inj {p q : IP} (h : keyI p = keyI q) : p = q := by
  have h1 : (Sum.inl p.1 : Key) = .inl q.1 ∧ (Sum.inl p.2 : Key) = .inl q.2 := by simpa [keyI] using h
  exact Prod.ext (Sum.inl.inj h1.1) (Sum.inl.inj h1.2)
theorem val_mem : ∀ {C : List (IP × Int)} {x : IP} {c : Int}, (C.map (·.1)).Nodup → (x, c) ∈ C → valV (C.map celI) (keyI x) = some (.int c)
  | [], _, _, _, h => by cases h
  | a :: r, x, c, nd, h => by
    rw [List.map_cons, List.nodup_cons] at nd
    rw [List.map_cons]
    rcases List.mem_cons.mp h with rfl | h
    · exact valV_pos rfl
    · rw [valV_neg (fun e => nd.1 (by rw [keyI_inj e]; exact List.mem_map.mpr ⟨_, h, rfl⟩))]
      exact val_mem nd.2 h
theorem val_not : ∀ {C : List (IP × Int)} {x : IP}, x ∉ C.map (·.1) → valV (C.map celI) (keyI x) = none
  | [], _, _ => rfl
  | a :: r, x, h => by
    rw [List.map_cons, List.mem_cons] at h
    rw [List.map_cons, valV_neg (fun e => h (.inl (keyI_inj e).symm))]
    exact val_not fun z => h (.inr z)
theorem put_new {C : List (IP × Int)} {x : IP} {c : Int} (h : x ∉ C.map (·.1)) : putK (C.map celI) (keyI x) (.int c) = (C ++ [(x, c)]).map celI := by
  rw [putK_new _ (val_not h), List.map_append]
  rfl
end KD

/-! Sorted pairs of numbers: the one list that rises. -/
namespace KD
open PySem PySem.Spec PyProof.Rows L2 PySem.W
theorem dataLe_trans (a b c : PyData) (h1 : dataLe false id a b = true) (h2 : dataLe false id b c = true) : dataLe false id a c = true := (sortLe_total _ false _).trans a b c h1 h2
theorem dataLe_total (a b : PyData) : (dataLe false id a b || dataLe false id b a) = true := by
  rw [Bool.or_eq_true]
  exact (sortLe_total _ false _).total a b
theorem sortD_sorted (ds : List PyData) : (sortD ds).Pairwise fun a b => dataLe false id a b = true := List.pairwise_mergeSort dataLe_trans dataLe_total ds
def lexI (p q : IP) : Prop := p.1 < q.1 ∨ (p.1 = q.1 ∧ p.2 < q.2)
instance (p q : IP) : Decidable (lexI p q) := by unfold lexI; infer_instance
theorem lex_blt (p q : IP) : (listOrd itemOrd).blt (keyToks (ipD q)) (keyToks (ipD p)) = decide (lexI q p) := by
  obtain ⟨a, b⟩ := p
  obtain ⟨c, d⟩ := q
  show PyProof.Rows.lexLt itemOrd (keyToks (.tuple [.int c, .int d])) (keyToks (.tuple [.int a, .int b])) = _
  simp only [keyToks, keyToksAll, List.cons_append, List.nil_append, PyProof.Rows.lexLt, itemLt]
  rw [Bool.eq_iff_iff]
  simp only [Bool.or_eq_true, Bool.and_eq_true, Bool.not_eq_true', decide_eq_true_iff, decide_eq_false_iff_not, lexI]
  simp
  rw [show decide (c < a ∨ c = a ∧ d < b) = true ↔ (c < a ∨ c = a ∧ d < b) from decide_eq_true_iff]
  omega
theorem le_lex {p q : IP} (h : lexI p q) : dataLe false id (ipD p) (ipD q) = true := by
  show (!(listOrd itemOrd).blt (keyToks (ipD q)) (keyToks (ipD p))) = true
  rw [lex_blt]
  have : ¬ lexI q p := by unfold lexI at *; omega
  simp [this]
theorem le_anti {p q : IP} (h1 : dataLe false id (ipD p) (ipD q) = true) (h2 : dataLe false id (ipD q) (ipD p) = true) : p = q := by
  have h1 : (!(listOrd itemOrd).blt (keyToks (ipD q)) (keyToks (ipD p))) = true := h1
  have h2 : (!(listOrd itemOrd).blt (keyToks (ipD p)) (keyToks (ipD q))) = true := h2
  rw [lex_blt] at h1 h2
  have n1 : ¬ lexI q p := by simpa using h1
  have n2 : ¬ lexI p q := by simpa using h2
  unfold lexI at n1 n2
  exact Prod.ext (by omega) (by omega)
/-- the sorted list is the one that rises -/
theorem sort_is {A B : List IP} (hp : A.Perm B) (hs : B.Pairwise lexI) : sortD (A.map ipD) = B.map ipD := by
  refine List.Perm.eq_of_pairwise (le := fun a b => dataLe false id a b = true) (fun a b ha hb h1 h2 => ?_) (sortD_sorted _) ?_ ((sortD_perm _).trans (hp.map ipD))
  · obtain ⟨p, _, rfl⟩ := List.mem_map.mp ((sortD_perm _).mem_iff.mp ha)
    obtain ⟨q, _, rfl⟩ := List.mem_map.mp hb
    rw [le_anti h1 h2]
  · exact List.pairwise_map.mpr (hs.imp fun h => le_lex h)
end KD

/-! A least cover, told; all matches, told. -/
namespace K52
open PySem PySem.Spec PyProof.Rows L2 KD KL KCl
-- RAISES check_texts least_cover common_row is_cover
-- HINT matches_of enum pi_enumQ
-- HINT matches_of lctt#1 (tTest (tOp (rEqD K) (tVar 3) (tVar 5)))
-- HINT matches_of lcwi#1 (iEnumQ K (tCons (tVar 1) tNil))
variable {P : Program} {w : World} {K : PySem.W.Frag} {mg : Str → Option Value} {base : Heap}
def covD (M : Nat → Nat → Bool) (n m : Nat) : PyData := .list ((List.range (L M n m)).map fun k => rowD (ofLev (lvC M m n) k))
def spCover : Sp := fun us H Q _ => ∃ (X : Addr → Prop) (v1 v2 : V) (d1 d2 : PyData) (ws vs : List Str), us = [v1, v2] ∧ Trk X H ∧ NoT X H ∧ DX X H v1 d1 ∧ DX X H v2 d2 ∧ Txt d1 ws ∧ Txt d2 vs ∧ Good d1 ∧ Good d2 ∧ ∀ w H', Same H H' → DX X H' w (covD (Mw ws vs) ws.length vs.length) → Nw H w → Q w H'
theorem lvC_few {M : Nat → Nat → Bool} {n m : Nat} (h1 : n ≤ 60) (h2 : m ≤ 60) : (lvC M m n).length ≤ 3600 := by
  have a := lvC_len (M := M) (m := m) (i := n)
  have b : n * m ≤ 60 * 60 := Nat.mul_le_mul h1 h2
  omega
abbrev s_least_cover : Stmt := topS 22
abbrev n_least_cover : List Str := ["one", "other"]
theorem sc_least_cover : FnScope n_least_cover ["one", "other"] (defScope s_least_cover) := ⟨rfl, rfl, rfl, by decide +kernel, rfl, by decide +kernel, by decide +kernel⟩
theorem ok_least_cover {f C : Addr} {fd : FuncData} (F : Fun K "least_cover" "least_cover" s_least_cover f fd) (T : Bl mg) (O_check_texts : Own P w K mg base (L2.CX P w) 3 "check_texts" ["texts"] (spX1 (fun D => ∃ ds, D = .list ds ∧ ∀ d ∈ ds, wordsAll d) fun D => textsOutN C (itemsD D)))
    (O_levels_in : Own P w K mg base CX0 1 "levels_in" ["one", "other"] spLevels) (O_by_level : Own P w K mg base CX0 1 "by_level" ["levels"] spByLevel) :
    FnOk P w K mg base (L2.CX P w) 4 f fd ["one", "other"] spCover := by
  refine F.okX sc_least_cover (fun vs H Q E h => ?_) (fun cdv A outer s H us Q E hr h => ?_)
  · obtain ⟨X, v1, v2, d1, d2, ws, vs, rfl, _⟩ := h
    rfl
  · obtain ⟨X, v1, v2, d1, d2, ws, vs, rfl, t, nt, r1, r2, T1, T2, g1, g2, q⟩ := h
    refine ⟨_, (pss_cons (ps_expr (pe_ownX O_check_texts hr (by decide) (takes_of rfl rfl rfl rfl) (by rfl) (pa_cons (pe_lst (pa_cons (pv 0) (pa_cons (pv 1) pa_nil))) pa_nil)))
    (pss_one (ps_ret (pe_own O_by_level hr (by decide) (by rfl) (pa_cons (pe_own O_levels_in hr (by decide) (by rfl) (pa_cons (pv 0) (pa_cons (pv 1) pa_nil))) pa_nil))))), ?_⟩
    have En : EnvOk X H (L2.start n_least_cover [v1, v2]) [.dat d1, .dat d2] := env2 (N := n_least_cover) r1 r2 (by decide)
    refine k_drop (c_X1 t (g_lst t (ga_cons (g_var (i := 0) (d := d1) En rfl) (ga_cons (g_var (i := 1) (d := d2) En rfl) ga_nil)) (by simp)) ⟨[d1, d2], rfl, by simp; exact ⟨g1.2, g2.2⟩⟩ ⟨fun r e w0 H1 s1 dw _ => ?_, fun C' fl r e a v H1 s1 ea dv => ?_⟩)
    rotate_left
    · exfalso
      rw [show textsOutN C (itemsD (.list [d1, d2])) = .val .none from textsN_ok (by simp [itemsD]; exact ⟨g1.1, g2.1⟩)] at e
      cases e
    have E1 := En.same s1
    have t1 := t.mono s1
    have n1 := nt.mono t s1
    obtain ⟨u1, a1, b1⟩ := E1.get 0 _ rfl
    obtain ⟨u2, a2, b2⟩ := E1.get 1 _ rfl
    refine k_ret ⟨u1, a1, u2, a2, X, u1, u2, d1, d2, ws, vs, rfl, t1, b1, b2, T1, T2, fun D H2 s2 nD hD => ⟨D, _, rfl, hD, lvC_few T1.few T2.few, ?_, fun c hc => ?_, fun Fa as H3 s3 nF hF la na LL => ?_⟩⟩
    · rw [topC_L]
      have := L_le (M := Mw ws vs) (i := ws.length) (j := vs.length)
      have := T1.few
      omega
    · rw [(lvC_in.mp hc).2.2.2]
      exact Nat.succ_pos _
    · have s13 := s2.trans s3
      refine q (.ref Fa) H3 (s1.trans s13) (.lst ((t1.mono s2).new nF) hF (dxs_at (by rw [List.length_map, List.length_map, List.length_range, la, topC_L]) fun k v d e1 e2 => ?_)) fun a z => by
        cases z
        exact (s1.trans s2).free nF
      rw [List.getElem?_map] at e1 e2
      obtain ⟨a, ha, rfl⟩ := Option.map_eq_some_iff.mp e1
      obtain ⟨k', hk', rfl⟩ := Option.map_eq_some_iff.mp e2
      have hk : k' = k := by
        obtain ⟨hl, e⟩ := List.getElem?_eq_some_iff.mp hk'
        rw [List.getElem_range] at e
        exact e.symm
      subst hk
      obtain ⟨xs, x1, x2⟩ := LL k' a ha
      exact .lst ((t1.mono s2).new (na a (List.mem_of_getElem? ha))) x1 (keys_dx ((n1.mono t1 s2).mono (t1.mono s2) s3) x2)
theorem fmc {α β : Type} {l : List α} {f g : α → List β} (h : ∀ a ∈ l, f a = g a) : l.flatMap f = l.flatMap g := by
  induction l with
  | nil => rfl
  | cons a r ih =>
    rw [List.flatMap_cons, List.flatMap_cons, h a List.mem_cons_self, ih fun z hz => h z (List.mem_cons_of_mem _ hz)]
theorem match_data (ws vs : List Str) : ((enumD (ws.map PyData.str)).flatMap fun z => ((enumD (vs.map PyData.str)).filter fun y => PyData.eqv (it z 1) (it y 1)).map fun y => PyData.tuple [it z 0, it y 0]) = (matchL ws vs).map prD := by
  rw [enum_range, enum_range, List.flatMap_map]
  unfold matchL psL
  rw [List.map_flatMap]
  refine fmc fun i _ => ?_
  rw [List.filter_map, List.map_map]
  unfold rowM
  rw [List.map_map]
  have e : ((fun y => PyData.eqv (it (PyData.tuple [.int (i : Nat), .str (wAt ws i)]) 1) (it y 1)) ∘ fun j : Nat => PyData.tuple [.int (j : Nat), .str (wAt vs j)]) = Mw ws vs i := funext fun j => by
    show PyData.eqv (.str (wAt ws i)) (.str (wAt vs j)) = decide (wAt vs j = wAt ws i)
    rw [eqv_str]
    exact decide_eq_decide.mpr eq_comm
  rw [e]
  rfl
abbrev s_matches_of : Stmt := topS 13
abbrev n_matches_of : List Str := ["one", "other", "i", "words", "j", "said"]
theorem sc_matches_of : FnScope n_matches_of ["one", "other"] (defScope s_matches_of) := ⟨rfl, rfl, rfl, by decide +kernel, rfl, by decide +kernel, by decide +kernel⟩
theorem ok_matches_of {f : Addr} {fd : FuncData} (F : Fun K "matches_of" "matches_of" s_matches_of f fd) (T : Bl mg) : FnOk P w K mg base CX0 1 f fd ["one", "other"] (sp2 mtPre fun a b => rowD (matchL (wsOf a) (wsOf b))) := by
  refine ok2 F sc_matches_of (by decide) fun cdv A outer s H E X d1 d2 Q hr t hp q => ⟨_, (pss_one (ps_ret (pe_lc2 (own := [("i", 2), ("words", 3), ("j", 4), ("said", 5)]) (vs1 := [4, 5]) (g := (gTup K 2 (gCons (gName 2) (gCons (gName 3) gNil)))) (g1 := (gTup K 2 (gCons (gName 4) (gCons (gName 5) gNil)))) (tt := tYes) (tt1 := (tTest (tOp (rEqD K) (tVar 3) (tVar 5)))) (wi1 := (iEnumQ K (tCons (tVar 1) tNil))) rfl sc_matches_of.nd (pi_enumQ (by rfl) T.b_enumerate (pa_cons (pv 0) pa_nil)) (blkOk_by (N := n_matches_of) (sc := defScope s_matches_of) (by decide +kernel)) (by decide) (fun _ _ _ _ _ => (pg_tup (n := 2) rfl (pgs_cons (pg_name (i := 2) sc_matches_of.nd rfl (by first | exact Or.inl rfl | exact Or.inr rfl)) (pgs_cons (pg_name (i := 3) sc_matches_of.nd rfl (by first | exact Or.inl rfl | exact Or.inr rfl)) pgs_nil)))) (fun _ _ _ _ _ => pts_nil) (fun _ _ _ _ _ => (pi_enumQ (by rfl) T.b_enumerate (pa_cons (pv 1) pa_nil))) (fun _ _ _ _ _ => (pg_tup (n := 2) rfl (pgs_cons (pg_name (i := 4) sc_matches_of.nd rfl (by first | exact Or.inl rfl | exact Or.inr rfl)) (pgs_cons (pg_name (i := 5) sc_matches_of.nd rfl (by first | exact Or.inl rfl | exact Or.inr rfl)) pgs_nil)))) (fun _ _ _ _ _ => (pts_one (pt_cmpR (op_eqD hr.units) (pv 3) (pv 5) (nomark _)))) (fun _ _ _ _ _ => (pe_tup (pa_cons (pv 2) (pa_cons (pv 4) pa_nil))))))), fun σ En => ?_⟩
  obtain ⟨⟨ws, T1⟩, vs, T2⟩ := hp
  rw [T1.of, T2.of] at q
  have okw : ∀ {k : Nat} {us : List Str}, (∀ z ∈ us, PyData.strOk z = true) → k < us.length → SeqAt.shaped (.str (wAt us k)) = true := fun {k us} ok hk => shaped_str (by unfold wAt; rw [List.getD_eq_getElem?_getD, List.getElem?_eq_getElem hk]; exact ok _ (List.getElem_mem hk))
  have mem : ∀ {us : List Str} {z : PyData}, z ∈ enumD (us.map PyData.str) → ∃ j, j < us.length ∧ z = .tuple [.int (j : Nat), .str (wAt us j)] := fun hz => by
    obtain ⟨j, hj⟩ := List.mem_iff_getElem?.mp hz
    exact ⟨j, enum_at hj⟩
  have few : ((enumD (ws.map PyData.str)).flatMap fun z => ((enumD (vs.map PyData.str)).filter fun y => PyData.eqv (it z 1) (it y 1)).map fun y => PyData.tuple [it z 0, it y 0]).length ≤ 1000000 := by
    rw [match_data, List.length_map]
    have h1 := psL_len (Mw ws vs) vs.length ws.length
    have h2 : ws.length * vs.length ≤ 60 * 60 := Nat.mul_le_mul T1.few T2.few
    show (psL (Mw ws vs) ws.length vs.length).length ≤ _
    omega
  refine s_ret (X := X) (d := rowD (matchL ws vs)) (g_is (g_lc2 (ds := enumD (ws.map PyData.str)) (Γ2 := fun z => [.dat d1, .dat d2, .dat (it z 0), .dat (it z 1), .un, .un]) (Γ3 := fun z y => [.dat d1, .dat d2, .dat (it z 0), .dat (it z 1), .dat (it y 0), .dat (it y 1)]) (fun _ => enumD (vs.map PyData.str)) (fun z y => PyData.eqv (it z 1) (it y 1)) (fun z y => .tuple [it z 0, it y 0]) t (T1.its ▸ gi_enumQ (g_var (i := 0) (d := d1) En rfl) T1.seq) few (fun H3 s3 z hz => ?_) (fun X2 H3 σ2 z hz s3 t3 E3 => T2.its ▸ gi_enumQ (g_var (i := 1) (d := d2) E3 rfl) T2.seq) (fun X2 H3 σ2 z hz s3 t3 E3 y hy => ?_) (fun X2 H3 σ3 z y hz hy s3 t3 E3 => ?_) (fun X2 H3 σ3 z y hz hy hf s3 t3 E3 => ?_)) (by rw [match_data]; rfl)) q
  · obtain ⟨i, hi, rfl⟩ := mem hz
    exact tgt_pairIn (vs := [2, 3, 4, 5]) (i := 2) (j := 3) (En.same s3) (by decide) (by decide)
  · obtain ⟨j, hj, rfl⟩ := mem hy
    exact tgt_pair E3 (by decide)
  · obtain ⟨i, hi, rfl⟩ := mem hz
    obtain ⟨j, hj, rfl⟩ := mem hy
    exact gt_eqD t3 (x := .str (wAt ws i)) (y := .str (wAt vs j)) (g_var (i := 3) E3 rfl) (g_var (i := 5) E3 rfl) rfl rfl (okw T1.ok hi) (okw T2.ok hj)
  · exact g_tup t3 (ga_cons (g_var (i := 2) (d := it z 0) E3 rfl) (ga_cons (g_var (i := 4) (d := it y 0) E3 rfl) ga_nil)) (by simp)
end K52

/-! Whether a thing is a cover. -/
namespace K52
open PySem PySem.Spec PyProof.Rows L2 KD KL KCl
-- RAISES check_texts least_cover common_row is_cover
-- HINT is_cover it pi_seq
-- HINT is_cover lcwi#2 (iSeq K (tVar 4))
-- HINT is_cover lcte#2 (tTup (tCons (tOp (rIx K) (tVar 5) (tC (.int 0))) (tCons (tOp (rIx K) (tVar 5) (tC (.int 1))) tNil)))
-- HINT is_cover lcte#3 (tOp (rI0 fun i j => V.bl (decide (j < i))) (tCB (fun xs H Q => ∃ x n, xs = [x] ∧ LenV K x H n ∧ Q (V.int n) H) (tCons (tVar 4) tNil)) (tC (.int 0)))
-- HINT is_cover lcB#4 (bCl (iSeq K (tVar 4)) (gName 5) tYes (bCl (iSeq K (tVar 4)) (gName 6) tYes (bApp (tCall (sp2 pqPre fun a b => .bool (behD a b)) [] E0 (tCons (tVar 5) (tCons (tVar 6) tNil)))) [6]) [5, 6])
variable {P : Program} {w : World} {K : PySem.W.Frag} {mg : Str → Option Value} {base : Heap}
theorem gt_yes {σ : L2.St} {H : Hp} : GT tYes σ H true := fun H1 _ Q q => q H1 (Same.refl _)
theorem g_any {X : Addr → Prop} {σ : L2.St} {H : Hp} {te : TE} {bs : List Bool} (t : Trk X H) (h : G X te σ H (.list (bs.map PyData.bool))) : G X (tCB (rAny K) (tCons te tNil)) σ H (.bool (bs.any id)) := g_cb t (ga_cons h ga_nil) rf_any
theorem len_flat {α β : Type} {f : α → List β} {m : Nat} : ∀ {l : List α}, (∀ a ∈ l, (f a).length ≤ m) → (l.flatMap f).length ≤ l.length * m
  | [], _ => by simp
  | a :: r, h => by
    have h1 := h a List.mem_cons_self
    have h2 := len_flat (l := r) fun z hz => h z (List.mem_cons_of_mem _ hz)
    rw [List.flatMap_cons, List.length_append, List.length_cons, Nat.succ_mul]
    omega
theorem flt {α : Type} (l : List α) : (l.filter fun _ => true) = l := by simp
/-- what can be told a cover -/
def FewC (d : PyData) : Prop := ∃ k m : Nat, k ≤ 1000 ∧ m ≤ 1000 ∧ k * (m * m) ≤ 1000000 ∧ (isSeq d = true → (itemsD d).length ≤ k ∧ ∀ p ∈ itemsD d, isSeq p = true → (itemsD p).length ≤ m)
def psOf (d : PyData) : List Pr := (itemsD d).flatMap fun p => (itemsD p).map prOf
def allIn (ws vs : List Str) (d : PyData) : Bool := (itemsD d).all (areD ws vs)
def allLong (d : PyData) : Bool := (itemsD d).all fun p => decide ((0 : Int) < (lenD p : Int))
def sortOk (ws vs : List Str) (d : PyData) : Bool := PyData.eqv (.list (sortD ((psOf d).map prD))) (rowD (matchL ws vs))
def anyBeh (d : PyData) : Bool := (itemsD d).any fun p => (itemsD p).any fun x => (itemsD p).any fun y => behD x y
def isCovD (ws vs : List Str) (d : PyData) : Bool := (isSeq d && allIn ws vs d) && ((allLong d && sortOk ws vs d) && !anyBeh d)
theorem match_pr2 {ws vs : List Str} {x : PyData} (h : isMatchD ws vs x = true) : PyData.tuple [it x 0, it x 1] = prD (prOf x) := by
  unfold isMatchD at h
  simp only [Bool.and_eq_true, decide_eq_true_eq] at h
  obtain ⟨⟨_, h3, h4⟩, _⟩ := h
  obtain ⟨i, ei, i0⟩ := isNumD_int h3
  obtain ⟨j, ej, j0⟩ := isNumD_int h4
  unfold prOf prD
  rw [ei, ej]
  show PyData.tuple [.int i, .int j] = .tuple [.int ((i.toNat : Nat) : Int), .int ((j.toNat : Nat) : Int)]
  rw [Int.toNat_of_nonneg i0, Int.toNat_of_nonneg j0]
theorem are_all {ws vs : List Str} {p : PyData} (h : areD ws vs p = true) : isSeq p = true ∧ ∀ x ∈ itemsD p, isMatchD ws vs x = true := by
  unfold areD at h
  rw [Bool.and_eq_true, List.all_eq_true] at h
  exact h
theorem told_data {ws vs : List Str} {d : PyData} (h : allIn ws vs d = true) : ((itemsD d).flatMap fun z => ((itemsD z).filter fun _ => true).map fun y => PyData.tuple [it y 0, it y 1]) = (psOf d).map prD := by
  unfold allIn at h
  rw [List.all_eq_true] at h
  unfold psOf
  rw [List.map_flatMap]
  refine fmc fun p hp => ?_
  rw [flt, List.map_map]
  exact List.map_congr_left fun x hx => match_pr2 ((are_all (h p hp)).2 x hx)
theorem prs_shaped {ds : List PyData} (h : ∀ z ∈ ds, ∃ p, z = prD p) : noDict (.list ds) = true ∧ SeqAt.shaped (.list ds) = true := by
  refine ⟨?_, shaped_mk ?_ ?_⟩
  · show noDicts ds = true
    refine nd_all fun z hz => ?_
    obtain ⟨p, rfl⟩ := h z hz
    simp [prD, noDict, noDicts]
  · simp only [PyData.canLay0]
    refine lay_all fun z hz => ?_
    obtain ⟨p, rfl⟩ := h z hz
    simp [prD, PyData.canLay0, PyData.canLayAll0]
  · have : PyData.depthAll ds ≤ 1 := dep_all fun z hz => by
      obtain ⟨p, rfl⟩ := h z hz
      simp [prD, PyData.depth, PyData.depthAll]
    simp only [PyData.depth]
    omega
theorem sort_prs (ps : List Pr) : ∀ z ∈ sortD (ps.map prD), ∃ p, z = prD p := fun z hz => by
  obtain ⟨p, _, rfl⟩ := List.mem_map.mp ((sortD_perm _).mem_iff.mp hz)
  exact ⟨p, rfl⟩
/-- pairs, sorted -/
theorem g_sortPr {X : Addr → Prop} {σ : L2.St} {H : Hp} {te : TE} {ps : List Pr} (t : Trk X H) (h : G X te σ H (.list (ps.map prD))) : GN X (tCB rSortD (tCons te tNil)) σ H (.list (sortD (ps.map prD))) :=
  g_sorted t h (nd_all fun z hz => by
      obtain ⟨p, _, rfl⟩ := List.mem_map.mp hz
      simp [prD, noDict, noDicts]) (PySem.W.AllAlike.of fun p q => rfl) (PySem.W.Sortable.tuples fun b => ⟨_, _, rfl⟩) fun d hd => by
      obtain ⟨p, _, rfl⟩ := List.mem_map.mp hd
      simp [prD, PyData.depth, PyData.depthAll]
def spCov : Sp := fun us H Q _ => ∃ (X : Addr → Prop) (v1 v2 v3 : V) (d1 d2 d3 : PyData) (ws vs : List Str), us = [v1, v2, v3] ∧ Trk X H ∧ DX X H v1 d1 ∧ DX X H v2 d2 ∧ DX X H v3 d3 ∧ Txt d1 ws ∧ Txt d2 vs ∧ Good d1 ∧ Good d2 ∧ FewC d3 ∧ ∀ w H', Same H H' → DX X H' w (.bool (isCovD ws vs d3)) → Q w H'
abbrev s_is_cover : Stmt := topS 23
abbrev n_is_cover : List Str := ["one", "other", "thing", "told", "part", "match", "other_match"]
theorem sc_is_cover : FnScope n_is_cover ["one", "other", "thing"] (defScope s_is_cover) := ⟨rfl, rfl, rfl, by decide +kernel, rfl, by decide +kernel, by decide +kernel⟩
theorem ok_is_cover {f C : Addr} {fd : FuncData} (F : Fun K "is_cover" "is_cover" s_is_cover f fd) (T : Bl mg) (b_sorted : mg "sorted" = none) (b_any : mg "any" = none) (O_check_texts : Own P w K mg base (L2.CX P w) 3 "check_texts" ["texts"] (spX1 (fun D => ∃ ds, D = .list ds ∧ ∀ d ∈ ds, wordsAll d) fun D => textsOutN C (itemsD D)))
    (O_is_list : Own P w K mg base CX0 1 "is_list" ["thing"] (sp1 (fun _ => True) fun d => .bool (isSeq d))) (O_are_matches : Own P w K mg base CX0 4 "are_matches" ["one", "other", "thing"] (sp3 (fun a b c => mtPre a b ∧ (isSeq c = true → (itemsD c).length ≤ 100000)) fun a b c => .bool (areD (wsOf a) (wsOf b) c)))
    (O_matches_of : Own P w K mg base CX0 1 "matches_of" ["one", "other"] (sp2 mtPre fun a b => rowD (matchL (wsOf a) (wsOf b)))) (O_comes_behind : Own P w K mg base CX0 1 "comes_behind" ["match", "other"] (sp2 pqPre fun a b => .bool (behD a b))) :
    FnOk P w K mg base (L2.CX P w) 5 f fd ["one", "other", "thing"] spCov := by
  refine F.okX sc_is_cover (fun vs H Q E h => ?_) (fun cdv A outer s H us Q E hr h => ?_)
  · obtain ⟨X, v1, v2, v3, d1, d2, d3, ws, vs, rfl, _⟩ := h
    rfl
  · obtain ⟨X, v1, v2, v3, d1, d2, d, ws, vs, rfl, t, r1, r2, r3, T1, T2, g1, g2, ⟨k, m, hk, hm, hkm, few⟩, q⟩ := h
    refine ⟨_, (pss_cons (ps_expr (pe_ownX O_check_texts hr (by decide) (takes_of rfl rfl rfl rfl) (by rfl) (pa_cons (pe_lst (pa_cons (pv 0) (pa_cons (pv 1) pa_nil))) pa_nil)))
    (pss_cons (ps_if (PW.pt (pw_or (pt_not (pt_val (pe_own O_is_list hr (by decide) (by rfl) (pa_cons (pv 2) pa_nil)))) (pw_or1 (pt_not (pt_val (pe_callB (cr_all rfl) (by rfl) T.b_all boot_all (pa_cons (pe_lc (own := [("part", 4)]) (g := (gName 4)) (tt := tYes) rfl sc_is_cover.nd (pi_seq (pv 2)) (blkOk_by (N := n_is_cover) (sc := defScope s_is_cover) (by decide +kernel)) (fun _ _ _ _ _ => (pg_name (i := 4) sc_is_cover.nd rfl (by first | exact Or.inl rfl | exact Or.inr rfl))) (fun _ _ _ _ _ => pts_nil) (fun _ _ _ _ _ => (pe_own O_are_matches hr (by decide) (by rfl) (pa_cons (pv 0) (pa_cons (pv 1) (pa_cons (pv 4) pa_nil)))))) pa_nil)))))))
    (pss_one (ps_ret pe_bl)) pss_nil)
    (pss_cons (ps_setLc2 (i := 3) (own := [("part", 4), ("match", 5)]) (vs1 := [5]) (g := (gName 4)) (g1 := (gName 5)) (tt := tYes) (tt1 := tYes) (te := (tTup (tCons (tOp (rIx K) (tVar 5) (tC (.int 0))) (tCons (tOp (rIx K) (tVar 5) (tC (.int 1))) tNil)))) (wi1 := (iSeq K (tVar 4))) rfl sc_is_cover.nd rfl rfl (sw_true rfl rfl rfl (by decide +kernel)) (pi_seq (pv 2)) (blkOk_by (N := n_is_cover) (sc := defScope s_is_cover) (by decide +kernel)) (by decide) (fun _ _ _ _ _ => (pg_name (i := 4) sc_is_cover.nd rfl (by first | exact Or.inl rfl | exact Or.inr rfl))) (fun _ _ _ _ _ => pts_nil) (fun _ _ _ _ _ => (pi_seq (pv 4))) (fun _ _ _ _ _ => (pg_name (i := 5) sc_is_cover.nd rfl (by first | exact Or.inl rfl | exact Or.inr rfl))) (fun _ _ _ _ _ => pts_nil) (fun _ _ _ _ _ => (pe_tup (pa_cons (pe_ix ix_seq (pv 5) pe_int (fun _ _ => rfl)) (pa_cons (pe_ix ix_seq (pv 5) pe_int (fun _ _ => rfl)) pa_nil)))))
    (pss_cons (ps_if (PW.pt (pw_or (pt_not (pt_val (pe_callB (cr_all rfl) (by rfl) T.b_all boot_all (pa_cons (pe_lc (own := [("part", 4)]) (g := (gName 4)) (tt := tYes) (te := (tOp (rI0 fun i j => V.bl (decide (j < i))) (tCB (fun xs H Q => ∃ x n, xs = [x] ∧ LenV K x H n ∧ Q (V.int n) H) (tCons (tVar 4) tNil)) (tC (.int 0)))) rfl sc_is_cover.nd (pi_seq (pv 2)) (blkOk_by (N := n_is_cover) (sc := defScope s_is_cover) (by decide +kernel)) (fun _ _ _ _ _ => (pg_name (i := 4) sc_is_cover.nd rfl (by first | exact Or.inl rfl | exact Or.inr rfl))) (fun _ _ _ _ _ => pts_nil) (fun _ _ _ _ _ => (pe_cmpR op_gt (pe_callB call_len (by rfl) T.b_len boot_len (pa_cons (pv 4) pa_nil)) pe_int (nomark _)))) pa_nil)))) (pw_or1 (pt_cmpR (op_neD hr.units) (pe_callB (cr_sortD hr.units) (by rfl) b_sorted boot_sorted (pa_cons (pv 3) pa_nil)) (pe_own O_matches_of hr (by decide) (by rfl) (pa_cons (pv 0) (pa_cons (pv 1) pa_nil))) (nomark _)))))
    (pss_one (ps_ret pe_bl)) pss_nil)
    (pss_one (ps_ret (pe_not (pe_callB (cr_any rfl) (by rfl) b_any boot_any (pa_cons (KCl.pe_lcN (own := [("part", 4), ("match", 5), ("other_match", 6)]) (g := (gName 4)) (tt := tYes) (B := (bCl (iSeq K (tVar 4)) (gName 5) tYes (bCl (iSeq K (tVar 4)) (gName 6) tYes (bApp (tCall (sp2 pqPre fun a b => .bool (behD a b)) [] E0 (tCons (tVar 5) (tCons (tVar 6) tNil)))) [6]) [5, 6])) rfl sc_is_cover.nd (pi_seq (pv 2)) (blkOk_by (N := n_is_cover) (sc := defScope s_is_cover) (by decide +kernel)) (fun _ _ _ _ _ => (pg_name (i := 4) sc_is_cover.nd rfl (by first | exact Or.inl rfl | exact Or.inr rfl))) (fun _ _ _ _ _ => pts_nil) (fun _ _ _ _ _ _ => (KCl.pb_next (d := 0) (vs := [5, 6]) (g := (gName 5)) (tt := tYes) rfl (fun _ _ e => by cases e; exact ⟨rfl, fun _ => rfl⟩) rfl rfl (pi_seq (pv 4)) (pg_name (i := 5) sc_is_cover.nd rfl (by first | exact Or.inl rfl | exact Or.inr rfl)) pts_nil (KCl.pb_next (d := 1) (vs := [6]) (g := (gName 6)) (tt := tYes) rfl (fun _ _ e => by cases e) rfl rfl (pi_seq (pv 4)) (pg_name (i := 6) sc_is_cover.nd rfl (by first | exact Or.inl rfl | exact Or.inr rfl)) pts_nil (KCl.pb_last rfl rfl (pe_own O_comes_behind hr (by decide) (by rfl) (pa_cons (pv 5) (pa_cons (pv 6) pa_nil)))) (by decide)) (by decide))) (by decide) (fun _ _ e => by cases e; exact ⟨rfl, fun _ => rfl⟩)) pa_nil))))))))), ?_⟩
    have En : EnvOk X H (L2.start n_is_cover [v1, v2, v3]) [.dat d1, .dat d2, .dat d, .un, .un, .un, .un] := env3 (N := n_is_cover) r1 r2 r3 (by decide)
    refine k_drop (c_X1 t (g_lst t (ga_cons (g_var (i := 0) (d := d1) En rfl) (ga_cons (g_var (i := 1) (d := d2) En rfl) ga_nil)) (by simp)) ⟨[d1, d2], rfl, by simp; exact ⟨g1.2, g2.2⟩⟩ ⟨fun r e w0 H1 s1 dw _ => ?_, fun C' fl r e a v H1 s1 ea dv => ?_⟩)
    rotate_left
    · exfalso
      rw [show textsOutN C (itemsD (.list [d1, d2])) = .val .none from textsN_ok (by simp [itemsD]; exact ⟨g1.1, g2.1⟩)] at e
      cases e
    have E1 := En.same s1
    have t1 := t.mono s1
    have mt : mtPre d1 d2 := ⟨⟨ws, T1⟩, vs, T2⟩
    refine q_if (b := !(isSeq d && allIn ws vs d)) (gt_is (gt_or (a := !isSeq d) (b := !allIn ws vs d) (gt_not (gt_B (g_call1 t1 (g_var (i := 2) (d := d) E1 rfl) trivial))) fun h => ?_) (by rw [Bool.not_and])) (fun hb H2 s2 => ?_) fun hb H2 s2 => ?_
    · rw [Bool.not_eq_false'] at h
      obtain ⟨f1, f2⟩ := few h
      refine gt_not (gt_B (g_is (g_all (bs := (itemsD d).map (areD ws vs)) t1 (g_is (g_lc1 (ds := itemsD d) (Γ2 := fun z => [.dat d1, .dat d2, .dat d, .un, .dat z, .un, .un]) (fun z => .bool (areD ws vs z)) t1 (gi_seq (g_var (i := 2) (d := d) E1 rfl) h) (by omega) (fun H3 s3 z hz => tgt_name (E1.same s3)) (fun X2 H3 σ2 z hz t3 E3 => g_is (g_call3 t3 (g_var (i := 0) (d := d1) E3 rfl) (g_var (i := 1) (d := d2) E3 rfl) (g_var (i := 4) (d := z) E3 rfl) ⟨mt, fun hz2 => by have := f2 z hz hz2; omega⟩) (by rw [T1.of, T2.of]))) (by rw [List.map_map]; rfl))) (by rw [List.all_map]; rfl)))
    · rw [Bool.not_eq_true'] at hb
      have e : isCovD ws vs d = false := by
        unfold isCovD
        rw [hb, Bool.false_and]
      rw [e] at q
      exact s_ret g_bl fun w H3 s3 dw => q w H3 ((s1.trans s2).trans s3) dw
    rw [Bool.not_eq_false'] at hb
    have eC : isCovD ws vs d = ((allLong d && sortOk ws vs d) && !anyBeh d) := by
      unfold isCovD
      rw [hb, Bool.true_and]
    rw [eC] at q
    rw [Bool.and_eq_true] at hb
    obtain ⟨hs, hall⟩ := hb
    have hall2 : ∀ p ∈ itemsD d, isSeq p = true ∧ ∀ x ∈ itemsD p, isMatchD ws vs x = true := fun p hp => are_all (by
      unfold allIn at hall
      rw [List.all_eq_true] at hall
      exact hall p hp)
    obtain ⟨f1, f2⟩ := few hs
    have f3 : ∀ p ∈ itemsD d, (itemsD p).length ≤ m := fun p hp => f2 p hp (hall2 p hp).1
    have mm : m ≤ m * m := by
      rcases Nat.eq_zero_or_pos m with h | h
      · rw [h]; exact Nat.le_refl _
      · exact Nat.le_mul_of_pos_right m h
    have lkm : (itemsD d).length * m ≤ 1000000 := Nat.le_trans (Nat.mul_le_mul f1 mm) hkm
    have E2 := E1.same s2
    have t2 := t1.mono s2
    refine q_set (i := 3) (d := .list ((psOf d).map prD)) E2 (g_is (g_lc2 (ds := itemsD d) (Γ2 := fun z => [.dat d1, .dat d2, .dat d, .un, .dat z, .un, .un]) (Γ3 := fun z y => [.dat d1, .dat d2, .dat d, .un, .dat z, .dat y, .un]) (fun z => itemsD z) (fun _ _ => true) (fun _ y => .tuple [it y 0, it y 1]) t2 (gi_seq (g_var (i := 2) (d := d) E2 rfl) hs) ?_ (fun H3 s3 z hz => tgt_in (vs := [4, 5]) (i := 4) (E2.same s3) (by decide)) (fun X2 H3 σ2 z hz s3 t3 E3 => gi_seq (g_var (i := 4) (d := z) E3 rfl) (hall2 z hz).1) (fun X2 H3 σ2 z hz s3 t3 E3 y hy => tgt_name E3) (fun X2 H3 σ3 z y hz hy s3 t3 E3 => gt_yes) (fun X2 H3 σ3 z y hz hy hf s3 t3 E3 => ?_)) (by rw [told_data hall])) fun H3 v3 s3 E3 => ?_
    · refine Nat.le_trans (len_flat (m := m) fun p hp => ?_) lkm
      rw [List.length_map]
      exact Nat.le_trans (List.length_filter_le _ _) (f3 p hp)
    · obtain ⟨i, j, sy, ey⟩ := match_pq ((hall2 z hz).2 y hy)
      have y0 : atI (itemsD y) 0 = some (it y 0) := it_at rfl (by rw [ey]; simp)
      have y1 : atI (itemsD y) 1 = some (it y 1) := it_at rfl (by rw [ey]; simp)
      exact g_tup t3 (ga_cons (g_ix t3 (g_var (i := 5) (d := y) E3 rfl) sy g_int y0) (ga_cons (g_ix t3 (g_var (i := 5) (d := y) E3 rfl) sy g_int y1) ga_nil)) (by simp)
    have E3 : EnvOk X H3 _ [.dat d1, .dat d2, .dat d, .dat (.list ((psOf d).map prD)), .un, .un, .un] := E3
    have t3 := t2.mono s3
    refine q_if (b := !(allLong d && sortOk ws vs d)) (gt_is (gt_or (a := !allLong d) (b := !sortOk ws vs d) (gt_not (gt_B (g_is (g_all (bs := (itemsD d).map fun p => decide ((0 : Int) < (lenD p : Int))) t3 (g_is (g_lc1 (ds := itemsD d) (Γ2 := fun z => [.dat d1, .dat d2, .dat d, .dat (.list ((psOf d).map prD)), .dat z, .un, .un]) (fun z => .bool (decide ((0 : Int) < (lenD z : Int)))) t3 (gi_seq (g_var (i := 2) (d := d) E3 rfl) hs) (by omega) (fun H4 s4 z hz => tgt_name (E3.same s4)) (fun X2 H4 σ2 z hz t4 E4 => g_cmpI t4 (g := fun i j => decide (j < i)) (g_len t4 (g_var (i := 4) (d := z) E4 rfl) (hasLen_seq (hall2 z hz).1)) g_int)) (by rw [List.map_map]; rfl))) (by rw [List.all_map]; rfl)))) fun _ => gt_neD (K := K) t3 (x := .list (sortD ((psOf d).map prD))) (y := rowD (matchL ws vs)) (g_sortPr t3 (g_var (i := 3) (d := .list ((psOf d).map prD)) E3 rfl)).g (g_is (g_call2 t3 (g_var (i := 0) (d := d1) E3 rfl) (g_var (i := 1) (d := d2) E3 rfl) mt) (by rw [T1.of, T2.of])) (prs_shaped (sort_prs _)).1 (row_shaped _).1 (prs_shaped (sort_prs _)).2 (row_sh _)) (by rw [Bool.not_and])) (fun hb H4 s4 => ?_) fun hb H4 s4 => ?_
    · rw [Bool.not_eq_true'] at hb
      rw [hb, Bool.false_and] at q
      exact s_ret g_bl fun w H5 s5 dw => q w H5 ((((s1.trans s2).trans s3).trans s4).trans s5) dw
    rw [Bool.not_eq_false'] at hb
    rw [hb, Bool.true_and] at q
    have E4 := E3.same s4
    have t4 := t3.mono s4
    have eb : ((itemsD d).filter fun _ => true).flatMap (fun p => ((itemsD p).filter fun _ => true).flatMap fun x => ((itemsD p).filter fun _ => true).flatMap fun y => [PyData.bool (behD x y)]) = ((itemsD d).flatMap fun p => (itemsD p).flatMap fun x => (itemsD p).map fun y => behD x y).map PyData.bool := by
      rw [List.map_flatMap, flt]
      refine fmc fun p hp => ?_
      rw [List.map_flatMap, flt]
      refine fmc fun x hx => ?_
      rw [List.map_map]
      induction itemsD p with
      | nil => rfl
      | cons a r ih => rw [List.flatMap_cons, ih]; rfl
    refine s_ret (X := X) (d := .bool (!anyBeh d)) (g_not (g_is (g_any t4 (g_is (g_lcN (ds := itemsD d) (Γ := fun z => [.dat d1, .dat d2, .dat d, .dat (.list ((psOf d).map prD)), .dat z, .un, .un]) (fun _ => true) (fun p => ((itemsD p).filter fun _ => true).flatMap fun x => ((itemsD p).filter fun _ => true).flatMap fun y => [PyData.bool (behD x y)]) t4 (gi_seq (g_var (i := 2) (d := d) E4 rfl) hs) ?_ (fun H5 s5 z hz => tgt_in (vs := [4, 5, 6]) (i := 4) (E4.same s5) (by decide)) (fun X2 D H0 H5 σ2 p hp a5 E5 => ⟨gt_yes, fun _ => ?_⟩)) (by rw [eb]))) ?_)) fun w H5 s5 dw => q w H5 ((((s1.trans s2).trans s3).trans s4).trans s5) dw
    · rw [flt]
      refine Nat.le_trans (len_flat (m := m * m) fun p hp => ?_) (Nat.le_trans (Nat.mul_le_mul f1 (Nat.le_refl _)) hkm)
      rw [flt]
      refine Nat.le_trans (len_flat (m := m) fun x hx => ?_) (Nat.mul_le_mul (f3 p hp) (Nat.le_refl _))
      refine Nat.le_trans (len_flat (m := 1) fun y hy => Nat.le_refl _) ?_
      rw [Nat.mul_one]
      exact f3 p hp
    · refine gb_cl (Γ := fun x => [.dat d1, .dat d2, .dat d, .dat (.list ((psOf d).map prD)), .dat p, .dat x, .un]) (fun _ => true) _ a5 (gi_seq (g_var (i := 4) (d := p) E5 rfl) (hall2 p hp).1) (fun H6 s6 x hx => tgt_in (vs := [5, 6]) (i := 5) (E5.same s6) (by decide)) fun H6 σ3 x hx a6 E6 => ⟨gt_yes, fun _ => ?_⟩
      refine gb_cl (Γ := fun y => [.dat d1, .dat d2, .dat d, .dat (.list ((psOf d).map prD)), .dat p, .dat x, .dat y]) (fun _ => true) _ a6 (gi_seq (g_var (i := 4) (d := p) E6 rfl) (hall2 p hp).1) (fun H7 s7 y hy => tgt_name (E6.same s7)) fun H7 σ4 y hy a7 E7 => ⟨gt_yes, fun _ => ?_⟩
      exact gb_app a7 (g_call2 a7.t (g_var (i := 5) (d := x) E7 rfl) (g_var (i := 6) (d := y) E7 rfl) ⟨match_pq ((hall2 p hp).2 x hx), match_pq ((hall2 p hp).2 y hy)⟩)
    · unfold anyBeh
      rw [List.any_flatMap]
      congr 2
      funext p
      show ((itemsD p).flatMap fun x => (itemsD p).map fun y => behD x y).any id = _
      rw [List.any_flatMap]
      congr 1
      funext x
      show ((itemsD p).map fun y => behD x y).any id = _
      rw [List.any_map]
      rfl
end K52

/-! Whether a thing is a cover, by the law. -/
namespace K52
open PySem PySem.Spec PyProof.Rows L2 KD KL KCl
-- RAISES check_texts least_cover common_row is_cover
-- HINT _law_is_cover it pi_seq
-- HINT _law_is_cover lcte#3 (tCB (fun xs H Q => ∃ p ys, xs = [V.ref p] ∧ ((SqL K H p ys ∧ ∀ l, H l = none → Q (.ref l) (upd H l (.tup ys))) ∨ (SqT K H p ys ∧ Q (.ref p) H))) (tCons (tVar 5) tNil))
variable {P : Program} {w : World} {K : PySem.W.Frag} {mg : Str → Option Value} {base : Heap}
def psIn (l : List PyData) : List Pr := l.flatMap fun p => (itemsD p).map prOf
def behIn (p : PyData) : Bool := (itemsD p).any fun x => (itemsD p).any fun y => behD x y
def okLev (ws vs : List Str) (p : PyData) : Bool := areD ws vs p && (decide ((0 : Int) < (lenD p : Int)) && !behIn p)
theorem cov_lev (ws vs : List Str) (d : PyData) : isCovD ws vs d = ((isSeq d && (itemsD d).all (okLev ws vs)) && sortOk ws vs d) := by
  have e : (itemsD d).all (okLev ws vs) = (allIn ws vs d && (allLong d && !anyBeh d)) := by
    unfold allIn allLong anyBeh okLev
    induction itemsD d with
    | nil => rfl
    | cons a r ih =>
      rw [List.all_cons, ih, List.all_cons, List.all_cons, List.any_cons]
      show _ = _
      unfold behIn
      generalize areD ws vs a = b1
      generalize decide ((0 : Int) < (lenD a : Int)) = b2
      generalize ((itemsD a).any fun x => (itemsD a).any fun y => behD x y) = b3
      generalize (r.all (areD ws vs)) = b4
      generalize (r.all fun p => decide ((0 : Int) < (lenD p : Int))) = b5
      generalize (r.any fun p => (itemsD p).any fun x => (itemsD p).any fun y => behD x y) = b6
      revert b1 b2 b3 b4 b5 b6
      decide
  rw [e]
  unfold isCovD
  generalize isSeq d = b1
  generalize allIn ws vs d = b2
  generalize allLong d = b3
  generalize sortOk ws vs d = b4
  generalize anyBeh d = b5
  revert b1 b2 b3 b4 b5
  decide
theorem cov_no {ws vs : List Str} {d p : PyData} {i : Nat} (hp : (itemsD d)[i]? = some p) (h : okLev ws vs p = false) : isCovD ws vs d = false := by
  rw [cov_lev]
  have : (itemsD d).all (okLev ws vs) = false := by
    rw [Bool.eq_false_iff]
    intro z
    rw [List.all_eq_true] at z
    rw [z p (List.mem_of_getElem? hp)] at h
    cases h
  rw [this, Bool.and_false, Bool.false_and]
theorem row_one (ws vs : List Str) (p : PyData) : isRowD ws vs (.list [p]) = isMatchD ws vs p := by
  unfold isRowD areD
  show ((true && (List.all [p] (isMatchD ws vs))) && true) = _
  simp
def icPre (a b c : PyData) : Prop := ws2 a b ∧ FewC c
abbrev s__law_is_cover : Stmt := topS 38
abbrev n__law_is_cover : List Str := ["_law_one", "_law_other", "_law_thing", "_law_found", "_law_level", "_law_pair", "_law_near"]
theorem sc__law_is_cover : FnScope n__law_is_cover ["_law_one", "_law_other", "_law_thing"] (defScope s__law_is_cover) := ⟨rfl, rfl, rfl, by decide +kernel, rfl, by decide +kernel, by decide +kernel⟩
theorem ok_is_coverL {f : Addr} {fd : FuncData} (F : Fun K "_law_is_cover" "_law_is_cover" s__law_is_cover f fd) (T : Bl mg) (b_sorted : mg "sorted" = none) (b_any : mg "any" = none)
    (O__law_m_is_row : Own P w K mg base CX0 2 "_law_m_is_row" ["_law_one", "_law_other", "_law_thing"] (sp3 irPre fun a b c => .bool (isRowD (wsOf a) (wsOf b) c))) (O__law_m_behind : Own P w K mg base CX0 1 "_law_m_behind" ["_law_pair", "_law_near"] (sp2 pqPre fun a b => .bool (behD a b)))
    (O__law_m_matches : Own P w K mg base CX0 1 "_law_m_matches" ["_law_one", "_law_other"] (sp2 ws2 fun a b => rowD (matchL (wsOf a) (wsOf b)))) : FnOk P w K mg base CX0 3 f fd ["_law_one", "_law_other", "_law_thing"] (sp3 icPre fun a b c => .bool (isCovD (wsOf a) (wsOf b) c)) := by
  refine ok3 F sc__law_is_cover (by decide) fun cdv A outer s H E X d1 d2 d Q hr t hp q => ⟨_, (pss_cons (ps_if (pt_not (pt_val (pe_callB call_isiT (by rfl) T.b_isinstance boot_isinstance (pa_cons (pv 2) (pa_cons (pe_tup (pa_cons (pe_bltn (v := .ty "list") (by rfl) T.b_list boot_list rfl) (pa_cons (pe_bltn (v := .ty "tuple") (by rfl) T.b_tuple boot_tuple rfl) pa_nil))) pa_nil)))))
    (pss_one (ps_ret pe_bl)) pss_nil)
    (pss_cons (ps_set (i := 3) sc__law_is_cover.nd rfl (by first | exact Or.inl rfl | exact Or.inr rfl) (pe_lst pa_nil))
    (pss_cons (ps_for PassesOwn.never rfl (pi_seq (pv 2)) (pg_name (i := 4) sc__law_is_cover.nd rfl (by first | exact Or.inl rfl | exact Or.inr rfl))
    (pss_cons (ps_if (PW.pt (pw_or (pt_not (pt_val (pe_callB call_isiT (by rfl) T.b_isinstance boot_isinstance (pa_cons (pv 4) (pa_cons (pe_tup (pa_cons (pe_bltn (v := .ty "list") (by rfl) T.b_list boot_list rfl) (pa_cons (pe_bltn (v := .ty "tuple") (by rfl) T.b_tuple boot_tuple rfl) pa_nil))) pa_nil))))) (pw_or1 (pt_cmpR (op_eqD hr.units) (pe_callB call_len (by rfl) T.b_len boot_len (pa_cons (pv 4) pa_nil)) pe_int (nomark _)))))
    (pss_one (ps_ret pe_bl)) pss_nil)
    (pss_cons (ps_if (pt_not (pt_val (pe_callB (cr_all rfl) (by rfl) T.b_all boot_all (pa_cons (pe_lc (own := [("_law_pair", 5)]) (g := (gName 5)) (tt := tYes) rfl sc__law_is_cover.nd (pi_seq (pv 4)) (blkOk_by (N := n__law_is_cover) (sc := defScope s__law_is_cover) (by decide +kernel)) (fun _ _ _ _ _ => (pg_name (i := 5) sc__law_is_cover.nd rfl (by first | exact Or.inl rfl | exact Or.inr rfl))) (fun _ _ _ _ _ => pts_nil) (fun _ _ _ _ _ => (pe_own O__law_m_is_row hr (by decide) (by rfl) (pa_cons (pv 0) (pa_cons (pv 1) (pa_cons (pe_lst (pa_cons (pv 5) pa_nil)) pa_nil)))))) pa_nil))))
    (pss_one (ps_ret pe_bl)) pss_nil)
    (pss_cons (ps_for PassesOwn.never rfl (pi_seq (pv 4)) (pg_name (i := 5) sc__law_is_cover.nd rfl (by first | exact Or.inl rfl | exact Or.inr rfl))
    (pss_one (ps_if (pt_val (pe_callB (cr_any rfl) (by rfl) b_any boot_any (pa_cons (pe_lc (own := [("_law_near", 6)]) (g := (gName 6)) (tt := tYes) rfl sc__law_is_cover.nd (pi_seq (pv 4)) (blkOk_by (N := n__law_is_cover) (sc := defScope s__law_is_cover) (by decide +kernel)) (fun _ _ _ _ _ => (pg_name (i := 6) sc__law_is_cover.nd rfl (by first | exact Or.inl rfl | exact Or.inr rfl))) (fun _ _ _ _ _ => pts_nil) (fun _ _ _ _ _ => (pe_own O__law_m_behind hr (by decide) (by rfl) (pa_cons (pv 5) (pa_cons (pv 6) pa_nil))))) pa_nil)))
    (pss_one (ps_ret pe_bl)) pss_nil)))
    (pss_one (ps_expr (pe_bm PySem.F.plainAttrs_list PySem.F.slot_list_extend PySem.F.type_list_extend mt_extend (pv 3) (pa_cons (pe_lc (own := [("_law_pair", 5)]) (g := (gName 5)) (tt := tYes) (te := (tCB (fun xs H Q => ∃ p ys, xs = [V.ref p] ∧ ((SqL K H p ys ∧ ∀ l, H l = none → Q (.ref l) (upd H l (.tup ys))) ∨ (SqT K H p ys ∧ Q (.ref p) H))) (tCons (tVar 5) tNil))) rfl sc__law_is_cover.nd (pi_seq (pv 4)) (blkOk_by (N := n__law_is_cover) (sc := defScope s__law_is_cover) (by decide +kernel)) (fun _ _ _ _ _ => (pg_name (i := 5) sc__law_is_cover.nd rfl (by first | exact Or.inl rfl | exact Or.inr rfl))) (fun _ _ _ _ _ => pts_nil) (fun _ _ _ _ _ => (pe_callTy call_tuple_of (by rfl) T.b_tuple boot_tuple (pa_cons (pv 5) pa_nil)))) pa_nil))))))))
    (pss_one (ps_ret (pe_cmpR (op_eqD hr.units) (pe_callB (cr_sortD hr.units) (by rfl) b_sorted boot_sorted (pa_cons (pv 3) pa_nil)) (pe_own O__law_m_matches hr (by decide) (by rfl) (pa_cons (pv 0) (pa_cons (pv 1) pa_nil))) (nomark _))))))), fun σ En => ?_⟩
  obtain ⟨hw, k, m, hk, hm, hkm, few⟩ := hp
  have hw2 := hw
  obtain ⟨ws, vs, rfl, rfl, l1, l2, k1, k2⟩ := hw2
  rw [wsOf_wsD, wsOf_wsD] at q
  refine q_if (b := !isSeq d) (gt_not (gt_B (g_isSeq (g_var (i := 2) (d := d) En rfl)))) (fun hb H1 s1 => ?_) fun hb H1 s1 => ?_
  · rw [Bool.not_eq_true'] at hb
    have e : isCovD ws vs d = false := by
      unfold isCovD
      rw [hb]
      rfl
    rw [e] at q
    exact s_ret g_bl fun w H2 s2 dw => q w H2 (s1.trans s2) dw
  have hs : isSeq d = true := by rw [Bool.not_eq_false'] at hb; exact hb
  obtain ⟨f1, f2⟩ := few hs
  have mm : m ≤ m * m := by
    rcases Nat.eq_zero_or_pos m with h | h
    · rw [h]; exact Nat.le_refl _
    · exact Nat.le_mul_of_pos_right m h
  have lkm : k * m ≤ 1000000 := Nat.le_trans (Nat.mul_le_mul (Nat.le_refl _) mm) hkm
  have E1 := En.same s1
  have t1 := t.mono s1
  refine k_own (i := 3) E1 t1 (gn_lst t1 ga_nil (by simp)) fun Lf H2 xs2 nf2 s2 h2 x2 E2 t2 => ?_
  have nX : ¬ X Lf := t1.new nf2
  let X' : Addr → Prop := fun b => X b ∨ b = Lf
  let Γ : List Sv := [.dat (wsD ws), .dat (wsD vs), .dat d, .val (.ref Lf), .un, .un, .un]
  have E2 : EnvOk X' H2 _ Γ := E2
  cases x2
  refine s_forD (X := X') (gi_seq (g_var (i := 2) (d := d) E2 rfl) hs) (fun Hb i σ' H' => Kp X' Hb H' ∧ Trk X' H' ∧ Same H H' ∧ (∃ ys, H' Lf = some (.lst ys) ∧ DXs X' H' ys ((psIn ((itemsD d).take i)).map prD)) ∧ EnvOk X' H' σ' Γ ∧ ∀ j < i, ∀ e, (itemsD d)[j]? = some e → okLev ws vs e = true) (fun Hb sb => ⟨Kp.refl, t2.mono sb, (s1.trans s2).trans sb, ⟨[], sb _ _ h2, .nil⟩, E2.same sb, fun j h => by omega⟩) (fun Hb i σ' H' p => ⟨p.1, p.2.1⟩) ?_ ?_
  · rintro Hb i x p σ' H' H'' sb hp ⟨p1, p2, p3, ⟨ys, y1, y2⟩, E0, p6⟩ s3 dx
    refine k_name ?_
    have hpm := List.mem_of_getElem? hp
    have t3 := p2.mono s3
    have s03 := p3.trans s3
    have E3 := (E0.same s3).set (i := 4) dx
    have no : okLev ws vs p = false → ∀ w H4, Same H'' H4 → DX X' H4 w (.bool false) → Q w H4 := fun hm w H4 s4 dw => q w H4 (s03.trans s4) (by rw [cov_no hp hm]; exact dw.less fun _ => .inl)
    refine q_if (b := !(isSeq p && decide ((0 : Int) < (lenD p : Int)))) (gt_is (gt_or (a := !isSeq p) (b := decide ((lenD p : Int) = 0)) (gt_not (gt_B (g_isSeq (g_var (i := 4) (d := p) E3 rfl)))) fun h => gt_eqI t3 (g_len t3 (g_var (i := 4) (d := p) E3 rfl) (hasLen_seq (by rw [Bool.not_eq_false'] at h; exact h))) g_int) ?_) (fun hb2 H4 s4 => ?_) fun hb2 H4 s4 => ?_
    · rw [Bool.not_and]
      congr 1
      rw [← decide_not]
      exact decide_eq_decide.mpr (by omega)
    · rw [Bool.not_eq_true'] at hb2
      refine s_ret (X := X') g_bl fun w H5 s5 dw => no ?_ w H5 (s4.trans s5) dw
      unfold okLev areD
      cases h1 : isSeq p with
      | false => rfl
      | true =>
        rw [h1, Bool.true_and] at hb2
        rw [hb2, Bool.false_and, Bool.and_false]
    rw [Bool.not_eq_false', Bool.and_eq_true] at hb2
    obtain ⟨hsp, hlen⟩ := hb2
    have lp := f2 p hpm hsp
    have E4 := E3.same s4
    have t4 := t3.mono s4
    refine q_if (b := !(itemsD p).all (isMatchD ws vs)) (gt_not (gt_B (g_is (g_all (bs := (itemsD p).map (isMatchD ws vs)) t4 (g_is (g_lc1 (ds := itemsD p) (Γ2 := fun y => [.dat (wsD ws), .dat (wsD vs), .dat d, .val (.ref Lf), .dat p, .dat y, .un]) (fun y => .bool (isMatchD ws vs y)) t4 (gi_seq (g_var (i := 4) (d := p) E4 rfl) hsp) (by omega) (fun H5 s5 y hy => tgt_name (E4.same s5)) (fun X2 H5 σ2 y hy t5 E5 => g_is (g_call3 t5 (g_var (i := 0) (d := wsD ws) E5 rfl) (g_var (i := 1) (d := wsD vs) E5 rfl) (g_lst t5 (ga_cons (g_var (i := 5) (d := y) E5 rfl) ga_nil) (by simp)) ⟨hw, fun _ => by simp [itemsD]⟩) (by rw [wsOf_wsD, wsOf_wsD, row_one]))) (by rw [List.map_map]; rfl))) (by rw [List.all_map]; rfl)))) (fun hb3 H5 s5 => ?_) fun hb3 H5 s5 => ?_
    · rw [Bool.not_eq_true'] at hb3
      refine s_ret (X := X') g_bl fun w H6 s6 dw => no ?_ w H6 ((s4.trans s5).trans s6) dw
      unfold okLev areD
      rw [hb3, Bool.and_false, Bool.false_and]
    rw [Bool.not_eq_false'] at hb3
    have hare : areD ws vs p = true := by
      unfold areD
      rw [hsp, hb3]
      rfl
    have hma := (are_all hare).2
    have E5 := E4.same s5
    have t5 := t4.mono s5
    have s35 := s4.trans s5
    refine s_forD (X := X') (gi_seq (g_var (i := 4) (d := p) E5 rfl) hsp) (fun Hc j σ2 H2 => Same Hc H2 ∧ Trk X' H2 ∧ EnvOk X' H2 σ2 [.dat (wsD ws), .dat (wsD vs), .dat d, .val (.ref Lf), .dat p, .un, .un] ∧ ∀ l < j, ∀ e, (itemsD p)[l]? = some e → ((itemsD p).any fun y => behD e y) = false) (fun Hc sc => ⟨Same.refl _, t5.mono sc, E5.same sc, fun j h => by omega⟩) (fun Hc j σ2 H2 p => ⟨Kp.of p.1, p.2.1⟩) ?_ ?_
    · rintro Hc j x2 z σ2 H6 H7 sc hz ⟨r1, r2, E6, r4⟩ s7 dx2
      have hzm := hma z (List.mem_of_getElem? hz)
      refine k_name ?_
      have E7 := (E6.same s7).set (i := 5) dx2
      have t7 := r2.mono s7
      refine s_if (b := (itemsD p).any fun y => behD z y) (gt_B (g_is (g_any (bs := (itemsD p).map fun y => behD z y) t7 (g_is (g_lc1 (ds := itemsD p) (Γ2 := fun y => [.dat (wsD ws), .dat (wsD vs), .dat d, .val (.ref Lf), .dat p, .dat z, .dat y]) (fun y => .bool (behD z y)) t7 (gi_seq (g_var (i := 4) (d := p) E7 rfl) hsp) (by omega) (fun H8 s8 y hy => tgt_name (E7.same s8)) (fun X2 H8 σ3 y hy t8 E8 => g_call2 t8 (g_var (i := 5) (d := z) E8 rfl) (g_var (i := 6) (d := y) E8 rfl) ⟨match_pq hzm, match_pq (hma y hy)⟩)) (by rw [List.map_map]; rfl))) (by rw [List.any_map]; rfl))) (fun hb4 H8 s8 => ?_) fun hb4 H8 s8 => ?_
      · refine s_ret (X := X') g_bl fun w H9 s9 dw => no ?_ w H9 (((((s35.trans sc).trans r1).trans s7).trans s8).trans s9) dw
        have : behIn p = true := by
          unfold behIn
          rw [List.any_eq_true]
          exact ⟨z, List.mem_of_getElem? hz, hb4⟩
        unfold okLev
        rw [this]
        simp
      · refine ⟨(r1.trans s7).trans s8, t7.mono s8, envUn' (E7.same s8) 5, fun l hl e he => ?_⟩
        by_cases h : l = j
        · subst h
          rw [hz] at he
          cases he
          exact hb4
        · exact r4 l (by omega) e he
    · rintro Hc σ2 H6 sc ⟨r1, r2, E6, r4⟩
      have s36 := (s35.trans sc).trans r1
      have nb : behIn p = false := by
        unfold behIn
        rw [List.any_eq_false]
        intro z hz
        obtain ⟨l, hl⟩ := List.mem_iff_getElem?.mp hz
        rw [r4 l (List.getElem?_eq_some_iff.mp hl).1 z hl]
        simp
      have okl : okLev ws vs p = true := by
        unfold okLev
        rw [hare, hlen, nb]
        rfl
      have etake : psIn ((itemsD d).take (i + 1)) = psIn ((itemsD d).take i) ++ (itemsD p).map prOf := by
        unfold psIn
        rw [List.take_add_one, hp, Option.toList_some, List.flatMap_append]
        simp
      have ltake : (psIn ((itemsD d).take i)).length ≤ i * m := by
        refine Nat.le_trans (len_flat (m := m) fun a ha => ?_) (Nat.mul_le_mul (by rw [List.length_take]; exact Nat.min_le_left _ _) (Nat.le_refl _))
        rw [List.length_map]
        obtain ⟨l, hl⟩ := List.mem_iff_getElem?.mp ha
        rw [List.getElem?_take] at hl
        split at hl
        · rename_i lt
          have := p6 l lt a hl
          unfold okLev at this
          rw [Bool.and_eq_true] at this
          exact f2 a (List.mem_of_getElem? hl) (are_all this.1).1
        · cases hl
      have hi : i + 1 ≤ k := by
        have := (List.getElem?_eq_some_iff.mp hp).1
        omega
      have lnext : i * m + m ≤ 1000000 := by
        have := Nat.mul_le_mul hi (Nat.le_refl m)
        rw [Nat.succ_mul] at this
        omega
      refine k_drop1 (q_extend (i := 3) (L := Lf) (es := ((itemsD p).map prOf).map prD) E6 rfl (.inr rfl) r2 ((s3.trans s36) _ _ y1) (y2.mono (Kp.of (s3.trans s36))) (g_is (g_lc1 (ds := itemsD p) (Γ2 := fun y => [.dat (wsD ws), .dat (wsD vs), .dat d, .val (.ref Lf), .dat p, .dat y, .un]) (fun y => .tuple (itemsD y)) r2 (gi_seq (g_var (i := 4) (d := p) E6 rfl) hsp) (by omega) (fun H8 s8 y hy => tgt_name (E6.same s8)) (fun X2 H8 σ3 y hy t8 E8 => g_tupQ t8 (g_var (i := 5) (d := y) E8 rfl) (match_pq (hma y hy)).choose_spec.choose_spec.1)) ?_) (by rw [List.length_map, List.length_map, List.length_map]; omega) fun H8 ys8 h8 x8 E8 t8 k8 => ?_)
      · rw [List.map_map]
        congr 1
        refine List.map_congr_left fun y hy => ?_
        show _ = prD (prOf y)
        rw [← match_pr2 (hma y hy)]
        obtain ⟨a, b, _, e⟩ := match_pq (hma y hy)
        unfold it
        rw [e]
        rfl
      · have kx : Kp X' H6 H8 := fun a o n e => k8 a o (fun z => n (.inr z)) e
        refine ⟨(p1.trans (Kp.of (s3.trans s36))).trans kx, t8, fun a o e => ?_, ⟨ys8, h8, ?_⟩, envUn' E8 4, fun j hj e he => ?_⟩
        · have n1 : a ≠ Lf := fun z => by
            have := (s1 _ _ e)
            rw [z, nf2] at this
            cases this
          exact k8 a o n1 ((s03.trans s36) a o e)
        · rw [etake, List.map_append]
          exact x8
        · by_cases h : j = i
          · subst h
            rw [hp] at he
            cases he
            exact okl
          · exact p6 j (by omega) e he
  · rintro Hb σ' H' sb ⟨p1, p2, p3, ⟨ys, y1, y2⟩, E0, p6⟩
    rw [List.take_length] at y2
    have E8 := E0.give (i := 3) rfl nX y1 y2
    have t8 : Trk X H' := fun a h => p2 a (.inl h)
    have e : isCovD ws vs d = sortOk ws vs d := by
      rw [cov_lev, hs]
      have : (itemsD d).all (okLev ws vs) = true := by
        rw [List.all_eq_true]
        intro z hz
        obtain ⟨j, hj⟩ := List.mem_iff_getElem?.mp hz
        exact p6 j (List.getElem?_eq_some_iff.mp hj).1 z hj
      rw [this]
      rfl
    rw [e] at q
    have E8 : EnvOk X H' σ' [.dat (wsD ws), .dat (wsD vs), .dat d, .dat (.list ((psOf d).map prD)), .un, .un, .un] := E8
    exact s_ret (X := X) (D := { nx := fun _ H' => Q .non H', rt := Q }) (d := .bool (sortOk ws vs d)) (g_eqD (K := K) t8 (x := .list (sortD ((psOf d).map prD))) (y := rowD (matchL ws vs)) (g_sortPr t8 (g_var (i := 3) (d := .list ((psOf d).map prD)) E8 rfl)).g (g_is (g_call2 t8 (g_var (i := 0) (d := wsD ws) E8 rfl) (g_var (i := 1) (d := wsD vs) E8 rfl) hw) (by rw [wsOf_wsD, wsOf_wsD])) (prs_shaped (sort_prs _)).1 (row_shaped _).1 (prs_shaped (sort_prs _)).2 (row_sh _)) fun w H9 s9 dw => q w H9 (p3.trans s9) dw
end K52

/-! Ranks of matches, by the law. -/
namespace K52
open PySem PySem.Spec PyProof.Rows L2 KD KL KCl
-- RAISES check_texts least_cover common_row is_cover
-- HINT _law_m_ranks dnew pe_dnewT
-- HINT _law_m_ranks it#2 pi_keys
-- HINT _law_m_ranks lock#1 yes
-- HINT _law_m_ranks dgetn _law_found
-- HINT _law_m_ranks dputn _law_found
-- HINT _law_m_ranks lctt#1 (tB (tCall (sp2 pqPre fun a b => .bool (behD a b)) [] E0 (tCons (tVar 3) (tCons (tVar 4) tNil))))
variable {P : Program} {w : World} {K : PySem.W.Frag} {mg : Str → Option Value} {base : Heap}
/-! ### a dict's keys, walked within a comprehension -/
theorem walk_keysT {d : Addr} {o : Obj} {kvs : List (List Key × V)} : Walk (Itkt d o kvs) kvs.length (fun H => H d = some (.frz o (.dT kvs))) (fun i H x H' => H' = H ∧ ∃ (k : List Key) (v : V) (q : Addr), kvs[i]? = some (k, v) ∧ x = .ref q ∧ H q = some (.tup (k.map kV))) :=
  ⟨fun i H hi g => ⟨g, hi⟩, fun H g => ⟨g, Nat.le_refl _⟩, fun i H x H' _ _ y => y⟩
section
variable {X : Addr → Prop} {σ : L2.St} {H : Hp} {Γ : List Sv} {tt : TT} {te : TE} {i di : Nat} {D : Addr}
theorem g_lcKeys (C : List Ce) (f : Ce → Bool) (h : Ce → PyData) (t : Trk X H) (nt : NoT X H) (XD : X D) (En : EnvOk X H σ Γ) (hD : H D = some (.dT (C.map celV))) (hd : Γ[di]? = some (.val (.ref D))) (few : C.length ≤ 100000)
    (ht : ∀ X' H1 σ2 c od, c ∈ C → Trk X' H1 → H1 D = some (.frz od (.dT (C.map celV))) → EnvOk X' H1 σ2 ((Γ.set i .un).set i (.dat (prD c.1))) → GT tt σ2 H1 (f c))
    (he : ∀ X' H1 σ2 c od, c ∈ C → f c = true → Trk X' H1 → H1 D = some (.frz od (.dT (C.map celV))) → EnvOk X' H1 σ2 ((Γ.set i .un).set i (.dat (prD c.1))) → G X' te σ2 H1 (h c)) :
    G X (tLockE (tLc (iKeys (tVar di)) (gName i) tt te [i])) σ H (.list ((C.filter f).map h)) := fun H1 s Q q => by
  have hD1 := s _ _ hD
  refine k_lock ⟨D, _, hD1, trivial, fun od => ⟨.ref D, En.get di _ hd, D, od, rfl, .inr ⟨_, upd_same, fun A hA => ?_⟩⟩⟩
  have eL : upd H1 D (.frz od (.dT (C.map celV))) D = some (.frz od (.dT (C.map celV))) := upd_same
  have k1 : Kp X H1 (upd H1 D (.frz od (.dT (C.map celV)))) := Kp.put XD
  have tL : Trk X (upd H1 D (.frz od (.dT (C.map celV)))) := (t.mono s).put
  have ntL : NoT X (upd H1 D (.frz od (.dT (C.map celV)))) := fun a ha xs e => by
    by_cases z : a = D
    · rw [z, upd_same] at e
      cases e
    · rw [upd_ne z] at e
      exact (nt.mono t s) a ha xs e
  have same : ∀ {G : Hp}, Same (upd H1 D (.frz od (.dT (C.map celV)))) G → Same H1 (upd G D (.dT (C.map celV))) := fun {G} sG a o e => by
    by_cases z : a = D
    · rw [z, upd_same]
      rw [z, hD1] at e
      exact e
    · rw [upd_ne z]
      refine sG a o ?_
      rw [upd_ne z]
      exact e
  have EL : EnvOk X (upd H1 D (.frz od (.dT (C.map celV)))) σ Γ := (En.same s).mono k1
  generalize upd H1 D (.frz od (.dT (C.map celV))) = HL at *
  let X' : Addr → Prop := fun a => X a ∨ a = A
  have m2 : More X X' HL := More.one hA
  have nXA : ¬ X A := tL.new hA
  have nDA : D ≠ A := fun z => nXA (z ▸ XD)
  have lenC : (C.map celV).length = C.length := List.length_map _
  refine lc_it walk_keysT (fun k G => Same HL G ∧ Trk X' G ∧ ∃ acc, G A = some (.lst acc) ∧ DXs X' G acc (((C.take k).filter f).map h)) ⟨Same.upd hA, tL.one hA, [], upd_same, .nil⟩ ?_ ?_ ?_
  · rintro k G _ ⟨p1, _⟩
    exact p1 _ _ eL
  · rintro k x G G2 hk ⟨p1, p2, acc, p3, p4⟩ ⟨rfl, ky, v, qk, e1, rfl, e2⟩
    rw [lenC] at hk
    rw [List.getElem?_map, List.getElem?_eq_getElem hk] at e1
    obtain ⟨⟨⟩⟩ : celV C[k] = (ky, v) ∧ True := ⟨Option.some.inj e1, trivial⟩
    have nq : ¬ X' qk := fun z => z.elim (fun z => by
      obtain ⟨o, ho⟩ := tL qk z
      have := p1 _ _ ho
      rw [e2] at this
      cases this
      exact ntL qk z _ ho) fun z => by rw [z, p3] at e2; cases e2
    have dx : DX X' G2 (.ref qk) (prD C[k].1) := .tup nq e2 (.cons (.int _) (.cons (.int _) .nil))
    have E4 := (((EL.more m2).mono (Kp.of p1)).wipe [i]).set (i := i) (v := .ref qk) dx
    have etake : C.take (k + 1) = C.take k ++ [C[k]] := by rw [List.take_add_one, List.getElem?_eq_getElem hk]; rfl
    have hfz := p1 _ _ eL
    refine k_name ⟨wipe_one, ?_⟩
    refine ht X' _ _ C[k] od (List.getElem_mem hk) p2 hfz E4 _ (Same.refl _) _ fun H5 s5 => ?_
    have lacc : acc.length ≤ 100000 := by
      rw [p4.length, List.length_map]
      exact Nat.le_trans (List.length_filter_le _ _) (Nat.le_trans (List.length_take_le _ _) (by omega))
    cases hf : f C[k] with
    | true =>
      refine iteT (he X' _ _ C[k] od (List.getElem_mem hk) hf p2 hfz E4 H5 s5 _ fun y H6 s6 ry => ?_)
      have s46 := s5.trans s6
      refine ⟨acc, s46 _ _ p3, by rw [sizeLine_eq]; omega, Same.mut (p1.trans s46) hA, (p2.mono s46).put, acc ++ [y], upd_same, ?_⟩
      rw [etake, List.filter_append, List.map_append]
      have ef : List.filter f [C[k]] = [C[k]] := by simp [hf]
      rw [ef]
      exact ((p4.mono (Kp.of s46)).snoc ry).mono (Kp.put (.inr rfl))
    | false =>
      refine iteF ⟨p1.trans s5, p2.mono s5, acc, s5 _ _ p3, ?_⟩
      rw [etake, List.filter_append, List.map_append]
      have ef : List.filter f [C[k]] = [] := by simp [hf]
      rw [ef, List.map_nil, List.append_nil]
      exact p4.mono (Kp.of s5)
  · rintro G ⟨p1, p2, acc, p3, p4⟩
    rw [lenC, List.take_length] at p4
    refine ⟨p1 _ _ eL, q (.ref A) _ (same p1) (.lst nXA (by rw [upd_ne (Ne.symm nDA)]; exact p3) ((p4.mono (Kp.put (.inl XD))).less fun _ => .inl))⟩
theorem g_dgetF {C : List Ce} {c : Ce} {od : Obj} (En : EnvOk X H σ Γ) (t : Trk X H) (hD : H D = some (.frz od (.dT (C.map celV)))) (hd : Γ[di]? = some (.val (.ref D))) (hi : Γ[i]? = some (.dat (prD c.1))) (hc : c ∈ C) (u : ∀ b ∈ C, b.1 = c.1 → b.2 = c.2) : G X (tDGet (tVar di) (tVar i)) σ H (.int (c.2 : Int)) := fun H1 s Q q => by
  refine ⟨.ref D, En.get di _ hd, ?_⟩
  refine g_var (i := i) (d := prD c.1) En hi H1 s _ fun y H2 s2 ry => ?_
  obtain ⟨b, xs, rfl, nb, eb, rb⟩ := ry.tup_inv
  cases rb with
  | cons a rb =>
    cases rb with
    | cons a2 rb =>
      cases rb
      rw [a.int_inv, a2.int_inv] at eb
      exact ⟨D, _, rfl, .inr ⟨_, keyC c.1, b, .inr ⟨od, (s.trans s2) _ _ hD⟩, rfl, eb, (val_some hc u).symm⟩, q _ H2 s2 (.int _)⟩
end
/-! ### levels, match by match -/
theorem lvRow_ps (M : Nat → Nat → Bool) (i : Nat) : ∀ m, lvRow M i m = (rowM m (M i) i).map fun p => (p, lev M p)
  | 0 => by simp [lvRow, rowM]
  | m + 1 => by
    rw [lvRow, lvRow_ps M i m]
    unfold rowM
    rw [List.range_succ, List.filter_append, List.map_append, List.map_append]
    congr 1
    by_cases h : M i m = true
    · simp [h, lev]
    · simp [h]
theorem lvC_ps (M : Nat → Nat → Bool) (m : Nat) : ∀ n, lvC M m n = (psL M n m).map fun p => (p, lev M p)
  | 0 => by simp [lvC, psL]
  | n + 1 => by rw [lvC, lvC_ps M m n, lvRow_ps, psL_succ, List.map_append]
theorem psL_rise (M : Nat → Nat → Bool) (m : Nat) : ∀ n, (psL M n m).Pairwise fun a b => a.1 ≤ b.1
  | 0 => by simp [psL]
  | n + 1 => by
    rw [psL_succ]
    have hr : ∀ b ∈ rowM m (M n) n, b.1 = n := fun b hb => by
      unfold rowM at hb
      obtain ⟨j, _, rfl⟩ := List.mem_map.mp hb
      rfl
    refine List.pairwise_append.mpr ⟨psL_rise M m n, ?_, fun a ha b hb => ?_⟩
    · refine List.Pairwise.imp_of_mem (R := fun _ _ => True) (fun {a b} ha hb _ => ?_) (List.pairwise_of_forall fun _ _ => trivial)
      rw [hr a ha, hr b hb]
      exact Nat.le_refl _
    · have h1 := ((psL_mem a).mp ha).1
      have h2 := hr b hb
      omega
theorem lev_beh {M : Nat → Nat → Bool} {p q : Pr} (hq : M q.1 q.2 = true) (h1 : q.1 < p.1) (h2 : q.2 < p.2) : lev M q ≤ L M p.1 p.2 := lev_top h1 h2 hq
theorem lev_has {M : Nat → Nat → Bool} {p : Pr} (h : 0 < L M p.1 p.2) : ∃ q : Pr, M q.1 q.2 = true ∧ q.1 < p.1 ∧ q.2 < p.2 ∧ lev M q = L M p.1 p.2 := by
  obtain ⟨l, a, b, c⟩ := L_is (M := M) p.1 p.2
  rcases snoc (l := l) with rfl | ⟨k, q, rfl⟩
  · rw [← c] at h
    exact absurd h (Nat.lt_irrefl _)
  · have hq := b q (List.mem_append_right _ (List.mem_singleton.mpr rfl))
    have hm := a.2 q (List.mem_append_right _ (List.mem_singleton.mpr rfl))
    have h1 := lev_up a
    rw [List.length_append, List.length_singleton] at c
    refine ⟨q, hm, hq.1, hq.2, Nat.le_antisymm (lev_beh hm hq.1 hq.2) (by omega)⟩
/-- the largest of the ranks behind it -/
theorem rank_max {M : Nat → Nat → Bool} {n m i : Nat} {p : Pr} (hp : (psL M n m)[i]? = some p) : ((L M p.1 p.2 : Nat) : Int) ∈ (0 : Int) :: ((((lvC M m n).take i).filter fun c => behD (prD p) (prD c.1)).map fun c => (c.2 : Int)) ∧ ∀ y ∈ (0 : Int) :: ((((lvC M m n).take i).filter fun c => behD (prD p) (prD c.1)).map fun c => (c.2 : Int)), y ≤ ((L M p.1 p.2 : Nat) : Int) := by
  constructor
  · by_cases h : L M p.1 p.2 = 0
    · rw [h]
      exact List.mem_cons_self
    · obtain ⟨q, h1, h2, h3, h4⟩ := lev_has (M := M) (p := p) (by omega)
      have hpm := (psL_mem p).mp (List.mem_of_getElem? hp)
      have hqm : q ∈ psL M n m := (psL_mem q).mpr ⟨by omega, by omega, h1⟩
      obtain ⟨j, hj⟩ := List.mem_iff_getElem?.mp hqm
      have lt : j < i := by
        obtain ⟨lj, ej⟩ := List.getElem?_eq_some_iff.mp hj
        obtain ⟨li, ei⟩ := List.getElem?_eq_some_iff.mp hp
        by_cases c : j < i
        · exact c
        · by_cases c2 : i < j
          · have := List.pairwise_iff_getElem.mp (psL_rise M m n) i j li lj c2
            rw [ei, ej] at this
            omega
          · have : i = j := by omega
            subst this
            rw [hp] at hj
            cases hj
            omega
      refine List.mem_cons_of_mem _ (List.mem_map.mpr ⟨(q, lev M q), List.mem_filter.mpr ⟨?_, ?_⟩, by rw [h4]⟩)
      · refine List.mem_of_getElem? (i := j) ?_
        rw [List.getElem?_take_of_lt lt, lvC_ps, List.getElem?_map, hj]
        rfl
      · rw [beh_pr, bhB_iff]
        exact ⟨h2, h3⟩
  · intro y hy
    rcases List.mem_cons.mp hy with rfl | hy
    · omega
    · obtain ⟨c, hc, rfl⟩ := List.mem_map.mp hy
      obtain ⟨h1, h2⟩ := List.mem_filter.mp hc
      obtain ⟨g1, g2, g3, g4⟩ := lvC_in.mp (List.mem_of_mem_take h1)
      rw [beh_pr, bhB_iff] at h2
      have := lev_beh (M := M) (p := p) (q := c.1) g3 h2.1 h2.2
      unfold lev at this
      rw [g4]
      omega
def spRanks : Sp := fun us H Q _ => ∃ (X : Addr → Prop) (v1 v2 : V) (ws vs : List Str), us = [v1, v2] ∧ Trk X H ∧ NoT X H ∧ DX X H v1 (wsD ws) ∧ DX X H v2 (wsD vs) ∧ ws.length ≤ 7 ∧ vs.length ≤ 7 ∧ WsOk ws ∧ WsOk vs ∧ ∀ D H', Same H H' → H D = none → H' D = some (.dT ((lvC (Mw ws vs) vs.length ws.length).map celV)) → Q (.ref D) H'
abbrev s__law_m_ranks : Stmt := topS 30
abbrev n__law_m_ranks : List Str := ["_law_one", "_law_other", "_law_found", "_law_pair", "_law_near"]
theorem sc__law_m_ranks : FnScope n__law_m_ranks ["_law_one", "_law_other"] (defScope s__law_m_ranks) := ⟨rfl, rfl, rfl, by decide +kernel, rfl, by decide +kernel, by decide +kernel⟩
theorem ok_ranks {f : Addr} {fd : FuncData} (F : Fun K "_law_m_ranks" "_law_m_ranks" s__law_m_ranks f fd) (T : Bl mg) (b_max : mg "max" = none) (O__law_m_matches : Own P w K mg base CX0 1 "_law_m_matches" ["_law_one", "_law_other"] (sp2 ws2 fun a b => rowD (matchL (wsOf a) (wsOf b)))) (O__law_m_behind : Own P w K mg base CX0 1 "_law_m_behind" ["_law_pair", "_law_near"] (sp2 pqPre fun a b => .bool (behD a b))) : FnOk P w K mg base CX0 2 f fd ["_law_one", "_law_other"] spRanks := by
  refine F.ok sc__law_m_ranks (fun us H Q E h => ?_) (fun cdv A outer s H us Q E hr h => ?_)
  · obtain ⟨X, v1, v2, ws, vs, rfl, _⟩ := h
    rfl
  · obtain ⟨X, v1, v2, ws, vs, rfl, t, nt, r1, r2, l1, l2, k1, k2, q⟩ := h
    refine ⟨_, (pss_cons (ps_set (i := 2) sc__law_m_ranks.nd rfl (by first | exact Or.inl rfl | exact Or.inr rfl) pe_dnewT)
    (pss_cons (ps_for PassesOwn.never rfl (pi_list (pe_own O__law_m_matches hr (by decide) (by rfl) (pa_cons (pv 0) (pa_cons (pv 1) pa_nil)))) (pg_name (i := 3) sc__law_m_ranks.nd rfl (by first | exact Or.inl rfl | exact Or.inr rfl))
    (pss_one (ps_dput (hu_of hr) (pv 2) (pv 3) (pe_op op_addA pe_int (pe_callB (cr_max rfl) (by rfl) b_max boot_max (pa_cons (pe_op op_addA (pe_lst (pa_cons pe_int pa_nil)) (pe_lock (pe_lc (own := [("_law_near", 4)]) (g := (gName 4)) (tt := (tB (tCall (sp2 pqPre fun a b => .bool (behD a b)) [] E0 (tCons (tVar 3) (tCons (tVar 4) tNil))))) rfl sc__law_m_ranks.nd (pi_keys (pv 2)) (blkOk_by (N := n__law_m_ranks) (sc := defScope s__law_m_ranks) (by decide +kernel)) (fun _ _ _ _ _ => (pg_name (i := 4) sc__law_m_ranks.nd rfl (by first | exact Or.inl rfl | exact Or.inr rfl))) (fun _ _ _ _ _ => (pts_one (pt_val (pe_own O__law_m_behind hr (by decide) (by rfl) (pa_cons (pv 3) (pa_cons (pv 4) pa_nil)))))) (fun _ _ _ _ _ => (pe_dget (hu_of hr) (pv 2) (pv 4) (fun _ _ => rfl)))))) pa_nil))) rfl)))
    (pss_one (ps_ret (pv 2))))), ?_⟩
    have En : EnvOk X H (L2.start n__law_m_ranks [v1, v2]) [.dat (wsD ws), .dat (wsD vs), .un, .un, .un] := env2 (N := n__law_m_ranks) r1 r2 (by decide)
    refine k_set fun D hD => ?_
    have nX : ¬ X D := t.new hD
    let X2 : Addr → Prop := fun a => X a ∨ a = D
    let Γ : List Sv := [.dat (wsD ws), .dat (wsD vs), .val (.ref D), .un, .un]
    have s1 : Same H (upd H D (.dT [])) := Same.upd hD
    have E1 : EnvOk X2 (upd H D (.dT [])) _ Γ := ((En.more (More.one hD)).same s1).setV (i := 2) (v := .ref D)
    have t1 : Trk X2 (upd H D (.dT [])) := t.one hD
    have n1 : NoT X2 (upd H D (.dT [])) := fun a ha xs e => by
      by_cases z : a = D
      · rw [z, upd_same] at e
        cases e
      · rw [upd_ne z] at e
        exact nt a (ha.resolve_right z) xs e
    have e1 : upd H D (.dT []) D = some (.dT []) := upd_same
    generalize upd H D (.dT []) = H1 at *
    obtain ⟨M, hM⟩ : ∃ M, M = Mw ws vs := ⟨_, rfl⟩
    rw [← hM] at q
    have few : (lvC M vs.length ws.length).length ≤ 3600 := lvC_few (by omega) (by omega)
    refine s_forD (X := X2) (gi_list (ds := (psL M ws.length vs.length).map prD) (g_is (g_call2 t1 (g_var (i := 0) (d := wsD ws) E1 rfl) (g_var (i := 1) (d := wsD vs) E1 rfl) ⟨ws, vs, rfl, rfl, by omega, by omega, k1, k2⟩) (by rw [wsOf_wsD, wsOf_wsD, hM]; rfl))) (fun Hb i σ' H' => (Kp X2 Hb H' ∧ Trk X2 H') ∧ NoT X2 H' ∧ Same H H' ∧ H' D = some (.dT (((lvC M vs.length ws.length).take i).map celV)) ∧ EnvOk X2 H' σ' Γ) ?_ (fun Hb i σ' H' p => p.1) ?_ ?_
    · intro Hb sb
      exact ⟨⟨Kp.refl, t1.mono sb⟩, n1.mono t1 sb, s1.trans sb, sb _ _ e1, E1.same sb⟩
    · rintro Hb i x d σ' H' H'' sb hd ⟨⟨p1, p2⟩, p3, p4, p5, E0⟩ s5 dx
      rw [List.getElem?_map] at hd
      obtain ⟨p, hp, rfl⟩ := Option.map_eq_some_iff.mp hd
      refine k_name ?_
      have t5 := p2.mono s5
      have n5 := p3.mono p2 s5
      have E5 : EnvOk X2 H'' _ [.dat (wsD ws), .dat (wsD vs), .val (.ref D), .dat (prD p), .un] := (E0.same s5).set (i := 3) dx
      have D5 := s5 _ _ p5
      obtain ⟨m1, m2⟩ := rank_max hp
      have hci : (lvC M vs.length ws.length)[i]? = some (p, lev M p) := by
        rw [lvC_ps, List.getElem?_map, hp]
        rfl
      have inC : ∀ c ∈ (lvC M vs.length ws.length).take i, c.2 = L M c.1.1 c.1.2 + 1 := fun c hc => (lvC_in.mp (List.mem_of_mem_take hc)).2.2.2
      refine k_put ((show G X2 _ (σ'.set 3 (some x)) H'' (.int (1 + (L M p.1 p.2 : Nat))) from g_addI t5 g_int (g_max t5 (g_is (g_cat (xs := [.int 0]) t5 (g_lst t5 (ga_cons g_int ga_nil) (by simp)) (g_lcKeys (i := 4) (di := 2) (D := D) ((lvC M vs.length ws.length).take i) (fun c => behD (prD p) (prD c.1)) (fun c => .int (c.2 : Int)) t5 n5 (.inr rfl) E5 D5 rfl (by rw [List.length_take]; omega) (fun X3 H3 σ3 c od hc t3 f3 E3 => gt_B (g_call2 t3 (g_var (i := 3) (d := prD p) E3 rfl) (g_var (i := 4) (d := prD c.1) E3 rfl) (show pqPre _ _ from ⟨pq_pr p, pq_pr c.1⟩))) (fun X3 H3 σ3 c od hc hf t3 f3 E3 => g_dgetF (di := 2) (i := 4) E3 t3 f3 rfl rfl hc fun b hb e => by rw [inC b hb, inC c hc, e])) (by
            rw [List.length_map]
            have := List.length_filter_le (fun c : Ce => behD (prD p) (prD c.1)) ((lvC M vs.length ws.length).take i)
            rw [List.length_take] at this
            show 1 + _ ≤ _
            omega)) (by rw [List.map_cons, List.map_map]; rfl)) (by simp) m1 m2)) H'' (Same.refl _) _ fun w1 H3 s3 r3 => ⟨_, (E5.same s3).get 2 _ rfl, ?_⟩)
      obtain ⟨y, ey, dy⟩ := (E5.same s3).get 3 _ rfl
      refine ⟨y, ey, ?_⟩
      obtain ⟨b, xs, rfl, nb, eb, rb⟩ := dy.tup_inv
      rw [r3.int_inv]
      have eb2 : H3 b = some (.tup ((keyC p).map kV)) := by
        cases rb with
        | cons a rb =>
          cases rb with
          | cons a2 rb =>
            cases rb
            rw [a.int_inv, a2.int_inv] at eb
            exact eb
      have D3 := s3 _ _ D5
      refine ⟨D, _, rfl, DPut.t (k := keyC p) D3 eb2 (by rw [List.length_map, List.length_take, sizeLine_eq]; omega), ?_⟩
      have eput : putK (((lvC M vs.length ws.length).take i).map celV) (keyC p) (.int (1 + (L M p.1 p.2 : Nat))) = ((lvC M vs.length ws.length).take (i + 1)).map celV := by
        rw [putK_new _ (val_none fun c hc e => ?_), List.take_add_one, hci, Option.toList_some, List.map_append]
        · congr 1
          show [(keyC p, V.int (1 + (L M p.1 p.2 : Nat)))] = [(keyC p, V.int ((lev M p : Nat) : Int))]
          unfold lev
          rw [show ((L M p.1 p.2 + 1 : Nat) : Int) = 1 + (L M p.1 p.2 : Nat) by omega]
        · obtain ⟨j, hj⟩ := List.mem_iff_getElem?.mp hc
          rw [List.getElem?_take] at hj
          split at hj
          · rename_i lt
            obtain ⟨lj, ej⟩ := List.getElem?_eq_some_iff.mp hj
            obtain ⟨li, ei⟩ := List.getElem?_eq_some_iff.mp hci
            have := List.pairwise_iff_getElem.mp (lvC_pair (M := M) (m := vs.length) (i := ws.length)) j i lj li lt
            rw [ej, ei] at this
            exact this e
          · cases hj
      rw [eput]
      have kp : Kp X2 H3 (upd H3 D (.dT (((lvC M vs.length ws.length).take (i + 1)).map celV))) := Kp.put (.inr rfl)
      have s53 := s5.trans s3
      refine ⟨⟨(p1.trans (Kp.of s53)).trans kp, (p2.mono s53).put⟩, fun a ha xs e => ?_, fun a o e => ?_, upd_same, envUn' ((E5.same s3).mono kp) 3⟩
      · by_cases z : a = D
        · rw [z, upd_same] at e
          cases e
        · rw [upd_ne z] at e
          exact (n5.mono t5 s3) a ha xs e
      · have n : a ≠ D := fun z => by rw [z, hD] at e; cases e
        rw [upd_ne n]
        exact s53 _ _ (p4 a o e)
    · rintro Hb σ' H' sb ⟨⟨p1, p2⟩, p3, p4, p5, E0⟩
      show tRet (tVar 2) { nx := fun _ H' => Q .non H', rt := Q } σ' H'
      rw [List.length_map, show (psL M ws.length vs.length).length = (lvC M vs.length ws.length).length by rw [lvC_ps, List.length_map], List.take_length] at p5
      exact ⟨_, E0.get 2 _ rfl, q D H' p4 hD p5⟩
end K52

/-! sum(lists, []): the lists, one behind another. -/
namespace KSL
open PySem PySem.Spec PySem.P PyProof.Rows L2
def cat (part : Nat → Array Value) : Nat → Nat → Array Value
  | _, 0 => #[]
  | i, k + 1 => part i ++ cat part (i + 1) k
section
variable {prog : Program} {w : World} {A : Around} {R : Result → Shared → Prop} {items : Array Value} {it ax S : Addr}
theorem loopL (hh : A.handled = none) (hne : ax ≠ it) (hSI : S ≠ it) (hSx : S ≠ ax) (part : Nat → Array Value) : ∀ (k i : Nat) (s : Shared) (r : Addr) (acc : Array Value) (m c : Nat), items.size - i = k → i ≤ items.size →
    (s.heap.IsListIter it ax i ∧ s.heap.IsList ax items) → IsL s.heap S #[.ref r] c → IsL s.heap r acc m → r ≠ S → r ≠ it → (∀ j, j < items.size → ∃ a m', items[j]? = some (.ref a) ∧ a ≠ S ∧ a ≠ it ∧ IsL s.heap a (part j) m') →
    (acc ++ cat part i k).size ≤ sizeLine →
    (∀ h' tk r' m', (∀ b o, b ≠ S → b ≠ it → s.heap.get? b = some o → h'.get? b = some o) → IsL h' r' (acc ++ cat part i k) m' → ((k = 0 → r' = r) ∧ (k ≠ 0 → s.heap.get? r' = none)) → R (.ok (.ret (.ref r'))) { s with heap := h', toks := tk }) →
    codeAny (model prog w) A (.builtin "sum.loop" ⟨[.ref it, .ref S, rawInt 2, rawInt 0], []⟩) R s := by
  have W := Walks.list (prog := prog) (w := w) (A := A.in1) hh it ax hne items
  intro k
  induction k with
  | zero =>
    intro i s r acc m c hk hi st hS hr r1 r2 hp hz hR
    have e : i = items.size := by omega
    subst e
    refine codeAny_builtin F.entry_sum_loop ?_
    rw [Around.under_plainId F.plain_sum_loop _]
    refine wpAny_bind (wpAny_seqItems hS rfl (wpAny_bind (wpAny_tryCatch (W.done s _ _ st fun h' tk kept => ?_))))
    refine wpAny_pure (hR h' tk r m (fun b o b1 b2 e => kept b o (fun z => b2 (List.mem_singleton.mp z)) e) ?_ ⟨fun _ => rfl, fun z => absurd rfl z⟩)
    have : acc ++ cat part items.size 0 = acc := by simp [cat]
    rw [this]
    exact kept r _ (fun z => r2 (List.mem_singleton.mp z)) hr
  | succ k ih =>
    intro i s r acc m c hk hi st hS hr r1 r2 hp hz hR
    have lt : i < items.size := by omega
    refine codeAny_builtin F.entry_sum_loop ?_
    rw [Around.under_plainId F.plain_sum_loop _]
    refine wpAny_bind (wpAny_seqItems hS rfl (wpAny_bind (wpAny_tryCatch (W.item i s _ _ lt st fun v h' tk hv st' kept => ?_))))
    obtain ⟨a, m', ea, a1, a2, pa⟩ := hp i lt
    have hv : items[i]? = some v := hv
    rw [ea] at hv
    cases hv
    have kp : ∀ b o, b ≠ it → s.heap.get? b = some o → h'.get? b = some o := fun b o n e => kept b o (fun z => n (List.mem_singleton.mp z)) e
    have hS1 := kp S _ hSI hS
    have hr1 := kp r _ r2 hr
    have pa1 := kp a _ a2 pa
    have size1 : acc.size + (part i).size ≤ sizeLine := by
      unfold cat at hz
      rw [Array.size_append, Array.size_append] at hz
      omega
    show wpAny _ A.in1 ((holding [Value.ref a] (binaryOp .Add (.ref r) (.ref a))).attempt >>= _) _ _ _
    refine wpAny_bind (wpAny_attempt (wpAny_holding (PySem.P.add_list (s := { s with heap := h', toks := tk }) hr1 pa1 ?_ size1)))
    have nS : S ≠ h'.objs.size := Nat.ne_of_lt (Heap.lt_size hS1)
    obtain ⟨io, ie, ic, id⟩ := st'.1
    have nI : it ≠ h'.objs.size := Nat.ne_of_lt (Heap.lt_size ie)
    obtain ⟨h1, e1⟩ : ∃ h1 : Heap, h1 = h'.push { cls := .type "list", data := .seq (acc ++ part i) } := ⟨_, rfl⟩
    have k1 : ∀ b o, h'.get? b = some o → h1.get? b = some o := fun b o e => by rw [e1]; exact Heap.get?_push_of_some _ e
    have new1 : IsL h1 h'.objs.size (acc ++ part i) 0 := by rw [e1]; exact Heap.get?_push_size _ rfl
    show wpAny _ A.in1 (updateSeq S (fun _ => #[.ref h'.objs.size]) >>= _) _ _ { s with heap := h'.push { cls := .type "list", data := .seq (acc ++ part i) }, toks := tk }
    rw [← e1]
    have hS2 := k1 S _ hS1
    refine wpAny_bind (wpAny_updateSeq hS2 rfl ?_)
    have hS3 := IsL.update (show IsL h1 S _ _ from hS2) fun _ => #[Value.ref h'.objs.size]
    have k2 : ∀ b o, b ≠ S → h1.get? b = some o → (h1.update S (Obj.mapSeq fun _ => #[Value.ref h'.objs.size])).get? b = some o := fun b o n e => (Heap.get?_update_other _ _ fun z => n z.symm).trans e
    generalize h1.update S (Obj.mapSeq fun _ => #[Value.ref h'.objs.size]) = h2 at *
    refine wpAny_bind (wpAny_letGo ?_)
    refine wpAny_bind (wpAny_updateSeq hS3 rfl (wpAny_pure ⟨plainId_quiet F.plain_sum_loop _, ?_⟩))
    have hS4 := IsL.update (show IsL h2 S _ _ from hS3) fun _ => #[Value.ref h'.objs.size]
    have k3 : ∀ b o, b ≠ S → h2.get? b = some o → (h2.update S (Obj.mapSeq fun _ => #[Value.ref h'.objs.size])).get? b = some o := fun b o n e => (Heap.get?_update_other _ _ fun z => n z.symm).trans e
    generalize h2.update S (Obj.mapSeq fun _ => #[Value.ref h'.objs.size]) = h3 at *
    have k13 : ∀ b o, b ≠ S → h'.get? b = some o → h3.get? b = some o := fun b o n e => k3 b o n (k2 b o n (k1 b o e))
    have new3 : IsL h3 h'.objs.size (acc ++ part i) 0 := k3 _ _ (Ne.symm nS) (k2 _ _ (Ne.symm nS) new1)
    have ecat : acc ++ cat part i (k + 1) = (acc ++ part i) ++ cat part (i + 1) k := by
      rw [cat, Array.append_assoc]
    rw [ecat] at hz hR
    refine ih (i + 1) { s with heap := h3, toks := tk } h'.objs.size (acc ++ part i) _ _ (by omega) lt ⟨st'.1.at fun o e => k13 _ _ (Ne.symm hSI) e, st'.2.at fun o e => k13 _ _ (Ne.symm hSx) e⟩ hS4 new3 (Ne.symm nS) (Ne.symm nI) (fun j hj => ?_) hz fun h4 tk4 r' m4 kept4 is4 nw => ?_
    · obtain ⟨b, mb, eb, b1, b2, pb⟩ := hp j hj
      exact ⟨b, mb, eb, b1, b2, k13 b _ b1 (kp b _ b2 pb)⟩
    · refine hR h4 tk4 r' m4 (fun b o n1 n2 e => kept4 b o n1 n2 (k13 b o n1 (kp b o n2 e))) is4 ⟨fun z => absurd z (Nat.succ_ne_zero k), fun _ => ?_⟩
      cases hx : s.heap.get? r' with
      | none => rfl
      | some o =>
        exfalso
        by_cases z : k = 0
        · have e := nw.1 z
          have n2 : r' ≠ it := fun y => nI (by rw [← y, e])
          have := Heap.lt_size (kp r' o n2 hx)
          rw [e] at this
          exact Nat.lt_irrefl _ this
        · have e := nw.2 z
          by_cases y : r' = S
          · rw [y] at e
            have := e.symm.trans hS4
            cases this
          · by_cases y2 : r' = it
            · rw [y2] at e
              have := e.symm.trans (k13 it _ (Ne.symm hSI) ie)
              cases this
            · have := e.symm.trans (k13 r' _ y (kp r' o y2 hx))
              cases this
theorem args_two (a b : Value) : argsOk "sum" ⟨[a, b], []⟩ := by
  unfold argsOk
  kernel_rfl
theorem call_sumL {E : Value → Shared → Prop} {Q : Value → Shared → Prop} {s : Shared} {b : Addr} {nb : Nat} (hh : A.handled = none) (hl : s.heap.IsList ax items) (h0 : 0 < items.size) (hb : IsL s.heap b #[] nb) (part : Nat → Array Value)
    (hp : ∀ j, j < items.size → ∃ a m', items[j]? = some (.ref a) ∧ IsL s.heap a (part j) m') (hz : (cat part 0 items.size).size ≤ sizeLine)
    (h : ∀ h' tk r m, (∀ c o, s.heap.get? c = some o → h'.get? c = some o) → IsL h' r (cat part 0 items.size) m → s.heap.get? r = none → Q (.ref r) { s with heap := h', toks := tk }) :
    wpAny (model prog w) A (call (.builtin "sum") [.ref ax, .ref b]) Q E s := by
  refine call_function_tree F.kind_sum F.plain_sum F.entry_sum (args_two _ _) ?_
  unfold Builtin.«sum»
  simp only [List.length_cons, List.length_nil]
  rw [if_neg (by decide)]
  refine wpAny_bind (wpAny_of_eq (show Builtin.Builtins.bindParams "sum" ["start"] 0 { pos := [Value.ref b] } = pure [some (Value.ref b)] from rfl) ?_)
  have lt : ax < s.heap.objs.size := by
    obtain ⟨_, e, _⟩ := hl
    exact Heap.lt_size e
  refine wpAny_bind (wpAny_pyIter_list hl ?_)
  obtain ⟨h1, e1⟩ : ∃ h1 : Heap, h1 = s.heap.push { cls := .type "list_iterator", data := .fields #[.ref ax, .int 0 0] } := ⟨_, rfl⟩
  rw [← e1]
  have k1 : ∀ c o, s.heap.get? c = some o → h1.get? c = some o := fun c o e => by rw [e1]; exact Heap.get?_push_of_some _ e
  have i1 : h1.IsListIter s.heap.objs.size ax 0 := ⟨_, by rw [e1]; exact Heap.get?_push_size _ rfl, rfl, rfl⟩
  have l1 : h1.IsList ax items := hl.at fun o e => k1 _ _ e
  have b1 : IsL h1 b #[] nb := k1 _ _ hb
  have z1 : h1.objs.size = s.heap.objs.size + 1 := by rw [e1]; exact Heap.size_push _ _
  have ty : ({ s with heap := h1 } : Shared).TypeIs (.ref b) "list" := ⟨_, b1, rfl⟩
  refine wpAny_bind (wpAny_pure ?_)
  simp only [List.forIn_cons, List.forIn_nil]
  refine wpAny_bind (wpAny_bind (wpAny_bind (wpAny_isInstance (T := "list") (b := false) ty F.sub_list_str ?_)))
  simp only [Bool.false_eq_true, if_false]
  refine wpAny_pure (wpAny_bind (wpAny_bind (wpAny_isInstance (T := "list") (b := false) ty F.sub_list_bytes ?_)))
  simp only [Bool.false_eq_true, if_false]
  refine wpAny_pure (wpAny_bind (wpAny_bind (wpAny_isInstance (T := "list") (b := false) ty F.sub_list_bytearray ?_)))
  simp only [Bool.false_eq_true, if_false]
  refine wpAny_pure (wpAny_pure ?_)
  refine wpAny_bind (wpAny_newObj_type ?_)
  obtain ⟨h2, e2⟩ : ∃ h2 : Heap, h2 = h1.push { cls := .type "list", data := .seq #[Value.ref b] } := ⟨_, rfl⟩
  have k2 : ∀ c o, h1.get? c = some o → h2.get? c = some o := fun c o e => by rw [e2]; exact Heap.get?_push_of_some _ e
  have s2 : IsL h2 h1.objs.size #[.ref b] 0 := by rw [e2]; exact Heap.get?_push_size _ rfl
  have old : ∀ {c : Addr} {o : Obj}, s.heap.get? c = some o → c ≠ h1.objs.size ∧ c ≠ s.heap.objs.size := fun {c o} e => by
    have := Heap.lt_size e
    refine ⟨fun z => ?_, fun z => ?_⟩
    · rw [z, z1] at this
      exact absurd this (Nat.not_lt.mpr (Nat.le_succ _))
    · rw [z] at this
      exact Nat.lt_irrefl _ this
  refine wpAny_pure ⟨plainId_quiet F.plain_sum_loop _, ?_⟩
  have go := loopL (prog := prog) (w := w) (A := A) (R := fun r s' => match r with | .ok (.ret v) => Q v s' | .ok _ => False | .error e => E e s') (items := items) (it := s.heap.objs.size) (ax := ax) (S := h1.objs.size) hh (Nat.ne_of_lt lt) (by rw [z1]; exact Nat.succ_ne_self _) (by rw [z1]; exact Nat.ne_of_gt (Nat.lt_succ_of_lt lt)) part items.size 0 { s with heap := h2 } b #[] nb 0 rfl (Nat.zero_le _) ⟨i1.at fun o e => k2 _ _ e, l1.at fun o e => k2 _ _ e⟩ s2 (k2 _ _ b1) (old hb).1 (old hb).2 (fun j hj => ?_) (by simpa using hz) fun h' tk r m kept is nw => ?_
  · rw [e2] at go
    exact go
  · obtain ⟨a, m', ea, pa⟩ := hp j hj
    exact ⟨a, m', ea, (old pa).1, (old pa).2, k2 _ _ (k1 _ _ pa)⟩
  · refine h h' tk r m (fun c o e => kept c o (old e).1 (old e).2 (k2 _ _ (k1 _ _ e))) (by simpa using is) ?_
    have z := nw.2 (Nat.ne_of_gt h0)
    cases hx : s.heap.get? r with
    | none => rfl
    | some o =>
      have := z.symm.trans (k2 _ _ (k1 _ _ hx))
      cases this
end
end KSL
namespace KSL
open PySem PySem.Spec PySem.P PyProof.Rows L2
section
variable {X : Cx}
/-- sum(a, b): a a list of lists, b a list with nothing in it -/
def rSumL : List V → Hp → VK → Prop := fun us H Q => ∃ (a b : Addr) (as : List Addr) (Ls : List (List V)), us = [.ref a, .ref b] ∧ H a = some (.lst (as.map V.ref)) ∧ 0 < as.length ∧ H b = some (.lst []) ∧ Ls.length = as.length ∧ (∀ (i : Nat) (x : Addr) (vs : List V), as[i]? = some x → Ls[i]? = some vs → H x = some (.lst vs)) ∧ Ls.flatten.length ≤ sizeLine ∧
  ∀ p, H p = none → Q (.ref p) (upd H p (.lst Ls.flatten))
theorem vals_cat {part : Nat → Array Value} : ∀ (Ls : List (List V)) (i : Nat), (∀ j vs, Ls[j]? = some vs → Vals vs (part (i + j)).toList) → Vals Ls.flatten (cat part i Ls.length).toList
  | [], i, _ => .nil
  | l :: r, i, h => by
    have h1 := h 0 l rfl
    have h2 := vals_cat r (i + 1) fun j vs e => by
      have := h (j + 1) vs (by simpa using e)
      rwa [show i + (j + 1) = i + 1 + j by omega] at this
    rw [List.flatten_cons, List.length_cons]
    show Vals (l ++ r.flatten) (part i ++ cat part (i + 1) r.length).toList
    rw [Array.toList_append]
    exact h1.append h2
theorem cr_sumL (hc : X.calm = true) : CallR X (.builtin "sum") rSumL := by
  intro pins s σ H vs us Q I r h
  obtain ⟨a, b, as, Ls, rfl, ha, h0, hb, hlen, hin, hz, q⟩ := h
  obtain ⟨za, ia, na, va, la, ea⟩ := I.lstM ha
  obtain ⟨zb, ib, nb, vb, lb, eb⟩ := I.lstM hb
  cases vb
  have eus : us = [.ref a, .ref b] := by
    cases r with
    | cons r1 r =>
      cases r with
      | cons r2 r =>
        cases r
        cases r1
        cases r2
        rfl
  subst eus
  have hex : ∀ j : Nat, ∃ p : Array Value, ∀ x vs, as[j]? = some x → Ls[j]? = some vs → Vals vs p.toList ∧ ∃ m, IsL s.heap x p m := fun j => by
    cases hx : as[j]? with
    | none => exact ⟨#[], fun x vs e => by cases e⟩
    | some x =>
      cases hv : Ls[j]? with
      | none => exact ⟨#[], fun x vs _ e => by cases e⟩
      | some vs =>
        obtain ⟨_, its, m, v1, _, e⟩ := I.lstM (hin j x vs hx hv)
        refine ⟨its.toArray, fun x' vs' e1 e2 => ?_⟩
        cases e1
        cases e2
        exact ⟨v1, m, e⟩
  obtain ⟨part, hpart⟩ := Classical.axiomOfChoice hex
  have sz : ia.toArray.size = Ls.length := by rw [List.size_toArray, ← la, List.length_map, hlen]
  have vc : Vals Ls.flatten (cat part 0 Ls.length).toList := vals_cat Ls 0 fun j vs e => by
    rw [Nat.zero_add]
    have lt := (List.getElem?_eq_some_iff.mp e).1
    exact (hpart j as[j] vs (List.getElem?_eq_getElem (by omega)) e).1
  have hz2 : (cat part 0 Ls.length).size ≤ sizeLine := by
    have e : Ls.flatten.length = (cat part 0 Ls.length).size := vc.length
    rw [← e]
    exact hz
  refine call_sumL (items := ia.toArray) (I.ok.hd hc) ⟨_, ea, rfl, na, rfl⟩ (by rw [sz]; omega) eb part (fun j hj => ?_) (by rw [sz]; exact hz2) fun h' tk r m kept is nw => ?_
  · rw [sz] at hj
    have hx : as[j]? = some as[j] := List.getElem?_eq_getElem (by omega)
    have hv : Ls[j]? = some Ls[j] := List.getElem?_eq_getElem hj
    obtain ⟨_, m, e⟩ := hpart j _ _ hx hv
    obtain ⟨u, hu, ru⟩ := va.get (i := j) (x := .ref as[j]) (by rw [List.getElem?_map, hx]; rfl)
    cases ru
    exact ⟨_, m, by rw [List.getElem?_toArray]; exact hu, e⟩
  · rw [sz] at is
    have hn := I.hok.gone nw
    exact ⟨.ref r, _, I.laidN (o := .lst Ls.flatten) kept nw hn ⟨hz, (cat part 0 Ls.length).toList, m, vc, is⟩, rfl, q r hn⟩
end
end KSL

/-! A list of lists of one's own. -/
namespace K52
open PySem PySem.Spec PyProof.Rows L2 KD KL KCl
variable {P : Program} {w : World} {K : PySem.W.Frag} {mg : Str → Option Value} {base : Heap}
/-- at L a list of the lists as, each its own, that hold the pairs ls -/
structure Fd (H : Hp) (L : Addr) (as : List Addr) (Ls : List (List V)) (ls : List (List Pr)) : Prop where
  at_ : H L = some (.lst (as.map V.ref))
  nd : as.Nodup
  out : ∀ a ∈ as, a ≠ L
  l1 : Ls.length = as.length
  l2 : ls.length = as.length
  own : ∀ (k : Nat) (a : Addr) (vs : List V), as[k]? = some a → Ls[k]? = some vs → H a = some (.lst vs)
  keys : ∀ (k : Nat) (vs : List V) (l : List Pr), Ls[k]? = some vs → ls[k]? = some l → KeysAt H vs l
theorem KeysAt.len {H : Hp} : ∀ {vs : List V} {ps : List Pr}, KeysAt H vs ps → vs.length = ps.length
  | [], [], _ => rfl
  | _ :: _, _ :: _, ⟨_, r⟩ => by rw [List.length_cons, List.length_cons, r.len]
theorem KeysAt.app {H : Hp} : ∀ {vs us : List V} {ps qs : List Pr}, KeysAt H vs ps → KeysAt H us qs → KeysAt H (vs ++ us) (ps ++ qs)
  | [], us, [], qs, _, k => k
  | v :: vs, us, p :: ps, qs, ⟨h, r⟩, k => ⟨h, r.app k⟩
theorem KeysAt.drop {H : Hp} : ∀ {vs : List V} {ps : List Pr}, KeysAt H vs ps → KeysAt H vs.dropLast ps.dropLast
  | [], [], _ => trivial
  | [_], [_], _ => trivial
  | _ :: b :: vs, _ :: q :: ps, ⟨h, r⟩ => ⟨h, r.drop⟩
  | [_], _ :: _ :: _, ⟨_, r⟩ => (by cases r)
  | _ :: _ :: _, [_], ⟨_, r⟩ => (by cases r)
theorem KeysAt.get {H : Hp} : ∀ {vs : List V} {ps : List Pr} {k : Nat} {p : Pr}, KeysAt H vs ps → ps[k]? = some p → ∃ v, vs[k]? = some v ∧ KeyAt H v p
  | v :: vs, q :: ps, 0, p, ⟨h, r⟩, e => ⟨v, rfl, by cases e; exact h⟩
  | v :: vs, q :: ps, k + 1, p, ⟨h, r⟩, e => r.get (k := k) e
  | [], [], k, p, _, e => by simp at e
theorem dxs_keys {X : Addr → Prop} {H : Hp} : ∀ {vs : List V} {ps : List Pr}, DXs X H vs (ps.map prD) → KeysAt H vs ps
  | vs, [], h => by cases h; trivial
  | vs, p :: ps, h => by
    cases h with
    | cons a r =>
      refine ⟨?_, dxs_keys r⟩
      obtain ⟨b, xs, rfl, nb, eb, rb⟩ := DX.tup_inv (ds := [.int (p.1 : Nat), .int (p.2 : Nat)]) a
      cases rb with
      | cons a1 rb =>
        cases rb with
        | cons a2 rb =>
          cases rb
          rw [a1.int_inv, a2.int_inv] at eb
          exact ⟨b, rfl, eb⟩
theorem Fd.kept {H H' : Hp} {L : Addr} {as : List Addr} {Ls : List (List V)} {ls : List (List Pr)} (F : Fd H L as Ls ls) (hL : H' L = H L) (ha : ∀ a ∈ as, H' a = H a) (ht : ∀ a xs, H a = some (.tup xs) → H' a = some (.tup xs)) : Fd H' L as Ls ls :=
  ⟨by rw [hL]; exact F.at_, F.nd, F.out, F.l1, F.l2, fun k a vs h1 h2 => by rw [ha a (List.mem_of_getElem? h1)]; exact F.own k a vs h1 h2, fun k vs l h1 h2 => (F.keys k vs l h1 h2).mono ht⟩
theorem Fd.ownS {H : Hp} {L : Addr} {as : List Addr} {Ls : List (List V)} {ls : List (List Pr)} (F : Fd H L as Ls ls) {a : Addr} (h : a ∈ as) : ∃ vs, H a = some (.lst vs) := by
  obtain ⟨k, hk⟩ := List.mem_iff_getElem?.mp h
  have lt := (List.getElem?_eq_some_iff.mp hk).1
  exact ⟨_, F.own k a _ hk (List.getElem?_eq_getElem (by rw [F.l1]; exact lt))⟩
theorem Fd.same {H H' : Hp} {L : Addr} {as : List Addr} {Ls : List (List V)} {ls : List (List Pr)} (F : Fd H L as Ls ls) (s : Same H H') : Fd H' L as Ls ls :=
  F.kept (by rw [s _ _ F.at_, F.at_]) (fun a ha => by obtain ⟨vs, e⟩ := F.ownS ha; rw [s _ _ e, e]) fun a xs e => s _ _ e
theorem Fd.kps {H H' : Hp} {L st cl : Addr} {as : List Addr} {Ls : List (List V)} {ls : List (List Pr)} (F : Fd H L as Ls ls) (k : KpS st cl H H') (n1 : L ≠ st ∧ L ≠ cl) (n2 : ∀ a ∈ as, a ≠ st ∧ a ≠ cl) (n3 : ∀ xs, H st ≠ some (.tup xs) ∧ H cl ≠ some (.tup xs)) : Fd H' L as Ls ls :=
  F.kept (by rw [k _ _ n1.1 n1.2 F.at_, F.at_]) (fun a ha => by obtain ⟨vs, e⟩ := F.ownS ha; rw [k _ _ (n2 a ha).1 (n2 a ha).2 e, e]) fun a xs e => k _ _ (fun z => (n3 xs).1 (z ▸ e)) (fun z => (n3 xs).2 (z ▸ e)) e
theorem Fd.put {H : Hp} {L a : Addr} {as : List Addr} {Ls : List (List V)} {ls : List (List Pr)} {i : Nat} {vs : List V} {l : List Pr} (F : Fd H L as Ls ls) (ha : as[i]? = some a) (hk : KeysAt H vs l) : Fd (upd H a (.lst vs)) L as (Ls.set i vs) (ls.set i l) := by
  have hm := List.mem_of_getElem? ha
  obtain ⟨us, eu⟩ := F.ownS hm
  have tups : ∀ b xs, H b = some (.tup xs) → upd H a (.lst vs) b = some (.tup xs) := fun b xs e => by
    have : b ≠ a := fun z => by rw [z, eu] at e; cases e
    rw [upd_ne this]
    exact e
  have lt : i < as.length := (List.getElem?_eq_some_iff.mp ha).1
  refine ⟨by rw [upd_ne (Ne.symm (F.out a hm))]; exact F.at_, F.nd, F.out, by rw [List.length_set]; exact F.l1, by rw [List.length_set]; exact F.l2, fun k b ws h1 h2 => ?_, fun k ws q h1 h2 => ?_⟩
  · by_cases e : k = i
    · subst e
      rw [ha] at h1
      cases h1
      rw [List.getElem?_set_self (by rw [F.l1]; exact lt)] at h2
      cases h2
      exact upd_same
    · have nb : b ≠ a := fun z => e (by
        obtain ⟨l1, e1⟩ := List.getElem?_eq_some_iff.mp h1
        obtain ⟨l2, e2⟩ := List.getElem?_eq_some_iff.mp ha
        exact (List.getElem_inj F.nd).mp (by rw [e1, e2, z]))
      rw [List.getElem?_set_ne (Ne.symm e)] at h2
      rw [upd_ne nb]
      exact F.own k b ws h1 h2
  · by_cases e : k = i
    · subst e
      rw [List.getElem?_set_self (by rw [F.l1]; exact lt)] at h1
      rw [List.getElem?_set_self (by rw [F.l2]; exact lt)] at h2
      cases h1
      cases h2
      exact hk.mono tups
    · rw [List.getElem?_set_ne (Ne.symm e)] at h1 h2
      exact (F.keys k ws q h1 h2).mono tups
/-- read as data -/
theorem Fd.dxs {X : Addr → Prop} {H : Hp} {L : Addr} {as : List Addr} {Ls : List (List V)} {ls : List (List Pr)} (F : Fd H L as Ls ls) (n : NoT X H) (hx : ∀ a ∈ as, ¬ X a) : DXs X H (as.map V.ref) (ls.map rowD) :=
  dxs_at (by rw [List.length_map, List.length_map, F.l2]) fun k v d e1 e2 => by
    rw [List.getElem?_map] at e1 e2
    obtain ⟨a, ha, rfl⟩ := Option.map_eq_some_iff.mp e1
    obtain ⟨l, hl, rfl⟩ := Option.map_eq_some_iff.mp e2
    have lt := (List.getElem?_eq_some_iff.mp ha).1
    have hv : Ls[k]? = some (Ls[k]'(by rw [F.l1]; exact lt)) := List.getElem?_eq_getElem _
    exact .lst (hx a (List.mem_of_getElem? ha)) (F.own k a _ ha hv) (keys_dx n (F.keys k _ l hv hl))
theorem Fd.flat {H : Hp} : ∀ {Ls : List (List V)} {ls : List (List Pr)}, Ls.length = ls.length → (∀ (k : Nat) (vs : List V) (l : List Pr), Ls[k]? = some vs → ls[k]? = some l → KeysAt H vs l) → KeysAt H Ls.flatten ls.flatten
  | [], [], _, _ => trivial
  | a :: r, b :: q, h, k => by
    rw [List.flatten_cons, List.flatten_cons]
    exact (k 0 a b rfl rfl).app (Fd.flat (by simpa using h) fun j vs l e1 e2 => k (j + 1) vs l e1 e2)
  | [], _ :: _, h, _ => by simp at h
  | _ :: _, [], h, _ => by simp at h
section
variable {X : Addr → Prop} {σ : L2.St} {H : Hp} {Γ : List Sv} {Q : VK} {ci li : Nat}
/-- copies of lists -/
theorem k_fresh {ls : List (List Pr)} (t : Trk X H) (En : EnvOk X H σ Γ) (hc : Γ[ci]? = some (.dat (.list (ls.map rowD)))) (hli : li < Γ.length) (few : ls.length ≤ 100000)
    (k : ∀ L as Ls H', Same H H' → H L = none → (∀ a ∈ as, H a = none) → Fd H' L as Ls ls → Q (.ref L) H') :
    tLc (iList K (tVar ci)) (gName li) tYes (tCB (fun xs H Q => ∃ p ys, xs = [V.ref p] ∧ (SqL K H p ys ∨ SqT K H p ys) ∧ ∀ l, H l = none → Q (V.ref l) (upd H l (.lst ys))) (tCons (tVar li) tNil)) [li] σ H Q := by
  refine gi_list (K := K) (ds := ls.map rowD) (g_var (i := ci) (d := .list (ls.map rowD)) En hc) H (Same.refl _) _ fun J H2 s2 wk => ?_
  intro L hL
  obtain ⟨Gd, Y, w1, w2⟩ := wk
  let X' : Addr → Prop := fun a => X a ∨ a = L
  have t2 := t.mono s2
  have m2 : More X X' H2 := More.one hL
  have key : ∀ G, Same H2 G ∧ Trk X' G → Gd G := fun G p => (w2 X' m2.2 G (Kp.of p.1) p.2).1
  refine lc_it w1 (fun i G => (Same H2 G ∧ Trk X' G) ∧ ∃ as Ls, (∀ a ∈ as, H2 a = none) ∧ as.length = i ∧ Fd G L as Ls (ls.take i)) ⟨⟨Same.upd hL, t2.one hL⟩, [], [], fun a h => (by cases h), rfl, ⟨upd_same, List.nodup_nil, fun a h => (by cases h), rfl, rfl, fun j a vs e => (by simp at e), fun j vs l e => (by simp at e)⟩⟩ (fun i G _ p => key G p.1) ?_ ?_
  · rintro i x G G4 hi ⟨⟨p1, p2⟩, as, Ls, p3, p4, F⟩ y
    obtain ⟨s4, d, hd, dx⟩ := (w2 X' m2.2 G (Kp.of p1) p2).2 i x G4 y
    rw [List.getElem?_map] at hd
    obtain ⟨l, hl, rfl⟩ := Option.map_eq_some_iff.mp hd
    obtain ⟨b, xs, rfl, nb, eb, rb⟩ := DX.lst_inv (ds := l.map prD) dx
    have F4 := F.same s4
    have lenS : li < σ.length := Nat.lt_of_lt_of_eq hli (by first | exact En.len | exact En.len.symm)
    refine k_name ⟨wipe_one, k_yes ⟨.ref b, List.getElem?_set_self (by rw [wipe_length]; exact lenS), b, xs, rfl, .inl (SqL.of eb), fun a ha => ?_⟩⟩
    have na : a ≠ L := fun z => by rw [z, F4.at_] at ha; cases ha
    have nas : a ∉ as := fun z => by
      obtain ⟨vs, e⟩ := F4.ownS z
      rw [ha] at e
      cases e
    have s5 : Same G4 (upd G4 a (.lst xs)) := Same.upd ha
    have F5 := F4.same s5
    have hx5 : upd G4 a (.lst xs) a = some (.lst xs) := upd_same
    have k5 : KeysAt (upd G4 a (.lst xs)) xs l := dxs_keys (rb.mono (Kp.of s5))
    have t5 : Trk X' (upd G4 a (.lst xs)) := (p2.mono s4).mono s5
    have h2a : H2 a = none := by
      cases e : H2 a with
      | none => rfl
      | some o =>
        have := s4 _ _ (p1 _ _ e)
        rw [ha] at this
        cases this
    have s25 := (p1.trans s4).trans s5
    generalize upd G4 a (.lst xs) = G5 at *
    have tk : ls.take (i + 1) = ls.take i ++ [l] := by rw [List.take_add_one, hl]; rfl
    have lti : i < ls.length := (List.getElem?_eq_some_iff.mp hl).1
    refine ⟨as.map V.ref, F5.at_, by rw [List.length_map, p4, sizeLine_eq]; omega, ⟨Same.mut s25 hL, t5.put⟩, as ++ [a], Ls ++ [xs], fun b hb => ?_, by rw [List.length_append, p4]; rfl, ?_⟩
    · rcases List.mem_append.mp hb with hb | hb
      · exact p3 b hb
      · rw [List.mem_singleton.mp hb]
        exact h2a
    have tups : ∀ b ys, G5 b = some (.tup ys) → upd G5 L (.lst (as.map V.ref ++ [V.ref a])) b = some (.tup ys) := fun b ys e => by
      have : b ≠ L := fun z => by rw [z, F5.at_] at e; cases e
      rw [upd_ne this]
      exact e
    have lL : Ls.length = as.length := F5.l1
    have lT : (ls.take i).length = as.length := F5.l2
    rw [tk]
    refine ⟨by rw [upd_same, List.map_append]; rfl, List.nodup_append.mpr ⟨F5.nd, by simp, fun b hb c hc e => ?_⟩, fun b hb => ?_, by rw [List.length_append, List.length_append, lL]; rfl, by rw [List.length_append, List.length_append, lT]; rfl, fun j b vs e1 e2 => ?_, fun j vs q e1 e2 => ?_⟩
    · rw [List.mem_singleton.mp hc] at e
      exact nas (e ▸ hb)
    · rcases List.mem_append.mp hb with hb | hb
      · exact F5.out b hb
      · rw [List.mem_singleton.mp hb]
        exact na
    · by_cases c : j < as.length
      · rw [List.getElem?_append_left c] at e1
        rw [List.getElem?_append_left (by rw [lL]; exact c)] at e2
        rw [upd_ne (F5.out b (List.mem_of_getElem? e1))]
        exact F5.own j b vs e1 e2
      · rw [List.getElem?_append_right (by omega)] at e1
        rw [List.getElem?_append_right (by omega)] at e2
        obtain ⟨z1, rfl⟩ : j - as.length = 0 ∧ b = a := by
          have := List.getElem?_eq_some_iff.mp e1
          obtain ⟨u, v⟩ := this
          have u : j - as.length < 1 := u
          have z : j - as.length = 0 := by omega
          rw [z] at e1
          exact ⟨z, (Option.some.inj e1).symm⟩
        rw [lL, z1] at e2
        cases e2
        rw [upd_ne na]
        exact hx5
    · by_cases c : j < as.length
      · rw [List.getElem?_append_left (by rw [lL]; exact c)] at e1
        rw [List.getElem?_append_left (by rw [lT]; exact c)] at e2
        exact (F5.keys j vs q e1 e2).mono tups
      · rw [List.getElem?_append_right (by omega)] at e1
        rw [List.getElem?_append_right (by omega)] at e2
        have z1 : j - Ls.length = 0 := by
          obtain ⟨u, _⟩ := List.getElem?_eq_some_iff.mp e1
          have u : j - Ls.length < 1 := u
          omega
        rw [z1] at e1
        rw [show j - (ls.take i).length = 0 by omega] at e2
        cases e1
        cases e2
        exact k5.mono tups
  · rintro G ⟨⟨p1, p2⟩, as, Ls, p3, p4, F⟩
    rw [List.length_map, List.take_length] at F
    exact k L as Ls G (s2.trans p1) (s2.free hL) (fun a ha => s2.free (p3 a ha)) F
/-- sum(lists, []) -/
theorem g_sumL {L : Addr} {as : List Addr} {Ls : List (List V)} {ls : List (List Pr)} (t : Trk X H) (nt : NoT X H) (En : EnvOk X H σ Γ) (F : Fd H L as Ls ls) (hs : σ[ci]? = some (some (.ref L))) (h0 : 0 < as.length) (few : ls.flatten.length ≤ 1000000) :
    G X (tCB KSL.rSumL (tCons (tVar ci) (tCons (tLst tNil) tNil))) σ H (.list (ls.flatten.map prD)) := fun H1 s Q q => by
  refine ⟨.ref L, hs, by show 0 ≤ sizeLine; omega, fun p hp => ?_⟩
  have s2 : Same H1 (upd H1 p (.lst [])) := Same.upd hp
  have F2 := F.same (s.trans s2)
  have kf := Fd.flat (H := upd H1 p (.lst [])) (by rw [F.l1, F.l2]) F2.keys
  refine ⟨L, p, as, Ls, rfl, F2.at_, h0, upd_same, F2.l1, F2.own, by rw [kf.len, sizeLine_eq]; omega, fun r hr => ?_⟩
  have t2 := (t.mono s).mono s2
  exact q _ _ (s2.trans (Same.upd hr)) (DX.newL t2 (keys_dx ((nt.mono t s).mono (t.mono s) s2) kf) hr)
end
end K52

/-! Texts turned round, texts of one word. -/
namespace K52
open PySem PySem.Spec PyProof.Rows L2 KD KL
-- RAISES check_texts is_common_row common_row _law_turned_right
variable {P : Program} {w : World} {K : PySem.W.Frag} {mg : Str → Option Value} {base : Heap}
/-! ### words -/
def Wd (s : Str) : Prop := isWordsD (.str s) = true ∧ PyData.strOk s = true
theorem Wd.pre {s : Str} (h : Wd s) : wordsPre (.str s) := by
  have h := h.1
  simp only [isWordsD, Bool.and_eq_true, decide_eq_true_eq] at h
  show s.length ≤ 1000000
  omega
theorem ff_all : ∀ {ds : List PyData} {i : Nat}, (∀ z ∈ ds, isWordsD z = true) → ffD i (ds.map fun z => .bool (isWordsD z)) = .none
  | [], _, _ => rfl
  | d :: r, i, h => by
    rw [List.map_cons, h d List.mem_cons_self, ff_true]
    exact ff_all fun z hz => h z (List.mem_cons_of_mem _ hz)
theorem wrong_none {d : PyData} {ws : List Str} (hs : isSeq d = true) (hi : itemsD d = ws.map PyData.str) (h : ∀ s ∈ ws, Wd s) : isNone (wrongD d) = true := by
  unfold wrongD
  rw [if_pos hs, hi, ff_all fun z hz => by
    obtain ⟨s, hs, rfl⟩ := List.mem_map.mp hz
    exact (h s hs).1]
  rfl
theorem words_all {d : PyData} {ws : List Str} (hi : itemsD d = ws.map PyData.str) (h : ∀ s ∈ ws, Wd s) (hl : ws.length ≤ 100000) : wordsAll d := fun _ => ⟨by rw [hi, List.length_map]; exact hl, fun z hz => by
  rw [hi] at hz
  obtain ⟨s, hs, rfl⟩ := List.mem_map.mp hz
  exact (h s hs).pre⟩
structure Tx (ws : List Str) : Prop where
  few : ws.length ≤ 60
  wd : ∀ s ∈ ws, Wd s
theorem Tx.txt {ws : List Str} (h : Tx ws) : Txt (wsD ws) ws := ⟨rfl, rfl, h.few, fun z hz => (h.wd z hz).2⟩
theorem Tx.txtT {ws : List Str} (h : Tx ws) : Txt (.tuple (ws.map PyData.str)) ws := ⟨rfl, rfl, h.few, fun z hz => (h.wd z hz).2⟩
theorem Tx.good {ws : List Str} {d : PyData} (h : Tx ws) (T : Txt d ws) : Good d := ⟨wrong_none T.seq T.its h.wd, words_all T.its h.wd (by have := h.few; omega)⟩
theorem Tx.ok {ws : List Str} (h : Tx ws) : WsOk ws := ⟨by have := h.few; omega, fun z hz => (h.wd z hz).2⟩
/-! ### a common row, read -/
def comR (ws vs : List Str) : List Pr := rowG (Mw ws vs) ws.length vs.length (L (Mw ws vs) ws.length vs.length)
theorem comR_is (ws vs : List Str) : Gone (Mw ws vs) ws.length vs.length (L (Mw ws vs) ws.length vs.length) (comR ws vs) := gone_row _ (Nat.le_refl _)
theorem gn_common {X : Addr → Prop} {σ : L2.St} {H : Hp} {ta tb : TE} {E : XK} {d1 d2 : PyData} {ws vs : List Str} (t : Trk X H) (n : NoT X H) (x1 : Tx ws) (x2 : Tx vs) (T1 : Txt d1 ws) (T2 : Txt d2 vs) (h1 : G X ta σ H d1) (h2 : G X tb σ H d2) : GN X (tCall spCommon [] E (tCons ta (tCons tb tNil))) σ H (rowD (comR ws vs)) := fun H1 s Q q =>
  h1 H1 s _ fun v H2 s2 r1 => h2 H2 (s.trans s2) _ fun v2 H3 s3 r2 => ⟨X, v, v2, d1, d2, ws, vs, rfl, ((t.mono s).mono s2).mono s3, n.mono t ((s.trans s2).trans s3), r1.mono (Kp.of s3), r2, T1, T2, x1.good T1, x2.good T2, fun w H' s' dw nw => q w H' ((s2.trans s3).trans s') dw (nw.back (s2.trans s3))⟩
theorem NoT.kps {X : Addr → Prop} {st cl : Addr} {n m : Nat} {H H' : Hp} (nt : NoT X H) (S : Sg X st cl n H) (S' : Sg X st cl m H') (k : KpS st cl H H') : NoT X H' := fun a ha xs e => by
  obtain ⟨ms, x, y, z, SS, _⟩ := S'.ok
  by_cases h1 : a = st
  · rw [h1, SS.hs] at e
    cases e
  by_cases h2 : a = cl
  · rw [h2, SS.hc] at e
    cases e
  obtain ⟨o, ho⟩ := S.t a ha
  have := k a o h1 h2 ho
  rw [e] at this
  cases this
  exact nt a ha xs ho
theorem g_ofN {X : Addr → Prop} {te : TE} {σ : L2.St} {H : Hp} {d : PyData} (h : GN X te σ H d) : G X te σ H d := h.g
/-! ### words that are numbered -/
def tS (i : Nat) : Str := (toString ((i : Nat) : Int) : String)
def ww (i : Nat) : Str := ("w" : Str) ++ tS i
theorem ww_wd : ∀ i, i < 61 → isWordsD (.str (ww i)) = true ∧ PyData.strOk (ww i) = true := by decide +kernel
theorem ww_ne : ∀ i, i < 61 → ∀ j, j < 61 → ww i = ww j → i = j := by decide +kernel
theorem tS_short : ∀ i, i < 61 → (tS i).length ≤ 3 ∧ ((i : Nat) : Int).natAbs.log2 < 1920 := by decide +kernel
def one (n : Nat) : List Str := (List.range n).map ww
theorem one_len (n : Nat) : (one n).length = n := by unfold one; rw [List.length_map, List.length_range]
theorem one_at {n i : Nat} (h : i < n) : (one n)[i]? = some (ww i) := by
  unfold one
  rw [List.getElem?_map, List.getElem?_range h]
  rfl
theorem tx_one {n : Nat} (h : n ≤ 60) : Tx (one n) := ⟨by rw [one_len]; exact h, fun s hs => by
  unfold one at hs
  obtain ⟨i, hi, rfl⟩ := List.mem_map.mp hs
  have := List.mem_range.mp hi
  exact ww_wd i (by omega)⟩
def two (n a : Nat) : List Str := (one n).drop a ++ (one n).take a
theorem two_len {n a : Nat} (h : a ≤ n) : (two n a).length = n := by
  unfold two
  rw [List.length_append, List.length_drop, List.length_take, one_len]
  omega
theorem two_at {n a j : Nat} (h : a ≤ n) (hj : j < n) : (two n a)[j]? = some (ww (if j < n - a then j + a else j - (n - a))) := by
  unfold two
  by_cases h1 : j < n - a
  · rw [if_pos h1, List.getElem?_append_left (by rw [List.length_drop, one_len]; exact h1), List.getElem?_drop, one_at (by omega), Nat.add_comm]
  · rw [if_neg h1, List.getElem?_append_right (by rw [List.length_drop, one_len]; omega), List.length_drop, one_len, List.getElem?_take, if_pos (by omega), one_at (by omega)]
theorem tx_two {n a : Nat} (h : n ≤ 60) (ha : a ≤ n) : Tx (two n a) := ⟨by rw [two_len ha]; exact h, fun s hs => by
  unfold two at hs
  rcases List.mem_append.mp hs with hs | hs
  · exact (tx_one h).wd s (List.mem_of_mem_drop hs)
  · exact (tx_one h).wd s (List.mem_of_mem_take hs)⟩
theorem wAt_at {ws : List Str} {i : Nat} {s : Str} (h : ws[i]? = some s) : wAt ws i = s := by
  unfold wAt
  rw [List.getD_eq_getElem?_getD, h]
  rfl
theorem L_two {n a : Nat} (h : n ≤ 60) (ha : a ≤ n) : L (Mw (one n) (two n a)) n n = max (n - a) a := L_turned ha fun i j hi hj => by
  unfold Mw
  rw [wAt_at (one_at hi), wAt_at (two_at ha hj), decide_eq_true_iff]
  constructor
  · intro e
    have : (if j < n - a then j + a else j - (n - a)) < 61 := by split <;> omega
    exact (ww_ne _ this i (by omega) e).symm
  · intro e
    rw [← e]
def xs (n : Nat) : List Str := List.replicate n ("x" : Str)
theorem xs_len (n : Nat) : (xs n).length = n := List.length_replicate
theorem wd_x : Wd ("x" : Str) := by
  constructor <;> decide +kernel
theorem tx_xs {n : Nat} (h : n ≤ 60) : Tx (xs n) := ⟨by rw [xs_len]; exact h, fun s hs => by rw [(List.mem_replicate.mp hs).2]; exact wd_x⟩
theorem L_xs (n m : Nat) : L (Mw (xs n) (xs m)) n m = min n m := L_all fun i j hi hj => by
  unfold Mw xs
  rw [wAt_at (s := "x") (by rw [List.getElem?_replicate, if_pos hj]), wAt_at (s := "x") (by rw [List.getElem?_replicate, if_pos hi])]
  exact decide_eq_true rfl
section
variable {X : Addr → Prop} {σ : L2.St} {H : Hp} {te ta tb : TE}
theorem g_xs {n : Nat} (t : Trk X H) (hn : n ≤ 1000) (h : G X tb σ H (.int (n : Int))) : G X (tOp rMulA (tLst (tCons (tC (.str "x")) tNil)) tb) σ H (wsD (xs n)) := by
  refine g_is (g_op t (g_lst t (ga_cons g_str ga_nil) (by simp)) h (RD.or2 (rd_rep (by omega) (by omega) (by simp; omega)))) ?_
  show PyData.list (List.replicate ((n : Int)).toNat [PyData.str "x"]).flatten = PyData.list ((List.replicate n ("x" : Str)).map PyData.str)
  rw [show ((n : Int)).toNat = n by omega, List.map_replicate]
  congr 1
  clear h hn t
  induction n with
  | zero => rfl
  | succ n ih =>
    rw [List.replicate_succ, List.flatten_cons, ih, List.replicate_succ]
    rfl
theorem g_strI {i : Nat} (hi : i < 61) (h : G X te σ H (.int (i : Int))) : G X (tCB (fun xs H Q => ∃ i, xs = [V.int i] ∧ i.natAbs.log2 < 1920 ∧ Q (.str (toString i : String)) H) (tCons te tNil)) σ H (.str (tS i)) := fun H1 s Q q =>
  h H1 s _ fun v H2 s2 r => ⟨(i : Int), by rw [r.int_inv], (tS_short i hi).2, q _ H2 s2 (.str _)⟩
theorem g_addS {a b : Str} (t : Trk X H) (ha : G X ta σ H (.str a)) (hb : G X tb σ H (.str b)) (hl : a.length + b.length ≤ 1000000) : G X (tOp rAddA ta tb) σ H (.str (a ++ b)) := g_op t ha hb (RD.or2 (RD.or2 (rd_addS hl)))
theorem cut_frm (ws : List PyData) {a : Nat} : cutPD ws (some (a : Int)) none = ws.drop a := by
  show (ws.drop (HT.sIx ws.length 0 (some (a : Int)))).take (HT.sIx ws.length ws.length none - HT.sIx ws.length 0 (some (a : Int))) = _
  rw [sIx_nn (by omega)]
  show (ws.drop (min ((a : Int)).toNat ws.length)).take (ws.length - min ((a : Int)).toNat ws.length) = ws.drop a
  rw [show ((a : Int)).toNat = a by omega, List.take_of_length_le (by rw [List.length_drop]; exact Nat.le_refl _)]
  by_cases h : a ≤ ws.length
  · rw [Nat.min_eq_left h]
  · rw [Nat.min_eq_right (by omega), List.drop_length, List.drop_eq_nil_of_le (by omega)]
theorem g_max2 {i j : Int} (t : Trk X H) (ha : G X ta σ H (.int i)) (hb : G X tb σ H (.int j)) : G X (tCB (fun xs H Q => ∃ i j, xs = [V.int i, V.int j] ∧ Q (.int (if j > i then j else i)) H) (tCons ta (tCons tb tNil))) σ H (.int (if j > i then j else i)) := fun H1 s Q q =>
  ha H1 s _ fun v H2 s2 r => hb H2 (s.trans s2) _ fun v2 H3 s3 r2 => ⟨i, j, by rw [r.int_inv, r2.int_inv], q _ H3 (s2.trans s3) (.int _)⟩
theorem g_rowLen {r : List Pr} (t : Trk X H) (h : G X te σ H (rowD r)) : G X (tCB (fun xs H Q => ∃ x n, xs = [x] ∧ LenV K x H n ∧ Q (V.int n) H) (tCons te tNil)) σ H (.int (r.length : Int)) := g_is (g_len t h rfl) (by show PyData.int ((r.map prD).length : Int) = _; rw [List.length_map])
end
def spTR : Sp := fun us H Q _ => ∃ (X : Addr → Prop) (st cl : Addr) (n : Nat), us = [.ref st] ∧ Sg X st cl n H ∧ NoT X H ∧ n + 1000 ≤ 1000000000 ∧ ∀ H', Sg X st cl (n + 3) H' → KpS st cl H H' → Q (.bl true) H'
end K52

/-! Covers that are bent. -/
namespace K52
open PySem PySem.Spec PyProof.Rows L2 KD KL KCl
-- HINT _law_bent lcte#1 (tCB (fun xs H Q => ∃ p ys, xs = [V.ref p] ∧ (SqL K H p ys ∨ SqT K H p ys) ∧ ∀ l, H l = none → Q (V.ref l) (upd H l (.lst ys))) (tCons (tVar 6) tNil))
-- HINT _law_bent lcte#3 (tCB (fun xs H Q => ∃ p ys, xs = [V.ref p] ∧ ((SqL K H p ys ∧ ∀ l, H l = none → Q (.ref l) (upd H l (.tup ys))) ∨ (SqT K H p ys ∧ Q (.ref p) H))) (tCons (tVar 6) tNil))
-- HINT _law_bent sumL yes
-- RAISES check_texts least_cover common_row is_cover
variable {P : Program} {w : World} {K : PySem.W.Frag} {mg : Str → Option Value} {base : Heap}
/-- what a bent cover is -/
structure Bt (ds : List PyData) : Prop where
  seq : ∀ z ∈ ds, isSeq z = true
  few : ∃ k m : Nat, k ≤ 1000 ∧ m ≤ 1000 ∧ k * (m * m) ≤ 1000000 ∧ ds.length ≤ k ∧ ∀ z ∈ ds, (itemsD z).length ≤ m
theorem Bt.list {ds : List PyData} (b : Bt ds) : FewC (.list ds) := by
  obtain ⟨k, m, h1, h2, h3, h4, h5⟩ := b.few
  exact ⟨k, m, h1, h2, h3, fun _ => ⟨h4, fun z hz _ => h5 z hz⟩⟩
theorem Bt.tup {ds : List PyData} (b : Bt ds) : FewC (.tuple (ds.map fun z => .tuple (itemsD z))) := by
  obtain ⟨k, m, h1, h2, h3, h4, h5⟩ := b.few
  refine ⟨k, m, h1, h2, h3, fun _ => ⟨by show (List.map _ ds).length ≤ k; rw [List.length_map]; exact h4, fun z hz _ => ?_⟩⟩
  obtain ⟨y, hy, rfl⟩ := List.mem_map.mp (show z ∈ ds.map fun z => PyData.tuple (itemsD z) from hz)
  exact h5 y hy
theorem Bt.of {ds : List PyData} (h : ∀ z ∈ ds, isSeq z = true ∧ (itemsD z).length ≤ 60) (hl : ds.length ≤ 60) : Bt ds := ⟨fun z hz => (h z hz).1, 60, 60, by omega, by omega, by omega, hl, fun z hz => (h z hz).2⟩
theorem k_dropE {te : TE} {D : Ends} {σ : L2.St} {H : Hp} (h : te σ H fun _ H1 => D.nx σ H1) : tDrop te D σ H := h
theorem k_sub {te to ti : TE} {D : Ends} {σ : L2.St} {H : Hp} (h : te σ H fun v H1 => to σ H1 fun o H2 => ti σ H2 fun i H3 => rSetL o i v H3 fun H4 => D.nx σ H4) : tAsg te (gSub to ti rSetL) D σ H := h
theorem q_elif {tt : TT} {tu tz : TS} {D : Ends} {σ : L2.St} {H : Hp} {b : Bool} (h : GT tt σ H b) (h1 : b = true → ∀ H1, Same H H1 → tu D σ H1) (h0 : b = false → ∀ H1, Same H H1 → tz D σ H1) : tIfS tt tu tz D σ H :=
  h H (Same.refl _) _ fun H1 s => by
    cases b with
    | true => exact h1 rfl H1 s
    | false => exact h0 rfl H1 s
theorem dxs_set {X : Addr → Prop} {H : Hp} {v : V} {d : PyData} (hv : DX X H v d) : ∀ {vs : List V} {ds : List PyData} {i : Nat}, DXs X H vs ds → DXs X H (vs.set i v) (ds.set i d)
  | _, _, i, .nil => by simpa using DXs.nil
  | _, _, 0, .cons _ r => .cons hv r
  | _, _, i + 1, .cons a r => .cons a (dxs_set hv r)
theorem k_seqF {tu tz : TS} {D : Ends} {σ : L2.St} {H : Hp} (Pf : L2.St → Hp → Prop) (h : ∀ N : L2.St → Hp → Prop, (∀ σ' H', Pf σ' H' → N σ' H') → tu { D with nx := N } σ H) (e : ∀ σ' H', Pf σ' H' → tz D σ' H') : tSeq tu tz D σ H := h _ e
theorem env_dat {X : Addr → Prop} {H : Hp} {σ : L2.St} {Γ : List Sv} {i : Nat} {v : V} {d : PyData} (E : EnvOk X H σ Γ) (h : Γ[i]? = some (.val v)) (dx : DX X H v d) : EnvOk X H σ (Γ.set i (.dat d)) := ⟨by rw [List.length_set]; exact E.len, fun j s e => by
  by_cases c : i = j
  · subst c
    rw [List.getElem?_set_self (List.getElem?_eq_some_iff.mp h).1] at e
    cases e
    exact ⟨v, E.get i _ h, dx⟩
  · rw [List.getElem?_set_ne c] at e
    exact E.get j s e⟩
theorem Sg.kept {X : Addr → Prop} {st cl : Addr} {n : Nat} {H H' : Hp} (S : Sg X st cl n H) (k : ∀ b o, b = st ∨ b = cl → H b = some o → H' b = some o) (t : Trk X H') : Sg X st cl n H' := by
  obtain ⟨ms, a, b, c, SS, hb⟩ := S.ok
  exact ⟨⟨ms, a, b, c, ⟨k _ _ (.inl rfl) SS.hs, k _ _ (.inr rfl) SS.hc, SS.ne, SS.a0, SS.b0, SS.c0, SS.c1, SS.ml⟩, hb⟩, S.x1, S.x2, t⟩
theorem Sg.wide {X X' : Addr → Prop} {st cl : Addr} {n : Nat} {H : Hp} (S : Sg X st cl n H) (m : ∀ a, X a → X' a) (t : Trk X' H) : Sg X' st cl n H := ⟨S.ok, m _ S.x1, m _ S.x2, t⟩
/-- an item of a list of one's own -/
theorem g_ixOwn {X : Addr → Prop} {H : Hp} {σ : L2.St} {ci ii : Nat} {L : Addr} {xs : List V} {ds : List PyData} {k : Nat} {d : PyData} (e1 : σ[ci]? = some (some (.ref L))) (e2 : σ[ii]? = some (some (.int (k : Nat)))) (hL : H L = some (.lst xs)) (hx : DXs X H xs ds) (hk : ds[k]? = some d) : G X (tOp (rIx K) (tVar ci) (tVar ii)) σ H d := fun H1 s Q q => by
  have lt : k < xs.length := by rw [hx.length]; exact (List.getElem?_eq_some_iff.mp hk).1
  have hv : xs[k]? = some xs[k] := List.getElem?_eq_getElem lt
  obtain ⟨d', hd', dx⟩ := hx.getV hv
  rw [hk] at hd'
  cases hd'
  exact ⟨.ref L, e1, .int (k : Nat), e2, .inl ⟨L, xs, (k : Nat), xs[k], rfl, rfl, SqL.of (s _ _ hL), atI_nat hv, q _ H1 (Same.refl _) (dx.mono (Kp.of s))⟩⟩
theorem ixN_nat {n j : Nat} (h : j < n) : ixN n (j : Nat) = some j := by
  unfold ixN
  rw [if_pos (by omega), if_pos (by omega)]
  rfl
theorem cutP_len (ds : List PyData) (lo hi : Option Int) : (cutPD ds lo hi).length ≤ ds.length := by
  unfold cutPD
  rw [List.length_take, List.length_drop]
  omega
def spBent : Sp := fun us H Q _ => ∃ (X : Addr → Prop) (st cl : Addr) (n : Nat) (v : V) (ls : List (List Pr)), us = [.ref st, v] ∧ Sg X st cl n H ∧ NoT X H ∧ n + 100 ≤ 1000000000 ∧ DX X H v (.list (ls.map rowD)) ∧ ls.length ≤ 7 ∧ ls.flatten.length ≤ 49 ∧ (∀ l ∈ ls, 0 < l.length) ∧
  ∀ w d H', FewC d → Sg X st cl (n + 12) H' → KpS st cl H H' → DX X H' w d → Q w H'
theorem len_in {l : List Pr} {ls : List (List Pr)} (h : l ∈ ls) : l.length ≤ ls.flatten.length := (List.sublist_flatten_of_mem h).length_le
abbrev s__law_bent : Stmt := topS 39
abbrev n__law_bent : List Str := ["_law_stream", "_law_cover", "_law_found", "_law_way", "_law_at", "_law_to", "_law_level", "_law_pair"]
theorem sc__law_bent : FnScope n__law_bent ["_law_stream", "_law_cover"] (defScope s__law_bent) := ⟨rfl, rfl, rfl, by decide +kernel, rfl, by decide +kernel, by decide +kernel⟩
theorem ok_bent {f : Addr} {fd : FuncData} (F : Fun K "_law_bent" "_law_bent" s__law_bent f fd) (T : Bl mg) (b_sum : mg "sum" = none) (O__law_draw : Own P w K mg base CX0 1 "_law_draw" ["_law_stream", "_law_many"] spDraw) (O__law_pick : Own P w K mg base CX0 2 "_law_pick" ["_law_stream", "_law_some"] spPick) (O__law_mixed : Own P w K mg base CX0 2 "_law_mixed" ["_law_stream", "_law_some"] spMixed) : FnOk P w K mg base CX0 3 f fd ["_law_stream", "_law_cover"] spBent := by
  refine F.ok sc__law_bent (fun us H Q E h => ?_) (fun cdv A outer s H us Q E hr h => ?_)
  · obtain ⟨X, st, cl, n, v, ls, rfl, _⟩ := h
    rfl
  · obtain ⟨X, st, cl, n, v, ls, rfl, S, nt, hn, r1, few, flat, pos, q⟩ := h
    refine ⟨_, (pss_cons (ps_par (i := 2) (j := 3) (by rfl) sc__law_bent.nd rfl rfl (by decide) rfl rfl (pa_cons (pe_lc (own := [("_law_level", 6)]) (g := (gName 6)) (tt := tYes) (te := (tCB (fun xs H Q => ∃ p ys, xs = [V.ref p] ∧ (SqL K H p ys ∨ SqT K H p ys) ∧ ∀ l, H l = none → Q (V.ref l) (upd H l (.lst ys))) (tCons (tVar 6) tNil))) rfl sc__law_bent.nd (pi_list (pv 1)) (blkOk_by (N := n__law_bent) (sc := defScope s__law_bent) (by decide +kernel)) (fun _ _ _ _ _ => (pg_name (i := 6) sc__law_bent.nd rfl (by first | exact Or.inl rfl | exact Or.inr rfl))) (fun _ _ _ _ _ => pts_nil) (fun _ _ _ _ _ => (pe_callTy call_list_of (by rfl) T.b_list boot_list (pa_cons (pv 6) pa_nil)))) (pa_cons (pe_own O__law_draw hr (by decide) (by rfl) (pa_cons (pv 0) (pa_cons pe_int pa_nil))) pa_nil)) (by rfl))
    (pss_cons (ps_if (pt_cmpR (op_eqD hr.units) (pv 2) (pe_lst pa_nil) (nomark _))
    (pss_one (ps_ret (pe_lst (pa_cons (pe_lst pa_nil) pa_nil)))) pss_nil)
    (pss_cons (ps_par (i := 4) (j := 5) (by rfl) sc__law_bent.nd rfl rfl (by decide) rfl rfl (pa_cons (pe_own O__law_draw hr (by decide) (by rfl) (pa_cons (pv 0) (pa_cons (pe_callB call_len (by rfl) T.b_len boot_len (pa_cons (pv 2) pa_nil)) pa_nil))) (pa_cons (pe_own O__law_draw hr (by decide) (by rfl) (pa_cons (pv 0) (pa_cons (pe_callB call_len (by rfl) T.b_len boot_len (pa_cons (pv 2) pa_nil)) pa_nil))) pa_nil)) (by rfl))
    (pss_cons (ps_if (pt_cmpR (op_eqD hr.units) (pv 3) pe_int (nomark _))
    (pss_one (ps_expr (pe_bm PySem.F.plainAttrs_list PySem.F.slot_list_append PySem.F.type_list_append mt_append (pe_ix ix_seq (pv 2) (pv 5) (fun _ _ => rfl)) (pa_cons (pe_bm0 PySem.F.plainAttrs_list PySem.F.slot_list_pop PySem.F.type_list_pop mt_pop (pe_ix ix_seq (pv 2) (pv 4) (fun _ _ => rfl))) pa_nil)))) (pss_one (ps_if (pt_cmpR (op_eqD hr.units) (pv 3) pe_int (nomark _))
    (pss_one (ps_asg (pe_slice sl_list (pe_ix ix_seq (pv 2) (pv 4) (fun _ _ => rfl)) po_none (po_some pe_int)) (pg_sub (pv 2) (pv 4) set_list))) (pss_one (ps_if (pt_cmpR (op_eqD hr.units) (pv 3) pe_int (nomark _))
    (pss_one (ps_set (i := 2) sc__law_bent.nd rfl (by first | exact Or.inl rfl | exact Or.inr rfl) (pe_op op_addA (pv 2) (pe_lst (pa_cons (pe_slice sl_list (pe_ix ix_seq (pv 2) (pv 4) (fun _ _ => rfl)) (po_some pe_int) po_none) (pa_cons (pe_slice sl_list (pe_ix ix_seq (pv 2) (pv 4) (fun _ _ => rfl)) po_none (po_some pe_int)) pa_nil)))))) (pss_one (ps_if (pt_cmpR (op_eqD hr.units) (pv 3) pe_int (nomark _))
    (pss_one (ps_expr (pe_bm PySem.F.plainAttrs_list PySem.F.slot_list_append PySem.F.type_list_append mt_append (pv 2) (pa_cons (pe_lst pa_nil) pa_nil)))) (pss_one (ps_if (pt_cmpR (op_eqD hr.units) (pv 3) pe_int (nomark _))
    (pss_one (ps_setLc (i := 2) (own := [("_law_pair", 7)]) (g := (gName 7)) (tt := tYes) rfl sc__law_bent.nd rfl rfl (sw_true rfl rfl rfl (by decide +kernel)) (pi_list (pe_callB (KSL.cr_sumL rfl) (by rfl) b_sum boot_sum (pa_cons (pv 2) (pa_cons (pe_lst pa_nil) pa_nil)))) (blkOk_by (N := n__law_bent) (sc := defScope s__law_bent) (by decide +kernel)) (fun _ _ _ _ _ => (pg_name (i := 7) sc__law_bent.nd rfl (by first | exact Or.inl rfl | exact Or.inr rfl))) (fun _ _ _ _ _ => pts_nil) (fun _ _ _ _ _ => (pe_lst (pa_cons (pv 7) pa_nil))))) (pss_one (ps_if (pt_cmpR (op_eqD hr.units) (pv 3) pe_int (nomark _))
    (pss_one (ps_set (i := 2) sc__law_bent.nd rfl (by first | exact Or.inl rfl | exact Or.inr rfl) (pe_own O__law_mixed hr (by decide) (by rfl) (pa_cons (pv 0) (pa_cons (pv 2) pa_nil))))) (pss_one (ps_asg (pe_op op_addA (pe_ix ix_seq (pv 2) (pv 4) (fun _ _ => rfl)) (pe_lst (pa_cons (pe_own O__law_pick hr (by decide) (by rfl) (pa_cons (pv 0) (pa_cons (pe_lst (pa_cons pe_non (pa_cons (pe_tup (pa_cons pe_int (pa_cons pe_int pa_nil))) (pa_cons (pe_ix ix_seq (pe_ix ix_seq (pv 2) (pv 5) (fun _ _ => rfl)) pe_int (fun _ _ => rfl)) (pa_cons (pe_lst (pa_cons pe_int pa_nil)) pa_nil))))) pa_nil))) pa_nil))) (pg_sub (pv 2) (pv 4) set_list))))))))))))))
    (pss_one (ps_ret (pe_own O__law_pick hr (by decide) (by rfl) (pa_cons (pv 0) (pa_cons (pe_lst (pa_cons (pv 2) (pa_cons (pe_callTy call_tuple_of (by rfl) T.b_tuple boot_tuple (pa_cons (pe_lc (own := [("_law_level", 6)]) (g := (gName 6)) (tt := tYes) (te := (tCB (fun xs H Q => ∃ p ys, xs = [V.ref p] ∧ ((SqL K H p ys ∧ ∀ l, H l = none → Q (.ref l) (upd H l (.tup ys))) ∨ (SqT K H p ys ∧ Q (.ref p) H))) (tCons (tVar 6) tNil))) rfl sc__law_bent.nd (pi_list (pv 2)) (blkOk_by (N := n__law_bent) (sc := defScope s__law_bent) (by decide +kernel)) (fun _ _ _ _ _ => (pg_name (i := 6) sc__law_bent.nd rfl (by first | exact Or.inl rfl | exact Or.inr rfl))) (fun _ _ _ _ _ => pts_nil) (fun _ _ _ _ _ => (pe_callTy call_tuple_of (by rfl) T.b_tuple boot_tuple (pa_cons (pv 6) pa_nil)))) pa_nil)) pa_nil))) pa_nil))))))))), ?_⟩
    have En : EnvOk X H (L2.start n__law_bent [.ref st, v]) [.val (.ref st), .dat (.list (ls.map rowD)), .un, .un, .un, .un, .un, .un] := ⟨rfl, fun i s e => by
      match i, e with
      | 0, e => cases e; rfl
      | 1, e => cases e; exact ⟨_, rfl, r1⟩
      | 2, e => cases e; trivial
      | 3, e => cases e; trivial
      | 4, e => cases e; trivial
      | 5, e => cases e; trivial
      | 6, e => cases e; trivial
      | 7, e => cases e; trivial
      | _ + 8, e => cases e⟩
    have inl : ∀ l ∈ ls, l.length ≤ 49 := fun l hl => Nat.le_trans (len_in hl) flat
    have hst : ∃ o, H st = some o := S.t st S.x1
    have hcl : ∃ o, H cl = some o := S.t cl S.x2
    refine k_par (k_fresh (ci := 1) (li := 6) S.t En rfl (by show 6 < 8; omega) (by omega) fun L as Ls H1 s1 fL fas F1 => c_draw (m := 7) (S.same s1) (gv_var (i := 0) (En.same s1) rfl) g_int (by omega) (by omega) (by omega) fun way H2 w0 w1 S2 k2 => ⟨_, _, rfl, ?_⟩)
    have nX : ¬ X L := S.t.new fL
    have nXa : ∀ a ∈ as, ¬ X a := fun a ha => S.t.new (fas a ha)
    have nL : L ≠ st ∧ L ≠ cl := ⟨fun z => nX (z ▸ S.x1), fun z => nX (z ▸ S.x2)⟩
    have nas : ∀ a ∈ as, a ≠ st ∧ a ≠ cl := fun a ha => ⟨fun z => nXa a ha (z ▸ S.x1), fun z => nXa a ha (z ▸ S.x2)⟩
    have S1 := S.same s1
    have nt1 := nt.mono S.t s1
    have nt2 : NoT X H2 := nt1.kps S1 S2 k2
    have F2 : Fd H2 L as Ls ls := F1.kps k2 nL nas fun xs => ⟨nt1 st S.x1 xs, nt1 cl S.x2 xs⟩
    have kk2 : KpS st cl H H2 := (KpS.of s1).trans k2
    have dat : ∀ {Z : Hp}, Fd Z L as Ls ls → NoT X Z → DX X Z (.ref L) (.list (ls.map rowD)) := fun F n => .lst nX F.at_ (F.dxs n nXa)
    have E2 : EnvOk X H2 _ [.val (.ref st), .dat (.list (ls.map rowD)), .dat (.list (ls.map rowD)), .dat (.int way), .un, .un, .un, .un] := (((En.same s1).kps S1 k2).set (i := 2) (dat F2 nt2)).set (i := 3) (v := .int way) (d := .int way) (.int _)
    have t2 := S2.t
    -- nothing
    refine q_if (b := decide (ls = [])) (gt_is (gt_eqD (K := K) t2 (x := rowsD ls) (y := .list []) (g_var (i := 2) (d := rowsD ls) E2 rfl) (g_lst t2 ga_nil (by simp)) (rows_shaped ls).1 rfl (rows_shaped ls).2 rfl) (by show PyData.eqv (.list _) _ = _; rw [eqv_nil]; simp)) (fun hb H3 s3 => ?_) fun hb H3 s3 => ?_
    · have t3 := t2.mono s3
      refine s_ret (X := X) (d := .list [.list []]) (g_lst t3 (ga_cons (g_lst t3 ga_nil (by simp)) ga_nil) (by simp)) fun w H4 s4 dw => q w _ H4 ?_ ((S2.same (s3.trans s4)).le (by omega)) (kk2.trans (KpS.of (s3.trans s4))) dw
      exact (Bt.of (fun z hz => by rw [List.mem_singleton.mp hz]; exact ⟨rfl, by simp [itemsD]⟩) (by simp)).list
    have ne : ls ≠ [] := of_decide_eq_false hb
    have pl : 0 < ls.length := List.length_pos_iff.mpr ne
    have E3 := E2.same s3
    have S3 := S2.same s3
    have nt3 := nt2.mono t2 s3
    have F3 := F2.same s3
    have glen : ∀ {σ' : L2.St} {Z : Hp} {Γ : List Sv}, Trk X Z → EnvOk X Z σ' Γ → Γ[2]? = some (.dat (.list (ls.map rowD))) → G X (tCB (fun xs H Q => ∃ x n, xs = [x] ∧ LenV K x H n ∧ Q (V.int n) H) (tCons (tVar 2) tNil)) σ' Z (.int (ls.length : Int)) := fun t E h => g_is (g_len t (g_var (i := 2) (d := .list (ls.map rowD)) E h) rfl) (by show PyData.int ((ls.map rowD).length : Int) = _; rw [List.length_map])
    refine k_par (c_draw (m := (ls.length : Int)) S3 (gv_var (i := 0) E3 rfl) (glen S3.t E3 rfl) (by omega) (by omega) (by omega) fun ai H4 a0 a1 S4 k4 => c_draw (m := (ls.length : Int)) S4 (gv_var (i := 0) (E3.kps S3 k4) rfl) (glen S4.t (E3.kps S3 k4) rfl) (by omega) (by omega) (by omega) fun bi H5 b0 b1 S5 k5 => ⟨_, _, rfl, ?_⟩)
    obtain ⟨i, rfl⟩ := Int.eq_ofNat_of_zero_le a0
    obtain ⟨j, rfl⟩ := Int.eq_ofNat_of_zero_le b0
    have hi : i < ls.length := by omega
    have hj : j < ls.length := by omega
    have nt4 := nt3.kps S3 S4 k4
    have nt5 : NoT X H5 := nt4.kps S4 S5 k5
    have F4 := F3.kps k4 nL nas fun xs => ⟨nt3 st S.x1 xs, nt3 cl S.x2 xs⟩
    have F5 : Fd H5 L as Ls ls := F4.kps k5 nL nas fun xs => ⟨nt4 st S.x1 xs, nt4 cl S.x2 xs⟩
    have kk5 : KpS st cl H H5 := ((kk2.trans (KpS.of s3)).trans k4).trans k5
    have E5 : EnvOk X H5 _ [.val (.ref st), .dat (.list (ls.map rowD)), .dat (.list (ls.map rowD)), .dat (.int way), .dat (.int (i : Nat)), .dat (.int (j : Nat)), .un, .un] := (((E3.kps S3 k4).kps S4 k5).set (i := 4) (v := .int (i : Nat)) (d := .int (i : Nat)) (.int _)).set (i := 5) (v := .int (j : Nat)) (d := .int (j : Nat)) (.int _)
    have S5 : Sg X st cl (n + 3) H5 := S5
    have hli : ls[i]? = some ls[i] := List.getElem?_eq_getElem hi
    have hlj : ls[j]? = some ls[j] := List.getElem?_eq_getElem hj
    have pi' := pos _ (List.getElem_mem hi)
    have pj' := pos _ (List.getElem_mem hj)
    have li' := inl _ (List.getElem_mem hi)
    have lj' := inl _ (List.getElem_mem hj)
    have rows60 : ∀ z ∈ ls.map rowD, isSeq z = true ∧ (itemsD z).length ≤ 60 := fun z hz => by
      obtain ⟨l, hl, rfl⟩ := List.mem_map.mp hz
      have := inl l hl
      exact ⟨rfl, by show (l.map prD).length ≤ 60; rw [List.length_map]; omega⟩
    have hai : as[i]? = some (as[i]'(by rw [← F5.l2]; exact hi)) := List.getElem?_eq_getElem _
    have haj : as[j]? = some (as[j]'(by rw [← F5.l2]; exact hj)) := List.getElem?_eq_getElem _
    generalize as[i]'(by rw [← F5.l2]; exact hi) = A1 at hai
    generalize as[j]'(by rw [← F5.l2]; exact hj) = A2 at haj
    have x1 := S.x1
    have x2 := S.x2
    have mkO : ∀ X' : Addr → Prop, More X X' H → EnvOk X' H5 _ [.val (.ref st), .dat (.list (ls.map rowD)), .val (.ref L), .dat (.int way), .val (.int (i : Nat)), .val (.int (j : Nat)), .un, .un] := fun X' m => ((((((((En.more m).same s1).mono (k2.kp (m.1 _ x1) (m.1 _ x2))).setV (i := 2) (v := .ref L)).set (i := 3) (v := .int way) (d := .int way) (.int _)).same s3).mono ((k4.trans k5).kp (m.1 _ x1) (m.1 _ x2))).setV (i := 4) (v := .int (i : Nat))).setV (i := 5) (v := .int (j : Nat))
    clear E3 S3 nt3 F3 E2 S2 nt2 F2 k4 k5 S4 nt4 F4 k2 s3 t2
    refine k_seqF (fun σ' H6 => ∃ (m : Nat) (ds : List PyData) (x4 x5 : Sv), EnvOk X H6 σ' [.val (.ref st), .dat (.list (ls.map rowD)), .dat (.list ds), .dat (.int way), x4, x5, .un, .un] ∧ Sg X st cl m H6 ∧ m ≤ n + 11 ∧ KpS st cl H H6 ∧ Bt ds) (fun N Fin => ?_) (fun σ' H6 hf => ?_)
    rotate_left
    -- the end
    · obtain ⟨m, ds, x4, x5, E6, S6, hm, k6, bt⟩ := hf
      obtain ⟨kk, mm, u1, u2, u3, u4, u5⟩ := bt.few
      have t6 := S6.t
      refine k_ret (c_pick (ds := [.list ds, .tuple (ds.map fun z => .tuple (itemsD z))]) S6 (gv_var (i := 0) E6 rfl) (g_lst t6 (ga_cons (g_var (i := 2) (d := .list ds) E6 rfl) (ga_cons (g_tupQ (K := K) t6 (d := .list (ds.map fun z => .tuple (itemsD z))) (g_lc1 (ds := ds) (Γ2 := fun z => [.val (.ref st), .dat (.list (ls.map rowD)), .dat (.list ds), .dat (.int way), x4, x5, .dat z, .un]) (fun z => .tuple (itemsD z)) t6 (gi_list (K := K) (g_var (i := 2) (d := .list ds) E6 rfl)) (by omega) (fun H7 s7 z hz => tgt_name (E6.same s7)) (fun X2 H7 σ2 z hz t7 E7 => g_tupQ (K := K) t7 (g_var (i := 6) (d := z) E7 rfl) (bt.seq z hz))) rfl) ga_nil)) (by simp)) (by omega) (by simp) (by simp) fun w d H7 hd S7 k7 r7 => q w d H7 ?_ (S7.le (by omega)) (k6.trans k7) r7)
      rcases List.mem_cons.mp hd with rfl | hd
      · exact bt.list
      · rw [List.mem_singleton.mp hd]
        exact bt.tup
    have cmp : ∀ {σ' : L2.St} {Z : Hp} {Γ : List Sv} (c : Int), Trk X Z → EnvOk X Z σ' Γ → Γ[3]? = some (.dat (.int way)) → GT (tTest (tOp (rEqD K) (tVar 3) (tC (.int c)))) σ' Z (decide (way = c)) := fun c t E h => gt_eqI t (g_var (i := 3) (d := .int way) E h) g_int
    have lv : Ls.length = ls.length := F5.l1.trans F5.l2.symm
    -- a change at the list's own objects
    have fin2 : ∀ (σ' : L2.St) (X' : Addr → Prop) (H6 H8 : Hp) (m : Nat) (ds : List PyData), (∀ a, X a → X' a) → Same H5 H6 → EnvOk X' H6 σ' [.val (.ref st), .dat (.list (ls.map rowD)), .val (.ref L), .dat (.int way), .val (.int (i : Nat)), .val (.int (j : Nat)), .un, .un] → Kp X' H6 H8 → Trk X H8 → (∀ b o, H b = some o → b ≠ st → b ≠ cl → H8 b = some o) → Sg X st cl m H8 → m ≤ n + 11 → DX X H8 (.ref L) (.list ds) → Bt ds → N σ' H8 := fun σ' X' H6 H8 m ds mx s6 O6 k8 t8 kh S8 hm dx bt => Fin σ' H8 ⟨m, ds, _, _, env_dat (i := 2) (EnvOk.less mx (O6.mono k8)) rfl dx, S8, hm, fun b o n1 n2 e => kh b o e n1 n2, bt⟩
    let XL : Addr → Prop := fun b => X b ∨ b = L
    let X2 : Addr → Prop := fun b => X b ∨ (b = L ∨ b ∈ as)
    have mL : More X XL H := ⟨fun a z => .inl z, fun a z => z.elim .inl fun z => .inr (z ▸ fL)⟩
    have m2 : More X X2 H := ⟨fun a z => .inl z, fun a z => z.elim .inl fun z => .inr (z.elim (fun z => z ▸ fL) fun z => fas a z)⟩
    have OL := mkO XL mL
    have O2 := mkO X2 m2
    have trL : ∀ {Z : Hp}, Trk X Z → (∃ o, Z L = some o) → Trk XL Z := fun t h b hb => hb.elim (t b) fun z => z ▸ h
    have ntL : ∀ {Z : Hp} {xs : List V}, NoT X Z → Z L = some (.lst xs) → NoT XL Z := fun n h b hb ys e => hb.elim (fun z => n b z ys e) fun z => by rw [z, h] at e; cases e
    -- 0: one is moved
    refine q_elif (cmp 0 S5.t E5 rfl) (fun _ H6 s6 => ?_) fun _ H6 s6 => ?_
    · have F6 := F5.same s6
      have O6 := O2.same s6
      have hvi : Ls[i]? = some (Ls[i]'(by omega)) := List.getElem?_eq_getElem _
      have q1 := F6.own i A1 _ hai hvi
      have q2 := F6.keys i _ _ hvi hli
      generalize Ls[i]'(by omega) = vi at *
      have ll : vi.length = ls[i].length := q2.len
      obtain ⟨pp, hpp⟩ : ∃ pp, ls[i][ls[i].length - 1]? = some pp := ⟨ls[i][ls[i].length - 1]'(by omega), List.getElem?_eq_getElem _⟩
      obtain ⟨y, ey, ky⟩ := q2.get hpp
      have F7 := F6.put (i := i) (vs := vi.dropLast) (l := ls[i].dropLast) hai q2.drop
      obtain ⟨vj, hvj⟩ : ∃ vj, (Ls.set i vi.dropLast)[j]? = some vj := ⟨_, List.getElem?_eq_getElem (by rw [List.length_set]; omega)⟩
      obtain ⟨lx, hlx⟩ : ∃ lx, (ls.set i ls[i].dropLast)[j]? = some lx := ⟨(ls.set i ls[i].dropLast)[j]'(by rw [List.length_set]; exact hj), List.getElem?_eq_getElem _⟩
      have q3 := F7.own j A2 _ haj hvj
      have q4 := F7.keys j _ _ hvj hlx
      have llx : lx.length ≤ 49 := by
        by_cases c : i = j
        · subst c
          rw [List.getElem?_set_self hi] at hlx
          cases hlx
          rw [List.length_dropLast]
          omega
        · rw [List.getElem?_set_ne c, hlj] at hlx
          cases hlx
          exact lj'
      have ky7 : KeyAt (upd H6 A1 (.lst vi.dropLast)) y pp := by
        obtain ⟨b, eb, hb⟩ := ky
        have : b ≠ A1 := fun z => by rw [z, q1] at hb; cases hb
        exact ⟨b, eb, by rw [upd_ne this]; exact hb⟩
      have F8 := F7.put (i := j) (vs := vj ++ [y]) (l := lx ++ [pp]) haj (KeysAt.snoc ky7 q4)
      obtain ⟨xj, q0⟩ := F6.ownS (List.mem_of_getElem? haj)
      have mA1 := List.mem_of_getElem? hai
      have mA2 := List.mem_of_getElem? haj
      refine k_dropE ⟨.ref L, O6.get 2 _ rfl, .int (j : Nat), O6.get 5 _ rfl, .inl ⟨L, as.map V.ref, (j : Nat), .ref A2, rfl, rfl, SqL.of F6.at_, atI_nat (by rw [List.getElem?_map, haj]; rfl), .inl ⟨rfl, _, SqL.of q0⟩, .ref L, O6.get 2 _ rfl, .int (i : Nat), O6.get 4 _ rfl, .inl ⟨L, as.map V.ref, (i : Nat), .ref A1, rfl, rfl, SqL.of F6.at_, atI_nat (by rw [List.getElem?_map, hai]; rfl), .inl ⟨rfl, _, SqL.of q1⟩, A1, vi, y, rfl, rfl, q1, by rw [ll]; exact ey, A2, vj, y, rfl, rfl, q3, by rw [q4.len, sizeLine_eq]; omega, ?_⟩⟩⟩
      have s56 : KpS st cl H H6 := kk5.trans (KpS.of s6)
      have nA1 := nas A1 mA1
      have nA2 := nas A2 mA2
      have k8 : Kp X2 H6 (upd (upd H6 A1 (.lst vi.dropLast)) A2 (.lst (vj ++ [y]))) := (Kp.put (.inr (.inr mA1))).trans (Kp.put (.inr (.inr mA2)))
      have t8 : Trk X (upd (upd H6 A1 (.lst vi.dropLast)) A2 (.lst (vj ++ [y]))) := ((S5.t.mono s6).put).put
      have n8 : NoT X (upd (upd H6 A1 (.lst vi.dropLast)) A2 (.lst (vj ++ [y]))) := fun b hb xs e => by
        rw [upd_ne (fun z => nXa A2 mA2 (by rw [← z]; exact hb)), upd_ne (fun z => nXa A1 mA1 (by rw [← z]; exact hb))] at e
        exact (nt5.mono S5.t s6) b hb xs e
      refine fin2 _ X2 H6 _ (n + 3) (((ls.set i ls[i].dropLast).set j (lx ++ [pp])).map rowD) (fun a z => .inl z) s6 O6 k8 t8 (fun b o e z1 z2 => ?_) (Sg.kept (S5.same s6) (fun b o hb e => ?_) t8) (by omega) (.lst nX F8.at_ (F8.dxs n8 nXa)) (Bt.of (fun z hz => ?_) (by rw [List.length_map, List.length_set, List.length_set]; omega))
      · have u1 : b ≠ A1 := fun z => by rw [z, fas A1 mA1] at e; cases e
        have u2 : b ≠ A2 := fun z => by rw [z, fas A2 mA2] at e; cases e
        rw [upd_ne u2, upd_ne u1]
        exact s56 b o z1 z2 e
      · have u1 : b ≠ A1 := fun z => hb.elim (fun y => nA1.1 (z ▸ y)) fun y => nA1.2 (z ▸ y)
        have u2 : b ≠ A2 := fun z => hb.elim (fun y => nA2.1 (z ▸ y)) fun y => nA2.2 (z ▸ y)
        rw [upd_ne u2, upd_ne u1]
        exact e
      · obtain ⟨l, hl, rfl⟩ := List.mem_map.mp hz
        refine ⟨rfl, ?_⟩
        show (l.map prD).length ≤ 60
        rw [List.length_map]
        rcases List.mem_or_eq_of_mem_set hl with hl | rfl
        · rcases List.mem_or_eq_of_mem_set hl with hl | rfl
          · have := inl l hl
            omega
          · rw [List.length_dropLast]
            omega
        · rw [List.length_append, List.length_singleton]
          omega
    -- 1: one level is cut
    have E6 := E5.same s6
    refine q_elif (cmp 1 (S5.t.mono s6) E6 rfl) (fun _ H7 s7' => ?_) fun _ H7 s7' => ?_
    · have s7 := s6.trans s7'
      have F7 := F5.same s7
      have O7 := OL.same s7
      have t7 := trL (S5.t.mono s7) ⟨_, F7.at_⟩
      have n7 := ntL (nt5.mono S5.t s7) F7.at_
      have nL7 : ∀ a ∈ as, ¬ XL a := fun a ha z => z.elim (nXa a ha) (F5.out a ha)
      have hk : (ls.map rowD)[i]? = some (rowD ls[i]) := by rw [List.getElem?_map, hli]; rfl
      refine k_sub (g_sl (lo := none) (hi := some 1) (ds := ls[i].map prD) t7 (g_ixOwn (K := K) (k := i) (O7.get 2 _ rfl) (O7.get 4 _ rfl) F7.at_ (F7.dxs n7 nL7) hk) go_none (go_some (X := XL) g_int) H7 (Same.refl _) _ fun w8 H8 s8 r8 => ?_)
      have F8 := F7.same s8
      have O8 := O7.same s8
      have s58 := s7.trans s8
      refine ⟨.ref L, O8.get 2 _ rfl, .int (i : Nat), O8.get 4 _ rfl, L, as.map V.ref, (i : Nat), i, rfl, rfl, F8.at_, ixN_nat (by rw [List.length_map, ← F8.l2]; exact hi), ?_⟩
      have t8 : Trk X (upd H8 L (.lst ((as.map V.ref).set i w8))) := ((S5.t.mono s58)).put
      refine fin2 _ XL H8 _ (n + 3) ((ls.map rowD).set i (.list (cutPD (ls[i].map prD) none (some 1)))) (fun a z => .inl z) s58 O8 (Kp.put (.inr rfl)) t8 (fun b o e z1 z2 => ?_) (Sg.kept (S5.same s58) (fun b o hb e => ?_) t8) (by omega) (.lst nX upd_same ((dxs_set (r8.mono (Kp.put (.inr rfl))) (((F7.dxs n7 nL7).mono (Kp.of s8)).mono (Kp.put (.inr rfl)))).less fun _ => .inl)) (Bt.of (fun z hz => ?_) (by rw [List.length_set, List.length_map]; omega))
      · rw [upd_ne (fun z => by rw [z, fL] at e; cases e)]
        exact s58 _ _ (kk5 b o z1 z2 e)
      · rw [upd_ne (fun z => hb.elim (fun y => nL.1 (z.symm.trans y)) fun y => nL.2 (z.symm.trans y))]
        exact e
      · rcases List.mem_or_eq_of_mem_set hz with hz | rfl
        · exact rows60 z hz
        · refine ⟨rfl, ?_⟩
          show (cutPD (ls[i].map prD) none (some 1)).length ≤ 60
          have := cutP_len (ls[i].map prD) none (some 1)
          rw [List.length_map] at this
          omega
    -- 2: one level is parted
    have E7 := E6.same s7'
    refine q_elif (cmp 2 ((S5.t.mono s6).mono s7') E7 rfl) (fun _ H8 s8' => ?_) fun _ H8 s8' => ?_
    · have s8 := (s6.trans s7').trans s8'
      have t8 := S5.t.mono s8
      have E8 := E7.same s8'
      have hk : atI (ls.map rowD) (i : Nat) = some (rowD ls[i]) := atI_nat (by rw [List.getElem?_map, hli]; rfl)
      have gi : G X (tOp (rIx K) (tVar 2) (tVar 4)) _ H8 (rowD ls[i]) := g_ixL t8 (g_var (i := 2) (d := .list (ls.map rowD)) E8 rfl) (g_var (i := 4) (d := .int (i : Nat)) E8 rfl) hk
      have c1 := cutP_len (ls[i].map prD) (some 1) none
      have c2 := cutP_len (ls[i].map prD) none (some 1)
      rw [List.length_map] at c1 c2
      refine k_set1 ((g_cat t8 (g_var (i := 2) (d := .list (ls.map rowD)) E8 rfl) (g_lst t8 (ga_cons (g_sl (lo := some 1) (hi := none) (ds := ls[i].map prD) t8 gi (go_some (X := X) g_int) go_none) (ga_cons (g_sl (lo := none) (hi := some 1) (ds := ls[i].map prD) t8 gi go_none (go_some (X := X) g_int)) ga_nil)) (by simp)) (by rw [List.length_map]; simp; omega)) H8 (Same.refl _) _ fun w9 H9 s9 r9 => ?_)
      refine Fin _ H9 ⟨n + 3, _, _, _, (E8.same s9).set (i := 2) r9, S5.same (s8.trans s9), by omega, kk5.trans (KpS.of (s8.trans s9)), Bt.of (fun z hz => ?_) (by rw [List.length_append, List.length_map]; simp; omega)⟩
      rcases List.mem_append.mp hz with hz | hz
      · exact rows60 z hz
      · rcases List.mem_cons.mp hz with rfl | hz
        · exact ⟨rfl, by show (cutPD _ _ _).length ≤ 60; omega⟩
        · rw [List.mem_singleton.mp hz]
          exact ⟨rfl, by show (cutPD _ _ _).length ≤ 60; omega⟩
    -- 3: one more level, with nothing in it
    have E8 := E7.same s8'
    refine q_elif (cmp 3 (((S5.t.mono s6).mono s7').mono s8') E8 rfl) (fun _ H9 s9' => ?_) fun _ H9 s9' => ?_
    · have s9 := ((s6.trans s7').trans s8').trans s9'
      have O9 := OL.same s9
      have F9 := F5.same s9
      refine k_dropE ⟨.ref L, O9.get 2 _ rfl, .inl ⟨rfl, _, SqL.of F9.at_⟩, by show 0 ≤ sizeLine; omega, fun p hp => ?_⟩
      have s10 : Same H9 (upd H9 p (.lst [])) := Same.upd hp
      have hpe : upd H9 p (.lst []) p = some (.lst []) := upd_same
      have npX : ¬ XL p := fun z => z.elim ((S5.t.mono s9).new hp) fun z => by rw [z, F9.at_] at hp; cases hp
      have O10 := O9.same s10
      have F10 := F9.same s10
      have s510 := s9.trans s10
      have tX := S5.t.mono s510
      have nX10 := nt5.mono S5.t s510
      generalize upd H9 p (.lst []) = H10 at *
      refine ⟨L, as.map V.ref, .ref p, rfl, rfl, F10.at_, by rw [List.length_map, ← F10.l2, sizeLine_eq]; omega, ?_⟩
      have nL10 : ∀ a ∈ as, ¬ XL a := fun a ha z => z.elim (nXa a ha) (F5.out a ha)
      have t11 : Trk X (upd H10 L (.lst (as.map V.ref ++ [.ref p]))) := tX.put
      refine fin2 _ XL H10 _ (n + 3) (ls.map rowD ++ [.list []]) (fun a z => .inl z) s510 O10 (Kp.put (.inr rfl)) t11 (fun b o e z1 z2 => ?_) (Sg.kept (S5.same s510) (fun b o hb e => ?_) t11) (by omega) (.lst nX upd_same ((((F10.dxs (ntL nX10 F10.at_) nL10).snoc (.lst npX hpe .nil)).mono (Kp.put (.inr rfl))).less fun _ => .inl)) (Bt.of (fun z hz => ?_) (by rw [List.length_append, List.length_map]; simp; omega))
      · rw [upd_ne (fun z => by rw [z, fL] at e; cases e)]
        exact s510 _ _ (kk5 b o z1 z2 e)
      · rw [upd_ne (fun z => hb.elim (fun y => nL.1 (z.symm.trans y)) fun y => nL.2 (z.symm.trans y))]
        exact e
      · rcases List.mem_append.mp hz with hz | hz
        · exact rows60 z hz
        · rw [List.mem_singleton.mp hz]
          exact ⟨rfl, by simp [itemsD]⟩
    -- 4: each pair a level
    have E9 := E8.same s9'
    have t9 := (((S5.t.mono s6).mono s7').mono s8').mono s9'
    refine q_elif (cmp 4 t9 E9 rfl) (fun _ HA sA' => ?_) fun _ HA sA' => ?_
    · have sA := (((s6.trans s7').trans s8').trans s9').trans sA'
      have tA := S5.t.mono sA
      have EA := E9.same sA'
      have OA := OL.same sA
      have FA := F5.same sA
      refine k_set1 ((g_lc1 (ds := ls.flatten.map prD) (Γ2 := fun z => [.val (.ref st), .dat (.list (ls.map rowD)), .dat (.list (ls.map rowD)), .dat (.int way), .dat (.int (i : Nat)), .dat (.int (j : Nat)), .un, .dat z]) (fun z => .list [z]) tA (gi_list (K := K) (g_sumL tA (nt5.mono S5.t sA) EA FA (OA.get 2 _ rfl) (by rw [← FA.l2]; omega) (by omega))) (by rw [List.length_map]; omega) (fun H3 s3 z hz => tgt_name (EA.same s3)) (fun X3 H3 σ3 z hz t3 E3 => g_lst t3 (ga_cons (g_var (i := 7) (d := z) E3 rfl) ga_nil) (by simp))) HA (Same.refl _) _ fun wB HB sB rB => ?_)
      refine Fin _ HB ⟨n + 3, _, _, _, (EA.same sB).set (i := 2) rB, S5.same (sA.trans sB), by omega, kk5.trans (KpS.of (sA.trans sB)), Bt.of (fun z hz => ?_) (by rw [List.length_map, List.length_map]; omega)⟩
      obtain ⟨y, hy, rfl⟩ := List.mem_map.mp hz
      exact ⟨rfl, by simp [itemsD]⟩
    -- 5: mixed
    have EA := E9.same sA'
    refine q_elif (cmp 5 (t9.mono sA') EA rfl) (fun _ HB sB' => ?_) fun _ HB sB' => ?_
    · have sB := ((((s6.trans s7').trans s8').trans s9').trans sA').trans sB'
      have EB := EA.same sB'
      have SB := S5.same sB
      refine k_set1 (c_mixed (ds := ls.map rowD) SB (gv_var (i := 0) EB rfl) (g_var (i := 2) (d := .list (ls.map rowD)) EB rfl) (by rw [List.length_map]; omega) (by rw [List.length_map]; omega) fun wC es HC hp SC kC rC => ?_)
      have le : es.length = ls.length := by rw [hp.length_eq, List.length_map]
      exact Fin _ HC ⟨_, es, _, _, (EB.kps SB kC).set (i := 2) rC, SC, by rw [List.length_map]; omega, (kk5.trans (KpS.of sB)).trans kC, Bt.of (fun z hz => rows60 z (hp.mem_iff.mp hz)) (by omega)⟩
    -- 6: one more in a level
    have sB := ((((s6.trans s7').trans s8').trans s9').trans sA').trans sB'
    have OB := OL.same sB
    have FB := F5.same sB
    have tB := S5.t.mono sB
    have nB := nt5.mono S5.t sB
    have tLB := trL tB ⟨_, FB.at_⟩
    have nLB := ntL nB FB.at_
    have nL10 : ∀ a ∈ as, ¬ XL a := fun a ha z => z.elim (nXa a ha) (F5.out a ha)
    have SB : Sg XL st cl (n + 3) HB := (S5.same sB).wide (fun a z => .inl z) tLB
    have hki : (ls.map rowD)[i]? = some (rowD ls[i]) := by rw [List.getElem?_map, hli]; rfl
    have hkj : (ls.map rowD)[j]? = some (rowD ls[j]) := by rw [List.getElem?_map, hlj]; rfl
    have dB := FB.dxs nLB nL10
    have hp0 : atI (ls[j].map prD) (0 : Int) = some (prD (ls[j][0]'pj')) := atI_nat (j := 0) (by rw [List.getElem?_map, List.getElem?_eq_getElem pj']; rfl)
    refine k_sub (k_op (g_ixOwn (K := K) (k := i) (OB.get 2 _ rfl) (OB.get 4 _ rfl) FB.at_ dB hki HB (Same.refl _) _ fun v1 HC sC r1 => ?_))
    have OC := OB.same sC
    have FC := FB.same sC
    have SC := SB.same sC
    have tC := SC.t
    refine k_lst (k_cons (c_pick (ds := [.none, .tuple [.int 99, .int 0], prD (ls[j][0]'pj'), .list [.int 0]]) SC (gv_var (i := 0) OC rfl) (g_lst tC (ga_cons g_non (ga_cons (g_tup tC (ga_cons g_int (ga_cons g_int ga_nil)) (by simp)) (ga_cons (g_ixL (ds := ls[j].map prD) tC (g_ixOwn (K := K) (k := j) (OC.get 2 _ rfl) (OC.get 5 _ rfl) FC.at_ (dB.mono (Kp.of sC)) hkj) g_int hp0) (ga_cons (g_lst tC (ga_cons g_int ga_nil) (by simp)) ga_nil)))) (by simp)) (by omega) (by simp) (by simp) fun wD d HD hd SD kD rD => k_nil ⟨by show 1 ≤ sizeLine; decide, fun p hp => ?_⟩))
    have sE : Same HD (upd HD p (.lst [wD])) := Same.upd hp
    have hcat : RD XL rAddA (.list (ls[i].map prD)) (.list [d]) (.list (ls[i].map prD ++ [d])) := RD.or2 (RD.or1 (rd_cat (by rw [List.length_map]; simp; omega)))
    have kCD : Kp XL HC HD := kD.kp (.inl x1) (.inl x2)
    have FD : Fd HD L as Ls ls := FC.kps kD nL nas fun xs => ⟨ntL (nB.mono tB sC) FC.at_ st (.inl x1) xs, ntL (nB.mono tB sC) FC.at_ cl (.inl x2) xs⟩
    refine hcat _ _ _ (SD.t.mono sE) ((r1.mono kCD).mono (Kp.of sE)) (DX.newL SD.t (.cons rD .nil) hp) _ fun wF HF sF rF => ?_
    have sDF := sE.trans sF
    have FF := FD.same sDF
    have OF := (OC.mono kCD).same sDF
    refine ⟨.ref L, OF.get 2 _ rfl, .int (i : Nat), OF.get 4 _ rfl, L, as.map V.ref, (i : Nat), i, rfl, rfl, FF.at_, ixN_nat (by rw [List.length_map, ← FF.l2]; exact hi), ?_⟩
    have kall : KpS st cl H HF := (((kk5.trans (KpS.of sB)).trans (KpS.of sC)).trans kD).trans (KpS.of sDF)
    have tF : Trk X HF := fun b hb => (SD.t.mono sDF) b (.inl hb)
    have SF : Sg X st cl (n + 4) HF := by
      have z := SD.same sDF
      exact ⟨z.ok, x1, x2, tF⟩
    have tG : Trk X (upd HF L (.lst ((as.map V.ref).set i wF))) := tF.put
    refine Fin _ _ ⟨n + 4, (ls.map rowD).set i (.list (ls[i].map prD ++ [d])), _, _, env_dat (i := 2) (EnvOk.less (fun a z => .inl z) (OF.mono (Kp.put (.inr rfl)))) rfl (.lst nX upd_same ((dxs_set (rF.mono (Kp.put (.inr rfl))) (((((dB.mono (Kp.of sC)).mono kCD).mono (Kp.of sDF)).mono (Kp.put (.inr rfl))))).less fun _ => .inl)), Sg.kept SF (fun b o hb e => ?_) tG, by omega, fun b o z1 z2 e => ?_, Bt.of (fun z hz => ?_) (by rw [List.length_set, List.length_map]; omega)⟩
    · rw [upd_ne (fun z => hb.elim (fun y => nL.1 (z.symm.trans y)) fun y => nL.2 (z.symm.trans y))]
      exact e
    · rw [upd_ne (fun z => by rw [z, fL] at e; cases e)]
      exact kall b o z1 z2 e
    · rcases List.mem_or_eq_of_mem_set hz with hz | rfl
      · exact rows60 z hz
      · refine ⟨rfl, ?_⟩
        show (ls[i].map prD ++ [d]).length ≤ 60
        rw [List.length_append, List.length_map, List.length_singleton]
        omega
end K52

/-! The smaller of a pair's two numbers. -/
namespace KMT
open PySem PySem.Spec PyProof.Rows L2
theorem min_pair {prog : Program} {w : World} {A : Around} {E : Value → Shared → Prop} {s : Shared} {a b : Int} {t u : Tok} {p : Addr} {Q : Value → Shared → Prop} (hh : A.handled = none) (hT : s.heap.IsTuple p #[.int a t, .int b u])
    (h : ∀ h' tk v, (∀ c o, s.heap.get? c = some o → h'.get? c = some o) → (∃ z, v = Value.int (if b < a then b else a) z) → Q v { s with heap := h', toks := tk }) : wpAny (model prog w) A (call (.builtin "min") [.ref p]) Q E s := by
  have hI : s.heap.IsTuple p (intItems #[(a, t), (b, u)]) := by simpa [intItems] using hT
  have lt : p < s.heap.objs.size := by
    obtain ⟨_, e, _⟩ := hT
    exact Heap.lt_size e
  refine call_min_walk (wpAny_pyIter_tuple hI ⟨_, [s.heap.objs.size, p], [s.heap.objs.size], _, _, _, _, rfl, Walks.tuple (A := A.in1) hh s.heap.objs.size p (Nat.ne_of_lt lt) (intItems #[(a, t), (b, u)]), ⟨⟨_, Heap.get?_push_size _ rfl, rfl, rfl⟩, hI.push _⟩, fun c hc => ?_, by simp [intItems],
    CmpOf.ints_lt (numAt #[(a, t), (b, u)]) (fun _ _ => intItems_at), fun v h' tk hP hk => ?_⟩)
  · show c < (s.heap.push _).objs.size
    rw [Heap.size_push]
    rcases List.mem_cons.mp hc with rfl | hc
    · exact Nat.lt_succ_self _
    · rw [List.mem_singleton.mp hc]
      exact Nat.lt_succ_of_lt lt
  · refine h h' tk v (fun c o e => hk c o (fun z => ?_) (Heap.get?_push_of_some _ e)) ?_
    · have := Heap.lt_size e
      rw [List.mem_singleton.mp z] at this
      exact Nat.lt_irrefl _ this
    · have n1 : (intItems #[(a, t), (b, u)]).size - 1 = 1 := by simp [intItems]
      rw [n1] at hP
      by_cases c : b < a
      · have e : argBest (fun i j => decide (numAt #[(a, t), (b, u)] i < numAt #[(a, t), (b, u)] j)) 1 = 1 := by simp [argBest, numAt, c]
        rw [e] at hP
        have e2 : v = Value.int b u := by simpa [intItems] using hP.symm
        exact ⟨u, by rw [e2, if_pos c]⟩
      · have e : argBest (fun i j => decide (numAt #[(a, t), (b, u)] i < numAt #[(a, t), (b, u)] j)) 1 = 0 := by simp [argBest, numAt, c]
        rw [e] at hP
        have e2 : v = Value.int a t := by simpa [intItems] using hP.symm
        exact ⟨t, by rw [e2, if_neg c]⟩
section
variable {X : Cx}
def rMinP (K : PySem.W.Frag) : List V → Hp → VK → Prop := fun vs H Q => ∃ (p : Addr) (i j : Int), vs = [V.ref p] ∧ SqT K H p [.int i, .int j] ∧ Q (.int (if j < i then j else i)) H
theorem cr_minP (hc : X.calm = true) : CallR X (.builtin "min") (rMinP X.K) := by
  intro pins s σ H vs us Q I r h
  obtain ⟨p, i, j, rfl, hs, q⟩ := h
  obtain ⟨its, rv, ht, _⟩ := I.tuple hs
  rw [Vals.ref1 r]
  cases rv with
  | cons r1 rv =>
    cases rv with
    | cons r2 rv =>
      cases rv
      obtain ⟨t, rfl⟩ := r1
      obtain ⟨u, rfl⟩ := r2
      refine min_pair (I.ok.hd hc) (show s.heap.IsTuple p #[.int i t, .int j u] from ht) fun h' tk v hk hv => ?_
      obtain ⟨z, rfl⟩ := hv
      exact ⟨.int (if j < i then j else i), H, I.kept hk, ⟨z, rfl⟩, q⟩
theorem cr_minPK {K : PySem.W.Frag} (hc : X.calm = true) (h : X.K = K) : CallR X (.builtin "min") (rMinP K) := h ▸ cr_minP hc
end
end KMT

/-! Texts of one word. -/
namespace K52
open PySem PySem.Spec PyProof.Rows L2 KD KL KCl
-- RAISES check_texts least_cover common_row is_cover _law_one_word_right
-- HINT _law_one_word_right minP yes
-- HINT _law_one_word_right lcsc#2 scOne
-- HINT _law_one_word_right lcte#1 (tLc (iList K (tVar 6)) (gName 9) (tTest (tOp (rEqD K) (tCB (KMT.rMinP K) (tCons (tVar 9) tNil)) (tVar 8))) (tVar 9) [9])
variable {P : Program} {w : World} {K : PySem.W.Frag} {mg : Str → Option Value} {base : Heap}
def scOne : Scope := { kind := ScopeKind.function, names := [(".0", NameKind.local), ("_law_k", NameKind.cell), ("_law_pairs", NameKind.cell)], isGenerator := false, isCoroutine := false }
/-! ### pairs in their order -/
theorem psL_lex (M : Nat → Nat → Bool) (m : Nat) : ∀ n, (psL M n m).Pairwise fun a b => a.1 < b.1 ∨ (a.1 = b.1 ∧ a.2 < b.2)
  | 0 => by simp [psL]
  | n + 1 => by
    rw [psL_succ]
    refine List.pairwise_append.mpr ⟨psL_lex M m n, ?_, fun a ha b hb => ?_⟩
    · unfold rowM
      refine List.pairwise_map.mpr (List.Pairwise.imp (fun {a b} h => .inr ⟨rfl, h⟩) (List.pairwise_lt_range.sublist List.filter_sublist))
    · unfold rowM at hb
      obtain ⟨j, _, rfl⟩ := List.mem_map.mp hb
      exact .inl ((psL_mem a).mp ha).1
def cst (p : Pr) : IP := ((p.1 : Nat), (p.2 : Nat))
theorem prs_cst (ps : List Pr) : ps.map prD = (ps.map cst).map ipD := by
  rw [List.map_map]
  rfl
theorem sort_all {ws vs : List Str} {ps : List Pr} (h : ps.Perm (matchL ws vs)) : sortD (ps.map prD) = (matchL ws vs).map prD := by
  rw [prs_cst, prs_cst]
  refine sort_is (h.map cst) (List.pairwise_map.mpr ((psL_lex _ _ _).imp fun {a b} h => ?_))
  unfold lexI cst
  rcases h with h | ⟨h1, h2⟩
  · exact .inl (by show ((a.1 : Nat) : Int) < (b.1 : Nat); omega)
  · exact .inr ⟨by show ((a.1 : Nat) : Int) = (b.1 : Nat); omega, by show ((a.2 : Nat) : Int) < (b.2 : Nat); omega⟩
theorem classes {α : Type} (f : α → Nat) (ps : List α) : ∀ N, ((List.range N).flatMap fun k => ps.filter fun p => decide (f p = k)).Perm (ps.filter fun p => decide (f p < N))
  | 0 => by simp
  | N + 1 => by
    rw [List.range_succ, List.flatMap_append]
    have h1 := (classes f ps N).append_right ([N].flatMap fun k => ps.filter fun p => decide (f p = k))
    refine h1.trans ?_
    have h2 := List.filter_append_perm (fun p => decide (f p < N)) (ps.filter fun p => decide (f p < N + 1))
    rw [List.filter_filter, List.filter_filter] at h2
    have e1 : (fun a => decide (f a < N) && decide (f a < N + 1)) = fun a => decide (f a < N) := funext fun a => by
      rw [Bool.eq_iff_iff]
      simp only [Bool.and_eq_true, decide_eq_true_iff]
      omega
    have e2 : (fun a => (!decide (f a < N)) && decide (f a < N + 1)) = fun a => decide (f a = N) := funext fun a => by
      rw [Bool.eq_iff_iff]
      simp only [Bool.and_eq_true, Bool.not_eq_true', decide_eq_true_iff, decide_eq_false_iff_not]
      omega
    rw [e1, e2] at h2
    have e3 : ([N].flatMap fun k => ps.filter fun p => decide (f p = k)) = ps.filter fun p => decide (f p = N) := by simp
    rw [e3]
    exact h2
theorem ofLev_ps (M : Nat → Nat → Bool) (n m k : Nat) : ofLev (lvC M m n) k = (psL M n m).filter fun p => decide (lev M p = k + 1) := by
  unfold ofLev
  rw [lvC_ps, List.filter_map, List.map_map]
  exact (List.map_congr_left fun _ _ => rfl).trans (List.map_id _)
/-! ### texts of one word -/
theorem M_xs {n m i j : Nat} (hi : i < n) (hj : j < m) : Mw (xs n) (xs m) i j = true := by
  unfold Mw xs
  rw [wAt_at (s := "x") (by rw [List.getElem?_replicate, if_pos hj]), wAt_at (s := "x") (by rw [List.getElem?_replicate, if_pos hi])]
  exact decide_eq_true rfl
theorem lev_xs {n m : Nat} {p : Pr} (h1 : p.1 < n) (h2 : p.2 < m) : lev (Mw (xs n) (xs m)) p = min p.1 p.2 + 1 := by
  unfold lev
  rw [L_all fun i j hi hj => M_xs (by omega) (by omega)]
def cls (n m k : Nat) : List Pr := (matchL (xs n) (xs m)).filter fun p => decide (min p.1 p.2 = k)
theorem xs_in {n m : Nat} {p : Pr} : p ∈ matchL (xs n) (xs m) ↔ p.1 < n ∧ p.2 < m := by
  have := psL_mem (M := Mw (xs n) (xs m)) (n := (xs n).length) (m := (xs m).length) p
  rw [xs_len, xs_len] at this
  unfold matchL
  rw [xs_len, xs_len, this]
  exact ⟨fun h => ⟨h.1, h.2.1⟩, fun h => ⟨h.1, h.2, M_xs h.1 h.2⟩⟩
theorem lev_cls (n m k : Nat) : ofLev (lvC (Mw (xs n) (xs m)) (xs m).length (xs n).length) k = cls n m k := by
  rw [ofLev_ps]
  refine List.filter_congr fun p hp => ?_
  have h := xs_in.mp (show p ∈ matchL (xs n) (xs m) from hp)
  rw [lev_xs h.1 h.2]
  exact decide_eq_decide.mpr (by omega)
def dueD (n m : Nat) : PyData := .list ((List.range (min n m)).map fun k => rowD (cls n m k))
theorem cov_due (n m : Nat) : covD (Mw (xs n) (xs m)) (xs n).length (xs m).length = dueD n m := by
  unfold covD dueD
  congr 1
  have e : L (Mw (xs n) (xs m)) (xs n).length (xs m).length = min n m := by
    have := L_xs n m
    rw [xs_len, xs_len]
    exact this
  rw [e]
  exact List.map_congr_left fun k _ => by rw [lev_cls]
theorem cls_len {n m k : Nat} (h1 : n ≤ 24) (h2 : m ≤ 24) : (cls n m k).length ≤ 48 := by
  have nd : (cls n m k).Nodup := ((psL_lex _ _ _).imp fun {a b} h e => by rw [e] at h; omega).sublist List.filter_sublist
  have sub : ∀ p ∈ cls n m k, p ∈ ((List.range 24).map fun j => ((k, j) : Pr)) ++ ((List.range 24).filter fun i => decide (i ≠ k)).map fun i => ((i, k) : Pr) := fun p hp => by
    obtain ⟨h3, h4⟩ := List.mem_filter.mp hp
    have h4 := of_decide_eq_true h4
    have h3 := xs_in.mp h3
    by_cases c : p.1 = k
    · exact List.mem_append_left _ (List.mem_map.mpr ⟨p.2, List.mem_range.mpr (by omega), Prod.ext c.symm rfl⟩)
    · exact List.mem_append_right _ (List.mem_map.mpr ⟨p.1, List.mem_filter.mpr ⟨List.mem_range.mpr (by omega), by simpa using c⟩, Prod.ext rfl (by show k = p.2; omega)⟩)
  have h := List.Nodup.length_le_of_subset nd sub
  have h3 := List.length_filter_le (fun i => decide (i ≠ k)) (List.range 24)
  rw [List.length_append, List.length_map, List.length_map] at h
  rw [List.length_range] at h h3
  omega
theorem due_ok {n m : Nat} (h1 : n ≤ 24) (h2 : m ≤ 24) : isCovD (xs n) (xs m) (.list (((List.range (min n m)).map fun k => rowD (cls n m k)).reverse)) = true := by
  rw [cov_lev, Bool.and_eq_true, Bool.and_eq_true]
  refine ⟨⟨rfl, ?_⟩, ?_⟩
  · show (List.reverse _).all (okLev (xs n) (xs m)) = true
    rw [List.all_eq_true]
    intro z hz
    obtain ⟨k, hk, rfl⟩ := List.mem_map.mp (List.mem_reverse.mp hz)
    have hk := List.mem_range.mp hk
    have inn : ∀ p ∈ cls n m k, (p.1 < n ∧ p.2 < m) ∧ min p.1 p.2 = k := fun p hp => by
      obtain ⟨h3, h4⟩ := List.mem_filter.mp hp
      exact ⟨xs_in.mp h3, of_decide_eq_true h4⟩
    unfold okLev areD
    rw [Bool.and_eq_true, Bool.and_eq_true, Bool.and_eq_true]
    refine ⟨⟨rfl, ?_⟩, ?_, ?_⟩
    · show ((cls n m k).map prD).all (isMatchD (xs n) (xs m)) = true
      rw [List.all_eq_true]
      intro y hy
      obtain ⟨p, hp, rfl⟩ := List.mem_map.mp hy
      obtain ⟨⟨a, b⟩, _⟩ := inn p hp
      have := in_matches (ws := xs n) (vs := xs m) (d := prD p) (i := (p.1 : Nat)) (j := (p.2 : Nat)) rfl rfl
      rw [← this, List.any_eq_true]
      refine ⟨prD p, List.mem_map.mpr ⟨p, xs_in.mpr ⟨a, b⟩, rfl⟩, ?_⟩
      show PyData.eqv (.tuple [.int _, .int _]) (.tuple [.int _, .int _]) = true
      rw [eqv_pair, decide_eq_true rfl, decide_eq_true rfl]
      rfl
    · rw [decide_eq_true_iff]
      show (0 : Int) < ((lenD (rowD (cls n m k)) : Nat) : Int)
      rw [lenD_seq rfl]
      show (0 : Int) < (((cls n m k).map prD).length : Nat)
      rw [List.length_map]
      have : (k, k) ∈ cls n m k := List.mem_filter.mpr ⟨xs_in.mpr ⟨by show k < n; omega, by show k < m; omega⟩, by simp⟩
      have := List.length_pos_of_mem this
      omega
    · rw [Bool.not_eq_true']
      unfold behIn
      rw [List.any_eq_false]
      intro x hx
      rw [Bool.not_eq_true, List.any_eq_false]
      intro y hy
      obtain ⟨p, hp, rfl⟩ := List.mem_map.mp (show x ∈ (cls n m k).map prD from hx)
      obtain ⟨q, hq, rfl⟩ := List.mem_map.mp (show y ∈ (cls n m k).map prD from hy)
      obtain ⟨_, e1⟩ := inn p hp
      obtain ⟨_, e2⟩ := inn q hq
      rw [beh_pr, bhB_iff]
      unfold bh
      omega
  · unfold sortOk
    have e : psOf (.list (((List.range (min n m)).map fun k => rowD (cls n m k)).reverse)) = (List.range (min n m)).reverse.flatMap fun k => cls n m k := by
      show (List.reverse _).flatMap _ = _
      rw [← List.map_reverse, List.flatMap_map]
      refine fmc fun k _ => ?_
      show ((cls n m k).map prD).map prOf = cls n m k
      rw [List.map_map]
      exact (List.map_congr_left fun p _ => prOf_prD p).trans (List.map_id _)
    have pm : ((List.range (min n m)).reverse.flatMap fun k => cls n m k).Perm (matchL (xs n) (xs m)) := by
      refine (List.Perm.flatMap_right _ (List.reverse_perm _)).trans ((classes (fun p : Pr => min p.1 p.2) (matchL (xs n) (xs m)) (min n m)).trans ?_)
      rw [List.filter_eq_self.mpr fun p hp => by
        have := xs_in.mp hp
        simp only [decide_eq_true_iff]
        omega]
    rw [e, sort_all pm]
    show PyData.eqv (rowD _) (rowD _) = true
    have : ∀ ps : List Pr, PyData.eqvAll (ps.map prD) (ps.map prD) = true := fun ps => by
      induction ps with
      | nil => simp [PyData.eqvAll]
      | cons p r ih =>
        have e2 : PyData.eqv (prD p) (prD p) = true := by
          show PyData.eqv (.tuple [.int _, .int _]) (.tuple [.int _, .int _]) = true
          rw [eqv_pair, decide_eq_true rfl, decide_eq_true rfl]
          rfl
        simp [PyData.eqvAll, e2, ih]
    show PyData.eqv (.list _) (.list _) = true
    simp only [PyData.eqv]
    exact this _
/-! ### read -/
section
variable {X : Addr → Prop} {σ : L2.St} {H : Hp} {te ta tb tc : TE} {E : XK}
theorem gn_cover {d1 d2 : PyData} {ws vs : List Str} (t : Trk X H) (n : NoT X H) (x1 : Tx ws) (x2 : Tx vs) (T1 : Txt d1 ws) (T2 : Txt d2 vs) (h1 : G X ta σ H d1) (h2 : G X tb σ H d2) : GN X (tCall spCover [] E (tCons ta (tCons tb tNil))) σ H (covD (Mw ws vs) ws.length vs.length) := fun H1 s Q q =>
  h1 H1 s _ fun v H2 s2 r1 => h2 H2 (s.trans s2) _ fun v2 H3 s3 r2 => ⟨X, v, v2, d1, d2, ws, vs, rfl, ((t.mono s).mono s2).mono s3, n.mono t ((s.trans s2).trans s3), r1.mono (Kp.of s3), r2, T1, T2, x1.good T1, x2.good T2, fun w H' s' dw nw => q w H' ((s2.trans s3).trans s') dw (nw.back (s2.trans s3))⟩
theorem g_iscov {d1 d2 d : PyData} {ws vs : List Str} (t : Trk X H) (x1 : Tx ws) (x2 : Tx vs) (T1 : Txt d1 ws) (T2 : Txt d2 vs) (h1 : G X ta σ H d1) (h2 : G X tb σ H d2) (h3 : G X tc σ H d) (hf : FewC d) : G X (tCall spCov [] E (tCons ta (tCons tb (tCons tc tNil)))) σ H (.bool (isCovD ws vs d)) := fun H1 s Q q =>
  h1 H1 s _ fun v1 H2 s2 r1 => h2 H2 (s.trans s2) _ fun v2 H3 s3 r2 => h3 H3 ((s.trans s2).trans s3) _ fun v3 H4 s4 r3 => ⟨X, v1, v2, v3, d1, d2, d, ws, vs, rfl, (((t.mono s).mono s2).mono s3).mono s4, (r1.mono (Kp.of s3)).mono (Kp.of s4), r2.mono (Kp.of s4), r3, T1, T2, x1.good T1, x2.good T2, hf, fun w H' s' dw => q w H' (((s2.trans s3).trans s4).trans s') dw⟩
theorem g_same {n : Nat} {d : PyData} (t : Trk X H) (ha : G X ta σ H d) (hb : G X tb σ H d) (hs : sm n d) : G X (tCall (spSame n) [] E (tCons ta (tCons tb tNil))) σ H (.bool true) := fun H1 s Q q =>
  ha H1 s _ fun v1 H2 s2 r1 => hb H2 (s.trans s2) _ fun v2 H3 s3 r2 => ⟨X, v1, v2, d, rfl, ((t.mono s).mono s2).mono s3, r1.mono (Kp.of s3), r2, hs, fun H' s' => q _ H' ((s2.trans s3).trans s') (.bl _)⟩
theorem g_minP {p : Pr} (h : G X te σ H (prD p)) : G X (tCB (KMT.rMinP K) (tCons te tNil)) σ H (.int ((min p.1 p.2 : Nat) : Int)) := fun H1 s Q q =>
  h H1 s _ fun v H2 s2 r => by
    obtain ⟨b, xs, rfl, nb, eb, rb⟩ := DX.tup_inv (ds := [.int (p.1 : Nat), .int (p.2 : Nat)]) r
    cases rb with
    | cons a1 rb =>
      cases rb with
      | cons a2 rb =>
        cases rb
        rw [a1.int_inv, a2.int_inv] at eb
        refine ⟨b, (p.1 : Nat), (p.2 : Nat), rfl, SqT.of eb, ?_⟩
        have e : (if ((p.2 : Nat) : Int) < (p.1 : Nat) then ((p.2 : Nat) : Int) else (p.1 : Nat)) = ((min p.1 p.2 : Nat) : Int) := by split <;> omega
        rw [e]
        exact q _ H2 s2 (.int _)
theorem g_min2 {i j : Int} (ha : G X ta σ H (.int i)) (hb : G X tb σ H (.int j)) : G X (tCB (fun xs H Q => ∃ i j, xs = [V.int i, V.int j] ∧ Q (.int (if j < i then j else i)) H) (tCons ta (tCons tb tNil))) σ H (.int (if j < i then j else i)) := fun H1 s Q q =>
  ha H1 s _ fun v H2 s2 r => hb H2 (s.trans s2) _ fun v2 H3 s3 r2 => ⟨i, j, by rw [r.int_inv, r2.int_inv], q _ H3 (s2.trans s3) (.int _)⟩
theorem g_rev {ds : List PyData} (t : Trk X H) (h : G X te σ H (.list ds)) : G X (tRevL K te) σ H (.list ds.reverse) := fun H1 s Q q =>
  h H1 s _ fun v H2 s2 r => by
    obtain ⟨a, xs, rfl, n, e, rx⟩ := r.lst_inv
    exact ⟨a, xs, rfl, SqL.of e, fun p hp => q _ _ (s2.trans (Same.upd hp)) (DX.newL ((t.mono s).mono s2) (dxs_rev rx) hp)⟩
end
theorem rows_sm (ls : List (List Pr)) (h1 : ls.length ≤ 100000) (h2 : ∀ l ∈ ls, l.length ≤ 100000) : sm 4 (.list (ls.map rowD)) := ⟨by rw [List.length_map]; exact h1, fun z hz => by
  obtain ⟨l, hl, rfl⟩ := List.mem_map.mp hz
  refine ⟨by rw [List.length_map]; exact h2 l hl, fun y hy => ?_⟩
  obtain ⟨p, _, rfl⟩ := List.mem_map.mp hy
  refine ⟨by show 2 ≤ 100000; omega, fun x hx => ?_⟩
  rcases List.mem_cons.mp (show x ∈ [PyData.int (p.1 : Nat), .int (p.2 : Nat)] from hx) with rfl | hx
  · rfl
  · rw [List.mem_singleton.mp hx]
    rfl⟩
theorem k_tup {tl : TA} {σ : L2.St} {H : Hp} {Q : VK} (h : tl σ H fun vs H1 => vs.length ≤ sizeLine ∧ ∀ p, H1 p = none → Q (.ref p) (upd H1 p (.tup vs))) : tTup tl σ H Q := h
def spOne : Sp := fun us H Q _ => ∃ (X : Addr → Prop) (st cl : Addr) (n : Nat), us = [.ref st] ∧ Sg X st cl n H ∧ NoT X H ∧ n + 1000 ≤ 1000000000 ∧ ∀ H', Sg X st cl (n + 2) H' → KpS st cl H H' → Q (.bl true) H'
abbrev s__law_one_word_right : Stmt := topS 40
abbrev n__law_one_word_right : List Str := ["_law_stream", "_law_many", "_law_few", "_law_one", "_law_other", "_law_told", "_law_pairs", "_law_due", "_law_k", "_law_pair"]
theorem sc__law_one_word_right : FnScope n__law_one_word_right ["_law_stream"] (defScope s__law_one_word_right) := ⟨rfl, rfl, rfl, by decide +kernel, rfl, by decide +kernel, by decide +kernel⟩
theorem ok_one {f : Addr} {fd : FuncData} (F : Fun K "_law_one_word_right" "_law_one_word_right" s__law_one_word_right f fd) (T : Bl mg) (O__law_draw : Own P w K mg base CX0 1 "_law_draw" ["_law_stream", "_law_many"] spDraw) (O_least_cover : Own P w K mg base (L2.CX P w) 4 "least_cover" ["one", "other"] spCover)
    (O__law_m_matches : Own P w K mg base CX0 1 "_law_m_matches" ["_law_one", "_law_other"] (sp2 ws2 fun a b => rowD (matchL (wsOf a) (wsOf b)))) (O__law_same : Own P w K mg base CX0 6 "_law_same" ["_law_found", "_law_due"] (spSame 4)) (O_is_cover : Own P w K mg base (L2.CX P w) 5 "is_cover" ["one", "other", "thing"] spCov) : FnOk P w K mg base (L2.CX P w) 7 f fd ["_law_stream"] spOne := by
  refine F.okX sc__law_one_word_right (fun vs H Q E h => ?_) (fun cdv A outer s H vs Q E hr h => ?_)
  · obtain ⟨X, st, cl, n, rfl, _⟩ := h
    rfl
  · obtain ⟨X, st, cl, n0, rfl, S, nt, hn, q⟩ := h
    refine ⟨_, (pss_cons (ps_par (i := 1) (j := 2) (by rfl) sc__law_one_word_right.nd rfl rfl (by decide) rfl rfl (pa_cons (pe_op op_addA pe_int (pe_own O__law_draw hr (by decide) (by rfl) (pa_cons (pv 0) (pa_cons pe_int pa_nil)))) (pa_cons (pe_op op_addA pe_int (pe_own O__law_draw hr (by decide) (by rfl) (pa_cons (pv 0) (pa_cons pe_int pa_nil)))) pa_nil)) (by rfl))
    (pss_cons (ps_par (i := 3) (j := 4) (by rfl) sc__law_one_word_right.nd rfl rfl (by decide) rfl rfl (pa_cons (pe_op op_mulA (pe_lst (pa_cons pe_str pa_nil)) (pv 1)) (pa_cons (pe_op op_mulA (pe_lst (pa_cons pe_str pa_nil)) (pv 2)) pa_nil)) (by rfl))
    (pss_cons (ps_asg (pe_tup (pa_cons (pe_ownX O_least_cover hr (by decide) (takes_of rfl rfl rfl rfl) (by rfl) (pa_cons (pv 3) (pa_cons (pv 4) pa_nil))) (pa_cons (pe_own O__law_m_matches hr (by decide) (by rfl) (pa_cons (pv 3) (pa_cons (pv 4) pa_nil))) pa_nil))) (pg_tup (n := 2) rfl (pgs_cons (pg_name (i := 5) sc__law_one_word_right.nd rfl (by first | exact Or.inl rfl | exact Or.inr rfl)) (pgs_cons (pg_name (i := 6) sc__law_one_word_right.nd rfl (by first | exact Or.inl rfl | exact Or.inr rfl)) pgs_nil))))
    (pss_cons (ps_setLc (i := 7) (own := [("_law_k", 8)]) (g := (gName 8)) (tt := tYes) (te := (tLc (iList K (tVar 6)) (gName 9) (tTest (tOp (rEqD K) (tCB (KMT.rMinP K) (tCons (tVar 9) tNil)) (tVar 8))) (tVar 9) [9])) rfl sc__law_one_word_right.nd rfl rfl (sw_true rfl rfl rfl (by decide +kernel)) (pi_range1 (by rfl) T.b_range (pa_cons (pe_callB (call_min2 rfl) (by rfl) T.b_min boot_min (pa_cons (pv 1) (pa_cons (pv 2) pa_nil))) pa_nil)) (blkOk_by (N := n__law_one_word_right) (sc := defScope s__law_one_word_right) (by decide +kernel)) (fun _ _ _ _ _ => (pg_name (i := 8) sc__law_one_word_right.nd rfl (by first | exact Or.inl rfl | exact Or.inr rfl))) (fun _ _ _ _ _ => pts_nil) (fun _ _ _ _ _ => (by exact (pe_lc (own := [("_law_pair", 9)]) (g := (gName 9)) rfl sc__law_one_word_right.nd (pi_list (pv 6)) (blkOk_by (N := n__law_one_word_right) (sc := scOne) (by decide +kernel)) (fun _ _ _ _ _ => (pg_name (i := 9) sc__law_one_word_right.nd rfl (by first | exact Or.inl rfl | exact Or.inr rfl))) (fun _ _ _ _ _ => (pts_one (pt_cmpR (op_eqD hr.units) (pe_callB (KMT.cr_minPK (K := K) rfl rfl) (by rfl) T.b_min boot_min (pa_cons (pv 9) pa_nil)) (pv 8) (nomark _)))) (fun _ _ _ _ _ => (pv 9))))))
    (pss_one (ps_ret (pe_and (pe_own O__law_same hr (by decide) (by rfl) (pa_cons (pv 5) (pa_cons (pv 7) pa_nil))) (pe_one (pe_cmpR op_isBl (pe_ownX O_is_cover hr (by decide) (takes_of rfl rfl rfl rfl) (by rfl) (pa_cons (pv 3) (pa_cons (pv 4) (pa_cons (pe_revL (pv 7)) pa_nil)))) pe_bl (nomark _)))))))))), ?_⟩
    have En : EnvOk X H (L2.start n__law_one_word_right [.ref st]) [.val (.ref st), .un, .un, .un, .un, .un, .un, .un, .un, .un] := ⟨rfl, fun i s e => by
      match i, e with
      | 0, e => cases e; rfl
      | 1, e => cases e; trivial
      | 2, e => cases e; trivial
      | 3, e => cases e; trivial
      | 4, e => cases e; trivial
      | 5, e => cases e; trivial
      | 6, e => cases e; trivial
      | 7, e => cases e; trivial
      | 8, e => cases e; trivial
      | 9, e => cases e; trivial
      | _ + 10, e => cases e⟩
    refine k_par (k_op (c_draw (m := 24) S (gv_var (i := 0) En rfl) g_int (by omega) (by decide) (by decide) fun i1 H1 a0 a1 S1 k1 => .inl ⟨1, i1, rfl, rfl, k_op (c_draw (m := 24) S1 (gv_var (i := 0) (En.kps S k1) rfl) g_int (by omega) (by decide) (by decide) fun i2 H2 b0 b1 S2 k2 => .inl ⟨1, i2, rfl, rfl, ⟨_, _, rfl, ?_⟩⟩)⟩))
    have nt1 := nt.kps S S1 k1
    have nt2 := nt1.kps S1 S2 k2
    obtain ⟨n, hn1⟩ : ∃ n : Nat, (1 + i1 : Int) = (n : Int) := ⟨(1 + i1).toNat, by omega⟩
    obtain ⟨m, hm1⟩ : ∃ m : Nat, (1 + i2 : Int) = (m : Int) := ⟨(1 + i2).toNat, by omega⟩
    have hn24 : n ≤ 24 := by omega
    have hm24 : m ≤ 24 := by omega
    have E2 : EnvOk X H2 _ [.val (.ref st), .dat (.int (n : Int)), .dat (.int (m : Int)), .un, .un, .un, .un, .un, .un, .un] := (((En.kps S k1).kps S1 k2).set (i := 1) (v := .int (1 + i1)) (d := .int (n : Int)) (by rw [hn1]; exact .int _)).set (i := 2) (v := .int (1 + i2)) (d := .int (m : Int)) (by rw [hm1]; exact .int _)
    have X1 := tx_xs (n := n) (by omega)
    have X2 := tx_xs (n := m) (by omega)
    refine k_par (g_xs (n := n) S2.t (by omega) (g_var (i := 1) (d := .int (n : Int)) E2 rfl) H2 (Same.refl _) _ fun v3 H3 s3 r3 => g_xs (n := m) (S2.t.mono s3) (by omega) (g_var (i := 2) (d := .int (m : Int)) (E2.same s3) rfl) H3 (Same.refl _) _ fun v4 H4 s4 r4 => ⟨_, _, rfl, ?_⟩)
    have s24 := s3.trans s4
    have S4 := S2.same s24
    have nt4 := nt2.mono S2.t s24
    have E4 : EnvOk X H4 _ [.val (.ref st), .dat (.int (n : Int)), .dat (.int (m : Int)), .dat (wsD (xs n)), .dat (wsD (xs m)), .un, .un, .un, .un, .un] := ((E2.same s24).set (i := 3) (r3.mono (Kp.of s4))).set (i := 4) r4
    have t4 := S4.t
    refine k_asg (k_tup (k_cons ((gn_cover t4 nt4 X1 X2 X1.txt X2.txt (g_var (i := 3) (d := wsD (xs n)) E4 rfl) (g_var (i := 4) (d := wsD (xs m)) E4 rfl)).g H4 (Same.refl _) _ fun v5 H5 s5 r5 => k_cons ?_)))
    refine g_call2 (t4.mono s5) (g_var (i := 3) (d := wsD (xs n)) (E4.same s5) rfl) (g_var (i := 4) (d := wsD (xs m)) (E4.same s5) rfl) ⟨xs n, xs m, rfl, rfl, by rw [xs_len]; omega, by rw [xs_len]; omega, X1.ok, X2.ok⟩ H5 (Same.refl _) _ fun v6 H6a s6a r6 => k_nil ⟨by show 2 ≤ sizeLine; decide, fun pp hpp => ⟨pp, _, rfl, SqT.of upd_same, rfl, _, _, rfl, _, _, rfl, rfl, ?_⟩⟩
    have s6b : Same H6a (upd H6a pp (.tup [v5, v6])) := Same.upd hpp
    have r6 := r6.mono (Kp.of (X := X) s6b)
    have s6 := s6a.trans s6b
    generalize upd H6a pp (.tup [v5, v6]) = H6 at *
    rw [cov_due] at r5
    rw [wsOf_wsD, wsOf_wsD] at r6
    have s46 := s5.trans s6
    have S6 := S4.same s46
    have E6 : EnvOk X H6 _ [.val (.ref st), .dat (.int (n : Int)), .dat (.int (m : Int)), .dat (wsD (xs n)), .dat (wsD (xs m)), .dat (dueD n m), .dat (rowD (matchL (xs n) (xs m))), .un, .un, .un] := ((E4.same s46).set (i := 5) (r5.mono (Kp.of s6))).set (i := 6) r6
    have t6 := S6.t
    have lm : (matchL (xs n) (xs m)).length ≤ 576 := by
      have h1 := psL_len (Mw (xs n) (xs m)) (xs m).length (xs n).length
      have h2 : (xs n).length * (xs m).length ≤ 24 * 24 := Nat.mul_le_mul (by rw [xs_len]; exact hn24) (by rw [xs_len]; exact hm24)
      show (psL _ _ _).length ≤ 576
      omega
    have emin : (if (m : Int) < (n : Int) then (m : Int) else (n : Int)) = ((min n m : Nat) : Int) := by split <;> omega
    refine q_set (i := 7) (d := dueD n m) E6 (g_is (g_lc1 (ds := rangeD 0 (((min n m : Nat) : Int)).toNat) (Γ2 := fun z => [.val (.ref st), .dat (.int (n : Int)), .dat (.int (m : Int)), .dat (wsD (xs n)), .dat (wsD (xs m)), .dat (dueD n m), .dat (rowD (matchL (xs n) (xs m))), .un, .dat z, .un]) (fun z => rowD (cls n m (intOf z).toNat)) t6 (gi_range1 (g_is (g_min2 (g_var (i := 1) (d := .int (n : Int)) E6 rfl) (g_var (i := 2) (d := .int (m : Int)) E6 rfl)) (by rw [emin])) (by omega) (by omega)) (by rw [rangeD_len]; omega) (fun H7 s7 z hz => tgt_name (E6.same s7)) (fun X3 H7 σ3 z hz t7 E7 => ?_)) ?_) fun H7 v7 s7 E7 => ?_
    · obtain ⟨k, hk, rfl⟩ := List.mem_map.mp hz
      have hk := List.mem_range.mp hk
      rw [show (0 : Int) + (k : Int) = (k : Nat) from by omega] at E7 ⊢
      show G X3 _ σ3 H7 (rowD (cls n m ((k : Nat) : Int).toNat))
      rw [show ((k : Nat) : Int).toNat = k from by omega]
      refine g_is (g_lc (ds := (matchL (xs n) (xs m)).map prD) (Γ2 := fun y => [.val (.ref st), .dat (.int (n : Int)), .dat (.int (m : Int)), .dat (wsD (xs n)), .dat (wsD (xs m)), .dat (dueD n m), .dat (rowD (matchL (xs n) (xs m))), .un, .dat (.int (k : Nat)), .dat y]) (fun y => decide (min (prOf y).1 (prOf y).2 = k)) (fun y => y) t7 (gi_list (K := K) (g_var (i := 6) (d := rowD (matchL (xs n) (xs m))) E7 rfl)) (by rw [List.length_map]; omega) (fun H8 s8 y hy => tgt_name (E7.same s8)) (fun X4 H8 σ4 y hy t8 E8 => ?_) (fun X4 H8 σ4 y hy _ t8 E8 => g_var (i := 9) (d := y) E8 rfl)) ?_
      · obtain ⟨p, hp, rfl⟩ := List.mem_map.mp hy
        rw [prOf_prD]
        exact gt_is (gt_eqI t8 (g_minP (K := K) (p := p) (g_var (i := 9) (d := prD p) E8 rfl)) (g_var (i := 8) (d := .int (k : Nat)) E8 rfl)) (decide_eq_decide.mpr (by omega))
      · rw [List.map_id', List.filter_map]
        rfl
    · show PyData.list ((rangeD 0 _).map _) = dueD n m
      unfold rangeD dueD
      rw [List.map_map, show (((min n m : Nat) : Int)).toNat = min n m by omega]
      congr 1
      refine List.map_congr_left fun k hk => ?_
      show rowD (cls n m ((0 : Int) + (k : Int)).toNat) = _
      rw [show ((0 : Int) + (k : Int)).toNat = k by omega]
    have S7 := S6.same s7
    have E7 : EnvOk X H7 _ [.val (.ref st), .dat (.int (n : Int)), .dat (.int (m : Int)), .dat (wsD (xs n)), .dat (wsD (xs m)), .dat (dueD n m), .dat (rowD (matchL (xs n) (xs m))), .dat (dueD n m), .un, .un] := E7
    have t7 := S7.t
    have smd : sm 4 (dueD n m) := by
      have := rows_sm ((List.range (min n m)).map fun k => cls n m k) (by rw [List.length_map, List.length_range]; omega) fun l hl => by
        obtain ⟨k, _, rfl⟩ := List.mem_map.mp hl
        have := cls_len (n := n) (m := m) (k := k) hn24 hm24
        omega
      rw [List.map_map] at this
      exact this
    have fewd : FewC (.list (((List.range (min n m)).map fun k => rowD (cls n m k)).reverse)) := ⟨24, 48, by omega, by omega, by omega, fun _ => ⟨by show (List.reverse _).length ≤ 24; rw [List.length_reverse, List.length_map, List.length_range]; omega, fun z hz _ => by
      obtain ⟨k, _, rfl⟩ := List.mem_map.mp (List.mem_reverse.mp (show z ∈ List.reverse _ from hz))
      show ((cls n m k).map prD).length ≤ 48
      rw [List.length_map]
      exact cls_len hn24 hm24⟩⟩
    refine s_ret (X := X) (d := .bool true) (g_is (g_and (a := true) (b := true) (g_same (n := 4) (d := dueD n m) t7 (g_var (i := 5) (d := dueD n m) E7 rfl) (g_var (i := 7) (d := dueD n m) E7 rfl) smd) fun _ => g_is (g_op t7 (g_iscov t7 X1 X2 X1.txt X2.txt (g_var (i := 3) (d := wsD (xs n)) E7 rfl) (g_var (i := 4) (d := wsD (xs m)) E7 rfl) (g_rev (K := K) t7 (g_var (i := 7) (d := dueD n m) E7 rfl)) fewd) g_bl rb_isB.rd) (by rw [due_ok hn24 hm24]; rfl)) rfl) fun w H8 s8 dw => ?_
    rw [dw.bl_inv]
    exact q H8 ((S7.same s8).le (by omega)) ((k1.trans k2).trans (KpS.of (((s24.trans s46).trans s7).trans s8)))
end K52

/-! What the law leans on. -/
namespace K52
open PySem PySem.Spec PyProof.Rows L2 KD KL KCl
variable {P : Program} {w : World} {K : PySem.W.Frag} {mg : Str → Option Value} {base : Heap}
section
variable {X : Addr → Prop} {σ : L2.St} {H : Hp} {Γ : List Sv} {ta tb te : TE} {ds : List PyData}
/-- a comprehension that tells its item where it stands -/
theorem g_lcS {wi : TI} {g : TG} {vs : List Nat} {Γ2 : PyData → List Sv} (h : PyData → PyData) (t : Trk X H) (hi : GI X wi σ H ds) (hl : ds.length ≤ 100000) (hg : ∀ H1, Same H H1 → ∀ d ∈ ds, Tgt X g σ (Γ2 d) vs d H1)
    (he : ∀ X' H1 σ2 d, d ∈ ds → (∀ a, X a → X' a) → (∀ a, X' a → X a ∨ ∃ ys, H1 a = some (.lst ys)) → Same H H1 → Trk X' H1 → EnvOk X' H1 σ2 (Γ2 d) → G X' te σ2 H1 (h d)) : G X (tLc wi g tYes te vs) σ H (.list (ds.map h)) := fun H1 s Q q =>
  hi H1 s _ fun J H2 s2 wk => by
    intro A hA
    obtain ⟨Gd, Y, w1, w2⟩ := wk
    have s02 := s.trans s2
    have t2 := t.mono s02
    let X' : Addr → Prop := fun a => X a ∨ a = A
    have m2 : More X X' H2 := More.one hA
    refine lc_it w1 (fun i G => (Same H2 G ∧ Trk X' G) ∧ ∃ acc, G A = some (.lst acc) ∧ DXs X' G acc ((ds.take i).map h)) ⟨⟨Same.upd hA, t2.one hA⟩, [], upd_same, .nil⟩ (fun i G _ p => (w2 X' m2.2 G (Kp.of p.1.1) p.1.2).1) ?_ ?_
    · rintro i x G G4 hi' ⟨⟨p1, p2⟩, acc, p3, p4⟩ y
      obtain ⟨s4, d, hd, dx⟩ := (w2 X' m2.2 G (Kp.of p1) p2).2 i x G4 y
      have s14 := p1.trans s4
      have t4 := p2.mono s4
      refine hg H2 s02 d (List.mem_of_getElem? hd) X' G4 m2 (Kp.of s14) t4 x dx _ fun σ2 E2 hw => ⟨hw, k_yes ?_⟩
      refine he X' G4 σ2 d (List.mem_of_getElem? hd) (fun a z => .inl z) (fun a z => z.elim .inl fun z => .inr ⟨acc, z ▸ s4 _ _ p3⟩) (s02.trans s14) t4 E2 G4 (Same.refl _) _ fun y5 G5 s5 ry => ?_
      have s35 := s4.trans s5
      have lacc : acc.length ≤ 100000 := by
        rw [p4.length, List.length_map]
        exact Nat.le_trans (List.length_take_le _ _) (by omega)
      refine ⟨acc, s35 _ _ p3, by rw [sizeLine_eq]; omega, ⟨Same.mut (p1.trans s35) hA, (p2.mono s35).put⟩, acc ++ [y5], upd_same, ?_⟩
      rw [List.take_add_one, hd, Option.toList_some, List.map_append]
      exact ((p4.mono (Kp.of s35)).snoc ry).mono (Kp.put (.inr rfl))
    · rintro G ⟨⟨p1, p2⟩, acc, p3, p4⟩
      rw [List.take_length] at p4
      exact q (.ref A) G (s2.trans p1) (.lst (t2.new hA) p3 (p4.less fun _ => .inl))
/-- draws in a list, where no address is a tuple's -/
theorem lc_drawsT (c : Nat) {st cl : Addr} {n : Nat} {i m : Nat} {Q : VK} (pr : PyData → Prop) (S : Sg X st cl n H) (nt : NoT X H) (En : EnvOk X H σ Γ) (hm : m ≤ 100000)
    (he : ∀ X' H1 σ2 k Q1, k < m → EnvOk X' H1 σ2 ((Γ.set i .un).set i (.dat (.int (k : Nat)))) → Sg X' st cl (n + c * k) H1 → NoT X' H1 → (∀ w d H', pr d → Sg X' st cl (n + c * k + c) H' → KpS st cl H1 H' → DX X' H' w d → Q1 w H') → te σ2 H1 Q1)
    (q : ∀ w ds H', ds.length = m → (∀ d ∈ ds, pr d) → Sg X st cl (n + c * m) H' → KpS st cl H H' → DX X H' w (.list ds) → Q w H') : tLc (fun σ H R => R (Itr 0 m) H) (gName i) tYes te [i] σ H Q := by
  intro D hD
  have m2 : More X (fun a => X a ∨ a = D) H := More.one hD
  have d1 := S.ne1 hD
  have d2 := S.ne2 hD
  obtain ⟨Gd, Y, w1, w2⟩ := walkD_range (X := X) (H := H) (lo := 0) (n := m)
  rw [rangeD_len] at w1
  have key : ∀ H3, Kp (fun a => X a ∨ a = D) H H3 ∧ Trk (fun a => X a ∨ a = D) H3 → Gd H3 := fun H3 p => (w2 _ m2.2 H3 p.1 p.2).1
  let I : Nat → Hp → Prop := fun k H3 => KpS st cl H H3 ∧ Sg (fun a => X a ∨ a = D) st cl (n + c * k) H3 ∧ ∃ acc ds, H3 D = some (.lst acc) ∧ DXs (fun a => X a ∨ a = D) H3 acc ds ∧ ds.length = k ∧ ∀ d ∈ ds, pr d
  have ik : ∀ {k H3}, I k H3 → Kp (fun a => X a ∨ a = D) H H3 ∧ Trk (fun a => X a ∨ a = D) H3 := fun {k H3} p => ⟨p.1.kp (.inl S.x1) (.inl S.x2), p.2.1.t⟩
  refine lc_it w1 I ?_ (fun i H3 _ p => key H3 (ik p)) ?_ ?_
  · exact ⟨KpS.of (Same.upd hD), ⟨(S.ok).same (Same.upd hD), .inl S.x1, .inl S.x2, S.t.one hD⟩, [], [], upd_same, .nil, rfl, fun d h => by cases h⟩
  · rintro k x H3 H4 hk p y
    obtain ⟨s4, d, hd, dx⟩ := (w2 _ m2.2 H3 (ik p).1 (ik p).2).2 k x H4 y
    obtain ⟨p1, p2, acc, ds, p3, p4, p5, p6⟩ := p
    rw [rangeD_get hk] at hd
    cases hd
    have S4 := p2.same s4
    have k4 : Kp (fun a => X a ∨ a = D) H H4 := (p1.kp (.inl S.x1) (.inl S.x2)).trans (Kp.of s4)
    have n4 : NoT (fun a => X a ∨ a = D) H4 := fun a ha xs e => by
      rcases ha with ha | ha
      · exact (nt.kps S ⟨S4.ok, S.x1, S.x2, fun b hb => S4.t b (.inl hb)⟩ (p1.trans (KpS.of s4))) a ha xs e
      · rw [ha, s4 _ _ p3] at e
        cases e
    refine tgt_name (X := X) (i := i) En _ H4 m2 k4 S4.t x dx _ fun σ2 E2 hw => ⟨hw, ?_⟩
    refine k_yes ?_
    rw [show (0 : Int) + (k : Int) = (k : Nat) from by omega] at E2
    refine he _ H4 σ2 k _ hk E2 S4 n4 fun w d H5 hp S5 k5 dw => ?_
    refine ⟨acc, k5 D _ d1 d2 (s4 D _ p3), by rw [p4.length, p5, sizeLine_eq]; omega, ?_, ?_, acc ++ [w], ds ++ [d], upd_same, ?_, by rw [List.length_append, p5]; rfl, fun z hz => ?_⟩
    · exact fun a o n1 n2 e => by
        have := k5 a o n1 n2 (s4 a _ (p1 a o n1 n2 e))
        rw [upd_ne (ne_of_none e hD)]
        exact this
    · rw [Nat.mul_succ, ← Nat.add_assoc]
      exact S5.put d1 d2
    · exact (((p4.mono (Kp.of s4)).mono (S4.kp k5)).snoc dw).mono (Kp.put (.inr rfl))
    · rcases List.mem_append.mp hz with h | h
      · exact p6 z h
      · rw [List.mem_singleton.mp h]
        exact hp
  · rintro H3 ⟨p1, p2, acc, ds, p3, p4, p5, p6⟩
    have nXD : ¬ X D := S.t.new hD
    exact q (.ref D) ds H3 p5 p6 ⟨p2.ok, S.x1, S.x2, fun a h => p2.t a (.inl h)⟩ p1 (.lst nXD p3 (p4.less fun a => .inl))
theorem gt_inD {d : PyData} (t : Trk X H) (ha : G X ta σ H d) (hb : G X tb σ H (.list ds)) (n1 : noDict d = true) (n2 : noDict (.list ds) = true) (s1 : SeqAt.shaped d = true) (s2 : SeqAt.shaped (.list ds) = true) : GT (tTest (tOp (rInD K) ta tb)) σ H (ds.any fun z => PyData.eqv z d) :=
  gt_op t ha hb fun H u v _ ru rv Q q => ⟨d, ds, ru.dp n1, rv.dp n2, s1, s2, q⟩
end
/-! ### each longest row meets each level once -/
def lvl (M : Nat → Nat → Bool) (n m k : Nat) : List Pr := ofLev (lvC M m n) k
theorem lvl_in {M : Nat → Nat → Bool} {n m k : Nat} {p : Pr} (h : p.1 < n ∧ p.2 < m ∧ M p.1 p.2 = true) : p ∈ lvl M n m k ↔ lev M p = k + 1 := by
  unfold lvl
  rw [ofLev_ps, List.mem_filter, decide_eq_true_iff]
  exact ⟨fun h => h.2, fun e => ⟨(psL_mem p).mpr h, e⟩⟩
theorem any_pr (ps : List Pr) (p : Pr) : ((ps.map prD).any fun z => PyData.eqv z (prD p)) = decide (p ∈ ps) := by
  rw [Bool.eq_iff_iff, List.any_eq_true, decide_eq_true_iff]
  constructor
  · rintro ⟨z, hz, e⟩
    obtain ⟨q, hq, rfl⟩ := List.mem_map.mp hz
    have e : PyData.eqv (.tuple [.int (q.1 : Nat), .int (q.2 : Nat)]) (.tuple [.int (p.1 : Nat), .int (p.2 : Nat)]) = true := e
    rw [eqv_pair, Bool.and_eq_true, decide_eq_true_iff, decide_eq_true_iff] at e
    have : q = p := Prod.ext (by omega) (by omega)
    exact this ▸ hq
  · intro h
    refine ⟨prD p, List.mem_map.mpr ⟨p, h, rfl⟩, ?_⟩
    show PyData.eqv (.tuple [.int _, .int _]) (.tuple [.int _, .int _]) = true
    rw [eqv_pair, decide_eq_true rfl, decide_eq_true rfl]
    rfl
theorem lev_row {M : Nat → Nat → Bool} {n m : Nat} {r : List Pr} (h1 : Ch M r) (h2 : Bd n m r) (h3 : r.length = L M n m) (j : Nat) (hj : j < r.length) : lev M r[j] = j + 1 := by
  have low : ∀ j (hj : j < r.length), j + 1 ≤ lev M r[j] := fun j hj => by
    have e : r.take j ++ [r[j]] = r.take (j + 1) := by rw [List.take_add_one, List.getElem?_eq_getElem hj]; rfl
    have hc : Ch M (r.take j ++ [r[j]]) := by
      rw [e]
      exact ch_left (k := r.drop (j + 1)) (by rw [List.take_append_drop]; exact h1)
    have := lev_up hc
    rw [List.length_take] at this
    omega
  have high : ∀ d j (hj : j < r.length), j + d + 1 = r.length → lev M r[j] + d ≤ r.length := fun d => by
    induction d with
    | zero =>
      intro j hj e
      have b := h2 r[j] (List.getElem_mem hj)
      have := lev_top b.1 b.2 (h1.2 _ (List.getElem_mem hj))
      omega
    | succ d ih =>
      intro j hj e
      have hj2 : j + 1 < r.length := by omega
      have := ih (j + 1) hj2 (by omega)
      have pw := List.pairwise_iff_getElem.mp h1.1 j (j + 1) hj hj2 (by omega)
      have lt := lev_beh (M := M) (p := r[j + 1]) (q := r[j]) (h1.2 _ (List.getElem_mem hj)) pw.1 pw.2
      unfold lev at this lt ⊢
      omega
  have a := low j hj
  have b := high (r.length - 1 - j) j hj (by omega)
  omega
theorem row_once {M : Nat → Nat → Bool} {n m : Nat} {r : List Pr} (h1 : Ch M r) (h2 : Bd n m r) (h3 : r.length = L M n m) {k : Nat} (hk : k < L M n m) : (r.filter fun p => decide (p ∈ lvl M n m k)).length = 1 := by
  have inn : ∀ j (hj : j < r.length), decide (r[j] ∈ lvl M n m k) = decide (j = k) := fun j hj => by
    have b := h2 r[j] (List.getElem_mem hj)
    refine decide_eq_decide.mpr ?_
    rw [lvl_in ⟨b.1, b.2, h1.2 _ (List.getElem_mem hj)⟩, lev_row h1 h2 h3 j hj]
    omega
  have hk' : k < r.length := by omega
  have e : r = r.take k ++ r[k] :: r.drop (k + 1) := by rw [← List.drop_eq_getElem_cons hk', List.take_append_drop]
  have f1 : (r.take k).filter (fun p => decide (p ∈ lvl M n m k)) = [] := by
    rw [List.filter_eq_nil_iff]
    intro p hp
    obtain ⟨j, hj⟩ := List.mem_iff_getElem?.mp hp
    rw [List.getElem?_take] at hj
    split at hj
    · rename_i lt
      obtain ⟨l1, e1⟩ := List.getElem?_eq_some_iff.mp hj
      rw [← e1, inn j l1, decide_eq_true_iff]
      omega
    · cases hj
  have f2 : (r.drop (k + 1)).filter (fun p => decide (p ∈ lvl M n m k)) = [] := by
    rw [List.filter_eq_nil_iff]
    intro p hp
    obtain ⟨j, hj⟩ := List.mem_iff_getElem?.mp hp
    rw [List.getElem?_drop] at hj
    obtain ⟨l1, e1⟩ := List.getElem?_eq_some_iff.mp hj
    rw [← e1, inn _ l1, decide_eq_true_iff]
    omega
  have f3 : decide (r[k] ∈ lvl M n m k) = true := by
    rw [inn k hk']
    exact decide_eq_true rfl
  rw [e, List.filter_append, List.filter_cons, f1, f2, if_pos f3]
  rfl
def lvls (M : Nat → Nat → Bool) (n m : Nat) : List (List Pr) := (List.range (L M n m)).map (lvl M n m)
theorem cov_lvls (M : Nat → Nat → Bool) (n m : Nat) : covD M n m = .list ((lvls M n m).map rowD) := by
  unfold covD lvls lvl
  rw [List.map_map]
  rfl
theorem lvls_len {M : Nat → Nat → Bool} {n m : Nat} (h : n ≤ 7) : (lvls M n m).length ≤ 7 := by
  unfold lvls
  rw [List.length_map, List.length_range]
  have := L_le (M := M) (i := n) (j := m)
  omega
theorem lvls_flat {M : Nat → Nat → Bool} {n m : Nat} (h1 : n ≤ 7) (h2 : m ≤ 7) : (lvls M n m).flatten.length ≤ 49 := by
  have e : (lvls M n m).flatten = (List.range (L M n m)).flatMap fun k => (psL M n m).filter fun p => decide (lev M p - 1 = k) := by
    unfold lvls
    rw [← List.flatMap_def]
    refine fmc fun k _ => ?_
    unfold lvl
    rw [ofLev_ps]
    refine List.filter_congr fun p _ => decide_eq_decide.mpr ?_
    unfold lev
    omega
  rw [e, (classes (fun p => lev M p - 1) (psL M n m) (L M n m)).length_eq]
  have a := List.length_filter_le (fun p => decide (lev M p - 1 < L M n m)) (psL M n m)
  have b := psL_len M m n
  have c : n * m ≤ 7 * 7 := Nat.mul_le_mul h1 h2
  omega
theorem lvls_pos {M : Nat → Nat → Bool} {n m : Nat} : ∀ l ∈ lvls M n m, 0 < l.length := fun l hl => by
  obtain ⟨k, hk, rfl⟩ := List.mem_map.mp hl
  have hk := List.mem_range.mp hk
  obtain ⟨r, a, b, c⟩ := L_is (M := M) n m
  have h1 := row_once a b c hk
  cases e : lvl M n m k with
  | cons x y => simp
  | nil =>
    rw [e] at h1
    have h2 : (r.filter fun p => decide (p ∈ ([] : List Pr))) = [] := List.filter_eq_nil_iff.mpr fun p _ => by simp
    rw [h2] at h1
    cases h1
end K52

/-! The law. -/
namespace K52
open PySem PySem.Spec PyProof.Rows L2 KD KL KCl
-- RAISES check_texts least_cover common_row is_cover _law_one_word_right
-- HINT law in (op_inDK (K := K) rfl (Nat.lt_of_le_of_lt (Nat.add_le_add_left (by decide : 65 ≤ 16 * 8 + 200) _) (Nat.add_assoc _ _ _ ▸ hr.un)))
-- HINT law it#1 pi_keys
-- HINT law dgetn _law_ranks
-- HINT law lock#2 yes
-- HINT law lcte#1 (tLockE (tLc (iKeys (tVar 5)) (gName 13) (tTest (tOp (rEqD K) (tDGet (tVar 5) (tVar 13)) (tOp rAddA (tVar 12) (tC (.int 1))))) (tVar 13) [13]))
-- HINT law lcte#3 (tCB (fun xs H Q => ∃ x n, xs = [x] ∧ LenV K x H n ∧ Q (V.int n) H) (tCons (tLc (iList K (tVar 9)) (gName 13) (tTest (tOp (rInD K) (tVar 13) (tVar 14))) (tVar 13) [13]) tNil))
-- HINT law lcsc#2 scDue
-- HINT law lcsc#4 scLev
variable {P : Program} {w : World} {K : PySem.W.Frag} {mg : Str → Option Value} {base : Heap}
def scDue : Scope := { kind := ScopeKind.function, names := [(".0", NameKind.local), ("_law_k", NameKind.cell), ("_law_ranks", NameKind.cell)], isGenerator := false, isCoroutine := false }
def scLev : Scope := { kind := ScopeKind.function, names := [(".0", NameKind.local), ("_law_level", NameKind.cell), ("len", NameKind.globalImplicit), ("_law_row", NameKind.cell)], isGenerator := false, isCoroutine := false }
/-! ### -/
theorem op_inDK {X : Cx} (h : X.K = K) (hu : X.A.units + 65 < cLine) : OpR X (compareOp .In) (rInD K) := h ▸ op_inD hu
section
variable {X : Addr → Prop} {σ : L2.St} {H : Hp} {ta tb tc te : TE} {E : XK} {ws vs : List Str} {Q : VK} {D : Ends} {st cl : Addr} {n : Nat}
theorem nW_wd : ∀ s ∈ nW, isWordsD (.str s) = true ∧ PyData.strOk s = true := by decide +kernel
theorem mW_nW : ∀ s ∈ mW, s ∈ nW := by decide +kernel
theorem tx_nW (h : ws.length ≤ 7) (hw : ∀ z ∈ ws, z ∈ nW) : Tx ws := ⟨by omega, fun s hs => nW_wd s (hw s hs)⟩
theorem k_orN {tu : TT} {Qb : Bool → Hp → Prop} (h : te σ H fun x H1 => ∃ c, x = V.bl c ∧ (if (!c) = true then Qb true H1 else tu σ H1 Qb)) : tOr (tNot (tB te)) tu σ H Qb := h
theorem k_nB {Qb : Bool → Hp → Prop} (h : te σ H fun x H1 => ∃ c, x = V.bl c ∧ Qb (!c) H1) : tNot (tB te) σ H Qb := h
theorem k_if {tt : TT} {tu tz : TS} (h : tt σ H fun b H1 => if b = true then tu { D with nx := tz D } σ H1 else tz D σ H1) : tSeq (tIfS tt tu tNext) tz D σ H := h
theorem k_call2 {sp : Sp} (h : ta σ H fun v1 H1 => tb σ H1 fun v2 H2 => sp [v1, v2] H2 Q E) : tCall sp [] E (tCons ta (tCons tb tNil)) σ H Q := h
theorem c_passed {ds : List PyData} (S : Sg X st cl n H) (hv : GV ta σ H (.ref st)) (hm : G X tb σ H (.list ds)) (hn : n ≤ 1000000000) (h1 : ds.length ≤ 1000)
    (k : ∀ w d H', (d = .list ds ∨ d = .tuple ds) → Sg X st cl (n + 1) H' → KpS st cl H H' → DX X H' w d → Q w H') : tCall spMPassed [] E (tCons ta (tCons tb tNil)) σ H Q :=
  hv H (Same.refl H) _ (hm H (Same.refl H) _ fun v H1 s1 r => ⟨X, st, cl, n, v, ds, rfl, S.same s1, hn, r, h1, fun w d H' h1 S2 kk dw => k w d H' h1 S2 ((KpS.of s1).trans kk) dw⟩)
theorem NoT.of {m : Nat} (hX : ∀ b, X b → b = st ∨ b = cl) (S : Sg X st cl m H) : NoT X H := fun a ha xs e => by
  obtain ⟨ms, x, y, z, SS, _⟩ := S.ok
  rcases hX a ha with h | h
  · rw [h, SS.hs] at e
    cases e
  · rw [h, SS.hc] at e
    cases e
end
theorem eqvAll_self : ∀ {ds : List PyData}, (∀ d ∈ ds, PyData.eqv d d = true) → PyData.eqvAll ds ds = true
  | [], _ => by simp [PyData.eqvAll]
  | d :: r, h => by simp [PyData.eqvAll, h d List.mem_cons_self, eqvAll_self fun z hz => h z (List.mem_cons_of_mem _ hz)]
theorem row_all {ws vs : List Str} {r : List Pr} : r ∈ longestL ws vs ↔ Ch (Mw ws vs) r ∧ Bd ws.length vs.length r ∧ r.length = L (Mw ws vs) ws.length vs.length := by
  have hps : ∀ p : Pr, p ∈ matchL ws vs ↔ (p.1 < ws.length ∧ p.2 < vs.length ∧ Mw ws vs p.1 p.2 = true) := psL_mem
  exact ⟨fun h => rows_sound hps _ _ h, fun h => rows_full hps _ _ h.1 h.2.1 h.2.2⟩
theorem com_mem (ws vs : List Str) : comR ws vs ∈ longestL ws vs := row_all.mpr ⟨(comR_is ws vs).ch, (comR_is ws vs).bd, (comR_is ws vs).len⟩
theorem row_short {ws vs : List Str} {r : List Pr} (hw : ws.length ≤ 7) (h : r ∈ longestL ws vs) : r.length ≤ 7 := by
  obtain ⟨h1, h2, h3⟩ := row_all.mp h
  have := len_fst h1 (lo := 0) (hi := ws.length) fun p hp => ⟨Nat.zero_le _, (h2 p hp).1⟩
  omega
theorem rows_most {ws vs : List Str} (h1 : ws.length ≤ 7) (h2 : vs.length ≤ 7) : (longestL ws vs).length ≤ 3432 := by
  have h := rows_many (M := Mw ws vs) (n := ws.length) (m := vs.length) (L (Mw ws vs) ws.length vs.length)
  have h3 := S_left ws.length vs.length 7 7 h1 h2
  rw [S_seven] at h3
  show (rowsOf (psL (Mw ws vs) ws.length vs.length) _).length ≤ 3432
  omega
def thgs : List PyData := [.none, .int 5, .str "ab", .dict [], .list [.none], .list [.list []], .list [.int 5], .tuple [], .list [.list [.str "a"]]]
theorem few_thgs : ∀ d ∈ thgs, FewC d := fun d hd => by
  simp only [thgs, List.mem_cons, List.not_mem_nil, or_false] at hd
  rcases hd with rfl | rfl | rfl | rfl | rfl | rfl | rfl | rfl | rfl <;> refine ⟨1, 1, by omega, by omega, by omega, fun h => ?_⟩ <;> first | exact absurd h (by decide) | (refine ⟨by simp [itemsD], fun z hz _ => ?_⟩; simp [itemsD] at hz; try (subst hz; simp [itemsD]))
def Gm0 (st : Addr) : List Sv := [.un, .val (.ref st), .un, .un, .un, .un, .un, .un, .un, .un, .un, .un, .un, .un, .un]
abbrev s_law : Stmt := topS 41
abbrev n_law : List Str := ["_law_script", "_law_stream", "_law_turn", "_law_one", "_law_other", "_law_ranks", "_law_rows", "_law_due", "_law_told", "_law_row", "_law_some", "_law_thing", "_law_k", "_law_pair", "_law_level"]
theorem sc_law : FnScope n_law ["_law_script"] (defScope s_law) := ⟨rfl, rfl, rfl, by decide +kernel, rfl, by decide +kernel, by decide +kernel⟩
structure Lib (P : Program) (w : World) (K : PySem.W.Frag) (mg : Str → Option Value) (base : Heap) : Prop where
  T : Bl mg
  start : Own P w K mg base CX0 1 "_law_start" ["_law_script"] (spStart K)
  pick : Own P w K mg base CX0 2 "_law_pick" ["_law_stream", "_law_some"] spPick
  text : Own P w K mg base CX0 3 "_law_m_text" ["_law_stream", "_law_most"] spMText
  near : Own P w K mg base CX0 3 "_law_m_near" ["_law_stream", "_law_text", "_law_most"] spNear
  passed : Own P w K mg base CX0 3 "_law_m_passed" ["_law_stream", "_law_text"] spMPassed
  longest : Own P w K mg base CX0 2 "_law_m_longest" ["_law_one", "_law_other"] (sp2 ws7 fun a b => rowsD (longestL (wsOf a) (wsOf b)))
  ranks : Own P w K mg base CX0 2 "_law_m_ranks" ["_law_one", "_law_other"] spRanks
  same : Own P w K mg base CX0 6 "_law_same" ["_law_found", "_law_due"] (spSame 4)
  isc : Own P w K mg base CX0 3 "_law_is_cover" ["_law_one", "_law_other", "_law_thing"] (sp3 icPre fun a b c => .bool (isCovD (wsOf a) (wsOf b) c))
  bent : Own P w K mg base CX0 3 "_law_bent" ["_law_stream", "_law_cover"] spBent
  oneW : Own P w K mg base (L2.CX P w) 7 "_law_one_word_right" ["_law_stream"] spOne
  com : Own P w K mg base (L2.CX P w) 4 "common_row" ["one", "other"] spCommon
  cover : Own P w K mg base (L2.CX P w) 4 "least_cover" ["one", "other"] spCover
  icr : Own P w K mg base (L2.CX P w) 5 "is_cover" ["one", "other", "thing"] spCov
theorem law_reads {f a : Addr} {cdv : Value} {s : Shared} {H : Hp} {E : XK} {ns : List Int} (Lb : Lib P w K mg base) (hr : Room 8 (callerA.deeper (envOfC "law" (defScope s_law) s.heap.objs.size f cdv))) (hS : SqL K H a (ns.map V.int)) (hl : ns.length ≤ 63) :
    ∃ t, PSs (cxOf CX0 P w K mg base n_law "law" (defScope s_law) f cdv callerA [] s H E).nox (defBody s_law) t ∧ t { nx := fun _ _ => V.non = V.bl true, rt := fun v _ => v = V.bl true } (L2.start n_law [.ref a]) H := by
  obtain ⟨T, O__law_start, O__law_pick, O__law_m_text, O__law_m_near, O__law_m_passed, O__law_m_longest, O__law_m_ranks, O__law_same, O__law_is_cover, O__law_bent, O__law_one_word_right, O_common_row, O_least_cover, O_is_cover⟩ := Lb
  have hrr := hr
  refine ⟨_, (pss_cons (ps_set (i := 1) sc_law.nd rfl (by first | exact Or.inl rfl | exact Or.inr rfl) (pe_own O__law_start hr (by decide) (by rfl) (pa_cons (pv 0) pa_nil)))
    (pss_cons (ps_if (pt_not (pt_val (pe_ownX O__law_one_word_right hr (by decide) LamX.takes0 (by rfl) (pa_cons (pv 1) pa_nil))))
    (pss_one (ps_ret pe_bl)) pss_nil)
    (pss_cons (ps_for PassesOwn.never rfl (pi_range1 (by rfl) T.b_range (pa_cons pe_int pa_nil)) (pg_name (i := 2) sc_law.nd rfl (by first | exact Or.inl rfl | exact Or.inr rfl))
    (pss_cons (ps_set (i := 3) sc_law.nd rfl (by first | exact Or.inl rfl | exact Or.inr rfl) (pe_own O__law_m_text hr (by decide) (by rfl) (pa_cons (pv 1) (pa_cons pe_int pa_nil))))
    (pss_cons (ps_set (i := 4) sc_law.nd rfl (by first | exact Or.inl rfl | exact Or.inr rfl) (pe_own O__law_pick hr (by decide) (by rfl) (pa_cons (pv 1) (pa_cons (pe_lst (pa_cons (pe_own O__law_m_near hr (by decide) (by rfl) (pa_cons (pv 1) (pa_cons (pv 3) (pa_cons pe_int pa_nil)))) (pa_cons (pe_own O__law_m_text hr (by decide) (by rfl) (pa_cons (pv 1) (pa_cons pe_int pa_nil))) pa_nil))) pa_nil))))
    (pss_cons (ps_asg (pe_tup (pa_cons (pe_own O__law_m_ranks hr (by decide) (by rfl) (pa_cons (pv 3) (pa_cons (pv 4) pa_nil))) (pa_cons (pe_own O__law_m_longest hr (by decide) (by rfl) (pa_cons (pv 3) (pa_cons (pv 4) pa_nil))) pa_nil))) (pg_tup (n := 2) rfl (pgs_cons (pg_name (i := 5) sc_law.nd rfl (by first | exact Or.inl rfl | exact Or.inr rfl)) (pgs_cons (pg_name (i := 6) sc_law.nd rfl (by first | exact Or.inl rfl | exact Or.inr rfl)) pgs_nil))))
    (pss_cons (ps_setLc (i := 7) (own := [("_law_k", 12)]) (g := (gName 12)) (tt := tYes) (te := (tLockE (tLc (iKeys (tVar 5)) (gName 13) (tTest (tOp (rEqD K) (tDGet (tVar 5) (tVar 13)) (tOp rAddA (tVar 12) (tC (.int 1))))) (tVar 13) [13]))) rfl sc_law.nd rfl rfl (sw_true rfl rfl rfl (by decide +kernel)) (pi_range1 (by rfl) T.b_range (pa_cons (pe_callB call_len (by rfl) T.b_len boot_len (pa_cons (pe_ix ix_seq (pv 6) pe_int (fun _ _ => rfl)) pa_nil)) pa_nil)) (blkOk_by (N := n_law) (sc := defScope s_law) (by decide +kernel)) (fun _ _ _ _ _ => (pg_name (i := 12) sc_law.nd rfl (by first | exact Or.inl rfl | exact Or.inr rfl))) (fun _ _ _ _ _ => pts_nil) (fun _ _ _ _ _ => (by exact (pe_lock (pe_lc (own := [("_law_pair", 13)]) (g := (gName 13)) rfl sc_law.nd (pi_keys (pv 5)) (blkOk_by (N := n_law) (sc := scDue) (by decide +kernel)) (fun _ _ _ _ _ => (pg_name (i := 13) sc_law.nd rfl (by first | exact Or.inl rfl | exact Or.inr rfl))) (fun _ _ _ _ _ => (pts_one (pt_cmpR (op_eqD hr.units) (pe_dget (hu_of hr) (pv 5) (pv 13) (fun _ _ => rfl)) (pe_op op_addA (pv 12) pe_int) (nomark _)))) (fun _ _ _ _ _ => (pv 13)))))))
    (pss_cons (ps_set (i := 8) sc_law.nd rfl (by first | exact Or.inl rfl | exact Or.inr rfl) (pe_ownX O_least_cover hr (by decide) LamX.takes0 (by rfl) (pa_cons (pe_own O__law_m_passed hr (by decide) (by rfl) (pa_cons (pv 1) (pa_cons (pv 3) pa_nil))) (pa_cons (pe_own O__law_m_passed hr (by decide) (by rfl) (pa_cons (pv 1) (pa_cons (pv 4) pa_nil))) pa_nil))))
    (pss_cons (ps_if (PW.pt (pw_or (pt_not (pt_val (pe_own O__law_same hr (by decide) (by rfl) (pa_cons (pv 8) (pa_cons (pv 7) pa_nil))))) (pw_or1 (pt_cmpR (op_neD hr.units) (pe_callB call_len (by rfl) T.b_len boot_len (pa_cons (pe_ownX O_common_row hr (by decide) LamX.takes0 (by rfl) (pa_cons (pv 3) (pa_cons (pv 4) pa_nil))) pa_nil)) (pe_callB call_len (by rfl) T.b_len boot_len (pa_cons (pv 8) pa_nil)) (nomark _)))))
    (pss_one (ps_ret pe_bl)) pss_nil)
    (pss_cons (ps_for PassesOwn.never rfl (pi_list (pe_slice sl_list (pv 6) po_none (po_some pe_int))) (pg_name (i := 9) sc_law.nd rfl (by first | exact Or.inl rfl | exact Or.inr rfl))
    (pss_one (ps_if (pt_cmpR (op_neD hr.units) (pe_lc (own := [("_law_level", 14)]) (g := (gName 14)) (tt := tYes) (te := (tCB (fun xs H Q => ∃ x n, xs = [x] ∧ LenV K x H n ∧ Q (V.int n) H) (tCons (tLc (iList K (tVar 9)) (gName 13) (tTest (tOp (rInD K) (tVar 13) (tVar 14))) (tVar 13) [13]) tNil))) rfl sc_law.nd (pi_list (pv 8)) (blkOk_by (N := n_law) (sc := defScope s_law) (by decide +kernel)) (fun _ _ _ _ _ => (pg_name (i := 14) sc_law.nd rfl (by first | exact Or.inl rfl | exact Or.inr rfl))) (fun _ _ _ _ _ => pts_nil) (fun _ _ _ _ _ => (pe_callB call_len (by rfl) T.b_len boot_len (pa_cons (by exact (pe_lc (own := [("_law_pair", 13)]) (g := (gName 13)) rfl sc_law.nd (pi_list (pv 9)) (blkOk_by (N := n_law) (sc := scLev) (by decide +kernel)) (fun _ _ _ _ _ => (pg_name (i := 13) sc_law.nd rfl (by first | exact Or.inl rfl | exact Or.inr rfl))) (fun _ _ _ _ _ => (pts_one (pt_cmpR (op_inDK (K := K) rfl (Nat.lt_of_le_of_lt (Nat.add_le_add_left (by decide : 65 ≤ 16 * 8 + 200) _) (Nat.add_assoc _ _ _ ▸ hr.un))) (pv 13) (pv 14) (by rfl)))) (fun _ _ _ _ _ => (pv 13)))) pa_nil)))) (pe_op op_mulA (pe_lst (pa_cons pe_int pa_nil)) (pe_callB call_len (by rfl) T.b_len boot_len (pa_cons (pv 8) pa_nil))) (nomark _))
    (pss_one (ps_ret pe_bl)) pss_nil)))
    (pss_cons (ps_set (i := 10) sc_law.nd rfl (by first | exact Or.inl rfl | exact Or.inr rfl) (pe_op op_addA (pe_lst (pa_cons (pv 8) (pa_cons pe_non (pa_cons pe_int (pa_cons pe_str (pa_cons pe_dnewK (pa_cons (pe_lst (pa_cons pe_non pa_nil)) (pa_cons (pe_lst (pa_cons (pe_lst pa_nil) pa_nil)) (pa_cons (pe_lst (pa_cons pe_int pa_nil)) (pa_cons (pe_tup pa_nil) (pa_cons (pe_lst (pa_cons (pe_lst (pa_cons pe_str pa_nil)) pa_nil)) pa_nil))))))))))) (pe_lc (own := [("_law_k", 12)]) (g := (gName 12)) (tt := tYes) rfl sc_law.nd (pi_range1 (by rfl) T.b_range (pa_cons pe_int pa_nil)) (blkOk_by (N := n_law) (sc := defScope s_law) (by decide +kernel)) (fun _ _ _ _ _ => (pg_name (i := 12) sc_law.nd rfl (by first | exact Or.inl rfl | exact Or.inr rfl))) (fun _ _ _ _ _ => pts_nil) (fun _ _ _ _ _ => (pe_own O__law_bent hr (by decide) (by rfl) (pa_cons (pv 1) (pa_cons (pv 8) pa_nil)))))))
    (pss_cons (ps_for PassesOwn.never rfl (pi_list (pv 10)) (pg_name (i := 11) sc_law.nd rfl (by first | exact Or.inl rfl | exact Or.inr rfl))
    (pss_one (ps_if (pt_not (pt_val (pe_own O__law_same hr (by decide) (by rfl) (pa_cons (pe_ownX O_is_cover hr (by decide) LamX.takes0 (by rfl) (pa_cons (pv 3) (pa_cons (pv 4) (pa_cons (pv 11) pa_nil)))) (pa_cons (pe_own O__law_is_cover hr (by decide) (by rfl) (pa_cons (pv 3) (pa_cons (pv 4) (pa_cons (pv 11) pa_nil)))) pa_nil)))))
    (pss_one (ps_ret pe_bl)) pss_nil)))
    (pss_cons (ps_expr (pe_bm PySem.F.plainAttrs_list PySem.F.slot_list_append PySem.F.type_list_append mt_append (pv 8) (pa_cons pe_str pa_nil)))
    (pss_one (ps_if (pt_not (pt_val (pe_own O__law_same hr (by decide) (by rfl) (pa_cons (pe_ownX O_least_cover hr (by decide) LamX.takes0 (by rfl) (pa_cons (pv 3) (pa_cons (pv 4) pa_nil))) (pa_cons (pv 7) pa_nil)))))
    (pss_one (ps_ret pe_bl)) pss_nil)))))))))))))
    (pss_one (ps_ret pe_bl))))), ?_⟩
  clear hrr
  -- the spring
  refine k_set ?_
  refine ⟨.ref a, rfl, a, ns, rfl, hS, hl, fun st cl H1 s1 h1 h2 so => ?_⟩
  have hst : ∃ ms x y z, SpAt st cl ms x y z H1 := by
    obtain ⟨ms, x, y, z, S, _⟩ := so
    exact ⟨ms, x, y, z, S⟩
  let X : Addr → Prop := fun b => b = st ∨ b = cl
  have hX : ∀ b, X b → b = st ∨ b = cl := fun b h => h
  have Z1 : Sg X st cl 0 H1 := ⟨so, .inl rfl, .inr rfl, fun b hb => by
    obtain ⟨ms, x, y, z, S⟩ := hst
    rcases hb with rfl | rfl
    · exact ⟨_, S.hs⟩
    · exact ⟨_, S.hc⟩⟩
  have E1 : EnvOk X H1 ((L2.start n_law [.ref a]).set 1 (some (.ref st))) (Gm0 st) := ⟨rfl, fun i s e => by
    rcases i with _ | _ | _ | _ | _ | _ | _ | _ | _ | _ | _ | _ | _ | _ | _ | i
    all_goals first | (cases e; first | rfl | trivial) | cases e⟩
  clear hst so h1 h2 s1
  -- texts of one word
  refine k_if (k_nB ?_)
  refine ⟨.ref st, E1.get 1 _ rfl, X, st, cl, 0, rfl, Z1, NoT.of hX Z1, by omega, fun HB SB kB => ⟨true, rfl, ?_⟩⟩
  have EB := E1.kps Z1 kB
  rw [if_neg (by decide)]
  clear E1 Z1 kB
  refine ⟨5, rfl, by decide, by decide, ?_⟩
  refine for_it walk_range (fun i σ H' => Sg X st cl (10 + i * 5000) H' ∧ EnvOk X H' σ (Gm0 st)) ⟨SB.le (by omega), EB⟩ (fun _ _ _ _ _ => trivial) (fun i x σ H2 H3 hi p y => ?_) (fun σ H2 p => rfl)
  obtain ⟨rfl, rfl⟩ := y
  obtain ⟨Z2, E2⟩ := p
  have hi4 : i < 5 := hi
  refine k_name ?_
  have E3 := E2.setV (i := 2) (v := .int (0 + (i : Int)))
  clear E2 EB SB H1
  -- one
  refine k_set ?_
  refine ⟨.ref st, E3.get 1 _ rfl, X, st, cl, 10 + i * 5000, 7, rfl, Z2, by omega, by decide, fun w3 ws H4 lw hw S4 k4 d4 => ?_⟩
  have E4 := (E3.kps Z2 k4).set (i := 3) d4
  clear E3 Z2 k4 d4
  -- other
  refine k_set ?_
  refine ⟨.ref st, E4.get 1 _ rfl, ?_⟩
  refine k_cons (k_lst (k_cons ?_))
  refine ⟨.ref st, E4.get 1 _ rfl, ?_⟩
  refine k_cons (g_var (i := 3) (d := wsD ws) E4 rfl H4 (Same.refl _) _ fun v5 H5 s5 r5 => ?_)
  have S5 := S4.same s5
  refine ⟨X, st, cl, _, 7, v5, ws.map PyData.str, rfl, S5, by omega, r5, by rw [List.length_map]; omega, fun d hd => ?_, by decide, fun w6 es H6 les nes S6 k6 d6 => ?_⟩
  · obtain ⟨s, hs, rfl⟩ := List.mem_map.mp hd
    exact List.mem_map.mpr ⟨s, mW_nW s (hw s hs), rfl⟩
  have E6 := (E4.same s5).kps S5 k6
  refine k_cons ?_
  refine ⟨.ref st, E6.get 1 _ rfl, X, st, cl, _, 7, rfl, S6, by omega, by decide, fun w7 vs7 H7 l7 h7 S7 k7 d7 => ?_⟩
  refine k_nil ⟨by show 2 ≤ sizeLine; decide, fun p hp => ?_⟩
  have s8 : Same H7 (upd H7 p (.lst [w6, w7])) := Same.upd hp
  refine ⟨X, st, cl, _, .ref p, [.list es, wsD vs7], rfl, S7.same s8, by omega, DX.newL S7.t (.cons (d6.mono (S6.kp k7)) (.cons d7 .nil)) hp, by simp, by simp, fun w8 d8 H8 hd8 S8 k8 r8 => ?_⟩
  obtain ⟨vs, rfl, lv, hv⟩ : ∃ vs : List Str, d8 = wsD vs ∧ vs.length ≤ 7 ∧ ∀ z ∈ vs, z ∈ nW := by
    rcases List.mem_cons.mp hd8 with rfl | h
    · obtain ⟨us, e, hu⟩ := strs_of nes
      subst e
      exact ⟨us, rfl, by rw [List.length_map] at les; exact les, hu⟩
    · rw [List.mem_singleton.mp h]
      exact ⟨vs7, rfl, l7, fun z hz => mW_nW z (h7 z hz)⟩
  have E8 := (((E6.kps S6 k7).same s8).kps (S7.same s8) k8).set (i := 4) r8
  have S8 := S8.le (m := 10 + i * 5000 + 200) (by omega)
  clear E4 S4 s5 r5 S5 S6 k6 d6 E6 S7 k7 d7 s8 k8 r8 hd8 nes les h7 l7 hp
  have T1 : Tx ws := tx_nW lw fun z hz => mW_nW z (hw z hz)
  have T2 : Tx vs := tx_nW lv hv
  have E8 : EnvOk X H8 _ [.un, .val (.ref st), .val (.int (0 + (i : Int))), .dat (wsD ws), .dat (wsD vs), .un, .un, .un, .un, .un, .un, .un, .un, .un, .un] := E8
  have N8 := NoT.of hX S8
  -- ranks, rows
  obtain ⟨u3, a3, b3⟩ := E8.get 3 _ rfl
  obtain ⟨u4, a4, b4⟩ := E8.get 4 _ rfl
  refine k_asg (k_tup (k_cons ⟨u3, a3, u4, a4, X, u3, u4, ws, vs, rfl, S8.t, N8, b3, b4, lw, lv, T1.ok, T2.ok, fun D H9 s9 nD hD9 => k_cons ?_⟩))
  clear b3 b4
  let X1 : Addr → Prop := fun b => X b ∨ b = D
  have E9 : EnvOk X1 H9 _ [.un, .val (.ref st), .val (.int (0 + (i : Int))), .dat (wsD ws), .dat (wsD vs), .un, .un, .un, .un, .un, .un, .un, .un, .un, .un] := (E8.more (More.one nD)).same s9
  have t9 : Trk X1 H9 := fun b hb => hb.elim (fun z => (S8.t.mono s9) b z) fun z => ⟨_, z ▸ hD9⟩
  have n9 : NoT X1 H9 := fun b hb xs e => hb.elim (fun z => (N8.mono S8.t s9) b z xs e) fun z => by rw [z, hD9] at e; cases e
  refine g_call2 t9 (g_var (i := 3) (d := wsD ws) E9 rfl) (g_var (i := 4) (d := wsD vs) E9 rfl) ⟨ws, vs, rfl, rfl, lw, lv, T1.ok, T2.ok⟩ H9 (Same.refl _) _ fun v10 H10 s10 r10 => k_nil ⟨by show 2 ≤ sizeLine; decide, fun pp hpp => ⟨pp, _, rfl, SqT.of upd_same, rfl, _, _, rfl, _, _, rfl, rfl, ?_⟩⟩
  rw [wsOf_wsD, wsOf_wsD] at r10
  have s11 : Same H10 (upd H10 pp (.tup [.ref D, v10])) := Same.upd hpp
  have s911 := s10.trans s11
  have E11 := ((E9.same s911).setV (i := 5) (v := .ref D)).set (i := 6) (r10.mono (Kp.of s11))
  have t11 := t9.mono s911
  have n11 := n9.mono t9 s911
  have hD11 := s911 _ _ hD9
  have s811 := s9.trans s911
  clear s10 r10 s11 E9 t9 n9 hD9 s9 s911 hpp
  generalize upd H10 pp (.tup [.ref D, v10]) = H11 at *
  have E11 : EnvOk X1 H11 _ [.un, .val (.ref st), .val (.int (0 + (i : Int))), .dat (wsD ws), .dat (wsD vs), .val (.ref D), .dat (rowsD (longestL ws vs)), .un, .un, .un, .un, .un, .un, .un, .un] := E11
  obtain ⟨M, hM⟩ : ∃ M, M = Mw ws vs := ⟨_, rfl⟩
  have hne : 0 < (longestL ws vs).length := List.length_pos_of_mem (com_mem ws vs)
  have h0r : (longestL ws vs)[0]? = some ((longestL ws vs)[0]) := List.getElem?_eq_getElem hne
  have l0 : ((longestL ws vs)[0]).length = L M ws.length vs.length := by rw [hM]; exact (row_all.mp (List.getElem_mem hne)).2.2
  have at0 : atI ((longestL ws vs).map rowD) (0 : Int) = some (rowD ((longestL ws vs)[0])) := atI_nat (j := 0) (by rw [List.getElem?_map, h0r]; rfl)
  have Lle : L M ws.length vs.length ≤ 7 := by
    have := L_le (M := M) (i := ws.length) (j := vs.length)
    omega
  rw [← hM] at hD11
  have few := lvC_few (M := M) (n := ws.length) (m := vs.length) (by omega) (by omega)
  -- due
  refine q_set (i := 7) (d := covD M ws.length vs.length) E11 (g_is (g_lcS (ds := rangeD 0 (((L M ws.length vs.length : Nat) : Int)).toNat) (Γ2 := fun z => [.un, .val (.ref st), .val (.int (0 + (i : Int))), .dat (wsD ws), .dat (wsD vs), .val (.ref D), .dat (rowsD (longestL ws vs)), .un, .un, .un, .un, .un, .dat z, .un, .un]) (fun z => rowD (lvl M ws.length vs.length (intOf z).toNat)) t11 (gi_range1 (g_is (g_rowLen t11 (g_ixL t11 (g_var (i := 6) (d := rowsD (longestL ws vs)) E11 rfl) g_int at0)) (by rw [l0])) (by omega) (by omega)) (by rw [rangeD_len]; omega) (fun H12 s12 z hz => tgt_name (E11.same s12)) (fun X3 H12 σ3 z hz m1 m2 s12 t12 E12 => ?_)) ?_) fun H12 v7 s12 E12 => ?_
  · obtain ⟨k, hk, rfl⟩ := List.mem_map.mp hz
    have hk := List.mem_range.mp hk
    rw [show (0 : Int) + (k : Int) = (k : Nat) from by omega] at E12 ⊢
    show G X3 _ σ3 H12 (rowD (lvl M ws.length vs.length ((k : Nat) : Int).toNat))
    rw [show ((k : Nat) : Int).toNat = k from by omega]
    have n12 : NoT X3 H12 := fun b hb xs e => (m2 b hb).elim (fun z => (n11.mono t11 s12) b z xs e) fun ⟨ys, z⟩ => by rw [z] at e; cases e
    refine g_is (g_lcKeys (i := 13) (di := 5) (D := D) (lvC M vs.length ws.length) (fun c => decide ((c.2 : Int) = (k : Int) + 1)) (fun c => prD c.1) t12 n12 (m1 _ (.inr rfl)) E12 (s12 _ _ hD11) rfl (by omega) (fun X4 H13 σ4 c od hc t13 f13 E13 => gt_eqI t13 (g_dgetF (di := 5) (i := 13) E13 t13 f13 rfl rfl hc fun b hb e => by rw [(lvC_in.mp hb).2.2.2, (lvC_in.mp hc).2.2.2, e]) (g_addI t13 (g_var (i := 12) (d := .int (k : Nat)) E13 rfl) g_int)) (fun X4 H13 σ4 c od hc hf t13 f13 E13 => g_var (i := 13) (d := prD c.1) E13 rfl)) ?_
    show PyData.list _ = PyData.list ((((lvC M vs.length ws.length).filter fun c => decide (c.2 = k + 1)).map fun c => c.1).map prD)
    rw [List.map_map]
    congr 1
    have : (fun c : Ce => decide ((c.2 : Int) = (k : Int) + 1)) = fun c : Ce => decide (c.2 = k + 1) := funext fun c => decide_eq_decide.mpr (by omega)
    rw [this]
    rfl
  · rw [cov_lvls]
    unfold rangeD lvls
    rw [List.map_map, List.map_map, show (((L M ws.length vs.length : Nat) : Int)).toNat = L M ws.length vs.length by omega]
    congr 1
    refine List.map_congr_left fun k hk => ?_
    show rowD (lvl M ws.length vs.length ((0 : Int) + (k : Int)).toNat) = _
    rw [show ((0 : Int) + (k : Int)).toNat = k by omega]
    rfl
  have E12 : EnvOk X H12 _ [.un, .val (.ref st), .val (.int (0 + (i : Int))), .dat (wsD ws), .dat (wsD vs), .un, .dat (rowsD (longestL ws vs)), .dat (covD M ws.length vs.length), .un, .un, .un, .un, .un, .un, .un] := EnvOk.less (fun b z => .inl z) (envUn' E12 5)
  have S12 := S8.same (s811.trans s12)
  clear E11 t11 n11 hD11 s811 s12 E8 S8 N8
  -- told
  refine k_set (k_call2 (c_passed (ds := ws.map PyData.str) S12 (gv_var (i := 1) E12 rfl) (g_var (i := 3) (d := wsD ws) E12 rfl) (by omega) (by rw [List.length_map]; omega) fun w13 d13 H13 hd13 S13 k13 r13 => ?_))
  have E13 := E12.kps S12 k13
  refine c_passed (ds := vs.map PyData.str) S13 (gv_var (i := 1) E13 rfl) (g_var (i := 4) (d := wsD vs) E13 rfl) (by omega) (by rw [List.length_map]; omega) fun w14 d14 H14 hd14 S14 k14 r14 => ?_
  have TA : Txt d13 ws := hd13.elim (fun e => e ▸ T1.txt) fun e => e ▸ T1.txtT
  have TB : Txt d14 vs := hd14.elim (fun e => e ▸ T2.txt) fun e => e ▸ T2.txtT
  have E14 := E13.kps S13 k14
  refine ⟨X, w13, w14, d13, d14, ws, vs, rfl, S14.t, NoT.of hX S14, r13.mono (S13.kp k14), r14, TA, TB, T1.good TA, T2.good TB, fun w15 H15 s15 d15 nw => ?_⟩
  rw [← hM] at d15
  have d15' : DX X H15 w15 (.list ((lvls M ws.length vs.length).map rowD)) := cov_lvls M ws.length vs.length ▸ d15
  obtain ⟨Lt, xt, rfl, nLt, hLt, hxt⟩ := d15'.inner
  have fLt : H14 Lt = none := nw Lt rfl
  let XL : Addr → Prop := fun b => X b ∨ b = Lt
  have S15 := (S14.same s15).le (m := 10 + i * 5000 + 202) (by omega)
  have O15 : EnvOk XL H15 _ [.un, .val (.ref st), .val (.int (0 + (i : Int))), .dat (wsD ws), .dat (wsD vs), .un, .dat (rowsD (longestL ws vs)), .dat (covD M ws.length vs.length), .val (.ref Lt), .un, .un, .un, .un, .un, .un] := ((E14.more (More.one fLt)).same s15).setV (i := 8) (v := .ref Lt)
  have E15 : EnvOk X H15 _ [.un, .val (.ref st), .val (.int (0 + (i : Int))), .dat (wsD ws), .dat (wsD vs), .un, .dat (rowsD (longestL ws vs)), .dat (covD M ws.length vs.length), .dat (covD M ws.length vs.length), .un, .un, .un, .un, .un, .un] := (E14.same s15).set (i := 8) d15
  clear E12 S12 k13 r13 E13 S13 hd13 k14 r14 E14 S14 hd14 TA TB s15 d15 nw d15'
  have ll := lvls_len (M := M) (n := ws.length) (m := vs.length) lw
  have lf := lvls_flat (M := M) (n := ws.length) (m := vs.length) lw lv
  have lp := lvls_pos (M := M) (n := ws.length) (m := vs.length)
  have lr : ∀ l ∈ lvls M ws.length vs.length, l.length ≤ 49 := fun l hl => Nat.le_trans (len_in hl) lf
  have smc : sm 4 (covD M ws.length vs.length) := by
    rw [cov_lvls]
    exact rows_sm _ (by omega) fun l hl => by have := lr l hl; omega
  have nLst : Lt ≠ st ∧ Lt ≠ cl := ⟨fun z => nLt (.inl z), fun z => nLt (.inr z)⟩
  have gcov : ∀ {Y : Addr → Prop} {τ : L2.St} {Z : Hp} {Γ : List Sv}, EnvOk Y Z τ Γ → Γ[8]? = some (.dat (covD M ws.length vs.length)) → G Y (tVar 8) τ Z (.list ((lvls M ws.length vs.length).map rowD)) := fun E h => g_is (g_var (i := 8) E h) (by rw [cov_lvls])
  have glen : ∀ {Y : Addr → Prop} {τ : L2.St} {Z : Hp} {Γ : List Sv}, Trk Y Z → EnvOk Y Z τ Γ → Γ[8]? = some (.dat (covD M ws.length vs.length)) → G Y (tCB (fun xs H Q => ∃ x n, xs = [x] ∧ LenV K x H n ∧ Q (V.int n) H) (tCons (tVar 8) tNil)) τ Z (.int ((L M ws.length vs.length : Nat) : Int)) := fun t E h => g_is (g_len t (gcov E h) rfl) (by
    show PyData.int (((lvls M ws.length vs.length).map rowD).length : Nat) = _
    rw [List.length_map]
    unfold lvls
    rw [List.length_map, List.length_range])
  have t15 := S15.t
  -- as due; as many as a common row has
  refine q_if (b := false) (gt_is (gt_or (a := false) (gt_is (gt_not (gt_B (g_same (d := covD M ws.length vs.length) t15 (g_var (i := 8) (d := covD M ws.length vs.length) E15 rfl) (g_var (i := 7) (d := covD M ws.length vs.length) E15 rfl) smc))) rfl) fun _ => gt_neI (K := K) t15 (g_rowLen t15 (g_ofN (gn_common t15 (NoT.of hX S15) T1 T2 T1.txt T2.txt (g_var (i := 3) (d := wsD ws) E15 rfl) (g_var (i := 4) (d := wsD vs) E15 rfl)))) (glen t15 E15 rfl)) ?_) (fun h => by cases h) fun _ H16 s16 => ?_
  · have e : ((comR ws vs).length : Int) = ((L M ws.length vs.length : Nat) : Int) := by
      rw [(comR_is ws vs).len, hM]
    rw [decide_eq_true e]
    rfl
  have E16 := E15.same s16
  have O16 := O15.same s16
  have S16 := S15.same s16
  have h16 := s16 _ _ hLt
  have x16 := hxt.mono (Kp.of s16)
  clear E15 O15 S15 t15 s16 hLt hxt
  -- each row meets each level once
  let Γ : List Sv := [.un, .val (.ref st), .val (.int (0 + (i : Int))), .dat (wsD ws), .dat (wsD vs), .un, .dat (rowsD (longestL ws vs)), .dat (covD M ws.length vs.length), .dat (covD M ws.length vs.length), .un, .un, .un, .un, .un, .un]
  let ΓO : List Sv := [.un, .val (.ref st), .val (.int (0 + (i : Int))), .dat (wsD ws), .dat (wsD vs), .un, .dat (rowsD (longestL ws vs)), .dat (covD M ws.length vs.length), .val (.ref Lt), .un, .un, .un, .un, .un, .un]
  refine s_forD (X := X) (gi_list (K := K) (g_sl (lo := none) (hi := some 4) (ds := (longestL ws vs).map rowD) S16.t (g_var (i := 6) (d := rowsD (longestL ws vs)) E16 rfl) go_none (go_some (X := X) g_int))) (fun Hb j σ' H' => (Same Hb H' ∧ Trk X H') ∧ EnvOk X H' σ' Γ ∧ EnvOk XL H' σ' ΓO) (fun Hb sb => ⟨⟨Same.refl _, S16.t.mono sb⟩, E16.same sb, O16.same sb⟩) (fun Hb j σ' H' p => ⟨Kp.of p.1.1, p.1.2⟩) ?_ ?_
  · rintro Hb j x d σ' H' H'' sb hd ⟨⟨p1, p2⟩, p3, p4⟩ s17 dx
    rw [cutP_to _ (by decide)] at hd
    obtain ⟨r, hr2, rfl⟩ := List.mem_map.mp (List.mem_of_mem_take (List.mem_of_getElem? hd))
    obtain ⟨c1, c2, c3⟩ := row_all.mp hr2
    rw [← hM] at c1 c3
    have lrr := row_short lw hr2
    refine k_name ?_
    have t17 := p2.mono s17
    have E17 : EnvOk X H'' _ [.un, .val (.ref st), .val (.int (0 + (i : Int))), .dat (wsD ws), .dat (wsD vs), .un, .dat (rowsD (longestL ws vs)), .dat (covD M ws.length vs.length), .dat (covD M ws.length vs.length), .dat (rowD r), .un, .un, .un, .un, .un] := (p3.same s17).set (i := 9) dx
    have cnt : ∀ k, k < L M ws.length vs.length → ((r.map prD).filter fun y => ((lvl M ws.length vs.length k).map prD).any fun z => PyData.eqv z y).length = 1 := fun k hk => by
      rw [List.filter_map, List.length_map]
      have : ((fun y => ((lvl M ws.length vs.length k).map prD).any fun z => PyData.eqv z y) ∘ prD) = fun p => decide (p ∈ lvl M ws.length vs.length k) := funext fun p => any_pr _ p
      rw [this]
      exact row_once c1 c2 c3 hk
    have ones : PyData.eqv (.list (((lvls M ws.length vs.length).map rowD).map fun z => .int ((((r.map prD).filter fun y => (itemsD z).any fun u => PyData.eqv u y).length : Nat) : Int))) (.list (List.replicate (((L M ws.length vs.length : Nat) : Int)).toNat [PyData.int 1]).flatten) = true := by
      have e1 : ((lvls M ws.length vs.length).map rowD).map (fun z => PyData.int ((((r.map prD).filter fun y => (itemsD z).any fun u => PyData.eqv u y).length : Nat) : Int)) = List.replicate (L M ws.length vs.length) (PyData.int 1) := by
        rw [List.map_map]
        refine List.eq_replicate_iff.mpr ⟨by unfold lvls; rw [List.length_map, List.length_map, List.length_range], fun z hz => ?_⟩
        obtain ⟨l, hl, rfl⟩ := List.mem_map.mp hz
        obtain ⟨k, hk, rfl⟩ := List.mem_map.mp hl
        show PyData.int ((((r.map prD).filter fun y => ((lvl M ws.length vs.length k).map prD).any fun u => PyData.eqv u y).length : Nat) : Int) = _
        rw [cnt k (List.mem_range.mp hk)]
        rfl
      have e2 : (List.replicate (((L M ws.length vs.length : Nat) : Int)).toNat [PyData.int 1]).flatten = List.replicate (L M ws.length vs.length) (PyData.int 1) := by
        rw [show (((L M ws.length vs.length : Nat) : Int)).toNat = L M ws.length vs.length by omega]
        generalize L M ws.length vs.length = N
        induction N with
        | zero => rfl
        | succ N ih => rw [List.replicate_succ, List.flatten_cons, ih, List.replicate_succ]; rfl
      rw [e1, e2]
      show PyData.eqv (.list _) (.list _) = true
      simp only [PyData.eqv]
      refine eqvAll_self fun z hz => ?_
      rw [(List.mem_replicate.mp hz).2]
      rfl
    have intsOk : ∀ (ks : List PyData), (∀ z ∈ ks, ∃ k : Int, z = .int k) → noDict (.list ks) = true ∧ SeqAt.shaped (.list ks) = true := fun ks h => by
      refine ⟨?_, shaped_mk ?_ ?_⟩
      · show noDicts ks = true
        exact nd_all fun z hz => by obtain ⟨k, rfl⟩ := h z hz; rfl
      · simp only [PyData.canLay0]
        exact lay_all fun z hz => by obtain ⟨k, rfl⟩ := h z hz; rfl
      · have : PyData.depthAll ks ≤ 1 := dep_all fun z hz => by
          obtain ⟨k, rfl⟩ := h z hz
          simp [PyData.depth]
        simp only [PyData.depth]
        omega
    have i1 := intsOk (((lvls M ws.length vs.length).map rowD).map fun z => .int ((((r.map prD).filter fun y => (itemsD z).any fun u => PyData.eqv u y).length : Nat) : Int)) fun z hz => by
      obtain ⟨y, _, rfl⟩ := List.mem_map.mp hz
      exact ⟨_, rfl⟩
    have i2 := intsOk ((List.replicate (((L M ws.length vs.length : Nat) : Int)).toNat [PyData.int 1]).flatten) fun z hz => by
      obtain ⟨y, hy, hz⟩ := List.mem_flatten.mp hz
      rw [(List.mem_replicate.mp hy).2] at hz
      exact ⟨1, List.mem_singleton.mp hz⟩
    refine s_if (b := false) (gt_is (gt_neD (K := K) t17 (x := .list (((lvls M ws.length vs.length).map rowD).map fun z => .int ((((r.map prD).filter fun y => (itemsD z).any fun u => PyData.eqv u y).length : Nat) : Int))) (y := .list (List.replicate (((L M ws.length vs.length : Nat) : Int)).toNat [PyData.int 1]).flatten) (g_lc1 (ds := (lvls M ws.length vs.length).map rowD) (Γ2 := fun z => [.un, .val (.ref st), .val (.int (0 + (i : Int))), .dat (wsD ws), .dat (wsD vs), .un, .dat (rowsD (longestL ws vs)), .dat (covD M ws.length vs.length), .dat (covD M ws.length vs.length), .dat (rowD r), .un, .un, .un, .un, .dat z]) (fun z => .int ((((r.map prD).filter fun y => (itemsD z).any fun u => PyData.eqv u y).length : Nat) : Int)) t17 (gi_list (K := K) (gcov E17 rfl)) (by rw [List.length_map]; omega) (fun H18 s18 z hz => tgt_name (E17.same s18)) (fun X3 H18 σ3 z hz t18 E18 => ?_)) (g_op t17 (g_lst t17 (ga_cons g_int ga_nil) (by simp)) (glen t17 E17 rfl) (RD.or2 (rd_rep (by omega) (by omega) (by simp; omega)))) i1.1 i2.1 i1.2 i2.2) (by rw [ones]; rfl)) (fun h => by cases h) fun _ H18 s18 => ?_
    · obtain ⟨l, hl, rfl⟩ := List.mem_map.mp hz
      refine g_is (g_len t18 (g_lc (ds := r.map prD) (Γ2 := fun y => [.un, .val (.ref st), .val (.int (0 + (i : Int))), .dat (wsD ws), .dat (wsD vs), .un, .dat (rowsD (longestL ws vs)), .dat (covD M ws.length vs.length), .dat (covD M ws.length vs.length), .dat (rowD r), .un, .un, .un, .dat y, .dat (rowD l)]) (fun y => (itemsD (rowD l)).any fun u => PyData.eqv u y) (fun y => y) t18 (gi_list (K := K) (g_var (i := 9) (d := rowD r) E18 rfl)) (by rw [List.length_map]; omega) (fun H19 s19 y hy => tgt_name (E18.same s19)) (fun X4 H19 σ4 y hy t19 E19 => ?_) (fun X4 H19 σ4 y hy _ t19 E19 => g_var (i := 13) (d := y) E19 rfl)) rfl) ?_
      · obtain ⟨p, hp, rfl⟩ := List.mem_map.mp hy
        exact gt_inD (K := K) (d := prD p) (ds := l.map prD) t19 (g_var (i := 13) (d := prD p) E19 rfl) (g_var (i := 14) (d := rowD l) E19 rfl) (by simp [prD, noDict, noDicts]) (row_shaped l).1 (by simp [prD, SeqAt.shaped, PyData.canLay0, PyData.canLayAll0, PyData.depth, PyData.depthAll]) (row_sh l)
      · show PyData.int ((((r.map prD).filter _).map fun y => y).length : Nat) = _
        rw [List.length_map]
    · have O18 : EnvOk XL H18 _ [.un, .val (.ref st), .val (.int (0 + (i : Int))), .dat (wsD ws), .dat (wsD vs), .un, .dat (rowsD (longestL ws vs)), .dat (covD M ws.length vs.length), .val (.ref Lt), .val x, .un, .un, .un, .un, .un] := ((p4.same s17).setV (i := 9) (v := x)).same s18
      exact ⟨⟨(p1.trans s17).trans s18, t17.mono s18⟩, envUn' (E17.same s18) 9, envUn' O18 9⟩
  rintro Hb σ17 H17 sb ⟨⟨p1, p2⟩, E17, O17⟩
  have s17 := sb.trans p1
  have S17 := S16.same s17
  have h17 := s17 _ _ h16
  have x17 := x16.mono (Kp.of s17)
  clear E16 O16 S16 h16 x16 sb p1 p2 s17
  -- things
  have N17 := NoT.of hX S17
  have t17 := S17.t
  refine k_set (k_op ((g_lst (ds := .list ((lvls M ws.length vs.length).map rowD) :: thgs) t17 (ga_cons (gcov E17 rfl) (ga_cons g_non (ga_cons g_int (ga_cons g_str (ga_cons (g_dict t17) (ga_cons (g_lst t17 (ga_cons g_non ga_nil) (by simp)) (ga_cons (g_lst t17 (ga_cons (g_lst t17 ga_nil (by simp)) ga_nil) (by simp)) (ga_cons (g_lst t17 (ga_cons g_int ga_nil) (by simp)) (ga_cons (g_tup t17 ga_nil (by simp)) (ga_cons (g_lst t17 (ga_cons (g_lst t17 (ga_cons g_str ga_nil) (by simp)) ga_nil) (by simp)) ga_nil)))))))))) (by simp [thgs])) H17 (Same.refl _) _ fun v18 H18 s18 r18 => ?_))
  have E18 := E17.same s18
  have O18 := O17.same s18
  have S18 := S17.same s18
  have N18 := N17.mono t17 s18
  have h18 := s18 _ _ h17
  have x18 := x17.mono (Kp.of s18)
  refine k_lcR ⟨6, rfl, by decide, by decide, ?_⟩
  refine lc_drawsT (X := X) (i := 12) (m := 6) 12 FewC S18 N18 E18 (by decide) (fun X' H1 σ2 kk Q1 hk E1 S1 n1 q1 => ?_) fun w19 ds H19 l19 fd S19 k19 r19 => ?_
  · obtain ⟨u8, a8, b8⟩ := E1.get 8 _ rfl
    rw [cov_lvls] at b8
    exact ⟨.ref st, E1.get 1 _ rfl, u8, a8, X', st, cl, _, u8, lvls M ws.length vs.length, rfl, S1, n1, by omega, b8, ll, lf, lp, fun w d H' fw S' k' dw => q1 w d H' fw S' k' dw⟩
  have E19 := E18.kps S18 k19
  have k19L : Kp XL H18 H19 := k19.kp (.inl (.inl rfl)) (.inl (.inr rfl))
  have O19 := O18.mono k19L
  have h19 := k19 _ _ nLst.1 nLst.2 h18
  have x19 := x18.mono k19L
  have hcat : RD X rAddA (.list (.list ((lvls M ws.length vs.length).map rowD) :: thgs)) (.list ds) (.list ((.list ((lvls M ws.length vs.length).map rowD) :: thgs) ++ ds)) := RD.or2 (RD.or1 (rd_cat (by rw [l19]; simp [thgs])))
  refine hcat H19 _ _ S19.t (r18.mono (S18.kp k19)) r19 _ fun w20 H20 s20 r20 => ?_
  have E20 := (E19.same s20).set (i := 10) r20
  have O20 := envUn' ((O19.same s20).setV (i := 10) (v := w20)) 10
  have S20 := S19.same s20
  have h20 := s20 _ _ h19
  have x20 := x19.mono (Kp.of s20)
  clear E17 O17 S17 h17 x17 N17 t17 r18 E18 O18 S18 N18 h18 x18 s18 k19 k19L r19 E19 O19 S19 h19 x19 s20 r20
  obtain ⟨tg, htg⟩ : ∃ tg, tg = (PyData.list ((lvls M ws.length vs.length).map rowD) :: thgs) ++ ds := ⟨_, rfl⟩
  rw [← htg] at E20
  have fw : ∀ d ∈ tg, FewC d := fun d hd => by
    rw [htg] at hd
    rcases List.mem_append.mp hd with hd | hd
    · rcases List.mem_cons.mp hd with rfl | hd
      · refine (Bt.of (fun z hz => ?_) (by rw [List.length_map]; omega)).list
        obtain ⟨l, hl, rfl⟩ := List.mem_map.mp hz
        have := lr l hl
        exact ⟨rfl, by show (l.map prD).length ≤ 60; rw [List.length_map]; omega⟩
      · exact few_thgs d hd
    · exact fd d hd
  have ltg : tg.length ≤ 100 := by
    rw [htg, List.length_append, l19]
    simp [thgs]
  clear htg fd l19
  refine s_forD (X := X) (gi_list (K := K) (g_var (i := 10) (d := .list tg) E20 rfl)) (fun Hb j σ' H' => (Same Hb H' ∧ Trk X H') ∧ EnvOk X H' σ' [.un, .val (.ref st), .val (.int (0 + (i : Int))), .dat (wsD ws), .dat (wsD vs), .un, .dat (rowsD (longestL ws vs)), .dat (covD M ws.length vs.length), .dat (covD M ws.length vs.length), .un, .dat (.list tg), .un, .un, .un, .un] ∧ EnvOk XL H' σ' ΓO) (fun Hb sb => ⟨⟨Same.refl _, S20.t.mono sb⟩, E20.same sb, O20.same sb⟩) (fun Hb j σ' H' p => ⟨Kp.of p.1.1, p.1.2⟩) ?_ ?_
  · rintro Hb j x d σ' H' H'' sb hd ⟨⟨p1, p2⟩, p3, p4⟩ s21 dx
    have fd := fw d (List.mem_of_getElem? hd)
    refine k_name ?_
    have t21 := p2.mono s21
    have E21 : EnvOk X H'' _ [.un, .val (.ref st), .val (.int (0 + (i : Int))), .dat (wsD ws), .dat (wsD vs), .un, .dat (rowsD (longestL ws vs)), .dat (covD M ws.length vs.length), .dat (covD M ws.length vs.length), .un, .dat (.list tg), .dat d, .un, .un, .un] := (p3.same s21).set (i := 11) dx
    refine s_if (b := false) (gt_is (gt_not (gt_B (g_same (d := .bool (isCovD ws vs d)) t21 (g_iscov (d := d) t21 T1 T2 T1.txt T2.txt (g_var (i := 3) (d := wsD ws) E21 rfl) (g_var (i := 4) (d := wsD vs) E21 rfl) (g_var (i := 11) (d := d) E21 rfl) fd) (g_is (g_call3 t21 (g_var (i := 3) (d := wsD ws) E21 rfl) (g_var (i := 4) (d := wsD vs) E21 rfl) (g_var (i := 11) (d := d) E21 rfl) ⟨⟨ws, vs, rfl, rfl, by omega, by omega, T1.ok, T2.ok⟩, fd⟩) (by rw [wsOf_wsD, wsOf_wsD])) rfl))) rfl) (fun h => by cases h) fun _ H22 s22 => ?_
    have O22 : EnvOk XL H22 _ [.un, .val (.ref st), .val (.int (0 + (i : Int))), .dat (wsD ws), .dat (wsD vs), .un, .dat (rowsD (longestL ws vs)), .dat (covD M ws.length vs.length), .val (.ref Lt), .un, .un, .val x, .un, .un, .un] := ((p4.same s21).setV (i := 11) (v := x)).same s22
    exact ⟨⟨(p1.trans s21).trans s22, t21.mono s22⟩, envUn' (E21.same s22) 11, envUn' O22 11⟩
  rintro Hb σ23 H23 sb ⟨⟨p1, p2⟩, E23, O23⟩
  have s23 := sb.trans p1
  have S23 := S20.same s23
  have h23 := s23 _ _ h20
  have x23 := x20.mono (Kp.of s23)
  clear E20 O20 S20 h20 x20 sb p1 p2 s23 E23
  -- late
  have tO : Trk XL H23 := fun b hb => hb.elim (S23.t b) fun z => ⟨_, z ▸ h23⟩
  refine q_append (i := 8) (L := Lt) (d := .str "late") O23 rfl (.inr rfl) tO h23 x23 g_str (by rw [List.length_map]; omega) fun H24 ys24 h24 x24 O24 t24 k24 => ?_
  have E24 : EnvOk X H24 _ [.un, .val (.ref st), .val (.int (0 + (i : Int))), .dat (wsD ws), .dat (wsD vs), .un, .dat (rowsD (longestL ws vs)), .dat (covD M ws.length vs.length), .un, .un, .un, .un, .un, .un, .un] := envUn' (EnvOk.less (fun _ => .inl) O24) 8
  have S24 := Sg.kept S23 (fun b o hb e => k24 b o (fun z => hb.elim (fun y => nLst.1 (z.symm.trans y)) fun y => nLst.2 (z.symm.trans y)) e) fun a h => t24 a (.inl h)
  clear O23 O24 k24 x24 h24 t24 x23 h23 tO S23
  refine s_if (b := false) (gt_is (gt_not (gt_B (g_same (d := covD M ws.length vs.length) S24.t (g_is (gn_cover S24.t (NoT.of hX S24) T1 T2 T1.txt T2.txt (g_var (i := 3) (d := wsD ws) E24 rfl) (g_var (i := 4) (d := wsD vs) E24 rfl)).g (by rw [hM])) (g_var (i := 7) (d := covD M ws.length vs.length) E24 rfl) smc))) rfl) (fun h => by cases h) fun _ H25 s25 => ?_
  exact ⟨(S24.same s25).le (by omega), envUn' (envUn' (envUn' (envUn' (envUn' (E24.same s25) 2) 3) 4) 6) 7⟩
end K52

/-! The end of a law whose def is known for the caller of claims alone (its guards are empty). -/
namespace KD
open PySem PySem.Spec PyProof.Rows L2 LamX
/-- a def's promise, called from A -/
def FnAt (P : Program) (w : World) (K : PySem.W.Frag) (mg : Str → Option Value) (base : Heap) (CX : CXT) (A : Around) (f : Addr) (fd : FuncData) (x : Str) (sp : Sp) : Prop :=
  ∀ (s : Shared) (H : Hp) (u : Value) (v : V) (Q : VK) (E : XK), Env0 P w K mg base A [] s H → BindsTo s fd ⟨[u], []⟩ [(x, u)] → RelV v u → sp [v] H Q E → codeAny (model P w) A (.call (.ref f) ⟨[u], []⟩) (CR CX [] P w H s Q E) s
/-- where the law begins: the script as it is passed, tables without code -/
def beginH (K : PySem.W.Frag) (T : List Addr) (a : Addr) (o : Obj) (ns : List Int) : Hp := fun b => if b ∈ T then some (.tbl #[]) else if b = a ∧ K.lookup a = none then some (.frz o (.lst (ns.map V.int))) else none
section
variable {K : PySem.W.Frag} {T : List Addr} {a b : Addr} {o : Obj} {ns : List Int}
theorem beginH_tab (h : b ∈ T) : beginH K T a o ns b = some (.tbl #[]) := if_pos h
theorem beginH_arg (h : a ∉ T) (k : K.lookup a = none) : beginH K T a o ns a = some (.frz o (.lst (ns.map V.int))) := (if_neg h).trans (if_pos ⟨rfl, k⟩)
theorem beginH_none (h : b ∉ T) (k : b = a → K.lookup a ≠ none) : beginH K T a o ns b = none := (if_neg h).trans (if_neg fun z => k z.1 z.2)
theorem beginH_some {u : HO} (h : beginH K T a o ns b = some u) : (b ∈ T ∧ u = .tbl #[]) ∨ (b ∉ T ∧ b = a ∧ K.lookup a = none ∧ u = .frz o (.lst (ns.map V.int))) := by
  unfold beginH at h
  by_cases h1 : b ∈ T
  · rw [if_pos h1] at h
    exact .inl ⟨h1, (Option.some.inj h).symm⟩
  · rw [if_neg h1] at h
    by_cases h2 : b = a ∧ K.lookup a = none
    · rw [if_pos h2] at h
      exact .inr ⟨h1, h2.1, h2.2, (Option.some.inj h).symm⟩
    · rw [if_neg h2] at h
      cases h
end
theorem law_callG {P : Program} {w : World} {K : PySem.W.Frag} {mg mb : Str → Option Value} {CX : CXT} {fa a : Addr} {cs : List (Addr × Addr)} {fd : FuncData} {x : Str} {sp : Sp} {s : Shared} {vs : List Value} {ns : List Int}
    (kin : K.In s.heap) (glob : s.heap.Ns mainGlobals mg) (blt : s.heap.Ns builtinsNs mb) (boot : ∀ y : Str, y ≠ "__name__" → mb y = bootBuiltins y) (nolim : s.heap.NoLimit) (gens : s.gens = #[])
    (tabs : ∀ p ∈ cs, s.heap.get? p.2 = some { cls := .none, data := .fields #[] }) (tabK : ∀ p ∈ cs, K.lookup p.2 = none) (codes : ∀ p ∈ cs, PySem.W.CodeHd s.heap p.1 p.2)
    (bmod : ∃ bm ob, mg "__builtins__" = some (.ref bm) ∧ bm ≠ builtinsNs ∧ s.heap.get? bm = some ob ∧ ob.cls = .type "module" ∧ ob.dict = some builtinsNs ∧ ob.data = .plain)
    (arg : s.heap.get? a = some { cls := .type "list", data := .seq vs.toArray }) (intsA : IntsAre vs ns) (few : ns.length ≤ sizeLine)
    (F : ∀ base : Heap, K.In base → base.Ns mainGlobals mg → (∀ p ∈ cs, TabB base mg p.1 p.2) → FnAt P w K mg base CX callerA fa fd x sp) (bind : ∀ (s : Shared) (u : Value), BindsTo s fd ⟨[u], []⟩ [(x, u)])
    (begin_ : ∀ H : Hp, (∀ p ∈ cs, H p.2 = some (.tbl #[])) → SqL K H a (ns.map V.int) → sp [.ref a] H (fun v _ => v = .bl true) fun _ _ _ => False) (noerr : ∀ H e s', CX [] H s (fun _ _ _ => False) e s' → False) :
    codeAny (model P w) callerA (.call (.ref fa) ⟨[.ref a], []⟩) (fun r s' => r = .ok (.ret (.bool true)) ∧ OldK s.heap s'.heap ∧ s'.os = s.os ∧ AllBare s'.gens) s := by
  have vals := vals_ints intsA
  have many := intsA.length
  let T : List Addr := cs.map (·.2)
  let ao : Obj := { cls := .type "list", data := .seq vs.toArray }
  let H : Hp := beginH K T a ao ns
  have inT : ∀ {b : Addr}, b ∈ T → ∃ p ∈ cs, p.2 = b := fun hb => List.mem_map.mp hb
  have emp : ∀ {b : Addr}, b ∈ T → s.heap.get? b = some { cls := .none, data := .fields #[] } := fun hb => by
    obtain ⟨p, hp, rfl⟩ := inT hb
    exact tabs p hp
  have toT : ∀ {p : Addr × Addr}, p ∈ cs → p.2 ∈ T := fun hp => List.mem_map.mpr ⟨_, hp, rfl⟩
  have aT : a ∉ T := fun hb => by
    have e := (emp hb).symm.trans arg
    cases e
  have HT : ∀ p ∈ cs, H p.2 = some (.tbl #[]) := fun p hp => beginH_tab (toT hp)
  have script : SqL K H a (ns.map V.int) := by
    cases k : K.lookup a with
    | none => exact .inl (.inr ⟨ao, beginH_arg aT k⟩)
    | some o =>
      have same := (kin a o k).symm.trans arg
      cases same
      exact .inr ⟨_, vs.toArray, _, k, rfl, rfl, rfl, by rw [List.size_toArray, many]; exact few, by simpa using vals⟩
  have ok : HOk P w H s.heap := fun b u e => by
    rcases beginH_some e with ⟨hb, rfl⟩ | ⟨_, rfl, _, rfl⟩
    · exact emp hb
    · exact ⟨arg, by rw [List.length_map]; exact few, vs, _, vals, arg⟩
  -- what is neither a list nor an empty table is not of H
  have other : ∀ {b : Addr} {o : Obj}, s.heap.get? b = some o → (∀ q n, o.data ≠ .seq q n) → o.data ≠ .fields #[] → H b = none := fun {b o} e h1 h2 => by
    cases q : H b with
    | none => rfl
    | some u =>
      rcases beginH_some q with ⟨hb, _⟩ | ⟨_, rfl, _, _⟩
      · rw [emp hb] at e
        cases e
        exact absurd rfl h2
      · rw [arg] at e
        cases e
        exact absurd rfl (h1 _ _)
  have hid : ∀ {b : Addr} {o : Obj}, s.heap.get? b = some o → (∀ q n, o.data ≠ .seq q n) → o.data ≠ .fields #[] → (hidT s.heap H).get? b = some o := fun e h1 h2 => hidT_get e (other e h1 h2)
  have names : ∀ {b : Addr} {m : Str → Option Value}, s.heap.Ns b m → (hidT s.heap H).Ns b m := fun {b m} z => by
    obtain ⟨o, es, ep, e, hd, r⟩ := z
    refine ⟨o, es, ep, hid e (fun _ _ q => ?_) (fun q => ?_), hd, r⟩ <;> (rw [hd] at q; cases q)
  have kin2 : K.In (hidT s.heap H) := fun b o e => hidT_get (kin b o e) (by
    cases q : H b with
    | none => rfl
    | some u =>
      rcases beginH_some q with ⟨hb, _⟩ | ⟨_, rfl, k, _⟩
      · obtain ⟨p, hp, rfl⟩ := inT hb
        rw [tabK p hp] at e
        cases e
      · rw [k] at e
        cases e)
  have glob2 := names glob
  have notGlob : ∀ {b : Addr} {o : Obj}, s.heap.get? b = some o → (∀ es ep, o.data ≠ .dict es ep) → b ≠ mainGlobals := fun {b o} e h q => by
    obtain ⟨o2, es, ep, e2, hd, _⟩ := glob
    rw [q, e2] at e
    cases e
    exact h _ _ hd
  have tabB : ∀ p ∈ cs, TabB (hidT s.heap H) mg p.1 p.2 := fun p hp => by
    refine ⟨?_, ?_, fun q => notGlob (tabs p hp) (fun _ _ z => by cases z) q.symm⟩
    · obtain ⟨o, us, file, tf, flags, tg, inF, text, tt, e1, r1, r2, r3, r4, r5, r6, r7, r8, r9⟩ := codes p hp
      refine ⟨o, us, file, tf, flags, tg, inF, text, tt, hid e1 (fun _ _ q => ?_) (fun q => ?_), r1, r2, r3, r4, r5, r6, r7, r8, r9⟩
      · rw [r2] at q
        cases q
      · rw [r2] at q
        cases q
        simp at r3
    · obtain ⟨bm, ob, b1, b2, b3, b4, b5, b6⟩ := bmod
      have n1 : bm ≠ mainGlobals := notGlob b3 fun _ _ q => by rw [b6] at q; cases q
      have n2 : bm ≠ p.2 := fun q => by
        rw [q, tabs p hp] at b3
        cases b3
        cases b6
      refine ⟨bm, ob, b1, b2, n1, n2, hid b3 (fun _ _ q => ?_) (fun q => ?_), b4, b5, b6⟩ <;> (rw [b6] at q; cases q)
  have md : L2.Mod K mg (hidT s.heap H) := by
    obtain ⟨mc, h1, h2⟩ := nolim
    exact ⟨kin2, glob2, ⟨mb, names blt, boot⟩, ⟨mc, names h1, h2⟩⟩
  have env : Env0 P w K mg (hidT s.heap H) callerA [] s H := ⟨rfl, md, fun _ _ e => of_hidT e, Nat.le_of_eq (hidT_size _ _), trivial, fun _ hb => (nomatch hb), ok, .of_eq gens⟩
  have run := F _ kin2 glob2 tabB s H (.ref a) (.ref a) _ _ env (bind s (.ref a)) rfl (begin_ H HT script)
  refine codeAny_mono run fun r s' hr => ?_
  match r, hr with
  | .error e, hr => exact (noerr H e s' hr).elim
  | .ok .next, hr => exact hr.elim
  | .ok .brk, hr => exact hr.elim
  | .ok .cont, hr => exact hr.elim
  | .ok (.ret u), hr =>
    obtain ⟨v, H2, os, bare, un, ok2, rel, hv⟩ := hr
    have hv : v = V.bl true := hv
    subst hv
    obtain rfl : u = Value.bool true := rel
    have still : ∀ {b : Addr} {o : Obj}, b ∉ T → s.heap.get? b = some o → s'.heap.get? b = some o := fun {b o} nb e => by
      cases q : H b with
      | none => exact un.keep b o e q (by intro z; exact (nomatch (show b ∈ ([] : List Addr) from z))) (by simp)
      | some u =>
        rcases beginH_some q with ⟨hb, _⟩ | ⟨_, rfl, k, rfl⟩
        · exact absurd hb nb
        · have q2 := un.frzs b _ _ q
          have e2 : s'.heap.get? b = some ao := (ok2 b _ q2).1
          rw [arg] at e
          cases e
          exact e2
    have more : ∀ {b : Addr}, b ∈ T → ∃ m : Array Value, s'.heap.get? b = some { cls := .none, data := .fields m } := fun {b} hb => by
      obtain ⟨m, z⟩ := un.tbls b #[] (beginH_tab hb)
      exact ⟨_, ok2 b _ z⟩
    refine ⟨rfl, ⟨fun b o e => ?_, fun b o e => ?_⟩, os, bare⟩
    · by_cases hb : b ∈ T
      · obtain ⟨m, hm⟩ := more hb
        obtain ⟨p, hp, rfl⟩ := inT hb
        rw [tabs p hp] at e
        cases e
        exact .inr (.inl ⟨((codes p hp).tab (tabs p hp)).isCodeTable, rfl, #[], m, rfl, by rw [Array.empty_append]; exact hm⟩)
      · exact .inl (still hb e)
    · by_cases hb : b ∈ T
      · obtain ⟨m, hm⟩ := more hb
        exact ⟨_, hm⟩
      · exact ⟨o, still hb e⟩
/-- what is known of the law at the head's heap -/
def LawG (l : PySem.W.OpenLaw) (w : World) (K : PySem.W.Frag) (CX : CXT) (n : Nat) (x : Str) (mg : Str → Option Value) (fa : Addr) (h : Heap) : Prop :=
  ∃ (fd : FuncData) (cs : List (Addr × Addr)) (sp : Sp), (∀ p ∈ cs, h.get? p.2 = some { cls := .none, data := .fields #[] }) ∧ (∀ p ∈ cs, K.lookup p.2 = none) ∧ (∀ p ∈ cs, PySem.W.CodeHd h p.1 p.2) ∧ (∀ s u, BindsTo s fd ⟨[u], []⟩ [(x, u)]) ∧
    (∀ (H : Hp) (a : Addr) (ns : List Int), ns.length ≤ n → (∀ z ∈ ns, Builtin.Int.intBits z ≤ 1048576) → (∀ p ∈ cs, H p.2 = some (.tbl #[])) → SqL K H a (ns.map V.int) → sp [.ref a] H (fun v _ => v = .bl true) fun _ _ _ => False) ∧
    ∀ base : Heap, K.In base → base.Ns mainGlobals mg → (∀ p ∈ cs, TabB base mg p.1 p.2) → FnAt l.prog w K mg base CX callerA fa fd x sp
theorem walk_ofG {l : PySem.W.OpenLaw} {n : Nat} {q : Program} {loose : List Str} {XP : (Str → Option Value) → Heap → Prop} {YP : World → Heap → Prop} {d : DefRec} {K : Params → PySem.W.Frag} {CX : World → CXT} {x : Str}
    (hn : l.most = some n) (few : n ≤ sizeLine) (nodef : d.params.defaults = []) (kin : ∀ w h, YP w h → (K w.params).In h)
    (F : ∀ w mg fa h, YP w h → (K w.params).In h → h.Ns mainGlobals mg → mg d.name = some (.ref fa) → LawG l w (K w.params) (CX w) n x mg fa h) (noerr : ∀ w H s e s', CX w [] H s (fun _ _ _ => False) e s' → False) :
    PySem.W.WalkO q loose XP YP l.row.toRowW d [] (fun f vs => PySem.call f vs) :=
  Att.attach_callB hn nodef fun w s0 s1 mg mb fa o pm cd doc a vs ns G Y _ _ _ hmg hobj hints hlen hbits hg => by
    obtain ⟨fd, cs, sp, h1, h2, h3, h4, h5, h6⟩ := F w mg fa _ Y (kin w _ Y) G.T.g hmg
    exact law_callG (kin w _ Y) G.T.g G.T.b G.T.builtins G.T.nolimit hg h1 h2 h3 G.T.bmain hobj hints (Nat.le_trans hlen few) h6 h4 (fun H a1 a2 => h5 H a ns hlen hbits a1 a2) fun H e s' => noerr w H s1 e s'
end KD

/-! What the top has written; the law's own head. -/
namespace K52
open PySem PySem.Spec PyProof.Rows L2 KD KL LamX
def inC : Stmt → Stmt
  | .ClassDef _ _ _ b _ _ _ _ _ _ _ => b.getD 0 (.Pass ⟨0, 0, 0, 0⟩)
  | s => s
/-- a def of the text -/
def DefA (K : PySem.W.Frag) (x : Str) (st : Stmt) : Prop := ∃ (f : Addr) (fd : FuncData), PySem.W.nsIn K mainGlobals x = some (some (.ref f)) ∧ PySem.W.keepIn K (.ref f) = true ∧ Fun K x x st f fd
theorem da {K : PySem.W.Frag} {x : Str} {st : Stmt} {f : Addr} {oc kV dc pm cd ct : Value} {od an : Option Addr} {sl : Array (Option Value)} (a : PySem.W.nsIn K mainGlobals x = some (some (.ref f)))
    (l : K.lookup f = some ⟨oc, od, .func (PySem.W.fnOf x x (defArgs st) (defBody st) (defScope st) .none kV dc pm an cd ct), sl⟩) (c : PySem.W.codeIn K cd x = true) (k : PySem.W.keepIn K (.ref f) = true) : DefA K x st := ⟨f, _, a, k, fun_mk l c k⟩
/-- a class of errors of the text -/
structure ClsA (K : PySem.W.Frag) (x qual f : Str) (st : Stmt) (C : Addr) : Prop where
  a : PySem.W.nsIn K mainGlobals x = some (some (.ref C))
  T : OexC K C
  xf : XfC K C
  no : PySem.W.findIn K (.ref C) f = some none
  ini : ∃ (fI : Addr) (fd : FuncData), PySem.W.findIn K (.ref C) "__init__" = some (some (.ref fI)) ∧ PySem.W.typeIn K (.ref fI) = some (.type "function") ∧ Fun K "__init__" qual (inC st) fI fd
theorem ca {K : PySem.W.Frag} {x qual f : Str} {st : Stmt} {C f1 N : Addr} {nm q : Str} {bs bm : List Value} {sn : List Str} {sub : List Value} {ab : Bool} {col : Option Bool} {dd : Option Addr} {m0 m1 m2 m3 m5 : Option Value} {oc kV dc pm cd ct : Value} {od an : Option Addr} {sl : Array (Option Value)}
    (a : PySem.W.nsIn K mainGlobals x = some (some (.ref C))) (xL : K.lookup C = some (excClassObj nm q C N bs bm true sn sub ab col dd m0 m1 m2 m3 m5 "ValueError.__new__")) (rv : PySem.HandSPX.refsVE bm = true)
    (sa : PySem.W.findIn K (.ref C) "__setattr__" = some (some (.builtin "object.__setattr__"))) (ga : PySem.W.findIn K (.ref C) "__getattribute__" = some (some (.builtin "BaseException.__getattribute__"))) (gg : PySem.W.findIn K (.ref C) "__getattr__" = some none)
    (no : PySem.W.findIn K (.ref C) f = some none) (a1 : PySem.W.findIn K (.ref C) "__init__" = some (some (.ref f1))) (t1 : PySem.W.typeIn K (.ref f1) = some (.type "function"))
    (l1 : K.lookup f1 = some ⟨oc, od, .func (PySem.W.fnOf "__init__" qual (defArgs (inC st)) (defBody (inC st)) (defScope (inC st)) .none kV dc pm an cd ct), sl⟩) (c1 : PySem.W.codeIn K cd qual = true) (k1 : PySem.W.keepIn K (.ref f1) = true)
    (kC : PySem.W.keepIn K (.ref C) = true) (eC : PySem.W.subIn K (.ref C) (.type "BaseException") = some true) (tC : PySem.W.typeIn K (.ref C) = some (.type "type")) (hC : PySem.W.hasDictIn K C = true) : ClsA K x qual f st C :=
  ⟨a, ⟨⟨nm, q, N, bs, bm, sn, sub, ab, col, dd, m0, m1, m2, m3, m5, xL, rv⟩, sa, eC, tC, kC⟩, ⟨ga, gg, eC, hC⟩, no, ⟨f1, _, a1, t1, fun_mk l1 c1 k1⟩⟩
theorem exm_of {K : PySem.W.Frag} {A B : Addr} {b : Bool} (h1 : PySem.W.subIn K (.ref B) (.type "BaseException") = some true) (h2 : PySem.W.isClsIn K B = true) (h3 : PySem.W.typeIn K (.ref B) = some (.type "type")) (h4 : PySem.W.subIn K (.ref A) (.ref B) = some b) : PySem.W.exmOne K (.ref A) (.ref B) = some b := by
  have i : (PySem.W.clsIn K B).isSome = true := h2
  show (if (PySem.W.subIn K (.ref B) (.type "BaseException") == some true) = true then (if ((PySem.W.clsIn K B).isSome && PySem.W.typeIn K (.ref B) == some (.type "type")) = true then PySem.W.subIn K (.ref A) (.ref B) else none) else none) = some b
  rw [h1, i, h3, if_pos (by rfl), if_pos (by rfl), h4]
/-- a def with lambdas -/
def DefC (K : PySem.W.Frag) (x : Str) (st : Stmt) (c : Addr) : Prop := ∃ (f : Addr) (oc kV dc pm ct : Value) (od an : Option Addr) (sl : Array (Option Value)), PySem.W.nsIn K mainGlobals x = some (some (.ref f)) ∧ PySem.W.keepIn K (.ref f) = true ∧
  K.lookup f = some ⟨oc, od, .func (PySem.W.fnOf x x (defArgs st) (defBody st) (defScope st) .none kV dc pm an (.ref c) ct), sl⟩ ∧ PySem.W.codeIn K (.ref c) x = true
theorem dc {K : PySem.W.Frag} {x : Str} {st : Stmt} {f c : Addr} {oc kV dc pm ct : Value} {od an : Option Addr} {sl : Array (Option Value)} (a : PySem.W.nsIn K mainGlobals x = some (some (.ref f))) (k : PySem.W.keepIn K (.ref f) = true)
    (l : K.lookup f = some ⟨oc, od, .func (PySem.W.fnOf x x (defArgs st) (defBody st) (defScope st) .none kV dc pm an (.ref c) ct), sl⟩) (cc : PySem.W.codeIn K (.ref c) x = true) : DefC K x st c := ⟨f, oc, kV, dc, pm, ct, od, an, sl, a, k, l, cc⟩
/-- the law's own def -/
def LawA (K : PySem.W.Frag) (c : Addr) : Prop := ∃ (f : Addr) (oc kV dc pm ct : Value) (od an : Option Addr) (sl : Array (Option Value)), PySem.W.nsIn K mainGlobals "law" = some (some (.ref f)) ∧
  K.lookup f = some ⟨oc, od, .func (PySem.W.fnOf "law" "law" (defArgs s_law) (defBody s_law) (defScope s_law) .none kV dc pm an (.ref c) ct), sl⟩ ∧ PySem.W.codeIn K (.ref c) "law" = true
theorem la {K : PySem.W.Frag} {f c : Addr} {oc kV dc pm ct : Value} {od an : Option Addr} {sl : Array (Option Value)} (a : PySem.W.nsIn K mainGlobals "law" = some (some (.ref f)))
    (l : K.lookup f = some ⟨oc, od, .func (PySem.W.fnOf "law" "law" (defArgs s_law) (defBody s_law) (defScope s_law) .none kV dc pm an (.ref c) ct), sl⟩) (cc : PySem.W.codeIn K (.ref c) "law" = true) : LawA K c := ⟨f, oc, kV, dc, pm, ct, od, an, sl, a, l, cc⟩
def spLaw (K : PySem.W.Frag) : Sp := fun vs H Q _ => ∃ (a : Addr) (ns : List Int), vs = [.ref a] ∧ SqL K H a (ns.map V.int) ∧ ns.length ≤ 63 ∧ Q = fun v _ => v = V.bl true
section
variable {P : Program} {w : World} {K : PySem.W.Frag} {mg : Str → Option Value} {base h : Heap}
abbrev s_NoText : Stmt := topS 2
theorem ec_NoText {C : Addr} (X : K.In h) (G : h.Ns mainGlobals mg) (A : ClsA K "NoText" "NoText.__init__" "index" s_NoText C) : Ec P w K mg base "NoText" "index" C := by
  obtain ⟨fI, fd, h1, h2, F⟩ := A.ini
  have S : FnScope ["self", "index"] ["self", "index"] (defScope (inC s_NoText)) := ⟨rfl, rfl, rfl, by decide +kernel, rfl, by decide +kernel, by decide +kernel⟩
  exact ⟨PySem.W.mg_of X G A.a, A.T, A.xf, A.no, fI, fd, h1, h2, ok_initF F S A.T A.no rfl rfl rfl (by decide) (by decide) (fun _ => rfl), F.binds (ps := ["self", "index"]) fun _ _ _ _ _ _ us hl => match us, hl with | [_, _], _ => rfl⟩
theorem own_of {CX : CXT} {k : Nat} {x : Str} {st : Stmt} {ps : List Str} {sp : Sp} (X : K.In h) (G : h.Ns mainGlobals mg) (D : DefA K x st) (b : ∀ (kV doc pm : Value) (an : Option Addr) (cdv ct : Value) (us : List Value), us.length = ps.length → bindArgs (PySem.W.fnOf x x (defArgs st) (defBody st) (defScope st) .none kV doc pm an cdv ct) ⟨us, []⟩ = pure (ps.zip us))
    (F : ∀ f fd, mg x = some (.ref f) → PySem.W.keepIn K (.ref f) = true → Binds K fd ps [] → Fun K x x st f fd → FnOk P w K mg base CX k f fd ps sp) : Own P w K mg base CX k x ps sp := by
  obtain ⟨f, fd, a, kp, Fn⟩ := D
  exact ⟨f, fd, PySem.W.mg_of X G a, kp, Fn.binds b, F f fd (PySem.W.mg_of X G a) kp (Fn.binds b) Fn⟩
end
theorem all_mk {l : PySem.W.OpenLaw} {w : World} {K : PySem.W.Frag} {h : Heap} {mg : Str → Option Value} {fa C1 c  : Addr} (X : K.In h) (G : h.Ns mainGlobals mg) (hfa : mg "law" = some (.ref fa))
    (lw : LawA K c)
    (c1 : ClsA K "NoText" "NoText.__init__" "index" s_NoText C1)
    (d_is_list : DefA K "is_list" s_is_list)
    (d_is_integer : DefA K "is_integer" s_is_integer)
    (d_is_number : DefA K "is_number" s_is_number)
    (d_is_pair : DefA K "is_pair" s_is_pair)
    (d_is_words : DefA K "is_words" s_is_words)
    (d_first_false : DefA K "first_false" s_first_false)
    (d_wrong_words : DefA K "wrong_words" s_wrong_words)
    (d_check_texts : DefA K "check_texts" s_check_texts)
    (d_matches_of : DefA K "matches_of" s_matches_of)
    (d_levels_in : DefA K "levels_in" s_levels_in)
    (d_levels_behind : DefA K "levels_behind" s_levels_behind)
    (d_by_level : DefA K "by_level" s_by_level)
    (d_comes_behind : DefA K "comes_behind" s_comes_behind)
    (d_longest_levels : DefA K "longest_levels" s_longest_levels)
    (d_common_row : DefA K "common_row" s_common_row)
    (d_is_match : DefA K "is_match" s_is_match)
    (d_are_matches : DefA K "are_matches" s_are_matches)
    (d_least_cover : DefA K "least_cover" s_least_cover)
    (d_is_cover : DefA K "is_cover" s_is_cover)
    (d__law_m_text : DefA K "_law_m_text" s__law_m_text)
    (d__law_m_near : DefA K "_law_m_near" s__law_m_near)
    (d__law_m_matches : DefA K "_law_m_matches" s__law_m_matches)
    (d__law_m_behind : DefA K "_law_m_behind" s__law_m_behind)
    (d__law_m_longest : DefA K "_law_m_longest" s__law_m_longest)
    (d__law_m_ranks : DefA K "_law_m_ranks" s__law_m_ranks)
    (d__law_m_is_row : DefA K "_law_m_is_row" s__law_m_is_row)
    (d__law_m_passed : DefA K "_law_m_passed" s__law_m_passed)
    (d__law_start : DefA K "_law_start" s__law_start)
    (d__law_draw : DefA K "_law_draw" s__law_draw)
    (d__law_pick : DefA K "_law_pick" s__law_pick)
    (d__law_mixed : DefA K "_law_mixed" s__law_mixed)
    (d__law_same : DefA K "_law_same" s__law_same)
    (d__law_is_cover : DefA K "_law_is_cover" s__law_is_cover)
    (d__law_bent : DefA K "_law_bent" s__law_bent)
    (d__law_one_word_right : DefA K "_law_one_word_right" s__law_one_word_right)
    (z_isinstance : PySem.W.nsIn K mainGlobals "isinstance" = some none)
    (z_len : PySem.W.nsIn K mainGlobals "len" = some none)
    (z_list : PySem.W.nsIn K mainGlobals "list" = some none)
    (z_tuple : PySem.W.nsIn K mainGlobals "tuple" = some none)
    (z_dict : PySem.W.nsIn K mainGlobals "dict" = some none)
    (z_int : PySem.W.nsIn K mainGlobals "int" = some none)
    (z_bool : PySem.W.nsIn K mainGlobals "bool" = some none)
    (z_str : PySem.W.nsIn K mainGlobals "str" = some none)
    (z_min : PySem.W.nsIn K mainGlobals "min" = some none)
    (z_all : PySem.W.nsIn K mainGlobals "all" = some none)
    (z_range : PySem.W.nsIn K mainGlobals "range" = some none)
    (z_enumerate : PySem.W.nsIn K mainGlobals "enumerate" = some none)
    (z_zip : PySem.W.nsIn K mainGlobals "zip" = some none)
    (z_repr : PySem.W.nsIn K mainGlobals "repr" = some none)
    (z_max : PySem.W.nsIn K mainGlobals "max" = some none)
    (z_sum : PySem.W.nsIn K mainGlobals "sum" = some none)
    (z_sorted : PySem.W.nsIn K mainGlobals "sorted" = some none)
    (z_any : PySem.W.nsIn K mainGlobals "any" = some none) :
    LawG l w K CX0 63 "_law_script" mg fa h := by
  obtain ⟨f, oc, kV, dc, pm, ct, od, an, sl, la, ll, lc⟩ := lw
  have e := hfa.symm.trans (PySem.W.mg_of X G la)
  cases e
  have T : Bl mg := ⟨PySem.W.mg_none_of X G z_isinstance, PySem.W.mg_none_of X G z_len, PySem.W.mg_none_of X G z_list, PySem.W.mg_none_of X G z_tuple, PySem.W.mg_none_of X G z_dict, PySem.W.mg_none_of X G z_int, PySem.W.mg_none_of X G z_bool, PySem.W.mg_none_of X G z_str, PySem.W.mg_none_of X G z_min, PySem.W.mg_none_of X G z_all, PySem.W.mg_none_of X G z_range, PySem.W.mg_none_of X G z_enumerate, PySem.W.mg_none_of X G z_zip, PySem.W.mg_none_of X G z_repr⟩
  refine ⟨PySem.W.fnOf "law" "law" (defArgs s_law) (defBody s_law) (defScope s_law) .none kV dc pm an (.ref c) ct, [], spLaw K, (fun p hp => (by cases hp)), (fun p hp => (by cases hp)), (fun p hp => (by cases hp)), fun s u => .of_eq rfl, fun H a ns hn _ hT hS => ⟨a, ns, rfl, hS, hn, rfl⟩, fun base kin glob tb => ?_⟩
  have b_max : mg "max" = none := PySem.W.mg_none_of X G z_max
  have b_sum : mg "sum" = none := PySem.W.mg_none_of X G z_sum
  have b_sorted : mg "sorted" = none := PySem.W.mg_none_of X G z_sorted
  have b_any : mg "any" = none := PySem.W.mg_none_of X G z_any
  have E_NoText : Ec l.prog w K mg base "NoText" "index" C1 := ec_NoText X G c1
  have O_is_list : Own l.prog w K mg base CX0 1 "is_list" ["thing"] (sp1 (fun _ => True) fun d => .bool (isSeq d)) := own_of X G d_is_list (fun _ _ _ _ _ _ us hl => match us, hl with | [_], _ => rfl) fun f fd m k b F => ok_is_list F T
  have O_is_integer : Own l.prog w K mg base CX0 1 "is_integer" ["thing"] (sp1 (fun _ => True) fun d => .bool (isIntD d)) := own_of X G d_is_integer (fun _ _ _ _ _ _ us hl => match us, hl with | [_], _ => rfl) fun f fd m k b F => ok_is_integer F T
  have O_is_number : Own l.prog w K mg base CX0 2 "is_number" ["thing"] (sp1 (fun _ => True) fun d => .bool (isNumD d)) := own_of X G d_is_number (fun _ _ _ _ _ _ us hl => match us, hl with | [_], _ => rfl) fun f fd m k b F => ok_is_number F T O_is_integer
  have O_is_pair : Own l.prog w K mg base CX0 2 "is_pair" ["thing"] (sp1 (fun _ => True) fun d => .bool (isSeq d && decide (lenD d = 2))) := own_of X G d_is_pair (fun _ _ _ _ _ _ us hl => match us, hl with | [_], _ => rfl) fun f fd m k b F => ok_is_pair F T O_is_list
  have O_is_words : Own l.prog w K mg base CX0 1 "is_words" ["thing"] (sp1 wordsPre fun d => .bool (isWordsD d)) := own_of X G d_is_words (fun _ _ _ _ _ _ us hl => match us, hl with | [_], _ => rfl) fun f fd m k b F => ok_is_words F T
  have O_first_false : Own l.prog w K mg base CX0 1 "first_false" ["tests"] (sp1 Bools fun d => ffD 0 (itemsD d)) := own_of X G d_first_false (fun _ _ _ _ _ _ us hl => match us, hl with | [_], _ => rfl) fun f fd m k b F => ok_first_false F T
  have O_wrong_words : Own l.prog w K mg base CX0 2 "wrong_words" ["things"] (sp1 wordsAll wrongD) := own_of X G d_wrong_words (fun _ _ _ _ _ _ us hl => match us, hl with | [_], _ => rfl) fun f fd m k b F => ok_wrong_words F T O_is_list O_is_words O_first_false
  have O_check_texts : Own l.prog w K mg base (L2.CX l.prog w) 3 "check_texts" ["texts"] (spX1 (fun D => ∃ ds, D = .list ds ∧ ∀ d ∈ ds, wordsAll d) fun D => textsOutN C1 (itemsD D)) := own_of X G d_check_texts (fun _ _ _ _ _ _ us hl => match us, hl with | [_], _ => rfl) fun f fd m k b F => ok_check_textsN F T O_wrong_words E_NoText
  have O_levels_in : Own l.prog w K mg base CX0 1 "levels_in" ["one", "other"] spLevels := own_of X G d_levels_in (fun _ _ _ _ _ _ us hl => match us, hl with | [_, _], _ => rfl) fun f fd m k b F => ok_levels_in F T b_max
  have O_levels_behind : Own l.prog w K mg base CX0 2 "levels_behind" ["one", "other"] spBehind := own_of X G d_levels_behind (fun _ _ _ _ _ _ us hl => match us, hl with | [_, _], _ => rfl) fun f fd m k b F => ok_levels_behind F T O_levels_in
  have O_by_level : Own l.prog w K mg base CX0 1 "by_level" ["levels"] spByLevel := own_of X G d_by_level (fun _ _ _ _ _ _ us hl => match us, hl with | [_], _ => rfl) fun f fd m k b F => ok_by_level F T b_max
  have O_comes_behind : Own l.prog w K mg base CX0 1 "comes_behind" ["match", "other"] (sp2 pqPre fun a b => .bool (behD a b)) := own_of X G d_comes_behind (fun _ _ _ _ _ _ us hl => match us, hl with | [_, _], _ => rfl) fun f fd m k b F => ok_comes_behind F T
  have O_longest_levels : Own l.prog w K mg base CX0 3 "longest_levels" ["one", "other"] spLongest := own_of X G d_longest_levels (fun _ _ _ _ _ _ us hl => match us, hl with | [_, _], _ => rfl) fun f fd m k b F => ok_longest_levels F T b_max O_levels_in O_levels_behind O_by_level
  have O_common_row : Own l.prog w K mg base (L2.CX l.prog w) 4 "common_row" ["one", "other"] spCommon := own_of X G d_common_row (fun _ _ _ _ _ _ us hl => match us, hl with | [_, _], _ => rfl) fun f fd m k b F => ok_common_row F T O_check_texts O_longest_levels O_comes_behind
  have O_is_match : Own l.prog w K mg base CX0 3 "is_match" ["one", "other", "thing"] (sp3 (fun a b _ => mtPre a b) fun a b c => .bool (isMatchD (wsOf a) (wsOf b) c)) := own_of X G d_is_match (fun _ _ _ _ _ _ us hl => match us, hl with | [_, _, _], _ => rfl) fun f fd m k b F => ok_is_match F T O_is_pair O_is_number
  have O_are_matches : Own l.prog w K mg base CX0 4 "are_matches" ["one", "other", "thing"] (sp3 (fun a b c => mtPre a b ∧ (isSeq c = true → (itemsD c).length ≤ 100000)) fun a b c => .bool (areD (wsOf a) (wsOf b) c)) := own_of X G d_are_matches (fun _ _ _ _ _ _ us hl => match us, hl with | [_, _, _], _ => rfl) fun f fd m k b F => ok_are_matches F T O_is_list O_is_match
  have O_matches_of : Own l.prog w K mg base CX0 1 "matches_of" ["one", "other"] (sp2 mtPre fun a b => rowD (matchL (wsOf a) (wsOf b))) := own_of X G d_matches_of (fun _ _ _ _ _ _ us hl => match us, hl with | [_, _], _ => rfl) fun f fd m k b F => ok_matches_of F T
  have O_least_cover : Own l.prog w K mg base (L2.CX l.prog w) 4 "least_cover" ["one", "other"] spCover := own_of X G d_least_cover (fun _ _ _ _ _ _ us hl => match us, hl with | [_, _], _ => rfl) fun f fd m k b F => ok_least_cover F T O_check_texts O_levels_in O_by_level
  have O_is_cover : Own l.prog w K mg base (L2.CX l.prog w) 5 "is_cover" ["one", "other", "thing"] spCov := own_of X G d_is_cover (fun _ _ _ _ _ _ us hl => match us, hl with | [_, _, _], _ => rfl) fun f fd m k b F => ok_is_cover F T b_sorted b_any O_check_texts O_is_list O_are_matches O_matches_of O_comes_behind
  have O__law_start : Own l.prog w K mg base CX0 1 "_law_start" ["_law_script"] (spStart K) := own_of X G d__law_start (fun _ _ _ _ _ _ us hl => match us, hl with | [_], _ => rfl) fun f fd m k b F => ok_start F T
  have O__law_draw : Own l.prog w K mg base CX0 1 "_law_draw" ["_law_stream", "_law_many"] spDraw := own_of X G d__law_draw (fun _ _ _ _ _ _ us hl => match us, hl with | [_, _], _ => rfl) fun f fd m k b F => ok_draw F T
  have O__law_pick : Own l.prog w K mg base CX0 2 "_law_pick" ["_law_stream", "_law_some"] spPick := own_of X G d__law_pick (fun _ _ _ _ _ _ us hl => match us, hl with | [_, _], _ => rfl) fun f fd m k b F => ok_pick F T O__law_draw
  have O__law_mixed : Own l.prog w K mg base CX0 2 "_law_mixed" ["_law_stream", "_law_some"] spMixed := own_of X G d__law_mixed (fun _ _ _ _ _ _ us hl => match us, hl with | [_, _], _ => rfl) fun f fd m k b F => ok_mixed F T O__law_draw
  have O__law_m_text : Own l.prog w K mg base CX0 3 "_law_m_text" ["_law_stream", "_law_most"] spMText := own_of X G d__law_m_text (fun _ _ _ _ _ _ us hl => match us, hl with | [_, _], _ => rfl) fun f fd m k b F => ok_m_text F T O__law_draw O__law_pick O__law_mixed
  have O__law_m_near : Own l.prog w K mg base CX0 3 "_law_m_near" ["_law_stream", "_law_text", "_law_most"] spNear := own_of X G d__law_m_near (fun _ _ _ _ _ _ us hl => match us, hl with | [_, _, _], _ => rfl) fun f fd m k b F => ok_m_near F T O__law_draw O__law_pick
  have O__law_m_matches : Own l.prog w K mg base CX0 1 "_law_m_matches" ["_law_one", "_law_other"] (sp2 ws2 fun a b => rowD (matchL (wsOf a) (wsOf b))) := own_of X G d__law_m_matches (fun _ _ _ _ _ _ us hl => match us, hl with | [_, _], _ => rfl) fun f fd m k b F => ok_matches F T
  have O__law_m_behind : Own l.prog w K mg base CX0 1 "_law_m_behind" ["_law_pair", "_law_near"] (sp2 pr2 fun a b => .bool (bhB (prOf b) (prOf a))) := own_of X G d__law_m_behind (fun _ _ _ _ _ _ us hl => match us, hl with | [_, _], _ => rfl) fun f fd m k b F => ok_behind F T
  have N__law_m_behind : Own l.prog w K mg base CX0 1 "_law_m_behind" ["_law_pair", "_law_near"] (sp2 pqPre fun a b => .bool (behD a b)) := own_of X G d__law_m_behind (fun _ _ _ _ _ _ us hl => match us, hl with | [_, _], _ => rfl) fun f fd m k b F => ok_behindQ F T
  have O__law_m_longest : Own l.prog w K mg base CX0 2 "_law_m_longest" ["_law_one", "_law_other"] (sp2 ws7 fun a b => rowsD (longestL (wsOf a) (wsOf b))) := own_of X G d__law_m_longest (fun _ _ _ _ _ _ us hl => match us, hl with | [_, _], _ => rfl) fun f fd m k b F => ok_longest F T O__law_m_matches O__law_m_behind
  have O__law_m_is_row : Own l.prog w K mg base CX0 2 "_law_m_is_row" ["_law_one", "_law_other", "_law_thing"] (sp3 irPre fun a b c => .bool (isRowD (wsOf a) (wsOf b) c)) := own_of X G d__law_m_is_row (fun _ _ _ _ _ _ us hl => match us, hl with | [_, _, _], _ => rfl) fun f fd m k b F => ok_is_row F T O__law_m_matches N__law_m_behind
  have O__law_m_ranks : Own l.prog w K mg base CX0 2 "_law_m_ranks" ["_law_one", "_law_other"] spRanks := own_of X G d__law_m_ranks (fun _ _ _ _ _ _ us hl => match us, hl with | [_, _], _ => rfl) fun f fd m k b F => ok_ranks F T b_max O__law_m_matches N__law_m_behind
  have O__law_m_passed : Own l.prog w K mg base CX0 3 "_law_m_passed" ["_law_stream", "_law_text"] spMPassed := own_of X G d__law_m_passed (fun _ _ _ _ _ _ us hl => match us, hl with | [_, _], _ => rfl) fun f fd m k b F => ok_m_passed F T O__law_pick
  have O__law_same : Own l.prog w K mg base CX0 6 "_law_same" ["_law_found", "_law_due"] (spSame 4) := own_of X G d__law_same (fun _ _ _ _ _ _ us hl => match us, hl with | [_, _], _ => rfl) fun f fd m k b F => ok_same F T m k b 4
  have O__law_is_cover : Own l.prog w K mg base CX0 3 "_law_is_cover" ["_law_one", "_law_other", "_law_thing"] (sp3 icPre fun a b c => .bool (isCovD (wsOf a) (wsOf b) c)) := own_of X G d__law_is_cover (fun _ _ _ _ _ _ us hl => match us, hl with | [_, _, _], _ => rfl) fun f fd m k b F => ok_is_coverL F T b_sorted b_any O__law_m_is_row N__law_m_behind O__law_m_matches
  have O__law_bent : Own l.prog w K mg base CX0 3 "_law_bent" ["_law_stream", "_law_cover"] spBent := own_of X G d__law_bent (fun _ _ _ _ _ _ us hl => match us, hl with | [_, _], _ => rfl) fun f fd m k b F => ok_bent F T b_sum O__law_draw O__law_pick O__law_mixed
  have O__law_one_word_right : Own l.prog w K mg base (L2.CX l.prog w) 7 "_law_one_word_right" ["_law_stream"] spOne := own_of X G d__law_one_word_right (fun _ _ _ _ _ _ us hl => match us, hl with | [_], _ => rfl) fun f fd m k b F => ok_one F T O__law_draw O_least_cover O__law_m_matches O__law_same O_is_cover
  have Lb : Lib l.prog w K mg base := ⟨T, O__law_start, O__law_pick, O__law_m_text, O__law_m_near, O__law_m_passed, O__law_m_longest, O__law_m_ranks, O__law_same, O__law_is_cover, O__law_bent, O__law_one_word_right, O_common_row, O_least_cover, O_is_cover⟩
  intro s H u v Q E env bind rel sp
  obtain ⟨a, ns, hv, hS, hn, rfl⟩ := sp
  refine run_ofS (k := 8) (N := n_law) (ps := ["_law_script"]) (us := [u]) (vs := [v]) ll lc sc_law ⟨rfl, by decide, by decide⟩ env bind (.cons rel .nil) rfl fun hr => ?_
  obtain ⟨t, h1, h2⟩ := law_reads Lb hr hS hn
  cases hv
  exact ⟨t, h1.nox, h2⟩
end K52
open PySem PySem.W PyProof.Rows
set_option maxRecDepth 100000 in
set_option maxHeartbeats 0 in
theorem PySem.Challenge.cw_patchlots_k52_whole_covers_holds : PySem.Challenge.rw_patchlots_k52_whole_covers.Holds := by
  w_on; o_law; k_head; (case hw => w_witness2)
  k_fill
  refine KD.walk_ofG (l := PySem.Challenge.rw_patchlots_k52_whole_covers) (n := 63) (x := "_law_script") (CX := fun _ => L2.CX0) rfl (by decide) rfl (fun w h Y => PySem.W.kIn_of Y) ?F (fun _ _ _ _ _ z => z)
  case F =>
    intro w mg fa h Y KX G hmg
    refine' K52.all_mk KX G hmg ?lw ?c1 ?d_is_list ?d_is_integer ?d_is_number ?d_is_pair ?d_is_words ?d_first_false ?d_wrong_words ?d_check_texts ?d_matches_of ?d_levels_in ?d_levels_behind ?d_by_level ?d_comes_behind ?d_longest_levels ?d_common_row ?d_is_match ?d_are_matches ?d_least_cover ?d_is_cover ?d__law_m_text ?d__law_m_near ?d__law_m_matches ?d__law_m_behind ?d__law_m_longest ?d__law_m_ranks ?d__law_m_is_row ?d__law_m_passed ?d__law_start ?d__law_draw ?d__law_pick ?d__law_mixed ?d__law_same ?d__law_is_cover ?d__law_bent ?d__law_one_word_right ?z_isinstance ?z_len ?z_list ?z_tuple ?z_dict ?z_int ?z_bool ?z_str ?z_min ?z_all ?z_range ?z_enumerate ?z_zip ?z_repr ?z_max ?z_sum ?z_sorted ?z_any
    (case d_is_list => (refine' K52.da ?a ?l ?c ?k; (case a => k_is); (case l => k_is); (case c => k_is); (case k => k_is)))
    (case d_is_integer => (refine' K52.da ?a ?l ?c ?k; (case a => k_is); (case l => k_is); (case c => k_is); (case k => k_is)))
    (case d_is_number => (refine' K52.da ?a ?l ?c ?k; (case a => k_is); (case l => k_is); (case c => k_is); (case k => k_is)))
    (case d_is_pair => (refine' K52.da ?a ?l ?c ?k; (case a => k_is); (case l => k_is); (case c => k_is); (case k => k_is)))
    (case d_is_words => (refine' K52.da ?a ?l ?c ?k; (case a => k_is); (case l => k_is); (case c => k_is); (case k => k_is)))
    (case d_first_false => (refine' K52.da ?a ?l ?c ?k; (case a => k_is); (case l => k_is); (case c => k_is); (case k => k_is)))
    (case d_wrong_words => (refine' K52.da ?a ?l ?c ?k; (case a => k_is); (case l => k_is); (case c => k_is); (case k => k_is)))
    (case d_check_texts => (refine' K52.da ?a ?l ?c ?k; (case a => k_is); (case l => k_is); (case c => k_is); (case k => k_is)))
    (case d_matches_of => (refine' K52.da ?a ?l ?c ?k; (case a => k_is); (case l => k_is); (case c => k_is); (case k => k_is)))
    (case d_levels_in => (refine' K52.da ?a ?l ?c ?k; (case a => k_is); (case l => k_is); (case c => k_is); (case k => k_is)))
    (case d_levels_behind => (refine' K52.da ?a ?l ?c ?k; (case a => k_is); (case l => k_is); (case c => k_is); (case k => k_is)))
    (case d_by_level => (refine' K52.da ?a ?l ?c ?k; (case a => k_is); (case l => k_is); (case c => k_is); (case k => k_is)))
    (case d_comes_behind => (refine' K52.da ?a ?l ?c ?k; (case a => k_is); (case l => k_is); (case c => k_is); (case k => k_is)))
    (case d_longest_levels => (refine' K52.da ?a ?l ?c ?k; (case a => k_is); (case l => k_is); (case c => k_is); (case k => k_is)))
    (case d_common_row => (refine' K52.da ?a ?l ?c ?k; (case a => k_is); (case l => k_is); (case c => k_is); (case k => k_is)))
    (case d_is_match => (refine' K52.da ?a ?l ?c ?k; (case a => k_is); (case l => k_is); (case c => k_is); (case k => k_is)))
    (case d_are_matches => (refine' K52.da ?a ?l ?c ?k; (case a => k_is); (case l => k_is); (case c => k_is); (case k => k_is)))
    (case d_least_cover => (refine' K52.da ?a ?l ?c ?k; (case a => k_is); (case l => k_is); (case c => k_is); (case k => k_is)))
    (case d_is_cover => (refine' K52.da ?a ?l ?c ?k; (case a => k_is); (case l => k_is); (case c => k_is); (case k => k_is)))
    (case d__law_m_text => (refine' K52.da ?a ?l ?c ?k; (case a => k_is); (case l => k_is); (case c => k_is); (case k => k_is)))
    (case d__law_m_near => (refine' K52.da ?a ?l ?c ?k; (case a => k_is); (case l => k_is); (case c => k_is); (case k => k_is)))
    (case d__law_m_matches => (refine' K52.da ?a ?l ?c ?k; (case a => k_is); (case l => k_is); (case c => k_is); (case k => k_is)))
    (case d__law_m_behind => (refine' K52.da ?a ?l ?c ?k; (case a => k_is); (case l => k_is); (case c => k_is); (case k => k_is)))
    (case d__law_m_longest => (refine' K52.da ?a ?l ?c ?k; (case a => k_is); (case l => k_is); (case c => k_is); (case k => k_is)))
    (case d__law_m_ranks => (refine' K52.da ?a ?l ?c ?k; (case a => k_is); (case l => k_is); (case c => k_is); (case k => k_is)))
    (case d__law_m_is_row => (refine' K52.da ?a ?l ?c ?k; (case a => k_is); (case l => k_is); (case c => k_is); (case k => k_is)))
    (case d__law_m_passed => (refine' K52.da ?a ?l ?c ?k; (case a => k_is); (case l => k_is); (case c => k_is); (case k => k_is)))
    (case d__law_start => (refine' K52.da ?a ?l ?c ?k; (case a => k_is); (case l => k_is); (case c => k_is); (case k => k_is)))
    (case d__law_draw => (refine' K52.da ?a ?l ?c ?k; (case a => k_is); (case l => k_is); (case c => k_is); (case k => k_is)))
    (case d__law_pick => (refine' K52.da ?a ?l ?c ?k; (case a => k_is); (case l => k_is); (case c => k_is); (case k => k_is)))
    (case d__law_mixed => (refine' K52.da ?a ?l ?c ?k; (case a => k_is); (case l => k_is); (case c => k_is); (case k => k_is)))
    (case d__law_same => (refine' K52.da ?a ?l ?c ?k; (case a => k_is); (case l => k_is); (case c => k_is); (case k => k_is)))
    (case d__law_is_cover => (refine' K52.da ?a ?l ?c ?k; (case a => k_is); (case l => k_is); (case c => k_is); (case k => k_is)))
    (case d__law_bent => (refine' K52.da ?a ?l ?c ?k; (case a => k_is); (case l => k_is); (case c => k_is); (case k => k_is)))
    (case d__law_one_word_right => (refine' K52.da ?a ?l ?c ?k; (case a => k_is); (case l => k_is); (case c => k_is); (case k => k_is)))
    (case lw => (refine' K52.la ?a ?l ?c; (case a => k_is); (case l => k_is); (case c => k_is)))
    (case c1 => (refine' K52.ca ?a ?xL ?rv ?sa ?ga ?gg ?no ?a1 ?t1 ?l1 ?c1 ?k1 ?kC ?eC ?tC ?hC; (case a => k_is); (case xL => k_is); (case rv => decide +kernel); (case sa => k_is); (case ga => k_is); (case gg => k_is); (case no => k_is); (case a1 => k_is); (case t1 => k_is); (case l1 => k_is); (case c1 => k_is); (case k1 => k_is); (case kC => k_is); (case eC => k_is); (case tC => k_is); (case hC => k_is)))
    (case z_isinstance => k_is)
    (case z_len => k_is)
    (case z_list => k_is)
    (case z_tuple => k_is)
    (case z_dict => k_is)
    (case z_int => k_is)
    (case z_bool => k_is)
    (case z_str => k_is)
    (case z_min => k_is)
    (case z_all => k_is)
    (case z_range => k_is)
    (case z_enumerate => k_is)
    (case z_zip => k_is)
    (case z_repr => k_is)
    (case z_max => k_is)
    (case z_sum => k_is)
    (case z_sorted => k_is)
    (case z_any => k_is)

