import PyProof.Rows.All
import Wide.All
import OpenK.AllK
import Wide.FinOn
import HandS.ForMost
import HandS.IsInst
import HandS.Style
import HandS.TupAny
import HandS.Deep
import KE.SortData
import HandS.Walk
import PySem.Challenge.RW_patchlots_k56_whole_three_texts
import HandS.ForExc
import HandS.ExcInit
import HandS.ExcField
import HandS.Evl
import HandS.Zip
import KE.GoesMore
import PyProof.EnumMake
import PyProof.Draws
import KE.DataMinMax
import HandS.SortKw
import HandS.Dict
import HandS.Small
import HandS.DictComp
import KE.KEqDict
import HandS.DictTup
import HandS.Conv
import KE.KDictCopyH
import HandS.NoneIn
import HandS.WordsExc
import HandS.Iter
import HandS.Defaults
import HandS.EndTab
import HandS.Lambda
import HandS.TryMany
import PyProof.ReprReads
import PyProof.ReprRoads
import PyProof.ReprLen
set_option Elab.async false
set_option linter.all false
set_option maxRecDepth 100000
set_option maxHeartbeats 4000000
/-! Data as a whole over the hand layer: DX, what evaluates to what, a def's promise over data. -/
namespace KD
open PySem L2

/-! ### data that stands apart from some addresses -/
def kd : Key → PyData
  | .inl i => .int i
  | .inr x => .str x
mutual
inductive DX (X : Addr → Prop) (H : Hp) : V → PyData → Prop
  | non : DX X H .non .none
  | bl (b : Bool) : DX X H (.bl b) (.bool b)
  | int (i : Int) : DX X H (.int i) (.int i)
  | str (x : Str) : DX X H (.str x) (.str x)
  | lst {a : Addr} {xs : List V} {ds : List PyData} : ¬ X a → H a = some (.lst xs) → DXs X H xs ds → DX X H (.ref a) (.list ds)
  | tup {a : Addr} {xs : List V} {ds : List PyData} : ¬ X a → H a = some (.tup xs) → DXs X H xs ds → DX X H (.ref a) (.tuple ds)
  | dic {a : Addr} {kvs : List (Key × V)} {ks : List (PyData × PyData)} : ¬ X a → H a = some (.dK kvs) → DXk X H kvs ks → DX X H (.ref a) (.dict ks)
inductive DXs (X : Addr → Prop) (H : Hp) : List V → List PyData → Prop
  | nil : DXs X H [] []
  | cons {v : V} {vs : List V} {d : PyData} {ds : List PyData} : DX X H v d → DXs X H vs ds → DXs X H (v :: vs) (d :: ds)
inductive DXk (X : Addr → Prop) (H : Hp) : List (Key × V) → List (PyData × PyData) → Prop
  | nil : DXk X H [] []
  | cons {k : Key} {v : V} {vs : List (Key × V)} {d : PyData} {ds : List (PyData × PyData)} : DX X H v d → DXk X H vs ds → DXk X H ((k, v) :: vs) ((kd k, d) :: ds)
end
/-- what is not of X is kept -/
def Kp (X : Addr → Prop) (H H' : Hp) : Prop := ∀ a o, ¬ X a → H a = some o → H' a = some o
theorem Kp.of {X : Addr → Prop} {H H' : Hp} (h : Same H H') : Kp X H H' := fun a o _ e => h a o e
theorem Kp.refl {X : Addr → Prop} {H : Hp} : Kp X H H := fun _ _ _ e => e
theorem Kp.trans {X : Addr → Prop} {H H1 H2 : Hp} (h : Kp X H H1) (k : Kp X H1 H2) : Kp X H H2 := fun a o n e => k a o n (h a o n e)
section
variable {X : Addr → Prop} {H H' : Hp}
mutual
theorem DX.mono (k : Kp X H H') : ∀ {v : V} {d : PyData}, DX X H v d → DX X H' v d
  | _, _, .non => .non
  | _, _, .bl b => .bl b
  | _, _, .int i => .int i
  | _, _, .str x => .str x
  | _, _, .lst n h r => .lst n (k _ _ n h) (DXs.mono k r)
  | _, _, .tup n h r => .tup n (k _ _ n h) (DXs.mono k r)
  | _, _, .dic n h r => .dic n (k _ _ n h) (DXk.mono k r)
theorem DXs.mono (k : Kp X H H') : ∀ {vs : List V} {ds : List PyData}, DXs X H vs ds → DXs X H' vs ds
  | _, _, .nil => .nil
  | _, _, .cons h r => .cons (DX.mono k h) (DXs.mono k r)
theorem DXk.mono (k : Kp X H H') : ∀ {vs : List (Key × V)} {ds : List (PyData × PyData)}, DXk X H vs ds → DXk X H' vs ds
  | _, _, .nil => .nil
  | _, _, .cons h r => .cons (DX.mono k h) (DXk.mono k r)
end
theorem DXs.length : ∀ {vs : List V} {ds : List PyData}, DXs X H vs ds → vs.length = ds.length
  | _, _, .nil => rfl
  | _, _, .cons _ r => congrArg (· + 1) (DXs.length r)
theorem DXs.get : ∀ {vs : List V} {ds : List PyData} {i : Nat} {d : PyData}, DXs X H vs ds → ds[i]? = some d → ∃ v, vs[i]? = some v ∧ DX X H v d
  | _, _, _, _, .nil, e => by simp at e
  | _, _, 0, _, .cons h _, e => by simp at e; subst e; exact ⟨_, rfl, h⟩
  | _, _, i + 1, d, .cons _ r, e => by
    obtain ⟨v, h1, h2⟩ := DXs.get (i := i) (d := d) r (by simpa using e)
    exact ⟨v, by simpa using h1, h2⟩
theorem DXs.getV : ∀ {vs : List V} {ds : List PyData} {i : Nat} {v : V}, DXs X H vs ds → vs[i]? = some v → ∃ d, ds[i]? = some d ∧ DX X H v d
  | _, _, _, _, .nil, e => by simp at e
  | _, _, 0, _, .cons h _, e => by simp at e; subst e; exact ⟨_, rfl, h⟩
  | _, _, i + 1, d, .cons _ r, e => by
    obtain ⟨v, h1, h2⟩ := DXs.getV (i := i) (v := d) r (by simpa using e)
    exact ⟨v, by simpa using h1, h2⟩
theorem DXs.append : ∀ {vs ws : List V} {ds es : List PyData}, DXs X H vs ds → DXs X H ws es → DXs X H (vs ++ ws) (ds ++ es)
  | _, _, _, _, .nil, s => s
  | _, _, _, _, .cons h r, s => .cons h (DXs.append r s)
theorem DXs.take : ∀ {vs : List V} {ds : List PyData} (n : Nat), DXs X H vs ds → DXs X H (vs.take n) (ds.take n)
  | _, _, 0, _ => .nil
  | _, _, _ + 1, .nil => .nil
  | _, _, n + 1, .cons h r => .cons h (DXs.take n r)
theorem DXs.drop : ∀ {vs : List V} {ds : List PyData} (n : Nat), DXs X H vs ds → DXs X H (vs.drop n) (ds.drop n)
  | _, _, 0, r => r
  | _, _, _ + 1, .nil => .nil
  | _, _, n + 1, .cons _ r => DXs.drop n r
theorem DXs.erase : ∀ {vs : List V} {ds : List PyData} (n : Nat), DXs X H vs ds → DXs X H (vs.eraseIdx n) (ds.eraseIdx n)
  | _, _, _, .nil => .nil
  | _, _, 0, .cons _ r => r
  | _, _, n + 1, .cons h r => .cons h (DXs.erase n r)
theorem DXs.rep {vs : List V} {ds : List PyData} (h : DXs X H vs ds) : ∀ n : Nat, DXs X H (List.replicate n vs).flatten (List.replicate n ds).flatten
  | 0 => .nil
  | n + 1 => by
    rw [List.replicate_succ, List.replicate_succ, List.flatten_cons, List.flatten_cons]
    exact DXs.append h (DXs.rep h n)
theorem DXs.snoc {vs : List V} {ds : List PyData} {v : V} {d : PyData} (h : DXs X H vs ds) (k : DX X H v d) : DXs X H (vs ++ [v]) (ds ++ [d]) := DXs.append h (.cons k .nil)

/-! ### data without dicts is the layer's data -/
mutual
def noDict : PyData → Bool
  | .none => true
  | .bool _ => true
  | .int _ => true
  | .str _ => true
  | .list ds => noDicts ds
  | .tuple ds => noDicts ds
  | .dict _ => false
def noDicts : List PyData → Bool
  | [] => true
  | d :: ds => noDict d && noDicts ds
end
mutual
theorem DX.dp {K : PySem.W.Frag} : ∀ {v : V} {d : PyData}, DX X H v d → noDict d = true → Dp K H v d
  | _, _, .non, _ => .non
  | _, _, .bl b, _ => .bl b
  | _, _, .int i, _ => .int i
  | _, _, .str x, _ => .str x
  | _, _, .lst _ h r, n => .lst (SqL.of h) (DXs.dp r (by simpa [noDict] using n))
  | _, _, .tup _ h r, n => .tup (SqT.of h) (DXs.dp r (by simpa [noDict] using n))
  | _, _, .dic _ _ _, n => by simp [noDict] at n
theorem DXs.dp {K : PySem.W.Frag} : ∀ {vs : List V} {ds : List PyData}, DXs X H vs ds → noDicts ds = true → DpAll K H vs ds
  | _, _, .nil, _ => .nil
  | _, _, .cons (d := d) (ds := ds) h r, n => by
    have n' : noDict d = true ∧ noDicts ds = true := by simpa [noDicts] using n
    exact .cons (DX.dp h n'.1) (DXs.dp r n'.2)
end
end
/-- the addresses of X stand in the heap -/
def Trk (X : Addr → Prop) (H : Hp) : Prop := ∀ a, X a → ∃ o, H a = some o
theorem Trk.mono {X : Addr → Prop} {H H' : Hp} (t : Trk X H) (s : Same H H') : Trk X H' := fun a h => let ⟨o, e⟩ := t a h; ⟨o, s a o e⟩
theorem Trk.new {X : Addr → Prop} {H : Hp} {p : Addr} (t : Trk X H) (h : H p = none) : ¬ X p := fun x => by
  obtain ⟨o, e⟩ := t p x
  rw [h] at e
  cases e
theorem Same.upd {H : Hp} {p : Addr} {o : HO} (h : H p = none) : Same H (upd H p o) := fun b u e => by
  rw [upd_ne (ne_of_none e h)]
  exact e

/-! ### the frame's values as data -/
inductive Sv where
  | dat (d : PyData) | val (v : V) | un
def SvOk (X : Addr → Prop) (H : Hp) : Sv → Option (Option V) → Prop
  | .dat d, o => ∃ v, o = some (some v) ∧ DX X H v d
  | .val v, o => o = some (some v)
  | .un, _ => True
structure EnvOk (X : Addr → Prop) (H : Hp) (σ : St) (Γ : List Sv) : Prop where
  len : σ.length = Γ.length
  get : ∀ (i : Nat) (s : Sv), Γ[i]? = some s → SvOk X H s σ[i]?
section
variable {X : Addr → Prop} {H H' : Hp} {σ : St} {Γ : List Sv}
theorem SvOk.mono (k : Kp X H H') {s : Sv} {o : Option (Option V)} (h : SvOk X H s o) : SvOk X H' s o := by
  cases s with
  | dat d =>
    obtain ⟨v, e, r⟩ := h
    exact ⟨v, e, r.mono k⟩
  | val v => exact h
  | un => trivial
theorem EnvOk.mono (k : Kp X H H') (h : EnvOk X H σ Γ) : EnvOk X H' σ Γ := ⟨h.len, fun i s e => (h.get i s e).mono k⟩
theorem EnvOk.same (k : Same H H') (h : EnvOk X H σ Γ) : EnvOk X H' σ Γ := h.mono (Kp.of k)
theorem EnvOk.put {i : Nat} {v : V} {s : Sv} (h : EnvOk X H σ Γ) (hs : SvOk X H s (some (some v))) : EnvOk X H (σ.set i (some v)) (Γ.set i s) := by
  refine ⟨by rw [List.length_set, List.length_set]; exact h.len, fun j t e => ?_⟩
  by_cases hj : i = j
  · subst hj
    by_cases hl : i < Γ.length
    · rw [List.getElem?_set_self hl] at e
      cases e
      rw [List.getElem?_set_self (by rw [h.len]; exact hl)]
      exact hs
    · rw [List.getElem?_eq_none (by rw [List.length_set]; omega)] at e
      cases e
  · rw [List.getElem?_set_ne hj] at e
    rw [List.getElem?_set_ne hj]
    exact h.get j t e
theorem EnvOk.set {i : Nat} {v : V} {d : PyData} (h : EnvOk X H σ Γ) (hd : DX X H v d) : EnvOk X H (σ.set i (some v)) (Γ.set i (.dat d)) := h.put ⟨v, rfl, hd⟩
theorem EnvOk.setV {i : Nat} {v : V} (h : EnvOk X H σ Γ) : EnvOk X H (σ.set i (some v)) (Γ.set i (.val v)) := h.put rfl
/-- what is not asked any more -/
theorem EnvOk.wipe (h : EnvOk X H σ Γ) : ∀ vs : List Nat, EnvOk X H (wipe σ vs) (vs.foldr (fun v g => g.set v .un) Γ)
  | [] => h
  | v :: vs => by
    have ih := EnvOk.wipe h vs
    show EnvOk X H ((L2.wipe σ vs).set v none) ((vs.foldr (fun v g => g.set v .un) Γ).set v .un)
    refine ⟨by rw [List.length_set, List.length_set]; exact ih.len, fun j t e => ?_⟩
    by_cases hj : v = j
    · subst hj
      by_cases hl : v < (vs.foldr (fun v g => g.set v Sv.un) Γ).length
      · rw [List.getElem?_set_self hl] at e
        cases e
        trivial
      · rw [List.getElem?_eq_none (by rw [List.length_set]; omega)] at e
        cases e
    · rw [List.getElem?_set_ne hj] at e
      rw [List.getElem?_set_ne hj]
      exact ih.get j t e
theorem envOk_start {N : List Str} {vs : List V} {ss : List Sv} (hl : vs.length = ss.length) (hs : ∀ (i : Nat) (s : Sv), ss[i]? = some s → ∀ v, vs[i]? = some v → SvOk X H s (some (some v))) (hN : vs.length ≤ N.length) : EnvOk X H (L2.start N vs) (ss ++ List.replicate (N.length - vs.length) .un) := by
  unfold L2.start
  refine ⟨by simp [hl], fun i s e => ?_⟩
  by_cases hi : i < vs.length
  · rw [List.getElem?_append_left (by omega)] at e
    rw [List.getElem?_append_left (by simpa using hi)]
    rw [List.getElem?_map, List.getElem?_eq_getElem hi]
    exact hs i s e _ (List.getElem?_eq_getElem hi)
  · rw [List.getElem?_append_right (by omega)] at e
    have hu : s = .un := by
      have := List.mem_of_getElem? e
      exact List.eq_of_mem_replicate this
    subst hu
    trivial
end

/-! ### what evaluates to what datum, leaving all as it is -/
def G (X : Addr → Prop) (te : TE) (σ : St) (H : Hp) (d : PyData) : Prop := ∀ H1, Same H H1 → ∀ Q : VK, (∀ v H2, Same H1 H2 → DX X H2 v d → Q v H2) → te σ H1 Q
def GV (te : TE) (σ : St) (H : Hp) (v : V) : Prop := ∀ H1, Same H H1 → ∀ Q : VK, Q v H1 → te σ H1 Q
def GT (tt : TT) (σ : St) (H : Hp) (b : Bool) : Prop := ∀ H1, Same H H1 → ∀ Q : Bool → Hp → Prop, (∀ H2, Same H1 H2 → Q b H2) → tt σ H1 Q
def GA (X : Addr → Prop) (ta : TA) (σ : St) (H : Hp) (ds : List PyData) : Prop := ∀ H1, Same H H1 → ∀ Q : List V → Hp → Prop, (∀ vs H2, Same H1 H2 → DXs X H2 vs ds → Q vs H2) → ta σ H1 Q
def GO (to : TO) (σ : St) (H : Hp) (o : Option Int) : Prop := ∀ H1, Same H H1 → ∀ Q : Option Int → Hp → Prop, (∀ H2, Same H1 H2 → Q o H2) → to σ H1 Q
/-- operations on data -/
def RD (X : Addr → Prop) (r : R2) (x y z : PyData) : Prop := ∀ H u v, Trk X H → DX X H u x → DX X H v y → ∀ Q : VK, (∀ w H2, Same H H2 → DX X H2 w z → Q w H2) → r u v H Q
def RB (X : Addr → Prop) (r : R2) (x y : PyData) (b : Bool) : Prop := ∀ H u v, Trk X H → DX X H u x → DX X H v y → ∀ Q : VK, Q (.bl b) H → r u v H Q
def RF (X : Addr → Prop) (r : List V → Hp → VK → Prop) (xs : List PyData) (z : PyData) : Prop := ∀ H us, Trk X H → DXs X H us xs → ∀ Q : VK, (∀ w H2, Same H H2 → DX X H2 w z → Q w H2) → r us H Q
section
variable {X : Addr → Prop} {σ : St} {H H' : Hp} {te ta tb tc : TE} {tt tu : TT} {x y z d e : PyData} {Γ : List Sv} {K : PySem.W.Frag} {r : R2}
theorem DX.int_inv {v : V} {i : Int} (h : DX X H v (.int i)) : v = .int i := by cases h; rfl
theorem DX.bl_inv {v : V} {b : Bool} (h : DX X H v (.bool b)) : v = .bl b := by cases h; rfl
theorem DX.str_inv {v : V} {s : Str} (h : DX X H v (.str s)) : v = .str s := by cases h; rfl
theorem DX.non_inv {v : V} (h : DX X H v .none) : v = .non := by cases h; rfl
theorem DX.lst_inv {v : V} {ds : List PyData} (h : DX X H v (.list ds)) : ∃ a xs, v = .ref a ∧ ¬ X a ∧ H a = some (.lst xs) ∧ DXs X H xs ds := by
  cases h with | lst n e r => exact ⟨_, _, rfl, n, e, r⟩
theorem DX.tup_inv {v : V} {ds : List PyData} (h : DX X H v (.tuple ds)) : ∃ a xs, v = .ref a ∧ ¬ X a ∧ H a = some (.tup xs) ∧ DXs X H xs ds := by
  cases h with | tup n e r => exact ⟨_, _, rfl, n, e, r⟩
theorem DX.newL {xs : List V} {ds : List PyData} (t : Trk X H) (h : DXs X H xs ds) {p : Addr} (hp : H p = none) : DX X (upd H p (.lst xs)) (.ref p) (.list ds) := .lst (t.new hp) upd_same (h.mono (Kp.of (Same.upd hp)))
theorem DX.newT {xs : List V} {ds : List PyData} (t : Trk X H) (h : DXs X H xs ds) {p : Addr} (hp : H p = none) : DX X (upd H p (.tup xs)) (.ref p) (.tuple ds) := .tup (t.new hp) upd_same (h.mono (Kp.of (Same.upd hp)))
theorem DX.isa_bool {v : V} {b : Bool} (h : DX X H v d) (e : v = .bl b) : d = .bool b := by subst e; cases h; rfl

theorem G.mono (s : Same H H') (h : G X te σ H d) : G X te σ H' d := fun H1 k Q q => h H1 (s.trans k) Q q
theorem GT.mono {b : Bool} (s : Same H H') (h : GT tt σ H b) : GT tt σ H' b := fun H1 k Q q => h H1 (s.trans k) Q q
theorem g_var {i : Nat} (E : EnvOk X H σ Γ) (h : Γ[i]? = some (.dat d)) : G X (tVar i) σ H d := fun H1 s Q q => by
  obtain ⟨v, e, r⟩ := E.get i _ h
  exact ⟨v, e, q v H1 (Same.refl H1) (r.mono (Kp.of s))⟩
theorem gv_var {i : Nat} {v : V} (E : EnvOk X H σ Γ) (h : Γ[i]? = some (.val v)) : GV (tVar i) σ H v := fun H1 s Q q => ⟨v, E.get i _ h, q⟩
theorem g_int {i : Int} : G X (tC (.int i)) σ H (.int i) := fun H1 _ Q q => q _ H1 (Same.refl H1) (.int i)
theorem g_bl {b : Bool} : G X (tC (.bl b)) σ H (.bool b) := fun H1 _ Q q => q _ H1 (Same.refl H1) (.bl b)
theorem g_str {s : Str} : G X (tC (.str s)) σ H (.str s) := fun H1 _ Q q => q _ H1 (Same.refl H1) (.str s)
theorem g_non : G X (tC .non) σ H .none := fun H1 _ Q q => q _ H1 (Same.refl H1) .non
theorem ga_nil : GA X tNil σ H [] := fun H1 _ Q q => q [] H1 (Same.refl H1) .nil
theorem ga_cons {ta : TE} {tr : TA} {ds : List PyData} (h : G X ta σ H d) (k : GA X tr σ H ds) : GA X (tCons ta tr) σ H (d :: ds) := fun H1 s Q q =>
  h H1 s _ fun v H2 s2 r => k H2 (s.trans s2) _ fun vs H3 s3 rs => q _ H3 (s2.trans s3) (.cons (r.mono (Kp.of s3)) rs)
theorem g_lst {ta : TA} {ds : List PyData} (t : Trk X H) (h : GA X ta σ H ds) (hl : ds.length ≤ 1000000) : G X (tLst ta) σ H (.list ds) := fun H1 s Q q =>
  h H1 s _ fun vs H2 s2 rs => ⟨by rw [rs.length, sizeLine_eq]; omega, fun p hp => q _ _ (s2.trans (Same.upd hp)) (DX.newL ((t.mono s).mono s2) rs hp)⟩
theorem g_tup {ta : TA} {ds : List PyData} (t : Trk X H) (h : GA X ta σ H ds) (hl : ds.length ≤ 1000000) : G X (tTup ta) σ H (.tuple ds) := fun H1 s Q q =>
  h H1 s _ fun vs H2 s2 rs => ⟨by rw [rs.length, sizeLine_eq]; omega, fun p hp => q _ _ (s2.trans (Same.upd hp)) (DX.newT ((t.mono s).mono s2) rs hp)⟩
theorem g_op (t : Trk X H) (ha : G X ta σ H x) (hb : G X tb σ H y) (hr : RD X r x y z) : G X (tOp r ta tb) σ H z := fun H1 s Q q =>
  ha H1 s _ fun u H2 s2 ru => hb H2 (s.trans s2) _ fun v H3 s3 rv => hr H3 u v (((t.mono s).mono s2).mono s3) (ru.mono (Kp.of s3)) rv Q fun w H4 s4 rw_ => q w H4 ((s2.trans s3).trans s4) rw_
theorem gt_op {b : Bool} (t : Trk X H) (ha : G X ta σ H x) (hb : G X tb σ H y) (hr : RB X r x y b) : GT (tTest (tOp r ta tb)) σ H b := fun H1 s Q q =>
  ha H1 s _ fun u H2 s2 ru => hb H2 (s.trans s2) _ fun v H3 s3 rv => hr H3 u v (((t.mono s).mono s2).mono s3) (ru.mono (Kp.of s3)) rv _ ⟨b, rfl, q H3 (s2.trans s3)⟩
theorem RB.rd {b : Bool} (h : RB X r x y b) : RD X r x y (.bool b) := fun H u v t ru rv Q q => h H u v t ru rv Q (q _ H (Same.refl H) (.bl b))
theorem RD.or1 {r r' : R2} (h : RD X r x y z) : RD X (fun x y H Q => r x y H Q ∨ r' x y H Q) x y z := fun H u v t ru rv Q q => .inl (h H u v t ru rv Q q)
theorem RD.or2 {r r' : R2} (h : RD X r' x y z) : RD X (fun x y H Q => r x y H Q ∨ r' x y H Q) x y z := fun H u v t ru rv Q q => .inr (h H u v t ru rv Q q)
/-- a test that is a bool's -/
theorem gt_B {b : Bool} (h : G X te σ H (.bool b)) : GT (tB te) σ H b := fun H1 s Q q => h H1 s _ fun v H2 s2 r => ⟨b, r.bl_inv, q H2 s2⟩
theorem gt_test {b : Bool} (h : G X te σ H (.bool b)) : GT (tTest te) σ H b := fun H1 s Q q => h H1 s _ fun v H2 s2 r => ⟨b, r.bl_inv, q H2 s2⟩
theorem gt_not {b : Bool} (h : GT tt σ H b) : GT (tNot tt) σ H (!b) := fun H1 s Q q => h H1 s _ fun H2 s2 => q H2 s2
theorem gt_and {a b : Bool} (h : GT tt σ H a) (k : a = true → GT tu σ H b) : GT (tAnd tt tu) σ H (a && b) := fun H1 s Q q => h H1 s _ fun H2 s2 => by
  cases a with
  | true =>
    show tu σ H2 Q
    exact k rfl H2 (s.trans s2) Q fun H3 s3 => q H3 (s2.trans s3)
  | false =>
    show Q false H2
    exact q H2 s2
theorem gt_or {a b : Bool} (h : GT tt σ H a) (k : a = false → GT tu σ H b) : GT (tOr tt tu) σ H (a || b) := fun H1 s Q q => h H1 s _ fun H2 s2 => by
  cases a with
  | true =>
    show Q true H2
    exact q H2 s2
  | false =>
    show tu σ H2 Q
    exact k rfl H2 (s.trans s2) Q fun H3 s3 => q H3 (s2.trans s3)
theorem gt_is {a b : Bool} (h : GT tt σ H a) (e : a = b) : GT tt σ H b := e ▸ h
theorem g_is (h : G X te σ H d) (e' : d = e) : G X te σ H e := e' ▸ h
theorem g_and {a b : Bool} (h : G X ta σ H (.bool a)) (k : a = true → G X tb σ H (.bool b)) : G X (tAndV ta tb) σ H (.bool (a && b)) := fun H1 s Q q => h H1 s _ fun v H2 s2 r => ⟨a, r.bl_inv, by
  cases a with
  | true =>
    show tb σ H2 Q
    exact k rfl H2 (s.trans s2) Q fun v H3 s3 r3 => q v H3 (s2.trans s3) r3
  | false =>
    show Q (.bl false) H2
    exact q _ H2 s2 (.bl false)⟩
theorem g_or {a b : Bool} (h : G X ta σ H (.bool a)) (k : a = false → G X tb σ H (.bool b)) : G X (tOrV ta tb) σ H (.bool (a || b)) := fun H1 s Q q => h H1 s _ fun v H2 s2 r => ⟨a, r.bl_inv, by
  cases a with
  | true =>
    show Q (.bl true) H2
    exact q _ H2 s2 (.bl true)
  | false =>
    show tb σ H2 Q
    exact k rfl H2 (s.trans s2) Q fun v H3 s3 r3 => q v H3 (s2.trans s3) r3⟩
theorem g_not {a : Bool} (h : G X ta σ H (.bool a)) : G X (tNotV ta) σ H (.bool (!a)) := fun H1 s Q q => h H1 s _ fun v H2 s2 r => ⟨a, r.bl_inv, q _ H2 s2 (.bl _)⟩
theorem g_if {b : Bool} (h : GT tt σ H b) (h1 : b = true → G X ta σ H d) (h2 : b = false → G X tb σ H d) : G X (tIf tt ta tb) σ H d := fun H1 s Q q => h H1 s _ fun H2 s2 => by
  cases b with
  | true =>
    show ta σ H2 Q
    exact h1 rfl H2 (s.trans s2) Q fun v H3 s3 r3 => q v H3 (s2.trans s3) r3
  | false =>
    show tb σ H2 Q
    exact h2 rfl H2 (s.trans s2) Q fun v H3 s3 r3 => q v H3 (s2.trans s3) r3
theorem g_call {sp : Sp} {E : XK} {ta : TA} {ds : List PyData} (h : GA X ta σ H ds) (k : ∀ vs H1, Same H H1 → DXs X H1 vs ds → ∀ Q : VK, (∀ v H2, Same H1 H2 → DX X H2 v d → Q v H2) → sp vs H1 Q E) : G X (tCall sp [] E ta) σ H d := fun H1 s Q q =>
  h H1 s _ fun vs H2 s2 rs => by
    rw [List.append_nil]
    exact k vs H2 (s.trans s2) rs Q fun v H3 s3 r3 => q v H3 (s2.trans s3) r3
theorem g_cb {rr : List V → Hp → VK → Prop} {ta : TA} {ds : List PyData} (t : Trk X H) (h : GA X ta σ H ds) (k : RF X rr ds d) : G X (tCB rr ta) σ H d := fun H1 s Q q =>
  h H1 s _ fun vs H2 s2 rs => k H2 vs ((t.mono s).mono s2) rs Q fun w H3 s3 r3 => q w H3 (s2.trans s3) r3
theorem go_none : GO tNoPart σ H none := fun H1 _ Q q => q H1 (Same.refl H1)
theorem go_some {i : Int} (h : G X te σ H (.int i)) : GO (tPart te) σ H (some i) := fun H1 s Q q => h H1 s _ fun v H2 s2 r => ⟨i, r.int_inv, q H2 s2⟩

/-! ### the operations -/
theorem rd_I0 {g : Int → Int → Int} {i j : Int} : RD X (rI0 fun i j => .int (g i j)) (.int i) (.int j) (.int (g i j)) := fun H u v _ ru rv Q q => ⟨i, j, ru.int_inv, rv.int_inv, q _ H (Same.refl H) (.int _)⟩
theorem rd_I {C : Int → Int → Prop} {g : Int → Int → Int} {i j : Int} (c : C i j) : RD X (rI C fun i j => .int (g i j)) (.int i) (.int j) (.int (g i j)) := fun H u v _ ru rv Q q => ⟨i, j, ru.int_inv, rv.int_inv, c, q _ H (Same.refl H) (.int _)⟩
theorem rb_I0 {g : Int → Int → Bool} {i j : Int} : RB X (rI0 fun i j => .bl (g i j)) (.int i) (.int j) (g i j) := fun H u v _ ru rv Q q => ⟨i, j, ru.int_inv, rv.int_inv, q⟩
theorem rd_cat {xs ys : List PyData} (hl : xs.length + ys.length ≤ 1000000) : RD X rCat (.list xs) (.list ys) (.list (xs ++ ys)) := fun H u v t ru rv Q q => by
  obtain ⟨a, us, rfl, _, ha, rs⟩ := ru.lst_inv
  obtain ⟨b, ws, rfl, _, hb, rt⟩ := rv.lst_inv
  exact ⟨a, b, us, ws, rfl, rfl, ha, hb, by rw [rs.length, rt.length, sizeLine_eq]; omega, fun p hp => q _ _ (Same.upd hp) (DX.newL t (rs.append rt) hp)⟩
theorem rd_rep {xs : List PyData} {k : Int} (h1 : -(2 ^ 63) ≤ k) (h2 : k < 2 ^ 63) (hl : xs.length * k.toNat ≤ 1000000) : RD X rRep (.list xs) (.int k) (.list (List.replicate k.toNat xs).flatten) := fun H u v t ru rv Q q => by
  obtain ⟨a, us, rfl, _, ha, rs⟩ := ru.lst_inv
  exact ⟨a, k, us, rfl, rv.int_inv, ha, h1, h2, by rw [rs.length, sizeLine_eq]; omega, fun p hp => q _ _ (Same.upd hp) (DX.newL t (rs.rep k.toNat) hp)⟩
theorem rd_addS {a b : Str} (hl : a.length + b.length ≤ 1000000) : RD X (fun x y H Q => ∃ i j, x = V.str i ∧ y = V.str j ∧ i.length + j.length ≤ sizeLine ∧ Q (V.str (i ++ j)) H) (.str a) (.str b) (.str (a ++ b)) := fun H u v _ ru rv Q q => ⟨a, b, ru.str_inv, rv.str_inv, by rw [sizeLine_eq]; omega, q _ H (Same.refl H) (.str _)⟩
theorem rb_eqD (hd : noDict x = true) (he : noDict y = true) (hs : SeqAt.shaped x = true) (ht : SeqAt.shaped y = true) : RB X (rEqD K) x y (PyData.eqv x y) := fun H u v _ ru rv Q q => ⟨x, y, ru.dp hd, rv.dp he, hs, ht, q⟩
theorem rb_neD (hd : noDict x = true) (he : noDict y = true) (hs : SeqAt.shaped x = true) (ht : SeqAt.shaped y = true) : RB X (rNeD K) x y (!PyData.eqv x y) := fun H u v _ ru rv Q q => ⟨x, y, ru.dp hd, rv.dp he, hs, ht, q⟩
def isNone : PyData → Bool
  | .none => true
  | _ => false
theorem dx_none {v : V} (h : DX X H v d) : decide (v = .non) = isNone d := by cases h <;> simp [isNone]
theorem rb_isN : RB X (fun x y H Q => y = .non ∧ Q (.bl (decide (x = .non))) H) x .none (isNone x) := fun H u v _ ru rv Q q => ⟨rv.non_inv, by rw [dx_none ru]; exact q⟩
theorem rb_notN : RB X (fun x y H Q => y = .non ∧ Q (.bl (!decide (x = .non))) H) x .none (!isNone x) := fun H u v _ ru rv Q q => ⟨rv.non_inv, by rw [dx_none ru]; exact q⟩
theorem rb_isB {a b : Bool} : RB X rIsB (.bool a) (.bool b) (decide (a = b)) := fun H u v _ ru rv Q q => ⟨a, b, ru.bl_inv, rv.bl_inv, q⟩
theorem rb_notB {a b : Bool} : RB X rNotB (.bool a) (.bool b) (!decide (a = b)) := fun H u v _ ru rv Q q => ⟨a, b, ru.bl_inv, rv.bl_inv, q⟩
/-- an item -/
theorem rd_ixL {ds : List PyData} {i : Int} (h : atI ds i = some z) : RD X (rIx K) (.list ds) (.int i) z := fun H u v _ ru rv Q q => by
  obtain ⟨a, us, rfl, _, ha, rs⟩ := ru.lst_inv
  unfold atI at h
  cases hx : ixN ds.length i with
  | none => rw [hx] at h; cases h
  | some j =>
    rw [hx] at h
    obtain ⟨w, hw, rz⟩ := rs.get (i := j) (show ds[j]? = some z from h)
    exact .inl ⟨a, us, i, w, rfl, rv.int_inv, SqL.of ha, by unfold atI; rw [rs.length, hx]; exact hw, q w H (Same.refl H) rz⟩
theorem rd_ixT {ds : List PyData} {i : Int} (h : atI ds i = some z) : RD X (rIx K) (.tuple ds) (.int i) z := fun H u v _ ru rv Q q => by
  obtain ⟨a, us, rfl, _, ha, rs⟩ := ru.tup_inv
  unfold atI at h
  cases hx : ixN ds.length i with
  | none => rw [hx] at h; cases h
  | some j =>
    rw [hx] at h
    obtain ⟨w, hw, rz⟩ := rs.get (i := j) (show ds[j]? = some z from h)
    exact .inr (.inl ⟨a, us, i, w, rfl, rv.int_inv, SqT.of ha, by unfold atI; rw [rs.length, hx]; exact hw, q w H (Same.refl H) rz⟩)
/-- a slice of a list -/
def cutPD (xs : List PyData) (lo hi : Option Int) : List PyData := (xs.drop (HT.sIx xs.length 0 lo)).take (HT.sIx xs.length xs.length hi - HT.sIx xs.length 0 lo)
theorem DXs.cut {vs : List V} {ds : List PyData} (h : DXs X H vs ds) (lo hi : Option Int) : DXs X H (cutV vs lo hi) (cutPD ds lo hi) := by
  unfold cutV cutPD
  rw [h.length]
  exact (h.drop _).take _
theorem g_sl {tl th : TO} {ds : List PyData} {lo hi : Option Int} (t : Trk X H) (h : G X te σ H (.list ds)) (hl : GO tl σ H lo) (hh : GO th σ H hi) : G X (tSl (rSlL K) te tl th) σ H (.list (cutPD ds lo hi)) := fun H1 s Q q =>
  h H1 s _ fun v H2 s2 r2 => hl H2 (s.trans s2) _ fun H3 s3 => hh H3 ((s.trans s2).trans s3) _ fun H4 s4 => by
    obtain ⟨a, us, rfl, _, ha, rs⟩ := (r2.mono (Kp.of (s3.trans s4))).lst_inv
    exact ⟨a, us, rfl, SqL.of ha, fun p hp => q _ _ (((s2.trans s3).trans s4).trans (Same.upd hp)) (DX.newL (((t.mono s).mono s2).mono (s3.trans s4)) (rs.cut lo hi) hp)⟩

/-! ### functions of the language -/
def lenD : PyData → Nat
  | .str s => s.length
  | .list ds => ds.length
  | .tuple ds => ds.length
  | _ => 0
def hasLen : PyData → Bool
  | .str s => decide (s.length ≤ 1000000)
  | .list _ => true
  | .tuple _ => true
  | _ => false
theorem rf_len (h : hasLen d = true) : RF X (fun xs H Q => ∃ x n, xs = [x] ∧ LenV K x H n ∧ Q (.int n) H) [d] (.int (lenD d : Int)) := fun H us _ rs Q q => by
  cases rs with
  | cons r r2 =>
    cases r2
    cases r with
    | str s => exact ⟨_, s.length, rfl, ⟨by have := of_decide_eq_true (show decide (s.length ≤ 1000000) = true from h); rw [sizeLine_eq]; omega, rfl⟩, q _ H (Same.refl H) (.int _)⟩
    | lst n e r => exact ⟨_, _, rfl, .inl ⟨_, SqL.of e, rfl⟩, q _ H (Same.refl H) (by rw [r.length]; exact .int _)⟩
    | tup n e r => exact ⟨_, _, rfl, .inr ⟨_, SqT.of e, rfl⟩, q _ H (Same.refl H) (by rw [r.length]; exact .int _)⟩
    | _ => exact absurd h (by simp [hasLen])
/-- the items of a list or tuple -/
def itemsD : PyData → List PyData
  | .list ds => ds
  | .tuple ds => ds
  | _ => []
def isSeq : PyData → Bool
  | .list _ => true
  | .tuple _ => true
  | _ => false
theorem rf_list (h : isSeq d = true) : RF X (fun xs H Q => ∃ p ys, xs = [V.ref p] ∧ (SqL K H p ys ∨ SqT K H p ys) ∧ ∀ l, H l = none → Q (.ref l) (upd H l (.lst ys))) [d] (.list (itemsD d)) := fun H us t rs Q q => by
  cases rs with
  | cons r r2 =>
    cases r2
    cases r with
    | lst n e r => exact ⟨_, _, rfl, .inl (SqL.of e), fun l hl => q _ _ (Same.upd hl) (DX.newL t r hl)⟩
    | tup n e r => exact ⟨_, _, rfl, .inr (SqT.of e), fun l hl => q _ _ (Same.upd hl) (DX.newL t r hl)⟩
    | _ => exact absurd h (by simp [isSeq])
theorem rf_tuple (h : isSeq d = true) : RF X (fun xs H Q => ∃ p ys, xs = [V.ref p] ∧ ((SqL K H p ys ∧ ∀ l, H l = none → Q (.ref l) (upd H l (.tup ys))) ∨ (SqT K H p ys ∧ Q (.ref p) H))) [d] (.tuple (itemsD d)) := fun H us t rs Q q => by
  cases rs with
  | cons r r2 =>
    cases r2
    cases r with
    | lst n e r => exact ⟨_, _, rfl, .inl ⟨SqL.of e, fun l hl => q _ _ (Same.upd hl) (DX.newT t r hl)⟩⟩
    | tup n e r => exact ⟨_, _, rfl, .inr ⟨SqT.of e, q _ H (Same.refl H) (.tup n e r)⟩⟩
    | _ => exact absurd h (by simp [isSeq])
theorem DXs.ints : ∀ {vs : List V} {ns : List Int}, DXs X H vs (ns.map PyData.int) → vs = ns.map V.int
  | _, [], .nil => rfl
  | _, n :: ns, .cons h r => by rw [h.int_inv, DXs.ints r]; rfl
theorem DXs.bls : ∀ {vs : List V} {ns : List Bool}, DXs X H vs (ns.map PyData.bool) → vs = ns.map V.bl
  | _, [], .nil => rfl
  | _, n :: ns, .cons h r => by rw [h.bl_inv, DXs.bls r]; rfl
theorem DXs.strs : ∀ {vs : List V} {ns : List Str}, DXs X H vs (ns.map PyData.str) → vs = ns.map V.str
  | _, [], .nil => rfl
  | _, n :: ns, .cons h r => by rw [h.str_inv, DXs.strs r]; rfl
theorem DX.ofInts {p : Addr} {ns : List Int} (n : ¬ X p) (h : H p = some (.lst (ns.map V.int))) : DX X H (.ref p) (.list (ns.map PyData.int)) := by
  refine .lst n h ?_
  clear h
  induction ns with
  | nil => exact .nil
  | cons a r ih => exact .cons (.int a) ih
theorem rf_min {ns : List Int} {m : Int} (h0 : 0 < ns.length) (hm : m ∈ ns) (hl : ∀ y ∈ ns, m ≤ y) : RF X (rMin K) [.list (ns.map PyData.int)] (.int m) := fun H us _ rs Q q => by
  cases rs with
  | cons r r2 =>
    cases r2
    obtain ⟨a, vs, rfl, _, ha, rv⟩ := r.lst_inv
    refine ⟨a, ns, rfl, SqL.of (by rw [← rv.ints]; exact ha), h0, fun m' h1 h2 => ?_⟩
    have e : m' = m := Int.le_antisymm (h2 m hm) (hl m' h1)
    subst e
    exact q _ H (Same.refl H) (.int _)
theorem rf_all {bs : List Bool} : RF X (rAll K) [.list (bs.map PyData.bool)] (.bool (bs.all id)) := fun H us _ rs Q q => by
  cases rs with
  | cons r r2 =>
    cases r2
    obtain ⟨a, vs, rfl, _, ha, rv⟩ := r.lst_inv
    exact ⟨a, bs, rfl, SqL.of (by rw [← rv.bls]; exact ha), q _ H (Same.refl H) (.bl _)⟩
theorem rf_any {bs : List Bool} : RF X (rAny K) [.list (bs.map PyData.bool)] (.bool (bs.any id)) := fun H us _ rs Q q => by
  cases rs with
  | cons r r2 =>
    cases r2
    obtain ⟨a, vs, rfl, _, ha, rv⟩ := r.lst_inv
    exact ⟨a, bs, rfl, SqL.of (by rw [← rv.bls]; exact ha), q _ H (Same.refl H) (.bl _)⟩
theorem rf_int {i : Int} : RF X (fun xs H Q => (∃ i, xs = [V.int i] ∧ Q (.int i) H) ∨ ∃ k, xs = [V.bl k] ∧ Q (.int (if k = true then 1 else 0)) H) [.int i] (.int i) := fun H us _ rs Q q => by
  cases rs with
  | cons r r2 =>
    cases r2
    rw [r.int_inv]
    exact .inl ⟨i, rfl, q _ H (Same.refl H) (.int _)⟩
/-- isinstance -/
def tyD : PyData → String
  | .none => "NoneType"
  | .bool _ => "bool"
  | .int _ => "int"
  | .str _ => "str"
  | .list _ => "list"
  | .tuple _ => "tuple"
  | .dict _ => "dict"
theorem DX.ty {v : V} (h : DX X H v d) : TyX K H v (.type (tyD d)) := by
  cases h with
  | non => exact .base .non
  | bl b => exact .base (.bl b)
  | int i => exact .base (.int i)
  | str s => exact .base (.str s)
  | lst n e r => exact .base (.lst e)
  | tup n e r => exact .base (.tup e)
  | dic n e r => exact .base (.dK e)
def isD (n : String) (d : PyData) : Bool := (kitB (tyD d) n).getD false
theorem kit_d {n : String} (h : (kitB (tyD d) n).isSome = true) : PySem.W.kitOne K (.type (tyD d)) (.type n) = some (isD n d) := by
  unfold isD
  cases e : kitB (tyD d) n with
  | none => rw [e] at h; cases h
  | some b => exact kit_ty e
theorem g_isi {n : String} (h : G X te σ H d) (hk : (kitB (tyD d) n).isSome = true) : G X (tCB (rIsi K) (tCons te (tCons (tC (.ty n)) tNil))) σ H (.bool (isD n d)) := fun H1 s Q q =>
  h H1 s _ fun v H2 s2 r => ⟨v, .ty n, _, _, _, rfl, .ty n, r.ty, kit_d hk, q _ H2 s2 (.bl _)⟩
def isDs (ns : List String) (d : PyData) : Bool := ns.any fun n => isD n d
theorem kit_ds : ∀ {ns : List String}, (∀ n ∈ ns, (kitB (tyD d) n).isSome = true) → PySem.W.kitAny K (.type (tyD d)) (ns.map Value.type) = some (isDs ns d)
  | [], _ => by unfold PySem.W.kitAny; rfl
  | n :: ns, h => by
    have h1 := kit_d (K := K) (h n List.mem_cons_self)
    have h2 := kit_ds (ns := ns) fun m hm => h m (List.mem_cons_of_mem _ hm)
    refine kitAny_cons h1 (fun e => ?_) (fun e => ?_)
    · rw [h2]
      unfold isDs
      rw [List.any_cons, e, Bool.false_or]
    · unfold isDs
      rw [List.any_cons, e, Bool.true_or]
def tyArgs : List String → TA
  | [] => tNil
  | n :: ns => tCons (tC (.ty n)) (tyArgs ns)
theorem tyArgs_run : ∀ (ns : List String) (σ : St) (H : Hp) (Q : List V → Hp → Prop), Q (ns.map V.ty) H → tyArgs ns σ H Q
  | [], _, _, _, q => q
  | n :: ns, σ, H, Q, q => tyArgs_run ns σ H _ q
theorem clsV_all : ∀ ns : List String, Paired ClsV (ns.map V.ty) (ns.map Value.type)
  | [] => .nil
  | n :: ns => .cons (.ty n) (clsV_all ns)
theorem g_isiT {ns : List String} {t2 : TA} (h : G X te σ H d) (e2 : t2 = tyArgs ns) (hl : ns.length ≤ 1000) (hk : ∀ n ∈ ns, (kitB (tyD d) n).isSome = true) : G X (tCB (rIsiT K) (tCons te (tCons (tTup t2) tNil))) σ H (.bool (isDs ns d)) := fun H1 s Q q =>
  h H1 s _ fun v H2 s2 r => by
    subst e2
    refine tyArgs_run ns σ H2 _ ⟨by rw [List.length_map, sizeLine_eq]; omega, fun p hp => ?_⟩
    exact ⟨v, p, ns.map V.ty, _, ns.map Value.type, _, rfl, upd_same, clsV_all ns, (r.mono (Kp.of (Same.upd hp))).ty, kit_ds hk, q _ _ (s2.trans (Same.upd hp)) (.bl _)⟩
end
theorem kb_NoneType_int : kitB "NoneType" "int" = some false := by decide +kernel
theorem kb_bool_int : kitB "bool" "int" = some true := by decide +kernel
theorem kb_int_int : kitB "int" "int" = some true := by decide +kernel
theorem kb_str_int : kitB "str" "int" = some false := by decide +kernel
theorem kb_list_int : kitB "list" "int" = some false := by decide +kernel
theorem kb_tuple_int : kitB "tuple" "int" = some false := by decide +kernel
theorem kb_dict_int : kitB "dict" "int" = some false := by decide +kernel
theorem kb_NoneType_bool : kitB "NoneType" "bool" = some false := by decide +kernel
theorem kb_bool_bool : kitB "bool" "bool" = some true := by decide +kernel
theorem kb_int_bool : kitB "int" "bool" = some false := by decide +kernel
theorem kb_str_bool : kitB "str" "bool" = some false := by decide +kernel
theorem kb_list_bool : kitB "list" "bool" = some false := by decide +kernel
theorem kb_tuple_bool : kitB "tuple" "bool" = some false := by decide +kernel
theorem kb_dict_bool : kitB "dict" "bool" = some false := by decide +kernel
theorem kb_NoneType_str : kitB "NoneType" "str" = some false := by decide +kernel
theorem kb_bool_str : kitB "bool" "str" = some false := by decide +kernel
theorem kb_int_str : kitB "int" "str" = some false := by decide +kernel
theorem kb_str_str : kitB "str" "str" = some true := by decide +kernel
theorem kb_list_str : kitB "list" "str" = some false := by decide +kernel
theorem kb_tuple_str : kitB "tuple" "str" = some false := by decide +kernel
theorem kb_dict_str : kitB "dict" "str" = some false := by decide +kernel
theorem kb_NoneType_list : kitB "NoneType" "list" = some false := by decide +kernel
theorem kb_bool_list : kitB "bool" "list" = some false := by decide +kernel
theorem kb_int_list : kitB "int" "list" = some false := by decide +kernel
theorem kb_str_list : kitB "str" "list" = some false := by decide +kernel
theorem kb_list_list : kitB "list" "list" = some true := by decide +kernel
theorem kb_tuple_list : kitB "tuple" "list" = some false := by decide +kernel
theorem kb_dict_list : kitB "dict" "list" = some false := by decide +kernel
theorem kb_NoneType_tuple : kitB "NoneType" "tuple" = some false := by decide +kernel
theorem kb_bool_tuple : kitB "bool" "tuple" = some false := by decide +kernel
theorem kb_int_tuple : kitB "int" "tuple" = some false := by decide +kernel
theorem kb_str_tuple : kitB "str" "tuple" = some false := by decide +kernel
theorem kb_list_tuple : kitB "list" "tuple" = some false := by decide +kernel
theorem kb_tuple_tuple : kitB "tuple" "tuple" = some true := by decide +kernel
theorem kb_dict_tuple : kitB "dict" "tuple" = some false := by decide +kernel
theorem kb_NoneType_dict : kitB "NoneType" "dict" = some false := by decide +kernel
theorem kb_bool_dict : kitB "bool" "dict" = some false := by decide +kernel
theorem kb_int_dict : kitB "int" "dict" = some false := by decide +kernel
theorem kb_str_dict : kitB "str" "dict" = some false := by decide +kernel
theorem kb_list_dict : kitB "list" "dict" = some false := by decide +kernel
theorem kb_tuple_dict : kitB "tuple" "dict" = some false := by decide +kernel
theorem kb_dict_dict : kitB "dict" "dict" = some true := by decide +kernel
def isa_int : PyData → Bool
  | .bool _ => true
  | .int _ => true
  | _ => false
theorem kis_int (d : PyData) : kitB (tyD d) "int" = some (isa_int d) := by
  cases d
  · exact kb_NoneType_int
  · exact kb_bool_int
  · exact kb_int_int
  · exact kb_str_int
  · exact kb_list_int
  · exact kb_tuple_int
  · exact kb_dict_int
theorem isD_int (d : PyData) : isD "int" d = isa_int d := by unfold isD; rw [kis_int]; rfl
theorem ksm_int (d : PyData) : (kitB (tyD d) "int").isSome = true := by rw [kis_int]; rfl
def isa_bool : PyData → Bool
  | .bool _ => true
  | _ => false
theorem kis_bool (d : PyData) : kitB (tyD d) "bool" = some (isa_bool d) := by
  cases d
  · exact kb_NoneType_bool
  · exact kb_bool_bool
  · exact kb_int_bool
  · exact kb_str_bool
  · exact kb_list_bool
  · exact kb_tuple_bool
  · exact kb_dict_bool
theorem isD_bool (d : PyData) : isD "bool" d = isa_bool d := by unfold isD; rw [kis_bool]; rfl
theorem ksm_bool (d : PyData) : (kitB (tyD d) "bool").isSome = true := by rw [kis_bool]; rfl
def isa_str : PyData → Bool
  | .str _ => true
  | _ => false
theorem kis_str (d : PyData) : kitB (tyD d) "str" = some (isa_str d) := by
  cases d
  · exact kb_NoneType_str
  · exact kb_bool_str
  · exact kb_int_str
  · exact kb_str_str
  · exact kb_list_str
  · exact kb_tuple_str
  · exact kb_dict_str
theorem isD_str (d : PyData) : isD "str" d = isa_str d := by unfold isD; rw [kis_str]; rfl
theorem ksm_str (d : PyData) : (kitB (tyD d) "str").isSome = true := by rw [kis_str]; rfl
def isa_list : PyData → Bool
  | .list _ => true
  | _ => false
theorem kis_list (d : PyData) : kitB (tyD d) "list" = some (isa_list d) := by
  cases d
  · exact kb_NoneType_list
  · exact kb_bool_list
  · exact kb_int_list
  · exact kb_str_list
  · exact kb_list_list
  · exact kb_tuple_list
  · exact kb_dict_list
theorem isD_list (d : PyData) : isD "list" d = isa_list d := by unfold isD; rw [kis_list]; rfl
theorem ksm_list (d : PyData) : (kitB (tyD d) "list").isSome = true := by rw [kis_list]; rfl
def isa_tuple : PyData → Bool
  | .tuple _ => true
  | _ => false
theorem kis_tuple (d : PyData) : kitB (tyD d) "tuple" = some (isa_tuple d) := by
  cases d
  · exact kb_NoneType_tuple
  · exact kb_bool_tuple
  · exact kb_int_tuple
  · exact kb_str_tuple
  · exact kb_list_tuple
  · exact kb_tuple_tuple
  · exact kb_dict_tuple
theorem isD_tuple (d : PyData) : isD "tuple" d = isa_tuple d := by unfold isD; rw [kis_tuple]; rfl
theorem ksm_tuple (d : PyData) : (kitB (tyD d) "tuple").isSome = true := by rw [kis_tuple]; rfl
def isa_dict : PyData → Bool
  | .dict _ => true
  | _ => false
theorem kis_dict (d : PyData) : kitB (tyD d) "dict" = some (isa_dict d) := by
  cases d
  · exact kb_NoneType_dict
  · exact kb_bool_dict
  · exact kb_int_dict
  · exact kb_str_dict
  · exact kb_list_dict
  · exact kb_tuple_dict
  · exact kb_dict_dict
theorem isD_dict (d : PyData) : isD "dict" d = isa_dict d := by unfold isD; rw [kis_dict]; rfl
theorem ksm_dict (d : PyData) : (kitB (tyD d) "dict").isSome = true := by rw [kis_dict]; rfl
end KD

namespace KD
open PySem L2
/-! ### more addresses that stand apart -/
def More (X X' : Addr → Prop) (H : Hp) : Prop := (∀ a, X a → X' a) ∧ ∀ a, X' a → X a ∨ H a = none
section
variable {X X' : Addr → Prop} {H H' : Hp} {σ : St} {Γ : List Sv}
theorem More.refl : More X X H := ⟨fun _ h => h, fun _ h => .inl h⟩
theorem More.one {p : Addr} (h : H p = none) : More X (fun a => X a ∨ a = p) H := ⟨fun _ h => .inl h, fun a k => k.elim .inl fun e => .inr (by rw [e]; exact h)⟩
theorem More.back (s : Same H H') (m : More X X' H') : More X X' H := ⟨m.1, fun a h => (m.2 a h).elim .inl fun e => .inr (s.free e)⟩
mutual
theorem DX.more (m : More X X' H) : ∀ {v : V} {d : PyData}, DX X H v d → DX X' H v d
  | _, _, .non => .non
  | _, _, .bl b => .bl b
  | _, _, .int i => .int i
  | _, _, .str x => .str x
  | _, _, .lst n h r => .lst (fun k => (m.2 _ k).elim n fun e => by rw [h] at e; cases e) h (DXs.more m r)
  | _, _, .tup n h r => .tup (fun k => (m.2 _ k).elim n fun e => by rw [h] at e; cases e) h (DXs.more m r)
  | _, _, .dic n h r => .dic (fun k => (m.2 _ k).elim n fun e => by rw [h] at e; cases e) h (DXk.more m r)
theorem DXs.more (m : More X X' H) : ∀ {vs : List V} {ds : List PyData}, DXs X H vs ds → DXs X' H vs ds
  | _, _, .nil => .nil
  | _, _, .cons h r => .cons (DX.more m h) (DXs.more m r)
theorem DXk.more (m : More X X' H) : ∀ {vs : List (Key × V)} {ds : List (PyData × PyData)}, DXk X H vs ds → DXk X' H vs ds
  | _, _, .nil => .nil
  | _, _, .cons h r => .cons (DX.more m h) (DXk.more m r)
end
mutual
theorem DX.less (m : ∀ a, X a → X' a) : ∀ {v : V} {d : PyData}, DX X' H v d → DX X H v d
  | _, _, .non => .non
  | _, _, .bl b => .bl b
  | _, _, .int i => .int i
  | _, _, .str x => .str x
  | _, _, .lst n h r => .lst (fun k => n (m _ k)) h (DXs.less m r)
  | _, _, .tup n h r => .tup (fun k => n (m _ k)) h (DXs.less m r)
  | _, _, .dic n h r => .dic (fun k => n (m _ k)) h (DXk.less m r)
theorem DXs.less (m : ∀ a, X a → X' a) : ∀ {vs : List V} {ds : List PyData}, DXs X' H vs ds → DXs X H vs ds
  | _, _, .nil => .nil
  | _, _, .cons h r => .cons (DX.less m h) (DXs.less m r)
theorem DXk.less (m : ∀ a, X a → X' a) : ∀ {vs : List (Key × V)} {ds : List (PyData × PyData)}, DXk X' H vs ds → DXk X H vs ds
  | _, _, .nil => .nil
  | _, _, .cons h r => .cons (DX.less m h) (DXk.less m r)
end
theorem EnvOk.more (m : More X X' H) (E : EnvOk X H σ Γ) : EnvOk X' H σ Γ := ⟨E.len, fun i s e => by
  have h := E.get i s e
  cases s with
  | dat d =>
    obtain ⟨v, e1, r⟩ := h
    exact ⟨v, e1, r.more m⟩
  | val v => exact h
  | un => trivial⟩
theorem Trk.one {p : Addr} {o : HO} (t : Trk X H) (h : H p = none) : Trk (fun a => X a ∨ a = p) (upd H p o) := fun a k => k.elim (fun x => (t.mono (Same.upd h)) a x) fun e => by
  subst e
  exact ⟨o, upd_same⟩
theorem Trk.put {p : Addr} {o : HO} (t : Trk X H) : Trk X (upd H p o) := fun a x => by
  by_cases e : a = p
  · subst e
    exact ⟨o, upd_same⟩
  · obtain ⟨u, k⟩ := t a x
    exact ⟨u, by rw [upd_ne e]; exact k⟩
theorem Kp.put {p : Addr} {o : HO} (h : X p) : Kp X H (upd H p o) := fun a u n e => by
  rw [upd_ne (fun z => n (by rw [z]; exact h))]
  exact e
/-- a new object that was changed behind -/
theorem Same.mut {p : Addr} {o : HO} (s : Same H H') (h : H p = none) : Same H (L2.upd H' p o) := fun a u e => by
  rw [upd_ne (ne_of_none e h)]
  exact s a u e
end

/-! ### what is walked, as data -/
def WalkD (X : Addr → Prop) (J : It) (H : Hp) (ds : List PyData) : Prop := ∃ (Gd : Hp → Prop) (Y : Nat → Hp → V → Hp → Prop), Walk J ds.length Gd Y ∧
  ∀ X', (∀ a, X' a → X a ∨ H a = none) → ∀ H3, Kp X' H H3 → Trk X' H3 → Gd H3 ∧ ∀ i x H4, Y i H3 x H4 → Same H3 H4 ∧ ∃ d, ds[i]? = some d ∧ DX X' H4 x d
def GI (X : Addr → Prop) (wi : TI) (σ : St) (H : Hp) (ds : List PyData) : Prop := ∀ H1, Same H H1 → ∀ R : It → Hp → Prop, (∀ J H2, Same H1 H2 → WalkD X J H2 ds → R J H2) → wi σ H1 R
section
variable {X : Addr → Prop} {H H' : Hp} {σ : St} {Γ : List Sv} {te : TE} {K : PySem.W.Frag} {ds es : List PyData}
theorem DX.grow {X' : Addr → Prop} (m : ∀ a, X' a → X a ∨ H a = none) {v : V} {d : PyData} (h : DX X H v d) : DX X' H v d :=
  (h.more (X' := fun a => X a ∨ X' a) ⟨fun _ => .inl, fun a k => k.elim .inl (m a)⟩).less fun _ => .inr
theorem DXs.grow {X' : Addr → Prop} (m : ∀ a, X' a → X a ∨ H a = none) {vs : List V} {ds : List PyData} (h : DXs X H vs ds) : DXs X' H vs ds :=
  (h.more (X' := fun a => X a ∨ X' a) ⟨fun _ => .inl, fun a k => k.elim .inl (m a)⟩).less fun _ => .inr
theorem gi_list (h : G X te σ H (.list ds)) : GI X (iList K te) σ H ds := fun H1 s R r => h H1 s _ fun v H2 s2 rv => by
  obtain ⟨a, xs, rfl, n, e, rx⟩ := rv.lst_inv
  refine ⟨a, rfl, ⟨xs, SqL.of e⟩, r _ H2 s2 ⟨_, _, by rw [← rx.length]; exact walk_list, fun X' m H3 k t => ?_⟩⟩
  have n' : ¬ X' a := fun z => (m a z).elim n fun q => by rw [e] at q; cases q
  refine ⟨SqL.of (k a _ n' e), fun i x H4 y => ?_⟩
  obtain ⟨rfl, hx⟩ := y
  obtain ⟨d, h1, h2⟩ := rx.getV hx
  exact ⟨Same.refl _, d, h1, (h2.grow m).mono k⟩
theorem gi_tup (h : G X te σ H (.tuple ds)) : GI X (iTup K te) σ H ds := fun H1 s R r => h H1 s _ fun v H2 s2 rv => by
  obtain ⟨a, xs, rfl, n, e, rx⟩ := rv.tup_inv
  refine ⟨a, rfl, ⟨xs, SqT.of e⟩, r _ H2 s2 ⟨_, _, by rw [← rx.length]; exact walk_tup, fun X' m H3 k t => ?_⟩⟩
  have n' : ¬ X' a := fun z => (m a z).elim n fun q => by rw [e] at q; cases q
  refine ⟨SqT.of (k a _ n' e), fun i x H4 y => ?_⟩
  obtain ⟨rfl, hx⟩ := y
  obtain ⟨d, h1, h2⟩ := rx.getV hx
  exact ⟨Same.refl _, d, h1, (h2.grow m).mono k⟩
def rangeD (lo : Int) (n : Nat) : List PyData := (List.range n).map fun (i : Nat) => PyData.int (lo + (i : Int))
theorem rangeD_len {lo : Int} {n : Nat} : (rangeD lo n).length = n := by simp [rangeD]
theorem rangeD_get {lo : Int} {n i : Nat} (h : i < n) : (rangeD lo n)[i]? = some (.int (lo + (i : Int))) := by
  unfold rangeD
  rw [List.getElem?_map, List.getElem?_range h]
  rfl
theorem walkD_range {lo : Int} {n : Nat} : WalkD X (Itr lo n) H (rangeD lo n) := by
  refine ⟨fun _ => True, fun i H x H' => (YFn fun i => V.int (lo + i)) i H x H' ∧ i < n, ?_, fun X' m H3 k t => ⟨trivial, fun i x H4 y => ?_⟩⟩
  · rw [rangeD_len]
    exact ⟨fun _ _ hi _ => hi, fun _ _ => Nat.le_refl _, fun _ _ _ _ hi _ y => ⟨y, hi⟩⟩
  · obtain ⟨⟨rfl, rfl⟩, hi⟩ := y
    exact ⟨Same.refl _, _, rangeD_get hi, .int _⟩
theorem gi_range1 {n : Int} (h : G X te σ H (.int n)) (hn : n ≤ 1000000) (hm : -1000000 ≤ n) : GI X (iRng1 (tCons te tNil)) σ H (rangeD 0 n.toNat) := fun H1 s R r => h H1 s _ fun v H2 s2 rv =>
  ⟨n, by rw [rv.int_inv], by omega, by omega, r _ H2 s2 walkD_range⟩
theorem gi_range2 {tb : TE} {a n : Int} (ha : G X te σ H (.int a)) (h : G X tb σ H (.int n)) (hb : -1000000 ≤ a ∧ a ≤ 1000000 ∧ -1000000 ≤ n ∧ n ≤ 1000000) : GI X (iRng2 (tCons te (tCons tb tNil))) σ H (rangeD a (n - a).toNat) := fun H1 s R r =>
  ha H1 s _ fun v H2 s2 rv => h H2 (s.trans s2) _ fun w H3 s3 rw_ => ⟨a, n, by rw [rv.int_inv, rw_.int_inv], by omega, r _ H3 (s2.trans s3) walkD_range⟩
def enumD (ds : List PyData) : List PyData := ds.zipIdx.map fun p => .tuple [.int (p.2 : Nat), p.1]
theorem enumD_len : (enumD ds).length = ds.length := by simp [enumD]
theorem enumD_get {i : Nat} {d : PyData} (h : ds[i]? = some d) : (enumD ds)[i]? = some (.tuple [.int (i : Nat), d]) := by
  unfold enumD
  rw [List.getElem?_map, List.getElem?_zipIdx, h]
  simp
theorem gi_enum (h : G X te σ H (.list ds)) : GI X (iEnum K (tCons te tNil)) σ H (enumD ds) := fun H1 s R r => h H1 s _ fun v H2 s2 rv => by
  obtain ⟨a, xs, rfl, n, e, rx⟩ := rv.lst_inv
  refine ⟨a, xs, rfl, SqL.of e, r _ H2 s2 ⟨_, _, by rw [enumD_len, ← rx.length]; exact walk_enum, fun X' m H3 k t => ?_⟩⟩
  have n' : ¬ X' a := fun z => (m a z).elim n fun q => by rw [e] at q; cases q
  refine ⟨SqL.of (k a _ n' e), fun i x H4 y => ?_⟩
  obtain ⟨T, u, w, rfl, hT, rfl, hu, hw⟩ := y
  cases hu
  obtain ⟨d, h1, h2⟩ := rx.getV hw
  exact ⟨Same.upd hT, _, enumD_get h1, DX.newT t (.cons (.int _) (.cons ((h2.grow m).mono k) .nil)) hT⟩
def zipD (ds es : List PyData) : List PyData := List.zipWith (fun d e => .tuple [d, e]) ds es
theorem gi_zip {tb : TE} (h : G X te σ H (.list ds)) (h' : G X tb σ H (.list es)) : GI X (iZip K (tCons te (tCons tb tNil))) σ H (zipD ds es) := fun H1 s R r => h H1 s _ fun v H2 s2 rv => h' H2 (s.trans s2) _ fun w H3 s3 rw_ => by
  obtain ⟨a, xs, rfl, n, e, rx⟩ := (rv.mono (Kp.of s3)).lst_inv
  obtain ⟨b, ys, rfl, n2, e2, ry⟩ := rw_.lst_inv
  refine ⟨a, b, xs, ys, rfl, SqL.of e, SqL.of e2, r _ H3 (s2.trans s3) ⟨_, _, walk_zip (xs := xs) (ys := ys) (by simp [zipD, rx.length, ry.length]), fun X' m H4 k t => ?_⟩⟩
  have n' : ¬ X' a := fun z => (m a z).elim n fun q => by rw [e] at q; cases q
  have n2' : ¬ X' b := fun z => (m b z).elim n2 fun q => by rw [e2] at q; cases q
  refine ⟨⟨SqL.of (k a _ n' e), SqL.of (k b _ n2' e2)⟩, fun i x H5 y => ?_⟩
  obtain ⟨T, u, w, rfl, hT, rfl, hu, hw⟩ := y
  obtain ⟨d, h1, h2⟩ := rx.getV hu
  obtain ⟨d', h3, h4⟩ := ry.getV hw
  refine ⟨Same.upd hT, .tuple [d, d'], ?_, DX.newT t (.cons ((h2.grow m).mono k) (.cons ((h4.grow m).mono k) .nil)) hT⟩
  unfold zipD
  rw [List.getElem?_zipWith, h1, h3]

/-! ### comprehensions -/
/-- a target takes a datum: what the frame knows behind it -/
def Tgt (X : Addr → Prop) (g : TG) (σ : St) (Γ2 : List Sv) (vs : List Nat) (d : PyData) (H : Hp) : Prop :=
  ∀ X' H3, More X X' H → Kp X' H H3 → Trk X' H3 → ∀ v, DX X' H3 v d → ∀ Ψ : St → Hp → Prop, (∀ σ2, EnvOk X' H3 σ2 Γ2 → wipe σ2 vs = wipe σ vs → Ψ σ2 H3) → g v (wipe σ vs) H3 Ψ
theorem wipe_one {i : Nat} {x : Option V} : wipe ((wipe σ [i]).set i x) [i] = wipe σ [i] := by
  show ((σ.set i none).set i x).set i none = σ.set i none
  rw [List.set_set, List.set_set]
theorem tgt_name {i : Nat} {d : PyData} (E : EnvOk X H σ Γ) : Tgt X (gName i) σ ((Γ.set i .un).set i (.dat d)) [i] d H := fun X' H3 m k t v hd Ψ q =>
  q _ (((E.more m).mono k).wipe [i] |>.set hd) wipe_one
theorem wipe_two {i j : Nat} {x y : Option V} (h : i ≠ j) : wipe (((wipe σ [i, j]).set i x).set j y) [i, j] = wipe σ [i, j] := by
  show ((((((σ.set j none).set i none).set i x).set j y).set j none).set i none) = (σ.set j none).set i none
  apply List.ext_getElem?
  intro n
  simp only [List.getElem?_set, List.length_set]
  split <;> split <;> simp_all
theorem g_pair {i j : Nat} {K : PySem.W.Frag} {v : V} {d e : PyData} (hd : DX X H v (.tuple [d, e])) {Ψ : St → Hp → Prop} (q : ∀ u w, DX X H u d → DX X H w e → Ψ ((σ.set i (some u)).set j (some w)) H) : gTup K 2 (gCons (gName i) (gCons (gName j) gNil)) v σ H Ψ := by
  obtain ⟨a, xs, rfl, n, ea, rx⟩ := hd.tup_inv
  cases rx with
  | cons h1 r1 =>
    cases r1 with
    | cons h2 r2 =>
      cases r2
      exact ⟨a, _, rfl, SqT.of ea, rfl, _, _, rfl, _, _, rfl, rfl, q _ _ h1 h2⟩
theorem g_triple {i j l : Nat} {K : PySem.W.Frag} {v : V} {d e f : PyData} (hd : DX X H v (.tuple [d, e, f])) {Ψ : St → Hp → Prop} (q : ∀ u w z, DX X H u d → DX X H w e → DX X H z f → Ψ (((σ.set i (some u)).set j (some w)).set l (some z)) H) :
    gTup K 3 (gCons (gName i) (gCons (gName j) (gCons (gName l) gNil))) v σ H Ψ := by
  obtain ⟨a, xs, rfl, n, ea, rx⟩ := hd.tup_inv
  cases rx with
  | cons h1 r1 =>
    cases r1 with
    | cons h2 r2 =>
      cases r2 with
      | cons h3 r3 =>
        cases r3
        exact ⟨a, _, rfl, SqT.of ea, rfl, _, _, rfl, _, _, rfl, _, _, rfl, rfl, q _ _ _ h1 h2 h3⟩
theorem tgt_pair {i j : Nat} {d e : PyData} (E : EnvOk X H σ Γ) (hij : i ≠ j) : Tgt X (gTup K 2 (gCons (gName i) (gCons (gName j) gNil))) σ ((((Γ.set j .un).set i .un).set i (.dat d)).set j (.dat e)) [i, j] (.tuple [d, e]) H := fun X' H3 m k t v hd Ψ q =>
  g_pair hd fun u w h1 h2 => q _ ((((E.more m).mono k).wipe [i, j] |>.set h1).set h2) (wipe_two hij)
theorem g_lc {wi : TI} {g : TG} {tt : TT} {te : TE} {vs : List Nat} {Γ2 : PyData → List Sv} (f : PyData → Bool) (h : PyData → PyData) (t : Trk X H) (hi : GI X wi σ H ds) (hl : ds.length ≤ 1000000)
    (hg : ∀ H1, Same H H1 → ∀ d ∈ ds, Tgt X g σ (Γ2 d) vs d H1)
    (ht : ∀ X' H1 σ2 d, d ∈ ds → Trk X' H1 → EnvOk X' H1 σ2 (Γ2 d) → GT tt σ2 H1 (f d))
    (he : ∀ X' H1 σ2 d, d ∈ ds → f d = true → Trk X' H1 → EnvOk X' H1 σ2 (Γ2 d) → G X' te σ2 H1 (h d)) : G X (tLc wi g tt te vs) σ H (.list ((ds.filter f).map h)) := fun H1 s Q q =>
  hi H1 s _ fun J H2 s2 w => by
    intro D hD
    obtain ⟨Gd, Y, w1, w2⟩ := w
    have s02 : Same H H2 := s.trans s2
    have t2 : Trk X H2 := t.mono s02
    let X' : Addr → Prop := fun a => X a ∨ a = D
    have m2 : More X X' H2 := More.one hD
    have key : ∀ H3, Same H2 H3 ∧ Trk X' H3 → Gd H3 := fun H3 p => (w2 X' m2.2 H3 (Kp.of p.1) p.2).1
    refine lc_it w1 (fun i H3 => Same H2 H3 ∧ Trk X' H3 ∧ ∃ acc, H3 D = some (.lst acc) ∧ DXs X' H3 acc (((ds.take i).filter f).map h)) ?_ ?_ ?_ ?_
    · exact ⟨Same.upd hD, t2.one hD, [], upd_same, .nil⟩
    · rintro i H3 _ ⟨p1, p2, _⟩
      exact key H3 ⟨p1, p2⟩
    · rintro i x H3 H4 hi' ⟨p1, p2, acc, p3, p4⟩ y
      obtain ⟨s4, d, hd, dx⟩ := (w2 X' m2.2 H3 (Kp.of p1) p2).2 i x H4 y
      have hmem : d ∈ ds := List.mem_of_getElem? hd
      have k4 : Kp X' H2 H4 := Kp.of (p1.trans s4)
      have t4 : Trk X' H4 := p2.mono s4
      refine hg H2 s02 d hmem X' H4 m2 k4 t4 x dx _ fun σ2 E2 hw => ⟨hw, ?_⟩
      have etake : ds.take (i + 1) = ds.take i ++ [d] := by rw [List.take_succ, hd]; rfl
      refine ht X' H4 σ2 d hmem t4 E2 H4 (Same.refl _) _ fun H5 s5 => ?_
      have lacc : acc.length ≤ 1000000 := by
        rw [p4.length, List.length_map]
        exact Nat.le_trans (List.length_filter_le _ _) (Nat.le_trans (List.length_take_le _ _) (by omega))
      cases hf : f d with
      | true =>
        refine iteT ?_
        refine he X' H4 σ2 d hmem hf t4 E2 H5 s5 _ fun y H6 s6 ry => ?_
        have s36 : Same H3 H6 := (s4.trans s5).trans s6
        refine ⟨acc, s36 D _ p3, by rw [sizeLine_eq]; omega, ?_, ?_, acc ++ [y], upd_same, ?_⟩
        · exact Same.mut (p1.trans s36) hD
        · exact (p2.mono s36).put
        · rw [etake, List.filter_append, List.map_append]
          have ef : List.filter f [d] = [d] := by simp [hf]
          rw [ef]
          exact ((p4.mono (Kp.of s36)).snoc ry).mono (Kp.put (.inr rfl))
      | false =>
        refine iteF ?_
        have s35 : Same H3 H5 := s4.trans s5
        refine ⟨p1.trans s35, p2.mono s35, acc, s35 D _ p3, ?_⟩
        rw [etake, List.filter_append, List.map_append]
        have ef : List.filter f [d] = [] := by simp [hf]
        rw [ef, List.map_nil, List.append_nil]
        exact p4.mono (Kp.of s35)
    · rintro H3 ⟨p1, p2, acc, p3, p4⟩
      rw [List.take_length] at p4
      have nXD : ¬ X D := t2.new hD
      -- D itself is a datum again
      exact q (.ref D) H3 (s2.trans p1) (.lst nXD p3 (p4.less fun a => .inl))
/-- without a test -/
theorem g_lc1 {wi : TI} {g : TG} {te : TE} {vs : List Nat} {Γ2 : PyData → List Sv} (h : PyData → PyData) (t : Trk X H) (hi : GI X wi σ H ds) (hl : ds.length ≤ 1000000)
    (hg : ∀ H1, Same H H1 → ∀ d ∈ ds, Tgt X g σ (Γ2 d) vs d H1)
    (he : ∀ X' H1 σ2 d, d ∈ ds → Trk X' H1 → EnvOk X' H1 σ2 (Γ2 d) → G X' te σ2 H1 (h d)) : G X (tLc wi g tYes te vs) σ H (.list (ds.map h)) := by
  have e : ds.map h = (ds.filter fun _ => true).map h := by rw [List.filter_eq_self.mpr (fun _ _ => rfl)]
  rw [e]
  exact g_lc (fun _ => true) h t hi hl hg (fun X' H2 σ2 z _ _ _ H3 s3 Q3 q3 => q3 H3 (Same.refl _)) fun X' H1 σ2 d m _ t2 E2 => he X' H1 σ2 d m t2 E2
end
end KD

namespace KD
open PySem PySem.Spec PyProof.Rows L2
/-! ### defs of the text that are called by their names -/
structure Own (P : Program) (w : World) (K : PySem.W.Frag) (mg : Str → Option Value) (base : Heap) (CX : CXT) (k : Nat) (x : Str) (ps : List Str) (sp : Sp) : Prop where
  ex : ∃ (f : Addr) (fd : FuncData), mg x = some (.ref f) ∧ PySem.W.keepIn K (.ref f) = true ∧ Binds K fd ps [] ∧ FnOk P w K mg base CX k f fd ps sp
section
variable {X : Cx} {k j : Nat} {x : Str} {ps : List Str} {sp : Sp} {e : Expr} {es : List Expr} {p pos : Pos} {ta : TA}
theorem pe_own (O : Own X.prog X.w X.K X.mg X.base CX0 k x ps sp) (hr : Room j X.A) (hk : k ≤ j) (hg : Gl X x) (ha : PA X (e :: es) ta) (hdb : (x == ("__debug__" : Str)) = false := by decide)
    (he : starEach (e :: es) X.env = (false, eval e X.env) :: starEach es X.env := by rfl) (hpl : (backTo pos (starEach es X.env)).any (·.1) = false := by rfl) : PE X (.Call (.Name x p) (e :: es) [] pos) (tCall sp [] E0 ta) := by
  obtain ⟨f, fd, h1, h2, h3, h4⟩ := O.ex
  exact pe_call h4 (hr.mono hk) hg h1 h2 h3 .nil pass0 ha hdb he hpl
end
/-! ### promises over data -/
def sp1 (pre : PyData → Prop) (f : PyData → PyData) : Sp := fun vs H Q _ => ∃ (X : Addr → Prop) (v : V) (d : PyData), vs = [v] ∧ Trk X H ∧ DX X H v d ∧ pre d ∧ ∀ w H', Same H H' → DX X H' w (f d) → Q w H'
def sp2 (pre : PyData → PyData → Prop) (f : PyData → PyData → PyData) : Sp := fun vs H Q _ => ∃ (X : Addr → Prop) (v1 v2 : V) (d1 d2 : PyData), vs = [v1, v2] ∧ Trk X H ∧ DX X H v1 d1 ∧ DX X H v2 d2 ∧ pre d1 d2 ∧ ∀ w H', Same H H' → DX X H' w (f d1 d2) → Q w H'
def sp3 (pre : PyData → PyData → PyData → Prop) (f : PyData → PyData → PyData → PyData) : Sp := fun vs H Q _ => ∃ (X : Addr → Prop) (v1 v2 v3 : V) (d1 d2 d3 : PyData), vs = [v1, v2, v3] ∧ Trk X H ∧ DX X H v1 d1 ∧ DX X H v2 d2 ∧ DX X H v3 d3 ∧ pre d1 d2 d3 ∧ ∀ w H', Same H H' → DX X H' w (f d1 d2 d3) → Q w H'
section
variable {X : Addr → Prop} {σ : L2.St} {H : Hp} {ta tb tc : TE} {d d1 d2 d3 : PyData} {E : XK}
theorem g_call1 {pre : PyData → Prop} {f : PyData → PyData} (t : Trk X H) (h : G X ta σ H d) (hp : pre d) : G X (tCall (sp1 pre f) [] E (tCons ta tNil)) σ H (f d) :=
  g_call (ga_cons h ga_nil) fun vs H1 s rs Q q => by
    cases rs with
    | cons r1 r2 =>
      cases r2
      exact ⟨X, _, d, rfl, t.mono s, r1, hp, q⟩
theorem g_call2 {pre : PyData → PyData → Prop} {f : PyData → PyData → PyData} (t : Trk X H) (h1 : G X ta σ H d1) (h2 : G X tb σ H d2) (hp : pre d1 d2) : G X (tCall (sp2 pre f) [] E (tCons ta (tCons tb tNil))) σ H (f d1 d2) :=
  g_call (ga_cons h1 (ga_cons h2 ga_nil)) fun vs H1 s rs Q q => by
    cases rs with
    | cons r1 r2 =>
      cases r2 with
      | cons r2 r3 =>
        cases r3
        exact ⟨X, _, _, d1, d2, rfl, t.mono s, r1, r2, hp, q⟩
theorem g_call3 {pre : PyData → PyData → PyData → Prop} {f : PyData → PyData → PyData → PyData} (t : Trk X H) (h1 : G X ta σ H d1) (h2 : G X tb σ H d2) (h3 : G X tc σ H d3) (hp : pre d1 d2 d3) : G X (tCall (sp3 pre f) [] E (tCons ta (tCons tb (tCons tc tNil)))) σ H (f d1 d2 d3) :=
  g_call (ga_cons h1 (ga_cons h2 (ga_cons h3 ga_nil))) fun vs H1 s rs Q q => by
    cases rs with
    | cons r1 r2 =>
      cases r2 with
      | cons r2 r3 =>
        cases r3 with
        | cons r3 r4 =>
          cases r4
          exact ⟨X, _, _, _, d1, d2, d3, rfl, t.mono s, r1, r2, r3, hp, q⟩
end
/-! ### a def's body -/
section
variable {P : Program} {w : World} {K : PySem.W.Frag} {mg : Str → Option Value} {base : Heap} {x qual : Str} {st : Stmt} {f : Addr} {fd : FuncData} {N : List Str} {k : Nat} {a b c : Str}
def pad (N : List Str) (ss : List Sv) : List Sv := ss ++ List.replicate (N.length - ss.length) .un
theorem env1 {X : Addr → Prop} {H : Hp} {v : V} {d : PyData} (h : DX X H v d) (hN : 1 ≤ N.length) : EnvOk X H (L2.start N [v]) (pad N [.dat d]) :=
  envOk_start rfl (fun i s e u e2 => by
    match i, e, e2 with
    | 0, e, e2 => cases e; cases e2; exact ⟨_, rfl, h⟩) hN
theorem env2 {X : Addr → Prop} {H : Hp} {v1 v2 : V} {d1 d2 : PyData} (h1 : DX X H v1 d1) (h2 : DX X H v2 d2) (hN : 2 ≤ N.length) : EnvOk X H (L2.start N [v1, v2]) (pad N [.dat d1, .dat d2]) :=
  envOk_start rfl (fun i s e u e2 => by
    match i, e, e2 with
    | 0, e, e2 => cases e; cases e2; exact ⟨_, rfl, h1⟩
    | 1, e, e2 => cases e; cases e2; exact ⟨_, rfl, h2⟩) hN
theorem env3 {X : Addr → Prop} {H : Hp} {v1 v2 v3 : V} {d1 d2 d3 : PyData} (h1 : DX X H v1 d1) (h2 : DX X H v2 d2) (h3 : DX X H v3 d3) (hN : 3 ≤ N.length) : EnvOk X H (L2.start N [v1, v2, v3]) (pad N [.dat d1, .dat d2, .dat d3]) :=
  envOk_start rfl (fun i s e u e2 => by
    match i, e, e2 with
    | 0, e, e2 => cases e; cases e2; exact ⟨_, rfl, h1⟩
    | 1, e, e2 => cases e; cases e2; exact ⟨_, rfl, h2⟩
    | 2, e, e2 => cases e; cases e2; exact ⟨_, rfl, h3⟩) hN
theorem ok1 {pre : PyData → Prop} {g : PyData → PyData} (F : Fun K x qual st f fd) (S : FnScope N [a] (defScope st)) (hN : 1 ≤ N.length)
    (hbody : ∀ (cdv : Value) (A : Around) (outer : List Env) (s : Shared) (H : Hp) (E : XK) (X : Addr → Prop) (d : PyData) (Q : VK), Room k (A.deeper (envOfC qual (defScope st) s.heap.objs.size f cdv)) → Trk X H → pre d → (∀ w H', Same H H' → DX X H' w (g d) → Q w H') →
      ∃ t, PSs (cxOf CX0 P w K mg base N qual (defScope st) f cdv A outer s H E).nox (defBody st) t ∧ ∀ σ, EnvOk X H σ (pad N [.dat d]) → t { nx := fun _ H' => Q .non H', rt := Q } σ H) : FnOk P w K mg base CX0 (k + 1) f fd [a] (sp1 pre g) := by
  refine F.ok S (fun vs H Q E h => ?_) (fun cdv A outer s H vs Q E hr h => ?_)
  · obtain ⟨X, v, d, rfl, _⟩ := h
    rfl
  · obtain ⟨X, v, d, rfl, t, hd, hp, q⟩ := h
    obtain ⟨tt, h1, h2⟩ := hbody cdv A outer s H E X d Q hr t hp q
    exact ⟨tt, h1, h2 _ (env1 hd hN)⟩
theorem ok2 {pre : PyData → PyData → Prop} {g : PyData → PyData → PyData} (F : Fun K x qual st f fd) (S : FnScope N [a, b] (defScope st)) (hN : 2 ≤ N.length)
    (hbody : ∀ (cdv : Value) (A : Around) (outer : List Env) (s : Shared) (H : Hp) (E : XK) (X : Addr → Prop) (d1 d2 : PyData) (Q : VK), Room k (A.deeper (envOfC qual (defScope st) s.heap.objs.size f cdv)) → Trk X H → pre d1 d2 → (∀ w H', Same H H' → DX X H' w (g d1 d2) → Q w H') →
      ∃ t, PSs (cxOf CX0 P w K mg base N qual (defScope st) f cdv A outer s H E).nox (defBody st) t ∧ ∀ σ, EnvOk X H σ (pad N [.dat d1, .dat d2]) → t { nx := fun _ H' => Q .non H', rt := Q } σ H) : FnOk P w K mg base CX0 (k + 1) f fd [a, b] (sp2 pre g) := by
  refine F.ok S (fun vs H Q E h => ?_) (fun cdv A outer s H vs Q E hr h => ?_)
  · obtain ⟨X, v1, v2, d1, d2, rfl, _⟩ := h
    rfl
  · obtain ⟨X, v1, v2, d1, d2, rfl, t, r1, r2, hp, q⟩ := h
    obtain ⟨tt, h1, h2⟩ := hbody cdv A outer s H E X d1 d2 Q hr t hp q
    exact ⟨tt, h1, h2 _ (env2 r1 r2 hN)⟩
end
/-! ### statements -/
section
variable {X : Addr → Prop} {σ : L2.St} {H : Hp} {te : TE} {tt : TT} {tu tw tz : TS} {d : PyData} {D : Ends} {Γ : List Sv} {Q : VK}
theorem s_ret (h : G X te σ H d) (q : ∀ w H', Same H H' → DX X H' w d → D.rt w H') : tRet te D σ H := h H (Same.refl H) _ q
theorem s_if {b : Bool} (h : GT tt σ H b) (h1 : b = true → ∀ H1, Same H H1 → tu D σ H1) (h2 : b = false → ∀ H1, Same H H1 → tw D σ H1) : tIfS tt tu tw D σ H := h H (Same.refl H) _ fun H1 s => by
  cases b with
  | true => exact iteT (h1 rfl H1 s)
  | false => exact iteF (h2 rfl H1 s)
theorem q_if {b : Bool} (h : GT tt σ H b) (h1 : b = true → ∀ H1, Same H H1 → tu { D with nx := tz D } σ H1) (h2 : b = false → ∀ H1, Same H H1 → tz D σ H1) : tSeq (tIfS tt tu tNext) tz D σ H := s_if (D := { D with nx := tz D }) h h1 h2
theorem q_asg {g : TG} (h : G X te σ H d) (k : ∀ H1 v, Same H H1 → DX X H1 v d → g v σ H1 (fun σ2 H2 => tz D σ2 H2)) : tSeq (tAsg te g) tz D σ H := h H (Same.refl H) _ fun v H1 s r => k H1 v s r
theorem q_set {i : Nat} (En : EnvOk X H σ Γ) (h : G X te σ H d) (k : ∀ H1 v, Same H H1 → EnvOk X H1 (σ.set i (some v)) (Γ.set i (.dat d)) → tz D (σ.set i (some v)) H1) : tSeq (tAsg te (gName i)) tz D σ H := h H (Same.refl H) _ fun v H1 s r => k H1 v s ((En.same s).set r)
end
/-- a for over data: I by the base heap, the turn, the slots, the heap -/
theorem s_forD {X : Addr → Prop} {σ : L2.St} {H : Hp} {wi : TI} {g : TG} {tb : TS} {D : Ends} {ds : List PyData} (hi : GI X wi σ H ds) (I : Hp → Nat → L2.St → Hp → Prop) (h0 : ∀ Hb, Same H Hb → I Hb 0 σ Hb)
    (hk : ∀ Hb i σ' H', I Hb i σ' H' → Kp X Hb H' ∧ Trk X H')
    (hs : ∀ Hb i x d σ' H' H'', Same H Hb → ds[i]? = some d → I Hb i σ' H' → Same H' H'' → DX X H'' x d → g x σ' H'' fun σ2 H2 => tb { D with nx := I Hb (i + 1), ct := I Hb (i + 1), bk := D.nx } σ2 H2)
    (hd : ∀ Hb σ' H', Same H Hb → I Hb ds.length σ' H' → D.nx σ' H') : tFor wi g tb D σ H := hi H (Same.refl H) _ fun J H2 s w => by
  obtain ⟨Gd, Y, w1, w2⟩ := w
  have key : ∀ i σ' H', I H2 i σ' H' → _ := fun i σ' H' p => w2 X (fun _ => .inl) H' (hk H2 i σ' H' p).1 (hk H2 i σ' H' p).2
  refine for_it w1 (I H2) (h0 H2 s) (fun i σ' H' _ p => (key i σ' H' p).1) (fun i x σ' H' H'' _ p y => ?_) (fun σ' H' p => hd H2 σ' H' s p)
  obtain ⟨s4, d, hd1, dx⟩ := (key i σ' H' p).2 i x H'' y
  exact hs H2 i x d σ' H' H'' s hd1 p s4 dx
/-! ### the language's own names; tests of kinds -/
structure Bl (mg : Str → Option Value) : Prop where
  b_isinstance : mg "isinstance" = none
  b_len : mg "len" = none
  b_list : mg "list" = none
  b_tuple : mg "tuple" = none
  b_dict : mg "dict" = none
  b_int : mg "int" = none
  b_bool : mg "bool" = none
  b_str : mg "str" = none
  b_min : mg "min" = none
  b_all : mg "all" = none
  b_range : mg "range" = none
  b_enumerate : mg "enumerate" = none
  b_zip : mg "zip" = none
  b_repr : mg "repr" = none
section
variable {X : Cx}
abbrev rAddA : R2 := fun x y H Q => (rI0 fun i j => V.int (i + j)) x y H Q ∨ (fun x y H Q => rCat x y H Q ∨ (fun x y H Q => ∃ i j, x = V.str i ∧ y = V.str j ∧ i.length + j.length ≤ sizeLine ∧ Q (V.str (i ++ j)) H) x y H Q) x y H Q
abbrev rMulA : R2 := fun x y H Q => (rI CMul fun i j => V.int (i * j)) x y H Q ∨ rRep x y H Q
theorem op_addA : OpR X (binaryOp .Add) rAddA := op_add.or (op_cat.or op_add_str)
theorem op_mulA : OpR X (binaryOp .Mult) rMulA := op_mul.or op_rep
end
section
variable {X : Addr → Prop} {te ta tb : TE} {σ : L2.St} {H : Hp} {d : PyData} {K : PySem.W.Frag}
theorem isDs_seq (d : PyData) : isDs ["list", "tuple"] d = isSeq d := by
  unfold isDs
  rw [List.any_cons, List.any_cons, List.any_nil, isD_list, isD_tuple]
  cases d <;> rfl
theorem g_isSeq (h : G X te σ H d) : G X (tCB (rIsiT K) (tCons te (tCons (tTup (tCons (tC (.ty "list")) (tCons (tC (.ty "tuple")) tNil))) tNil))) σ H (.bool (isSeq d)) := by
  rw [← isDs_seq]
  exact g_isiT (ns := ["list", "tuple"]) h rfl (by decide) fun n hn => by
    simp at hn
    rcases hn with rfl | rfl
    · exact ksm_list d
    · exact ksm_tuple d
theorem g_isInt (h : G X te σ H d) : G X (tCB (rIsi K) (tCons te (tCons (tC (.ty "int")) tNil))) σ H (.bool (isa_int d)) := by
  rw [← isD_int]; exact g_isi h (ksm_int d)
theorem g_isBool (h : G X te σ H d) : G X (tCB (rIsi K) (tCons te (tCons (tC (.ty "bool")) tNil))) σ H (.bool (isa_bool d)) := by
  rw [← isD_bool]; exact g_isi h (ksm_bool d)
theorem g_isStr (h : G X te σ H d) : G X (tCB (rIsi K) (tCons te (tCons (tC (.ty "str")) tNil))) σ H (.bool (isa_str d)) := by
  rw [← isD_str]; exact g_isi h (ksm_str d)
theorem g_isList (h : G X te σ H d) : G X (tCB (rIsi K) (tCons te (tCons (tC (.ty "list")) tNil))) σ H (.bool (isa_list d)) := by
  rw [← isD_list]; exact g_isi h (ksm_list d)
theorem g_isTuple (h : G X te σ H d) : G X (tCB (rIsi K) (tCons te (tCons (tC (.ty "tuple")) tNil))) σ H (.bool (isa_tuple d)) := by
  rw [← isD_tuple]; exact g_isi h (ksm_tuple d)
theorem g_isDict (h : G X te σ H d) : G X (tCB (rIsi K) (tCons te (tCons (tC (.ty "dict")) tNil))) σ H (.bool (isa_dict d)) := by
  rw [← isD_dict]; exact g_isi h (ksm_dict d)
theorem g_len (t : Trk X H) (h : G X te σ H d) (hl : hasLen d = true) : G X (tCB (fun xs H Q => ∃ x n, xs = [x] ∧ LenV K x H n ∧ Q (V.int n) H) (tCons te tNil)) σ H (.int (lenD d : Int)) := g_cb t (ga_cons h ga_nil) (rf_len hl)
theorem g_listOf (t : Trk X H) (h : G X te σ H d) (hl : isSeq d = true) : G X (tCB (fun xs H Q => ∃ p ys, xs = [V.ref p] ∧ (SqL K H p ys ∨ SqT K H p ys) ∧ ∀ l, H l = none → Q (V.ref l) (upd H l (.lst ys))) (tCons te tNil)) σ H (.list (itemsD d)) := g_cb t (ga_cons h ga_nil) (rf_list hl)
theorem g_addI (t : Trk X H) {i j : Int} (ha : G X ta σ H (.int i)) (hb : G X tb σ H (.int j)) : G X (tOp rAddA ta tb) σ H (.int (i + j)) := g_op t ha hb (RD.or1 (rd_I0 (g := fun i j => i + j)))
theorem g_cat (t : Trk X H) {xs ys : List PyData} (ha : G X ta σ H (.list xs)) (hb : G X tb σ H (.list ys)) (hl : xs.length + ys.length ≤ 1000000) : G X (tOp rAddA ta tb) σ H (.list (xs ++ ys)) := g_op t ha hb (RD.or2 (RD.or1 (rd_cat hl)))
theorem g_sub (t : Trk X H) {i j : Int} (ha : G X ta σ H (.int i)) (hb : G X tb σ H (.int j)) : G X (tOp (rI0 fun i j => V.int (i - j)) ta tb) σ H (.int (i - j)) := g_op t ha hb (rd_I0 (g := fun i j => i - j))
theorem g_cmpI (t : Trk X H) {g : Int → Int → Bool} {i j : Int} (ha : G X ta σ H (.int i)) (hb : G X tb σ H (.int j)) : G X (tOp (rI0 fun i j => V.bl (g i j)) ta tb) σ H (.bool (g i j)) := g_op t ha hb rb_I0.rd
theorem gt_cmpI (t : Trk X H) {g : Int → Int → Bool} {i j : Int} (ha : G X ta σ H (.int i)) (hb : G X tb σ H (.int j)) : GT (tTest (tOp (rI0 fun i j => V.bl (g i j)) ta tb)) σ H (g i j) := gt_op t ha hb rb_I0
theorem g_ixL (t : Trk X H) {ds : List PyData} {i : Int} {z : PyData} (ha : G X ta σ H (.list ds)) (hb : G X tb σ H (.int i)) (h : atI ds i = some z) : G X (tOp (rIx K) ta tb) σ H z := g_op t ha hb (rd_ixL h)
theorem g_ixT (t : Trk X H) {ds : List PyData} {i : Int} {z : PyData} (ha : G X ta σ H (.tuple ds)) (hb : G X tb σ H (.int i)) (h : atI ds i = some z) : G X (tOp (rIx K) ta tb) σ H z := g_op t ha hb (rd_ixT h)
/-- an item of a list or tuple -/
theorem g_ix (t : Trk X H) {i : Int} {z : PyData} (ha : G X ta σ H d) (hs : isSeq d = true) (hb : G X tb σ H (.int i)) (h : atI (itemsD d) i = some z) : G X (tOp (rIx K) ta tb) σ H z := by
  cases d with
  | list ds => exact g_ixL t ha hb h
  | tuple ds => exact g_ixT t ha hb h
  | _ => cases hs
theorem g_eqD (t : Trk X H) {x y : PyData} (ha : G X ta σ H x) (hb : G X tb σ H y) (hd : noDict x = true) (he : noDict y = true) (hs : SeqAt.shaped x = true) (ht : SeqAt.shaped y = true) : G X (tOp (rEqD K) ta tb) σ H (.bool (PyData.eqv x y)) := g_op t ha hb (rb_eqD hd he hs ht).rd
theorem gt_eqD (t : Trk X H) {x y : PyData} (ha : G X ta σ H x) (hb : G X tb σ H y) (hd : noDict x = true) (he : noDict y = true) (hs : SeqAt.shaped x = true) (ht : SeqAt.shaped y = true) : GT (tTest (tOp (rEqD K) ta tb)) σ H (PyData.eqv x y) := gt_op t ha hb (rb_eqD hd he hs ht)
theorem gt_neD (t : Trk X H) {x y : PyData} (ha : G X ta σ H x) (hb : G X tb σ H y) (hd : noDict x = true) (he : noDict y = true) (hs : SeqAt.shaped x = true) (ht : SeqAt.shaped y = true) : GT (tTest (tOp (rNeD K) ta tb)) σ H (!PyData.eqv x y) := gt_op t ha hb (rb_neD hd he hs ht)
end
/-! ### a list or a tuple walked -/
def iSeq (K : PySem.W.Frag) (tl : TE) : TI := fun σ H R => tl σ H fun x H1 => ∃ c, x = V.ref c ∧ (((∃ zs, SqL K H1 c zs) ∧ R (Itl K c) H1) ∨ ((∃ zs, SqT K H1 c zs) ∧ R (Itt K c) H1))
theorem pi_seq {Y : Cx} {tg l : Expr} {tl : TE} (hl : PE Y l tl) : PI Y tg l (iSeq Y.K tl) := by
  constructor
  intro pn st sl hh RR inv rd
  refine thn (hl.run pn st sl hh _ inv rd) ?_
  rintro val st1 ⟨x, hh1, inv1, rel, c, rfl, alt⟩
  cases rel
  have fresh := inv1.hok.fresh (Nat.le_refl st1.heap.objs.size)
  have fpk : ∀ b ∈ [st1.heap.objs.size], _ := fun b hb => by
    have eb := List.mem_singleton.mp hb
    exact eb ▸ inv1.fpOk (Nat.le_refl _) fresh
  rcases alt with ⟨⟨zs, sq⟩, rest⟩ | ⟨⟨zs, sq⟩, rest⟩
  · obtain ⟨us, _, pl, _⟩ := inv1.list sq
    exact wpAny_pyIter_list pl.isList
      ⟨_, _, _, _, _, rfl, inv1.kept (t' := st1.toks) (fun _ _ z => Heap.get?_push_of_some _ z), turn_list c _,
        ⟨_, Heap.get?_push_size _ rfl, rfl, rfl⟩, fpk, rest⟩
  · obtain ⟨us, _, pl, _⟩ := inv1.tuple sq
    exact wpAny_pyIter_tuple (items := us.toArray) pl
      ⟨_, _, _, _, _, rfl, inv1.kept (t' := st1.toks) (fun _ _ z => Heap.get?_push_of_some _ z), turn_tuple c _,
        ⟨_, Heap.get?_push_size _ rfl, rfl, rfl⟩, fpk, rest⟩
theorem gi_seq {X : Addr → Prop} {σ : L2.St} {H : Hp} {te : TE} {K : PySem.W.Frag} {d : PyData} (h : G X te σ H d) (hs : isSeq d = true) : GI X (iSeq K te) σ H (itemsD d) := by
  cases d with
  | list ds =>
      intro H1 s R r
      refine h H1 s _ fun v H2 s2 rv => ?_
      obtain ⟨a, xs, rfl, n, e, rx⟩ := rv.lst_inv
      obtain ⟨a', e', _, rr⟩ := gi_list (K := K) (te := fun _ H Q => Q (.ref a) H) (σ := σ) (H := H2) (X := X) (ds := ds) (fun H5 s5 Q5 q5 => q5 _ H5 (Same.refl _) (rv.mono (Kp.of s5))) H2 (Same.refl _) R (fun J H3 s3 => r J H3 (s2.trans s3))
      cases e'
      exact ⟨a, rfl, .inl ⟨⟨xs, SqL.of e⟩, rr⟩⟩
  | tuple ds =>
      intro H1 s R r
      refine h H1 s _ fun v H2 s2 rv => ?_
      obtain ⟨a, xs, rfl, n, e, rx⟩ := rv.tup_inv
      obtain ⟨a', e', _, rr⟩ := gi_tup (K := K) (te := fun _ H Q => Q (.ref a) H) (σ := σ) (H := H2) (X := X) (ds := ds) (fun H5 s5 Q5 q5 => q5 _ H5 (Same.refl _) (rv.mono (Kp.of s5))) H2 (Same.refl _) R (fun J H3 s3 => r J H3 (s2.trans s3))
      cases e'
      exact ⟨a, rfl, .inr ⟨⟨xs, SqT.of e⟩, rr⟩⟩
  | _ => cases hs
/-! ### data that may be compared: words, ints, lists of words -/
theorem shaped_int (i : Int) : SeqAt.shaped (.int i) = true := by simp [SeqAt.shaped, PyData.canLay0, PyData.depth]
theorem shaped_str {s : Str} (h : PyData.strOk s = true) : SeqAt.shaped (.str s) = true := by simp [SeqAt.shaped, PyData.canLay0, PyData.depth, h]
theorem canLay_strs : ∀ {ws : List Str}, (∀ w ∈ ws, PyData.strOk w = true) → PyData.canLayAll0 (ws.map PyData.str) = true
  | [], _ => by simp [PyData.canLayAll0]
  | w :: ws, h => by
    have h1 := h w List.mem_cons_self
    have h2 := canLay_strs (ws := ws) fun v hv => h v (List.mem_cons_of_mem _ hv)
    simp [PyData.canLayAll0, PyData.canLay0, h1, h2]
theorem depth_strs : ∀ ws : List Str, PyData.depthAll (ws.map PyData.str) ≤ 1
  | [] => by simp [PyData.depthAll]
  | w :: ws => by
    have := depth_strs ws
    simp only [List.map_cons, PyData.depthAll, PyData.depth]
    omega
theorem shaped_strs {ws : List Str} (h : ∀ w ∈ ws, PyData.strOk w = true) : SeqAt.shaped (.list (ws.map PyData.str)) = true := by
  have := depth_strs ws
  have h2 : PyData.depth (.list (ws.map PyData.str)) ≤ 64 := by
    simp only [PyData.depth]
    omega
  show ((PyData.list (ws.map PyData.str)).canLay0 && decide ((PyData.list (ws.map PyData.str)).depth ≤ 64)) = true
  rw [Bool.and_eq_true]
  exact ⟨by simp only [PyData.canLay0]; exact canLay_strs h, decide_eq_true h2⟩
theorem noDict_strs : ∀ ws : List Str, noDicts (ws.map PyData.str) = true
  | [] => by simp [noDicts]
  | w :: ws => by simp [noDicts, noDict, noDict_strs ws]
theorem eqv_strs : ∀ ws zs : List Str, PyData.eqvAll (ws.map PyData.str) (zs.map PyData.str) = decide (ws = zs)
  | [], [] => by simp [PyData.eqvAll]
  | [], z :: zs => by simp [PyData.eqvAll]
  | w :: ws, [] => by simp [PyData.eqvAll]
  | w :: ws, z :: zs => by
    simp only [List.map_cons, PyData.eqvAll, PyData.eqv, eqv_strs ws zs]
    by_cases h : w = z
    · subst h
      simp
    · have : (w == z) = false := by simpa using h
      rw [this]
      simp [h]
/-! ### what is new -/
def Nw (H : Hp) (v : V) : Prop := ∀ a, v = .ref a → H a = none
theorem Nw.back {H H1 : Hp} {v : V} (s : Same H H1) (n : Nw H1 v) : Nw H v := fun a e => s.free (n a e)
theorem Nw.of {H : Hp} {p : Addr} (h : H p = none) : Nw H (.ref p) := fun a e => by cases e; exact h
def GN (X : Addr → Prop) (te : TE) (σ : L2.St) (H : Hp) (d : PyData) : Prop := ∀ H1, Same H H1 → ∀ Q : VK, (∀ v H2, Same H1 H2 → DX X H2 v d → Nw H1 v → Q v H2) → te σ H1 Q
def sp2N (pre : PyData → PyData → Prop) (f : PyData → PyData → PyData) : Sp := fun vs H Q _ => ∃ (X : Addr → Prop) (v1 v2 : V) (d1 d2 : PyData), vs = [v1, v2] ∧ Trk X H ∧ DX X H v1 d1 ∧ DX X H v2 d2 ∧ pre d1 d2 ∧ ∀ w H', Same H H' → DX X H' w (f d1 d2) → Nw H w → Q w H'
section
variable {X : Addr → Prop} {σ : L2.St} {H : Hp} {te ta tb tc : TE} {d d1 d2 d3 : PyData} {E : XK} {K : PySem.W.Frag} {D : Ends}
theorem GN.g (h : GN X te σ H d) : G X te σ H d := fun H1 s Q q => h H1 s Q fun v H2 s2 dv _ => q v H2 s2 dv
theorem GN.is {e : PyData} (h : GN X te σ H d) (e' : d = e) : GN X te σ H e := e' ▸ h
theorem gn_lst {ta : TA} {ds : List PyData} (t : Trk X H) (h : GA X ta σ H ds) (hl : ds.length ≤ 1000000) : GN X (tLst ta) σ H (.list ds) := fun H1 s Q q =>
  h H1 s _ fun vs H2 s2 rs => ⟨by rw [rs.length, sizeLine_eq]; omega, fun p hp => q _ _ (s2.trans (Same.upd hp)) (DX.newL ((t.mono s).mono s2) rs hp) (Nw.back s2 (Nw.of hp))⟩
theorem gn_tup {ta : TA} {ds : List PyData} (t : Trk X H) (h : GA X ta σ H ds) (hl : ds.length ≤ 1000000) : GN X (tTup ta) σ H (.tuple ds) := fun H1 s Q q =>
  h H1 s _ fun vs H2 s2 rs => ⟨by rw [rs.length, sizeLine_eq]; omega, fun p hp => q _ _ (s2.trans (Same.upd hp)) (DX.newT ((t.mono s).mono s2) rs hp) (Nw.back s2 (Nw.of hp))⟩
theorem gn_listOf (t : Trk X H) (h : G X te σ H d) (hl : isSeq d = true) : GN X (tCB (fun xs H Q => ∃ p ys, xs = [V.ref p] ∧ (SqL K H p ys ∨ SqT K H p ys) ∧ ∀ l, H l = none → Q (V.ref l) (upd H l (.lst ys))) (tCons te tNil)) σ H (.list (itemsD d)) := fun H1 s Q q =>
  h H1 s _ fun v H2 s2 r => by
    cases r with
    | lst n e r => exact ⟨_, _, rfl, .inl (SqL.of e), fun l hl => q _ _ (s2.trans (Same.upd hl)) (DX.newL ((t.mono s).mono s2) r hl) (Nw.back s2 (Nw.of hl))⟩
    | tup n e r => exact ⟨_, _, rfl, .inr (SqT.of e), fun l hl => q _ _ (s2.trans (Same.upd hl)) (DX.newL ((t.mono s).mono s2) r hl) (Nw.back s2 (Nw.of hl))⟩
    | _ => exact absurd hl (by simp [isSeq])
theorem gn_cat (t : Trk X H) {xs ys : List PyData} (ha : G X ta σ H (.list xs)) (hb : G X tb σ H (.list ys)) (hl : xs.length + ys.length ≤ 1000000) : GN X (tOp rAddA ta tb) σ H (.list (xs ++ ys)) := fun H1 s Q q =>
  ha H1 s _ fun u H2 s2 ru => hb H2 (s.trans s2) _ fun v H3 s3 rv => by
    obtain ⟨a, us, rfl, _, ea, rs⟩ := (ru.mono (Kp.of s3)).lst_inv
    obtain ⟨b, ws, rfl, _, eb, rt⟩ := rv.lst_inv
    exact .inr (.inl ⟨a, b, us, ws, rfl, rfl, ea, eb, by rw [rs.length, rt.length, sizeLine_eq]; omega, fun p hp => q _ _ ((s2.trans s3).trans (Same.upd hp)) (DX.newL (((t.mono s).mono s2).mono s3) (rs.append rt) hp) (Nw.back (s2.trans s3) (Nw.of hp))⟩)
theorem gn_call2 {pre : PyData → PyData → Prop} {f : PyData → PyData → PyData} (t : Trk X H) (h1 : G X ta σ H d1) (h2 : G X tb σ H d2) (hp : pre d1 d2) : GN X (tCall (sp2N pre f) [] E (tCons ta (tCons tb tNil))) σ H (f d1 d2) := fun H1 s Q q =>
  h1 H1 s _ fun v H2 s2 r => h2 H2 (s.trans s2) _ fun v2 H3 s3 r2 => ⟨X, v, v2, d1, d2, rfl, ((t.mono s).mono s2).mono s3, r.mono (Kp.of s3), r2, hp, fun w H' s4 dw nw => q w H' ((s2.trans s3).trans s4) dw (Nw.back (s2.trans s3) nw)⟩
theorem s_retN (h : GN X te σ H d) (q : ∀ w H', Same H H' → DX X H' w d → Nw H w → D.rt w H') : tRet te D σ H := h H (Same.refl H) _ q
end
section
variable {P : Program} {w : World} {K : PySem.W.Frag} {mg : Str → Option Value} {base : Heap} {x qual : Str} {st : Stmt} {f : Addr} {fd : FuncData} {N : List Str} {k : Nat} {a b c : Str}
theorem ok2N {pre : PyData → PyData → Prop} {g : PyData → PyData → PyData} (F : Fun K x qual st f fd) (S : FnScope N [a, b] (defScope st)) (hN : 2 ≤ N.length)
    (hbody : ∀ (cdv : Value) (A : Around) (outer : List Env) (s : Shared) (H : Hp) (E : XK) (X : Addr → Prop) (d1 d2 : PyData) (Q : VK), Room k (A.deeper (envOfC qual (defScope st) s.heap.objs.size f cdv)) → Trk X H → pre d1 d2 → (∀ w H', Same H H' → DX X H' w (g d1 d2) → Nw H w → Q w H') →
      ∃ t, PSs (cxOf CX0 P w K mg base N qual (defScope st) f cdv A outer s H E).nox (defBody st) t ∧ ∀ σ, EnvOk X H σ (pad N [.dat d1, .dat d2]) → t { nx := fun _ H' => Q .non H', rt := Q } σ H) : FnOk P w K mg base CX0 (k + 1) f fd [a, b] (sp2N pre g) := by
  refine F.ok S (fun vs H Q E h => ?_) (fun cdv A outer s H vs Q E hr h => ?_)
  · obtain ⟨X, v1, v2, d1, d2, rfl, _⟩ := h
    rfl
  · obtain ⟨X, v1, v2, d1, d2, rfl, t, r1, r2, hp, q⟩ := h
    obtain ⟨tt, h1, h2⟩ := hbody cdv A outer s H E X d1 d2 Q hr t hp q
    exact ⟨tt, h1, h2 _ (env2 r1 r2 hN)⟩
end
/-! ### a new list is no part of itself -/
mutual
theorem DX.fn {X X' : Addr → Prop} {H : Hp} : ∀ {v : V} {d d' : PyData}, DX X H v d → DX X' H v d' → d = d'
  | _, _, _, .non, k => by cases k; rfl
  | _, _, _, .bl b, k => by cases k; rfl
  | _, _, _, .int i, k => by cases k; rfl
  | _, _, _, .str x, k => by cases k; rfl
  | _, _, _, .lst n e r, k => by
    cases k with
    | lst n2 e2 r2 =>
      rw [e] at e2
      cases e2
      rw [DXs.fn r r2]
    | tup n2 e2 r2 => rw [e] at e2; cases e2
    | dic n2 e2 r2 => rw [e] at e2; cases e2
  | _, _, _, .tup n e r, k => by
    cases k with
    | tup n2 e2 r2 =>
      rw [e] at e2
      cases e2
      rw [DXs.fn r r2]
    | lst n2 e2 r2 => rw [e] at e2; cases e2
    | dic n2 e2 r2 => rw [e] at e2; cases e2
  | _, _, _, .dic n e r, k => by
    cases k with
    | dic n2 e2 r2 =>
      rw [e] at e2
      cases e2
      rw [DXk.fn r r2]
    | lst n2 e2 r2 => rw [e] at e2; cases e2
    | tup n2 e2 r2 => rw [e] at e2; cases e2
theorem DXs.fn {X X' : Addr → Prop} {H : Hp} : ∀ {v : List V} {d d' : List PyData}, DXs X H v d → DXs X' H v d' → d = d'
  | _, _, _, .nil, k => by cases k; rfl
  | _, _, _, .cons h r, k => by
    cases k with
    | cons h2 r2 => rw [DX.fn h h2, DXs.fn r r2]
theorem DXk.fn {X X' : Addr → Prop} {H : Hp} : ∀ {v : List (Key × V)} {d d' : List (PyData × PyData)}, DXk X H v d → DXk X' H v d' → d = d'
  | _, _, _, .nil, k => by cases k; rfl
  | _, _, _, .cons h r, k => by
    cases k with
    | cons h2 r2 => rw [DX.fn h h2, DXk.fn r r2]
end
mutual
theorem DX.apart {X : Addr → Prop} {H : Hp} {a : Addr} {D : PyData} (hD : DX X H (.ref a) D) : ∀ {v : V} {d : PyData}, DX X H v d → sizeOf d < sizeOf D → DX (fun b => X b ∨ b = a) H v d
  | _, _, .non, _ => .non
  | _, _, .bl b, _ => .bl b
  | _, _, .int i, _ => .int i
  | _, _, .str x, _ => .str x
  | .ref b, .list ds, .lst n e r, hs => by
    refine .lst (fun x => x.elim n fun q => ?_) e (DXs.apart hD r (by simp at hs; omega))
    subst q
    have e2 := hD.fn (X' := X) (DX.lst n e r)
    rw [e2] at hs
    omega
  | .ref b, .tuple ds, .tup n e r, hs => by
    refine .tup (fun x => x.elim n fun q => ?_) e (DXs.apart hD r (by simp at hs; omega))
    subst q
    have e2 := hD.fn (X' := X) (DX.tup n e r)
    rw [e2] at hs
    omega
  | .ref b, .dict ds, .dic n e r, hs => by
    refine .dic (fun x => x.elim n fun q => ?_) e (DXk.apart hD r (by simp at hs; omega))
    subst q
    have e2 := hD.fn (X' := X) (DX.dic n e r)
    rw [e2] at hs
    omega
theorem DXs.apart {X : Addr → Prop} {H : Hp} {a : Addr} {D : PyData} (hD : DX X H (.ref a) D) : ∀ {v : List V} {d : List PyData}, DXs X H v d → sizeOf d < sizeOf D → DXs (fun b => X b ∨ b = a) H v d
  | _, _, .nil, _ => .nil
  | _, _, .cons h r, hs => .cons (DX.apart hD h (by simp at hs; omega)) (DXs.apart hD r (by simp at hs; omega))
theorem DXk.apart {X : Addr → Prop} {H : Hp} {a : Addr} {D : PyData} (hD : DX X H (.ref a) D) : ∀ {v : List (Key × V)} {d : List (PyData × PyData)}, DXk X H v d → sizeOf d < sizeOf D → DXk (fun b => X b ∨ b = a) H v d
  | _, _, .nil, _ => .nil
  | _, _, .cons h r, hs => .cons (DX.apart hD h (by simp at hs; omega)) (DXk.apart hD r (by simp at hs; omega))
end
/-- the items of a list, apart from the list itself -/
theorem DX.inner {X : Addr → Prop} {H : Hp} {v : V} {ds : List PyData} (h : DX X H v (.list ds)) : ∃ a xs, v = .ref a ∧ ¬ X a ∧ H a = some (.lst xs) ∧ DXs (fun b => X b ∨ b = a) H xs ds := by
  cases h with
  | lst n e r => exact ⟨_, _, rfl, n, e, DXs.apart (DX.lst n e r) r (by simp)⟩
end KD

namespace K56
open PySem PySem.Spec PyProof.Rows L2 KD
def topS (i : Nat) : Stmt := PySem.Challenge.pw_patchlots_k56_whole_three_texts.main.body.getD i (.Pass ⟨0, 0, 0, 0⟩)
variable {P : Program} {w : World} {K : PySem.W.Frag} {mg : Str → Option Value} {base : Heap}

abbrev s_is_list : Stmt := topS 5
abbrev n_is_list : List Str := ["thing"]
theorem sc_is_list : FnScope n_is_list ["thing"] (defScope s_is_list) := ⟨rfl, rfl, rfl, by decide +kernel, rfl, by decide +kernel, by decide +kernel⟩
theorem ok_is_list {f : Addr} {fd : FuncData} (F : Fun K "is_list" "is_list" s_is_list f fd) (T : Bl mg) : FnOk P w K mg base CX0 1 f fd ["thing"] (sp1 (fun _ => True) fun d => .bool (isSeq d)) := by
  refine ok1 F sc_is_list (by decide) fun cdv A outer s H E X d Q hr t _ q => ⟨_, (pss_one (ps_ret (pe_callB call_isiT (by rfl) T.b_isinstance boot_isinstance (pa_cons (pv 0) (pa_cons (pe_tup (pa_cons (pe_bltn (v := .ty "list") (by rfl) T.b_list boot_list rfl) (pa_cons (pe_bltn (v := .ty "tuple") (by rfl) T.b_tuple boot_tuple rfl) pa_nil))) pa_nil))))), fun σ En => ?_⟩
  exact s_ret (g_isSeq (g_var En rfl)) q

abbrev s_is_integer : Stmt := topS 6
abbrev n_is_integer : List Str := ["thing"]
theorem sc_is_integer : FnScope n_is_integer ["thing"] (defScope s_is_integer) := ⟨rfl, rfl, rfl, by decide +kernel, rfl, by decide +kernel, by decide +kernel⟩
def isIntD (d : PyData) : Bool := isa_int d && !isa_bool d
theorem ok_is_integer {f : Addr} {fd : FuncData} (F : Fun K "is_integer" "is_integer" s_is_integer f fd) (T : Bl mg) : FnOk P w K mg base CX0 1 f fd ["thing"] (sp1 (fun _ => True) fun d => .bool (isIntD d)) := by
  refine ok1 F sc_is_integer (by decide) fun cdv A outer s H E X d Q hr t _ q => ⟨_, (pss_one (ps_ret (pe_and (pe_callB call_isi (by rfl) T.b_isinstance boot_isinstance (pa_cons (pv 0) (pa_cons (pe_bltn (v := .ty "int") (by rfl) T.b_int boot_int rfl) pa_nil))) (pe_one (pe_not (pe_callB call_isi (by rfl) T.b_isinstance boot_isinstance (pa_cons (pv 0) (pa_cons (pe_bltn (v := .ty "bool") (by rfl) T.b_bool boot_bool rfl) pa_nil)))))))), fun σ En => ?_⟩
  exact s_ret (g_and (g_isInt (g_var En rfl)) fun _ => g_not (g_isBool (g_var En rfl))) q

abbrev s_is_number : Stmt := topS 7
abbrev n_is_number : List Str := ["thing"]
theorem sc_is_number : FnScope n_is_number ["thing"] (defScope s_is_number) := ⟨rfl, rfl, rfl, by decide +kernel, rfl, by decide +kernel, by decide +kernel⟩
def isNumD : PyData → Bool
  | .int i => decide (0 ≤ i)
  | _ => false
theorem isIntD_int {d : PyData} (h : isIntD d = true) : ∃ i, d = .int i := by
  cases d <;> simp [isIntD, isa_int, isa_bool] at h ⊢
theorem isNumD_eq (d : PyData) : (∃ i, d = .int i ∧ isIntD d = true ∧ isNumD d = decide (0 ≤ i)) ∨ (isIntD d = false ∧ isNumD d = false) := by
  cases d <;> simp [isIntD, isa_int, isa_bool, isNumD]
theorem ok_is_number {f : Addr} {fd : FuncData} (F : Fun K "is_number" "is_number" s_is_number f fd) (T : Bl mg) (O_is_integer : Own P w K mg base CX0 1 "is_integer" ["thing"] (sp1 (fun _ => True) fun d => .bool (isIntD d))) : FnOk P w K mg base CX0 2 f fd ["thing"] (sp1 (fun _ => True) fun d => .bool (isNumD d)) := by
  refine ok1 F sc_is_number (by decide) fun cdv A outer s H E X d Q hr t _ q => ⟨_, (pss_one (ps_ret (pe_and (pe_own O_is_integer hr (by decide) (by rfl) (pa_cons (pv 0) pa_nil)) (pe_one (pe_cmpR op_ge (pv 0) pe_int (nomark _)))))), fun σ En => ?_⟩
  refine s_ret ?_ q
  rcases isNumD_eq d with ⟨i, rfl, h1, h2⟩ | ⟨h1, h2⟩
  · rw [h2]
    refine g_is (g_and (a := true) (b := decide (0 ≤ i)) (g_is (g_call1 t (g_var En rfl) trivial) (by rw [h1])) fun _ => ?_) rfl
    exact g_op t (g_var En rfl) g_int rb_I0.rd
  · rw [h2]
    exact g_and (a := false) (b := false) (g_is (g_call1 t (g_var En rfl) trivial) (by rw [h1])) fun z => absurd z (by decide)

-- HINT is_words in op_notIn_sign
def hasFeed (s : Str) : Bool := decide (10 ∈ s.cps.toList)
def isWordsD : PyData → Bool
  | .str s => decide (s.length ≤ 200) && !hasFeed s
  | _ => false
theorem rb_notInSign {X : Addr → Prop} {c : Nat} {s : Str} : RB X (fun x y H Q => ∃ (c : Nat) (z : Str), x = V.str ⟨#[c]⟩ ∧ y = V.str z ∧ Q (V.bl (!decide (c ∈ z.cps.toList))) H) (.str ⟨#[c]⟩) (.str s) (!decide (c ∈ s.cps.toList)) := fun H u v _ ru rv Q q => ⟨c, s, ru.str_inv, rv.str_inv, q⟩
def wordsPre : PyData → Prop
  | .str s => s.length ≤ 1000000
  | _ => True
abbrev s_is_words : Stmt := topS 9
abbrev n_is_words : List Str := ["thing"]
theorem sc_is_words : FnScope n_is_words ["thing"] (defScope s_is_words) := ⟨rfl, rfl, rfl, by decide +kernel, rfl, by decide +kernel, by decide +kernel⟩
theorem ok_is_words {f : Addr} {fd : FuncData} (F : Fun K "is_words" "is_words" s_is_words f fd) (T : Bl mg) : FnOk P w K mg base CX0 1 f fd ["thing"] (sp1 wordsPre fun d => .bool (isWordsD d)) := by
  refine ok1 F sc_is_words (by decide) fun cdv A outer s H E X d Q hr t hp q => ⟨_, (pss_one (ps_ret (pe_and (pe_callB call_isi (by rfl) T.b_isinstance boot_isinstance (pa_cons (pv 0) (pa_cons (pe_bltn (v := .ty "str") (by rfl) T.b_str boot_str rfl) pa_nil))) (pe_and (pe_cmpR op_le (pe_callB call_len (by rfl) T.b_len boot_len (pa_cons (pv 0) pa_nil)) pe_int (nomark _)) (pe_one (pe_cmpR op_notIn_sign pe_str (pv 0) (by rfl))))))), fun σ En => ?_⟩
  refine s_ret ?_ q
  by_cases h : ∃ z, d = .str z
  · obtain ⟨z, rfl⟩ := h
    refine g_is (g_and (a := true) (b := decide (z.length ≤ 200) && !hasFeed z) (g_is (g_isStr (g_var En rfl)) rfl) fun _ => ?_) (by simp [isWordsD])
    refine g_and (a := decide (z.length ≤ 200)) ?_ fun _ => ?_
    · refine g_is (g_cmpI t (g := fun i j => decide (i ≤ j)) (g_len t (g_var En rfl) (by simpa [hasLen, wordsPre] using hp)) g_int) ?_
      show PyData.bool (decide ((z.length : Int) ≤ 200)) = _
      congr 1
      exact decide_eq_decide.mpr (by omega)
    · exact g_op t g_str (g_var En rfl) rb_notInSign.rd
  · have e1 : isa_str d = false := by cases d <;> first | rfl | exact absurd ⟨_, rfl⟩ h
    have e2 : isWordsD d = false := by cases d <;> first | rfl | exact absurd ⟨_, rfl⟩ h
    rw [e2]
    exact g_is (g_and (a := false) (b := false) (g_is (g_isStr (g_var En rfl)) (by rw [e1])) fun z => absurd z (by decide)) rfl
abbrev s_first_false : Stmt := topS 10
abbrev n_first_false : List Str := ["tests", "index", "test"]
theorem sc_first_false : FnScope n_first_false ["tests"] (defScope s_first_false) := ⟨rfl, rfl, rfl, by decide +kernel, rfl, by decide +kernel, by decide +kernel⟩
def ffD : Nat → List PyData → PyData
  | _, [] => .none
  | i, .bool false :: _ => .int (i : Nat)
  | i, _ :: r => ffD (i + 1) r
def Bools (d : PyData) : Prop := ∃ bs : List Bool, d = .list (bs.map .bool) ∧ bs.length ≤ 100000
theorem ff_true (i : Nat) (r : List PyData) : ffD i (.bool true :: r) = ffD (i + 1) r := by simp [ffD]
theorem ok_first_false {f : Addr} {fd : FuncData} (F : Fun K "first_false" "first_false" s_first_false f fd) (T : Bl mg) : FnOk P w K mg base CX0 1 f fd ["tests"] (sp1 Bools fun d => ffD 0 (itemsD d)) := by
  refine ok1 F sc_first_false (by decide) fun cdv A outer s H E X d Q hr t hp q => ⟨_, (pss_cons (ps_for PassesOwn.never rfl (pi_enum (by rfl) T.b_enumerate (pa_cons (pv 0) pa_nil)) (pg_tup (n := 2) rfl (pgs_cons (pg_name (i := 1) sc_first_false.nd rfl (by first | exact Or.inl rfl | exact Or.inr rfl)) (pgs_cons (pg_name (i := 2) sc_first_false.nd rfl (by first | exact Or.inl rfl | exact Or.inr rfl)) pgs_nil)))
    (pss_one (ps_if (pt_not (pt_val (pv 2)))
    (pss_one (ps_ret (pv 1))) pss_nil)))
    (pss_one (ps_ret pe_non))), fun σ En => ?_⟩
  obtain ⟨bs, rfl, hl⟩ := hp
  have q : ∀ w H', Same H H' → DX X H' w (ffD 0 (bs.map PyData.bool)) → Q w H' := q
  refine s_forD (gi_enum (g_var En rfl)) (fun Hb i σ' H' => Same Hb H' ∧ Trk X H' ∧ EnvOk X H' σ' [.dat (.list (bs.map .bool)), .un, .un] ∧ ffD 0 (bs.map PyData.bool) = ffD i ((bs.drop i).map PyData.bool)) (fun Hb s => ⟨Same.refl _, t.mono s, En.same s, rfl⟩) (fun Hb i σ' H' p => ⟨Kp.of p.1, p.2.1⟩) ?_ ?_
  · rintro Hb i x d σ' H' H'' sb hd ⟨p1, p2, p3, p4⟩ s2 dx
    have hi : i < bs.length := by
      have := (List.getElem?_eq_some_iff.mp hd).1
      rw [enumD_len, List.length_map] at this
      exact this
    have hb : (bs.map PyData.bool)[i]? = some (.bool bs[i]) := by rw [List.getElem?_map, List.getElem?_eq_getElem hi]; rfl
    rw [enumD_get hb] at hd
    cases hd
    have edrop : bs.drop i = bs[i] :: bs.drop (i + 1) := List.drop_eq_getElem_cons hi
    refine g_pair dx fun u w h1 h2 => ?_
    have E2 := ((p3.same s2).set (i := 1) h1).set (i := 2) h2
    refine s_if (gt_not (gt_B (g_var E2 rfl))) (fun hb H1 s3 => ?_) (fun hb H1 s3 => ?_)
    · have e : bs[i] = false := by simpa using hb
      refine s_ret (g_var (E2.same s3) rfl) fun w H2 s4 dw => q w H2 ((((sb.trans p1).trans s2).trans s3).trans s4) ?_
      rw [p4, edrop, e]
      exact dw
    · have e : bs[i] = true := by simpa using hb
      refine ⟨(p1.trans s2).trans s3, (p2.mono s2).mono s3, ?_, ?_⟩
      · have E3 := (E2.same s3)
        exact ⟨E3.len, fun j sv e => by
          match j, e with
          | 0, e => exact E3.get 0 _ e
          | 1, e => cases e; trivial
          | 2, e => cases e; trivial⟩
      · rw [p4, edrop, e]
        exact ff_true i _
  · rintro Hb σ' H' sb ⟨p1, p2, p3, p4⟩
    rw [enumD_len, List.length_map, List.drop_length] at p4
    refine s_ret (σ := σ') (X := X) (D := { nx := fun _ H' => Q .non H', rt := Q }) g_non fun w H2 s4 dw => q w H2 ((sb.trans p1).trans s4) ?_
    rw [p4]
    exact dw

def wordsAll (d : PyData) : Prop := isSeq d = true → (itemsD d).length ≤ 100000 ∧ ∀ z ∈ itemsD d, wordsPre z
def wrongD (d : PyData) : PyData := if isSeq d then ffD 0 ((itemsD d).map fun z => .bool (isWordsD z)) else .int 0
-- HINT wrong_words it pi_seq
abbrev s_wrong_words : Stmt := topS 11
abbrev n_wrong_words : List Str := ["things", "thing"]
theorem sc_wrong_words : FnScope n_wrong_words ["things"] (defScope s_wrong_words) := ⟨rfl, rfl, rfl, by decide +kernel, rfl, by decide +kernel, by decide +kernel⟩
theorem ok_wrong_words {f : Addr} {fd : FuncData} (F : Fun K "wrong_words" "wrong_words" s_wrong_words f fd) (T : Bl mg) (O_is_list : Own P w K mg base CX0 1 "is_list" ["thing"] (sp1 (fun _ => True) fun d => .bool (isSeq d)))
    (O_is_words : Own P w K mg base CX0 1 "is_words" ["thing"] (sp1 wordsPre fun d => .bool (isWordsD d))) (O_first_false : Own P w K mg base CX0 1 "first_false" ["tests"] (sp1 Bools fun d => ffD 0 (itemsD d))) :
    FnOk P w K mg base CX0 2 f fd ["things"] (sp1 wordsAll wrongD) := by
  refine ok1 F sc_wrong_words (by decide) fun cdv A outer s H E X d Q hr t hp q => ⟨_, (pss_cons (ps_if (pt_not (pt_val (pe_own O_is_list hr (by decide) (by rfl) (pa_cons (pv 0) pa_nil))))
    (pss_one (ps_ret pe_int)) pss_nil)
    (pss_one (ps_ret (pe_own O_first_false hr (by decide) (by rfl) (pa_cons (pe_lc (own := [("thing", 1)]) (g := (gName 1)) (tt := tYes) rfl sc_wrong_words.nd (pi_seq (pv 0)) (blkOk_by (N := n_wrong_words) (sc := defScope s_wrong_words) (by decide +kernel)) (fun _ _ _ _ _ => (pg_name (i := 1) sc_wrong_words.nd rfl (by first | exact Or.inl rfl | exact Or.inr rfl))) (fun _ _ _ _ _ => pts_nil) (fun _ _ _ _ _ => (pe_own O_is_words hr (by decide) (by rfl) (pa_cons (pv 1) pa_nil)))) pa_nil))))), fun σ En => ?_⟩
  refine q_if (gt_not (gt_B (g_call1 t (g_var En rfl) trivial))) (fun hb H1 s1 => ?_) (fun hb H1 s1 => ?_)
  · have e : isSeq d = false := by simpa using hb
    refine s_ret (X := X) g_int fun w H2 s2 dw => q w H2 (s1.trans s2) ?_
    unfold wrongD
    rw [e]
    exact dw
  · have e : isSeq d = true := by simpa using hb
    obtain ⟨hl, hw⟩ := hp e
    have t1 := t.mono s1
    have q' : ∀ w H', Same H1 H' → DX X H' w (ffD 0 ((itemsD d).map fun z => .bool (isWordsD z))) → Q w H' := fun w H2 s2 dw => q w H2 (s1.trans s2) (by unfold wrongD; rw [e]; exact dw)
    refine s_ret (X := X) (g_is (g_call1 t1 (d := .list ((itemsD d).map fun z => .bool (isWordsD z))) (g_lc1 (Γ2 := fun z => [.dat d, .dat z]) (fun z => .bool (isWordsD z)) t1 (gi_seq (g_var (En.same s1) rfl) e) (by omega) (fun H2 s2 z _ => tgt_name ((En.same s1).same s2)) (fun X' H2 σ2 z hz t2 E2 => g_call1 t2 (g_var E2 rfl) (hw z hz))) ⟨(itemsD d).map isWordsD, by simp [List.map_map], by simpa using hl⟩) rfl) q'

def it (d : PyData) (i : Nat) : PyData := (itemsD d).getD i .none
def ch3 (d : PyData) : Bool := isSeq d && (decide ((itemsD d).length = 3) && isNumD (it d 0))
def isChangeD (d : PyData) : Bool := ch3 d && (isNone (wrongD (it d 1)) && isNone (wrongD (it d 2))) && decide (0 < lenD (it d 1) + lenD (it d 2))
def chPre (d : PyData) : Prop := isSeq d = true → (itemsD d).length ≤ 100000 ∧ ∀ z ∈ itemsD d, wordsAll z
theorem lenD_seq {d : PyData} (h : isSeq d = true) : lenD d = (itemsD d).length := by cases d <;> first | rfl | cases h
theorem hasLen_seq {d : PyData} (h : isSeq d = true) : hasLen d = true := by cases d <;> first | rfl | cases h
theorem wrong_seq {d : PyData} (h : isNone (wrongD d) = true) : isSeq d = true := by
  cases e : isSeq d with
  | true => rfl
  | false =>
    unfold wrongD at h
    rw [e] at h
    simp [isNone] at h
theorem it_at {d : PyData} {i : Nat} {k : Int} (hk : k = (i : Int)) (h : i < (itemsD d).length) : atI (itemsD d) k = some (it d i) := by
  subst hk
  refine atI_nat ?_
  unfold it
  rw [List.getElem?_eq_getElem h, List.getD_eq_getElem?_getD, List.getElem?_eq_getElem h]
  rfl
theorem it_mem {d : PyData} {i : Nat} (h : i < (itemsD d).length) : it d i ∈ itemsD d := by
  unfold it
  rw [List.getD_eq_getElem?_getD, List.getElem?_eq_getElem h]
  exact List.getElem_mem h
theorem eqv_int (i j : Int) : PyData.eqv (.int i) (.int j) = decide (i = j) := by
  simp only [PyData.eqv]
  by_cases h : i = j
  · subst h; simp
  · rw [decide_eq_false h]; simpa using h
theorem gt_neI {X : Addr → Prop} {ta tb : TE} {σ : L2.St} {H : Hp} {K : PySem.W.Frag} {i j : Int} (t : Trk X H) (ha : G X ta σ H (.int i)) (hb : G X tb σ H (.int j)) : GT (tTest (tOp (rNeD K) ta tb)) σ H (!decide (i = j)) := by
  rw [← eqv_int]
  exact gt_neD t ha hb rfl rfl (shaped_int i) (shaped_int j)
theorem gt_eqI {X : Addr → Prop} {ta tb : TE} {σ : L2.St} {H : Hp} {K : PySem.W.Frag} {i j : Int} (t : Trk X H) (ha : G X ta σ H (.int i)) (hb : G X tb σ H (.int j)) : GT (tTest (tOp (rEqD K) ta tb)) σ H (decide (i = j)) := by
  rw [← eqv_int]
  exact gt_eqD t ha hb rfl rfl (shaped_int i) (shaped_int j)
def wsD (ws : List Str) : PyData := .list (ws.map .str)
def chD (p : Int) (os ns : List Str) : PyData := .tuple [.int p, wsD os, wsD ns]
def WsOk (ws : List Str) : Prop := ws.length ≤ 1000 ∧ ∀ z ∈ ws, PyData.strOk z = true
theorem sIx_nn {n d : Nat} {p : Int} (h : 0 ≤ p) : HT.sIx n d (some p) = min p.toNat n := by
  show (if p < 0 then (p + (n : Int)).toNat else min p.toNat n) = min p.toNat n
  rw [if_neg (by omega)]
theorem cutD_map (ws : List Str) (lo hi : Option Int) : cutPD (ws.map PyData.str) lo hi = ((ws.drop (HT.sIx ws.length 0 lo)).take (HT.sIx ws.length ws.length hi - HT.sIx ws.length 0 lo)).map PyData.str := by
  unfold cutPD
  rw [List.length_map, List.map_take, List.map_drop]
theorem cut_lo (ws : List Str) {p q : Int} (hp : 0 ≤ p) (hq : p ≤ q) : cutPD (ws.map PyData.str) (some p) (some q) = ((ws.drop p.toNat).take (q.toNat - p.toNat)).map PyData.str := by
  rw [cutD_map, sIx_nn hp, sIx_nn (by omega)]
  congr 1
  by_cases h : p.toNat ≤ ws.length
  · rw [Nat.min_eq_left h]
    apply List.ext_getElem?
    intro n
    simp only [List.getElem?_take, List.getElem?_drop]
    by_cases hn : n < q.toNat - p.toNat
    · rw [if_pos hn]
      split
      · rfl
      · exact (List.getElem?_eq_none (by omega)).symm
    · rw [if_neg hn, if_neg (by omega)]
  · rw [List.drop_eq_nil_of_le (by omega), List.drop_eq_nil_of_le (by omega), List.take_nil, List.take_nil]
theorem cut_hi (ws : List Str) {q : Int} (hq : 0 ≤ q) : cutPD (ws.map PyData.str) none (some q) = (ws.take q.toNat).map PyData.str := by
  rw [cutD_map, sIx_nn hq, HT.sIx_none, List.drop_zero, Nat.sub_zero]
  congr 1
  by_cases h : q.toNat ≤ ws.length
  · rw [Nat.min_eq_left h]
  · rw [Nat.min_eq_right (by omega), List.take_of_length_le (Nat.le_refl _), List.take_of_length_le (by omega)]
theorem cut_from (ws : List Str) {p : Int} (hp : 0 ≤ p) : cutPD (ws.map PyData.str) (some p) none = (ws.drop p.toNat).map PyData.str := by
  rw [cutD_map, sIx_nn hp, HT.sIx_none]
  congr 1
  by_cases h : p.toNat ≤ ws.length
  · rw [Nat.min_eq_left h, List.take_of_length_le (by rw [List.length_drop]; omega)]
  · rw [Nat.min_eq_right (by omega), List.drop_eq_nil_of_le (Nat.le_refl _), List.drop_eq_nil_of_le (by omega), List.take_nil]
theorem sl_from {X : Addr → Prop} {te ta : TE} {σ : L2.St} {H : Hp} {ws : List Str} {p : Int} (t : Trk X H) (h : G X te σ H (wsD ws)) (ha : G X ta σ H (.int p)) (hp : 0 ≤ p) : G X (tSl (rSlL K) te (tPart ta) tNoPart) σ H (wsD (ws.drop p.toNat)) := by
  refine g_is (g_sl t h (go_some ha) go_none) ?_
  rw [cut_from _ hp]
  rfl
theorem sl_to {X : Addr → Prop} {te ta : TE} {σ : L2.St} {H : Hp} {ws : List Str} {p : Int} (t : Trk X H) (h : G X te σ H (wsD ws)) (ha : G X ta σ H (.int p)) (hp : 0 ≤ p) : G X (tSl (rSlL K) te tNoPart (tPart ta)) σ H (wsD (ws.take p.toNat)) := by
  refine g_is (g_sl t h go_none (go_some ha)) ?_
  rw [cut_hi _ hp]
  rfl
theorem sl_mid {X : Addr → Prop} {te ta tb : TE} {σ : L2.St} {H : Hp} {ws : List Str} {p q : Int} (t : Trk X H) (h : G X te σ H (wsD ws)) (ha : G X ta σ H (.int p)) (hb : G X tb σ H (.int q)) (hp : 0 ≤ p) (hq : p ≤ q) : G X (tSl (rSlL K) te (tPart ta) (tPart tb)) σ H (wsD ((ws.drop p.toNat).take (q.toNat - p.toNat))) := by
  refine g_is (g_sl t h (go_some ha) (go_some hb)) ?_
  rw [cut_lo _ hp hq]
  rfl
theorem len_ws {X : Addr → Prop} {te : TE} {σ : L2.St} {H : Hp} {ws : List Str} (t : Trk X H) (h : G X te σ H (wsD ws)) : G X (tCB (fun xs H Q => ∃ x n, xs = [x] ∧ LenV K x H n ∧ Q (V.int n) H) (tCons te tNil)) σ H (.int (ws.length : Int)) := by
  refine g_is (g_len t h rfl) ?_
  show PyData.int (((ws.map PyData.str).length : Nat) : Int) = _
  rw [List.length_map]
theorem cat_ws {X : Addr → Prop} {ta tb : TE} {σ : L2.St} {H : Hp} {ws zs : List Str} (t : Trk X H) (ha : G X ta σ H (wsD ws)) (hb : G X tb σ H (wsD zs)) (hl : ws.length + zs.length ≤ 1000000) : G X (tOp rAddA ta tb) σ H (wsD (ws ++ zs)) := by
  refine g_is (g_cat t ha hb (by rw [List.length_map, List.length_map]; exact hl)) ?_
  rw [← List.map_append]
  rfl
theorem catn_ws {X : Addr → Prop} {ta tb : TE} {σ : L2.St} {H : Hp} {ws zs : List Str} (t : Trk X H) (ha : G X ta σ H (wsD ws)) (hb : G X tb σ H (wsD zs)) (hl : ws.length + zs.length ≤ 1000000) : GN X (tOp rAddA ta tb) σ H (wsD (ws ++ zs)) := by
  refine GN.is (gn_cat t ha hb (by rw [List.length_map, List.length_map]; exact hl)) ?_
  rw [← List.map_append]
  rfl
theorem WsOk.take {ws : List Str} (h : WsOk ws) (n : Nat) : WsOk (ws.take n) := ⟨by rw [List.length_take]; have := h.1; omega, fun z hz => h.2 z (List.mem_of_mem_take hz)⟩
theorem WsOk.drop {ws : List Str} (h : WsOk ws) (n : Nat) : WsOk (ws.drop n) := ⟨by rw [List.length_drop]; have := h.1; omega, fun z hz => h.2 z (List.mem_of_mem_drop hz)⟩

def fitsB (ws : List Str) (p : Int) (os : List Str) : Bool := decide (p ≤ ws.length) && decide ((ws.drop p.toNat).take os.length = os)
/-- a text and a told change -/
def TC (a b : PyData) : Prop := ∃ ws p os ns, a = wsD ws ∧ b = chD p os ns ∧ WsOk ws ∧ WsOk os ∧ WsOk ns ∧ 0 ≤ p
def wsOf (d : PyData) : List Str := (itemsD d).map fun z => match z with | .str s => s | _ => default
theorem wsOf_wsD (ws : List Str) : wsOf (wsD ws) = ws := by
  show (ws.map PyData.str).map _ = ws
  rw [List.map_map]
  exact (List.map_congr_left fun _ _ => rfl).trans (List.map_id ws)
def intOf : PyData → Int
  | .int i => i
  | _ => 0
end K56

namespace KD
open PySem PySem.Spec PyProof.Rows L2
/-! ### own errors with one field -/
def spInit (C : Addr) (f : Str) : Sp := fun vs H Q _ => ∃ (a : Addr) (y : V), vs = [.ref a, y] ∧ H a = some (exo a C none) ∧ ∀ d, H d = none → d ≠ a → Q .non (upd (upd H d (exd d [(f, y)])) a (exo a C (some d)))
structure Ec (P : Program) (w : World) (K : PySem.W.Frag) (mg : Str → Option Value) (base : Heap) (x f : Str) (C : Addr) : Prop where
  gC : mg x = some (.ref C)
  T : OexC K C
  xf : XfC K C
  noF : PySem.W.findIn K (.ref C) f = some none
  ini : ∃ (fI : Addr) (fd : FuncData), PySem.W.findIn K (.ref C) "__init__" = some (some (.ref fI)) ∧ PySem.W.typeIn K (.ref fI) = some (.type "function") ∧ FnOk P w K mg base CX0 1 fI fd ["self", f] (spInit C f) ∧ Binds K fd ["self", f] []
section
variable {P : Program} {w : World} {K : PySem.W.Frag} {mg : Str → Option Value} {base : Heap} {C : Addr} {x f qual : Str} {st : Stmt} {fI : Addr} {fd : FuncData}
theorem ok_initF (F : Fun K "__init__" qual st fI fd) (S : FnScope [("self" : Str), f] [("self" : Str), f] (defScope st)) (T : OexC K C) (hno : PySem.W.findIn K (.ref C) f = some none) {p1 p2 p3 p4 : Pos}
    (hb : defBody st = [.Assign [.Attribute (.Name ("self" : Str) p1) f p2] (.Name f p3) p4]) (v0 : (defScope st).names.lookup ("self" : Str) = some .local) (v1 : (defScope st).names.lookup f = some .local) (hd : (f == ("__debug__" : Str)) = false) (hcd : (f == ("__classdict__" : Str)) = false)
    (hs : ∀ env : Env, swapsWith (.Name f p3) (some (.Attribute (.Name ("self" : Str) p1) f p2)) p4.line env = pure false) : FnOk P w K mg base CX0 1 fI fd ["self", f] (spInit C f) := by
  refine F.ok S (fun vs H Q E h => ?_) (fun cdv A outer s H vs Q E hr h => ?_)
  · obtain ⟨a, y, rfl, _⟩ := h
    rfl
  · obtain ⟨a, y, rfl, ha, k⟩ := h
    refine ⟨_, by
      rw [hb]
      exact pss_one (ps_ost (pe_var (i := 0) rfl (.inl v0) (by decide) (by decide)) (pe_var (i := 1) rfl (.inl v1) hd hcd) (hs _)), ?_⟩
    exact ⟨y, rfl, .ref a, rfl, a, C, rfl, T, hno, .inl ⟨ha, fun d hd hne => k d hd hne⟩⟩
end
inductive Out where
  | val (d : PyData) | err (C : Addr) (f : Str) (d : PyData)
def EndQ (X : Addr → Prop) (H : Hp) (o : Out) (Q : VK) (E : XK) : Prop := (∀ r, o = .val r → ∀ w H', Same H H' → DX X H' w r → Nw H w → Q w H') ∧ (∀ C fl r, o = .err C fl r → ∀ a w H', Same H H' → H' a = some (.xd [(fl, w)]) → DX X H' w r → E (.ref C) (some a) H')
theorem EndQ.mono {X : Addr → Prop} {H H1 : Hp} {o : Out} {Q : VK} {E : XK} (s : Same H H1) (h : EndQ X H o Q E) : EndQ X H1 o Q E := ⟨fun r e w H' k dw nw => h.1 r e w H' (s.trans k) dw (Nw.back s nw), fun C fl r e a w H' k => h.2 C fl r e a w H' (s.trans k)⟩
def spX1 (pre : PyData → Prop) (f : PyData → Out) : Sp := fun vs H Q E => ∃ (X : Addr → Prop) (v : V) (d : PyData), vs = [v] ∧ Trk X H ∧ DX X H v d ∧ pre d ∧ EndQ X H (f d) Q E
def spX2 (pre : PyData → PyData → Prop) (f : PyData → PyData → Out) : Sp := fun vs H Q E => ∃ (X : Addr → Prop) (v1 v2 : V) (d1 d2 : PyData), vs = [v1, v2] ∧ Trk X H ∧ DX X H v1 d1 ∧ DX X H v2 d2 ∧ pre d1 d2 ∧ EndQ X H (f d1 d2) Q E
section
variable {X : Addr → Prop} {σ : L2.St} {H : Hp} {ta tb : TE} {d d1 d2 : PyData} {E : XK} {Γ : List Sv} {D : Ends} {tz : TS}
/-- the reading of «raise C(e)» -/
theorem mk_err {C : Addr} {f : Str} (h : G X ta σ H d) (q : ∀ a w H', Same H H' → H' a = some (.xd [(f, w)]) → DX X H' w d → E (.ref C) (some a) H') : tMkO C (spInit C f) [] (tCons ta tNil) σ H E :=
  h H (Same.refl H) _ fun v H1 s r => ⟨by show 1 ≤ 1000; decide, fun a ha => ⟨a, v, rfl, upd_same, fun dd hd hne => by
    have hd1 : H1 dd = none := by rw [upd_ne hne] at hd; exact hd
    refine ⟨rfl, dd, _, upd_same, by rw [upd_ne hne, upd_same], hd1, q dd v _ (fun b o e => ?_) upd_same (r.mono (Kp.of ?_))⟩
    · have e1 := s b o e
      have hb : b ≠ a := ne_of_none e1 ha
      rw [upd_ne (ne_of_none e1 hd1)]
      show (if b = a then none else _) = some o
      rw [if_neg hb, upd_ne hb, upd_ne (ne_of_none e1 hd1), upd_ne hb]
      exact e1
    · intro b o e1
      have hb : b ≠ a := ne_of_none e1 ha
      rw [upd_ne (ne_of_none e1 hd1)]
      show (if b = a then none else _) = some o
      rw [if_neg hb, upd_ne hb, upd_ne (ne_of_none e1 hd1), upd_ne hb]
      exact e1⟩⟩
/-- a call that may raise -/
theorem c_X1 {pre : PyData → Prop} {f : PyData → Out} {Q : VK} (t : Trk X H) (h : G X ta σ H d) (hp : pre d) (q : EndQ X H (f d) Q E) : tCall (spX1 pre f) [] E (tCons ta tNil) σ H Q :=
  h H (Same.refl H) _ fun v H1 s r => ⟨X, v, d, rfl, t.mono s, r, hp, q.mono s⟩
theorem c_X2 {pre : PyData → PyData → Prop} {f : PyData → PyData → Out} {Q : VK} (t : Trk X H) (h1 : G X ta σ H d1) (h2 : G X tb σ H d2) (hp : pre d1 d2) (q : EndQ X H (f d1 d2) Q E) : tCall (spX2 pre f) [] E (tCons ta (tCons tb tNil)) σ H Q :=
  h1 H (Same.refl H) _ fun v H1 s r => h2 H1 s _ fun v2 H2 s2 r2 => ⟨X, v, v2, d1, d2, rfl, (t.mono s).mono s2, r.mono (Kp.of s2), r2, hp, q.mono (s.trans s2)⟩
theorem q_setX1 {i : Nat} {pre : PyData → Prop} {f : PyData → Out} (En : EnvOk X H σ Γ) (t : Trk X H) (h : G X ta σ H d) (hp : pre d) (k : ∀ r, f d = .val r → ∀ H1 v, Same H H1 → EnvOk X H1 (σ.set i (some v)) (Γ.set i (.dat r)) → tz D (σ.set i (some v)) H1)
    (ke : ∀ C fl r, f d = .err C fl r → ∀ a w H', Same H H' → H' a = some (.xd [(fl, w)]) → DX X H' w r → E (.ref C) (some a) H') : tSeq (tAsg (tCall (spX1 pre f) [] E (tCons ta tNil)) (gName i)) tz D σ H :=
  c_X1 t h hp ⟨fun r e v H1 s dv _ => k r e H1 v s ((En.same s).set dv), ke⟩
theorem gn_X1 {pre : PyData → Prop} {f : PyData → Out} {r : PyData} (t : Trk X H) (h : G X ta σ H d) (hp : pre d) (e : f d = .val r) : GN X (tCall (spX1 pre f) [] E (tCons ta tNil)) σ H r := fun H1 s Q q =>
  c_X1 (t.mono s) (h.mono s) hp ⟨fun r' e' w H' k dw nw => by rw [e] at e'; cases e'; exact q w H' k dw nw, fun C fl r' e' => by rw [e] at e'; cases e'⟩
theorem gn_X2 {pre : PyData → PyData → Prop} {f : PyData → PyData → Out} {r : PyData} (t : Trk X H) (h1 : G X ta σ H d1) (h2 : G X tb σ H d2) (hp : pre d1 d2) (e : f d1 d2 = .val r) : GN X (tCall (spX2 pre f) [] E (tCons ta (tCons tb tNil))) σ H r := fun H1 s Q q =>
  c_X2 (t.mono s) (h1.mono s) (h2.mono s) hp ⟨fun r' e' w H' k dw nw => by rw [e] at e'; cases e'; exact q w H' k dw nw, fun C fl r' e' => by rw [e] at e'; cases e'⟩
/-- .. of which it is known that it doesn't -/
theorem g_X1 {pre : PyData → Prop} {f : PyData → Out} {r : PyData} (t : Trk X H) (h : G X ta σ H d) (hp : pre d) (e : f d = .val r) : G X (tCall (spX1 pre f) [] E (tCons ta tNil)) σ H r := fun H1 s Q q =>
  c_X1 (t.mono s) (h.mono s) hp ⟨fun r' e' w H' k dw _ => by rw [e] at e'; cases e'; exact q w H' k dw, fun C fl r' e' => by rw [e] at e'; cases e'⟩
theorem g_X2 {pre : PyData → PyData → Prop} {f : PyData → PyData → Out} {r : PyData} (t : Trk X H) (h1 : G X ta σ H d1) (h2 : G X tb σ H d2) (hp : pre d1 d2) (e : f d1 d2 = .val r) : G X (tCall (spX2 pre f) [] E (tCons ta (tCons tb tNil))) σ H r := fun H1 s Q q =>
  c_X2 (t.mono s) (h1.mono s) (h2.mono s) hp ⟨fun r' e' w H' k dw _ => by rw [e] at e'; cases e'; exact q w H' k dw, fun C fl r' e' => by rw [e] at e'; cases e'⟩
end
section
variable {P : Program} {w : World} {K : PySem.W.Frag} {mg : Str → Option Value} {base : Heap} {x qual : Str} {st : Stmt} {f : Addr} {fd : FuncData} {N : List Str} {k : Nat} {a b c : Str}
theorem okX1 {pre : PyData → Prop} {g : PyData → Out} (F : Fun K x qual st f fd) (S : FnScope N [a] (defScope st)) (hN : 1 ≤ N.length)
    (hbody : ∀ (cdv : Value) (A : Around) (outer : List Env) (s : Shared) (H : Hp) (E : XK) (X : Addr → Prop) (d : PyData) (Q : VK), Room k (A.deeper (envOfC qual (defScope st) s.heap.objs.size f cdv)) → Trk X H → pre d → EndQ X H (g d) Q E →
      ∃ t, PSs (cxOf (L2.CX P w) P w K mg base N qual (defScope st) f cdv A outer s H E) (defBody st) t ∧ ∀ σ, EnvOk X H σ (pad N [.dat d]) → t { nx := fun _ H' => Q .non H', rt := Q } σ H) : FnOk P w K mg base (L2.CX P w) (k + 1) f fd [a] (spX1 pre g) := by
  refine F.okX S (fun vs H Q E h => ?_) (fun cdv A outer s H vs Q E hr h => ?_)
  · obtain ⟨X, v, d, rfl, _⟩ := h
    rfl
  · obtain ⟨X, v, d, rfl, t, hd, hp, q⟩ := h
    obtain ⟨tt, h1, h2⟩ := hbody cdv A outer s H E X d Q hr t hp q
    exact ⟨tt, h1, h2 _ (env1 hd hN)⟩
theorem okX2 {pre : PyData → PyData → Prop} {g : PyData → PyData → Out} (F : Fun K x qual st f fd) (S : FnScope N [a, b] (defScope st)) (hN : 2 ≤ N.length)
    (hbody : ∀ (cdv : Value) (A : Around) (outer : List Env) (s : Shared) (H : Hp) (E : XK) (X : Addr → Prop) (d1 d2 : PyData) (Q : VK), Room k (A.deeper (envOfC qual (defScope st) s.heap.objs.size f cdv)) → Trk X H → pre d1 d2 → EndQ X H (g d1 d2) Q E →
      ∃ t, PSs (cxOf (L2.CX P w) P w K mg base N qual (defScope st) f cdv A outer s H E) (defBody st) t ∧ ∀ σ, EnvOk X H σ (pad N [.dat d1, .dat d2]) → t { nx := fun _ H' => Q .non H', rt := Q } σ H) : FnOk P w K mg base (L2.CX P w) (k + 1) f fd [a, b] (spX2 pre g) := by
  refine F.okX S (fun vs H Q E h => ?_) (fun cdv A outer s H vs Q E hr h => ?_)
  · obtain ⟨X, v1, v2, d1, d2, rfl, _⟩ := h
    rfl
  · obtain ⟨X, v1, v2, d1, d2, rfl, t, r1, r2, hp, q⟩ := h
    obtain ⟨tt, h1, h2⟩ := hbody cdv A outer s H E X d1 d2 Q hr t hp q
    exact ⟨tt, h1, h2 _ (env2 r1 r2 hN)⟩
end
section
variable {X : Cx} {k j : Nat} {x f : Str} {ps : List Str} {sp : Sp} {e : Expr} {es : List Expr} {p pos pos2 : Pos} {ta : TA} {E : XK} {C : Addr}
/-- a def that may raise, called within one that lets it out -/
theorem pe_ownX (O : Own X.prog X.w X.K X.mg X.base (L2.CX X.prog X.w) k x ps sp) (hr : Room j X.A) (hk : k ≤ j) (tk : Takes X (fun cls d _ H => E cls d H)) (hg : Gl X x) (ha : PA X (e :: es) ta) (hdb : (x == ("__debug__" : Str)) = false := by decide)
    (he : starEach (e :: es) X.env = (false, eval e X.env) :: starEach es X.env := by rfl) (hpl : (backTo pos (starEach es X.env)).any (·.1) = false := by rfl) : PE X (.Call (.Name x p) (e :: es) [] pos) (tCall sp [] E ta) := by
  obtain ⟨g, fd, h1, h2, h3, h4⟩ := O.ex
  exact pe_call h4 (hr.mono hk) hg h1 h2 h3 .nil (passes_call tk fun _ _ _ _ h => h) ha hdb he hpl
/-- raise C(e) -/
theorem ps_err {W : WX} (hc : X.calm = true) (T : Ec X.prog X.w X.K X.mg X.base x f C) (hr : Room j X.A) (hk : 2 ≤ j) (tk : Takes X W) (hg : Gl X x) {ta : TE} (ha : PA X [e] (tCons ta tNil)) (hdb : (x == ("__debug__" : Str)) = false := by decide)
    (he : starEach (e :: []) X.env = (false, eval e X.env) :: starEach [] X.env := by rfl) (hpl : (backTo pos (starEach [] X.env)).any (·.1) = false := by rfl) :
    PS X (.Raise (some (.Call (.Name x p) [e] [] pos)) none pos2) (fun _ σ H => tMkO C (spInit C f) [] (tCons ta tNil) σ H fun cls d H' => W cls d σ H') := by
  obtain ⟨fI, fd, h1, h2, h3, h4⟩ := T.ini
  exact ps_raise hc tk (pmk_oex T.T h1 h2 h3 (hr.mono hk) h4 .nil (pass0) hg T.gC ha hdb he hpl)
end
end KD

namespace K56
open PySem PySem.Spec PyProof.Rows L2 KD
-- RAISES change_of checked_text made_by turned_back
variable {P : Program} {w : World} {K : PySem.W.Frag} {mg : Str → Option Value} {base : Heap}
theorem ffD_none : ∀ {ds : List PyData} {i : Nat}, isNone (ffD i (ds.map fun z => .bool (isWordsD z))) = true → ∀ z ∈ ds, isWordsD z = true
  | [], _, _, z, hz => by cases hz
  | d :: ds, i, h, z, hz => by
    cases e : isWordsD d with
    | false =>
      rw [List.map_cons, e] at h
      simp [ffD, isNone] at h
    | true =>
      rw [List.map_cons, e, ff_true] at h
      rcases List.mem_cons.mp hz with rfl | hm
      · exact e
      · exact ffD_none h z hm
theorem words_str {d : PyData} (h : isWordsD d = true) : ∃ s, d = .str s := by
  cases d <;> first | exact ⟨_, rfl⟩ | cases h
theorem ws_map : ∀ {ds : List PyData}, (∀ z ∈ ds, isWordsD z = true) → ds = (ds.map fun z => match z with | .str s => s | _ => default).map PyData.str
  | [], _ => rfl
  | d :: ds, h => by
    obtain ⟨s, rfl⟩ := words_str (h d List.mem_cons_self)
    rw [List.map_cons, List.map_cons, ← ws_map fun z hz => h z (List.mem_cons_of_mem _ hz)]
theorem ws_of {d : PyData} (h : isNone (wrongD d) = true) : PyData.list (itemsD d) = wsD (wsOf d) := by
  have hs := wrong_seq h
  unfold wrongD at h
  rw [hs] at h
  show PyData.list (itemsD d) = PyData.list ((wsOf d).map PyData.str)
  congr 1
  exact ws_map (ffD_none h)

end K56

/-! The spring of draws. -/
namespace K56
open PySem PySem.Spec PyProof.Rows L2 KD
variable {P : Program} {w : World} {K : PySem.W.Frag} {mg : Str → Option Value} {base : Heap}
/-- the spring at st, its cells at cl: b draws done -/
structure SpAt (st cl : Addr) (ms : List Int) (a b c : Int) (H : Hp) : Prop where
  hs : H st = some (.lst [.ref cl, .int a, .int b, .int c])
  hc : H cl = some (.lst (ms.map V.int))
  ne : st ≠ cl
  a0 : 0 ≤ a
  b0 : 0 ≤ b
  c0 : 0 ≤ c
  c1 : c < 2147483647
  ml : ms.length ≤ 100000
def SpOk (st cl : Addr) (n : Nat) (H : Hp) : Prop := ∃ ms a b c, SpAt st cl ms a b c H ∧ b ≤ (n : Int)
/-- all but the spring stays -/
def KpS (st cl : Addr) (H H' : Hp) : Prop := ∀ a o, a ≠ st → a ≠ cl → H a = some o → H' a = some o
theorem KpS.refl {st cl : Addr} {H : Hp} : KpS st cl H H := fun _ _ _ _ e => e
theorem KpS.trans {st cl : Addr} {H H1 H2 : Hp} (h : KpS st cl H H1) (k : KpS st cl H1 H2) : KpS st cl H H2 := fun a o n m e => k a o n m (h a o n m e)
theorem KpS.of {st cl : Addr} {H H' : Hp} (h : Same H H') : KpS st cl H H' := fun a o _ _ e => h a o e
theorem KpS.kp {X : Addr → Prop} {st cl : Addr} {H H' : Hp} (h : KpS st cl H H') (x1 : X st) (x2 : X cl) : Kp X H H' := fun a o n e => h a o (fun z => n (z ▸ x1)) (fun z => n (z ▸ x2)) e
theorem SpOk.trk {X : Addr → Prop} {st cl : Addr} {n : Nat} {H H' : Hp} (h : SpOk st cl n H') (k : KpS st cl H H') (t : Trk X H) : Trk X H' := fun a x => by
  obtain ⟨ms, a', b, c, S, _⟩ := h
  by_cases h1 : a = st
  · subst h1
    exact ⟨_, S.hs⟩
  · by_cases h2 : a = cl
    · subst h2
      exact ⟨_, S.hc⟩
    · obtain ⟨o, e⟩ := t a x
      exact ⟨o, k a o h1 h2 e⟩
theorem SpAt.same {st cl : Addr} {ms : List Int} {a b c : Int} {H H' : Hp} (S : SpAt st cl ms a b c H) (s : Same H H') : SpAt st cl ms a b c H' := ⟨s _ _ S.hs, s _ _ S.hc, S.ne, S.a0, S.b0, S.c0, S.c1, S.ml⟩
theorem SpOk.same {st cl : Addr} {n : Nat} {H H' : Hp} (h : SpOk st cl n H) (s : Same H H') : SpOk st cl n H' := by
  obtain ⟨ms, a, b, c, S, hb⟩ := h
  exact ⟨ms, a, b, c, S.same s, hb⟩
theorem SpOk.le {st cl : Addr} {n m : Nat} {H : Hp} (h : SpOk st cl n H) (hm : n ≤ m) : SpOk st cl m H := by
  obtain ⟨ms, a, b, c, S, hb⟩ := h
  exact ⟨ms, a, b, c, S, by omega⟩
theorem KpS.put {st cl p : Addr} {H : Hp} {o : HO} (h : p = st ∨ p = cl) : KpS st cl H (upd H p o) := fun a u n m e => by
  rw [upd_ne (fun z => by rcases h with h | h; exact n (z.trans h); exact m (z.trans h))]
  exact e
section
variable {σ : L2.St} {H : Hp} {i : Nat} {p st cl : Addr} {xs : List V} {v : V} {k : Int} {Q : VK} {ms : List Int} {a b c : Int}
theorem ix_at (hv : σ[i]? = some (some (.ref p))) (hp : H p = some (.lst xs)) (hx : atI xs k = some v) (q : Q v H) : tOp (rIx K) (tVar i) (tC (.int k)) σ H Q := ⟨_, hv, .inl ⟨p, xs, k, v, rfl, rfl, SqL.of hp, hx, q⟩⟩
theorem set_at {R : L2.St → Hp → Prop} {j : Nat} (hv : σ[i]? = some (some (.ref p))) (hp : H p = some (.lst xs)) (hx : ixN xs.length k = some j) (q : R σ (upd H p (.lst (xs.set j v)))) : gSub (tVar i) (tC (.int k)) rSetL v σ H R := ⟨_, hv, p, xs, k, j, rfl, rfl, hp, hx, q⟩
theorem op2 {r : R2} {ta tb : TE} (h : ta σ H fun x H1 => tb σ H1 fun y H2 => r x y H2 Q) : tOp r ta tb σ H Q := h
theorem SpAt.put1 (S : SpAt st cl ms a b c H) {z : Int} (h : 0 ≤ z) : SpAt st cl ms z b c (upd H st (.lst [.ref cl, .int z, .int b, .int c])) := ⟨upd_same, by rw [upd_ne (Ne.symm S.ne)]; exact S.hc, S.ne, h, S.b0, S.c0, S.c1, S.ml⟩
theorem SpAt.put2 (S : SpAt st cl ms a b c H) {z : Int} (h : 0 ≤ z) : SpAt st cl ms a z c (upd H st (.lst [.ref cl, .int a, .int z, .int c])) := ⟨upd_same, by rw [upd_ne (Ne.symm S.ne)]; exact S.hc, S.ne, S.a0, h, S.c0, S.c1, S.ml⟩
theorem SpAt.put3 (S : SpAt st cl ms a b c H) {z : Int} (h : 0 ≤ z) (h2 : z < 2147483647) : SpAt st cl ms a b z (upd H st (.lst [.ref cl, .int a, .int b, .int z])) := ⟨upd_same, by rw [upd_ne (Ne.symm S.ne)]; exact S.hc, S.ne, S.a0, S.b0, h, h2, S.ml⟩
theorem SpAt.pop (S : SpAt st cl ms a b c H) {m : Int} {r : List Int} (e : ms = m :: r) : SpAt st cl r a b c (upd H cl (.lst (r.map V.int))) := ⟨by rw [upd_ne S.ne]; exact S.hs, upd_same, S.ne, S.a0, S.b0, S.c0, S.c1, by have := S.ml; rw [e, List.length_cons] at this; omega⟩
end
theorem dp_ints {H : Hp} : ∀ ms : List Int, DpAll K H (ms.map V.int) (ms.map PyData.int)
  | [] => .nil
  | m :: r => .cons (.int m) (dp_ints r)
theorem canLay_ints : ∀ ms : List Int, PyData.canLayAll0 (ms.map PyData.int) = true
  | [] => by simp [PyData.canLayAll0]
  | m :: r => by simp [PyData.canLayAll0, PyData.canLay0, canLay_ints r]
theorem depth_ints : ∀ ms : List Int, PyData.depthAll (ms.map PyData.int) ≤ 1
  | [] => by simp [PyData.depthAll]
  | m :: r => by
    have := depth_ints r
    simp only [List.map_cons, PyData.depthAll, PyData.depth]
    omega
theorem shaped_ints (ms : List Int) : SeqAt.shaped (.list (ms.map PyData.int)) = true := by
  have := depth_ints ms
  have h2 : PyData.depth (.list (ms.map PyData.int)) ≤ 64 := by
    simp only [PyData.depth]
    omega
  show ((PyData.list (ms.map PyData.int)).canLay0 && decide ((PyData.list (ms.map PyData.int)).depth ≤ 64)) = true
  rw [Bool.and_eq_true]
  exact ⟨by simp only [PyData.canLay0]; exact canLay_ints ms, decide_eq_true h2⟩

abbrev s__law_start : Stmt := topS 39
abbrev n__law_start : List Str := ["_law_script"]
theorem sc__law_start : FnScope n__law_start ["_law_script"] (defScope s__law_start) := ⟨rfl, rfl, rfl, by decide +kernel, rfl, by decide +kernel, by decide +kernel⟩
def spStart (K : PySem.W.Frag) : Sp := fun vs H Q _ => ∃ (a : Addr) (ns : List Int), vs = [.ref a] ∧ SqL K H a (ns.map V.int) ∧ ns.length ≤ 63 ∧ ∀ st cl H', Same H H' → H st = none → H cl = none → SpOk st cl 0 H' → Q (.ref st) H'
theorem ok_start {f : Addr} {fd : FuncData} (F : Fun K "_law_start" "_law_start" s__law_start f fd) (T : Bl mg) : FnOk P w K mg base CX0 1 f fd ["_law_script"] (spStart K) := by
  refine F.ok sc__law_start (fun vs H Q E h => ?_) (fun cdv A outer s H vs Q E hr h => ?_)
  · obtain ⟨a, ns, rfl, _⟩ := h
    rfl
  · obtain ⟨a, ns, rfl, hS, hl, k⟩ := h
    refine ⟨_, (pss_one (ps_ret (pe_lst (pa_cons (pe_callTy call_list_of (by rfl) T.b_list boot_list (pa_cons (pv 0) pa_nil)) (pa_cons pe_int (pa_cons pe_int (pa_cons pe_int pa_nil))))))), ?_⟩
    refine ⟨_, rfl, a, _, rfl, .inl hS, fun cl hcl => ⟨by show 4 ≤ sizeLine; decide, fun st hst => ?_⟩⟩
    have hst0 : H st = none := (Same.upd hcl).free hst
    have ne : st ≠ cl := fun e => by
      rw [e, upd_same] at hst
      cases hst
    refine k st cl _ ((Same.upd hcl).trans (Same.upd hst)) hst0 hcl ⟨ns, 0, 0, 11, ⟨upd_same, by rw [upd_ne (Ne.symm ne)]; exact upd_same, ne, by omega, by omega, by omega, by omega, by omega⟩, by omega⟩

abbrev s__law_draw : Stmt := topS 40
abbrev n__law_draw : List Str := ["_law_stream", "_law_many", "_law_cell", "_law_digit", "_law_mixed_here"]
theorem sc__law_draw : FnScope n__law_draw ["_law_stream", "_law_many"] (defScope s__law_draw) := ⟨rfl, rfl, rfl, by decide +kernel, rfl, by decide +kernel, by decide +kernel⟩
def spDraw : Sp := fun vs H Q _ => ∃ (st cl : Addr) (n : Nat) (m : Int), vs = [.ref st, .int m] ∧ SpOk st cl n H ∧ n ≤ 1000000000 ∧ 0 < m ∧ m < 1000000 ∧ ∀ i H', 0 ≤ i → i < m → KpS st cl H H' → SpOk st cl (n + 1) H' → Q (.int i) H'
def lenAt (cl : Addr) (H : Hp) : Nat := match H cl with
  | some (.lst xs) => xs.length
  | _ => 0
theorem ok_draw {f : Addr} {fd : FuncData} (F : Fun K "_law_draw" "_law_draw" s__law_draw f fd) (T : Bl mg) : FnOk P w K mg base CX0 1 f fd ["_law_stream", "_law_many"] spDraw := by
  refine F.ok sc__law_draw (fun vs H Q E h => ?_) (fun cdv A outer s H vs Q E hr h => ?_)
  · obtain ⟨st, cl, n, m, rfl, _⟩ := h
    rfl
  · obtain ⟨st, cl, n, m, rfl, ⟨ms, a, b, c, S, hbn⟩, hn, hm, hm2, k⟩ := h
    refine ⟨_, (pss_cons (ps_asg (pe_op op_addA (pe_ix ix_seq (pv 0) pe_int (fun _ _ => rfl)) pe_int) (pg_sub (pv 0) pe_int set_list))
    (Evl.pss_cut (ps_while PassesOwn.never (PW.pt (pw_and (pt_cmpR (op_eqD hr.units) (pe_ix ix_seq (pv 0) pe_int (fun _ _ => rfl)) pe_int (nomark _)) (pw_and1 (pt_cmpR (op_neD hr.units) (pe_ix ix_seq (pv 0) pe_int (fun _ _ => rfl)) (pe_lst pa_nil) (nomark _)))))
    (pss_cons (ps_set (i := 2) sc__law_draw.nd rfl (by first | exact Or.inl rfl | exact Or.inr rfl) (pe_bm PySem.F.plainAttrs_list PySem.F.slot_list_pop PySem.F.type_list_pop mt_popAt (pe_ix ix_seq (pv 0) pe_int (fun _ _ => rfl)) (pa_cons pe_int pa_nil)))
    (pss_cons (ps_asg (pe_op op_mod (pe_callTy call_int1 (by rfl) T.b_int boot_int (pa_cons (pe_op op_addA (pe_op op_addA (pe_op op_mulA (pe_ix ix_seq (pv 0) pe_int (fun _ _ => rfl)) pe_int) (pv 2)) pe_int) pa_nil)) pe_int) (pg_sub (pv 0) pe_int set_list))
    (pss_one (ps_asg (pe_ifExp (pt_cmpR op_ge (pv 2) (pe_op op_pow pe_int pe_int) (nomark _)) (pv 2) pe_int) (pg_sub (pv 0) pe_int set_list))))))
    (pss_cons (ps_if (pt_cmpR op_gt (pe_ix ix_seq (pv 0) pe_int (fun _ _ => rfl)) pe_int (nomark _))
    (pss_cons (ps_set (i := 3) sc__law_draw.nd rfl (by first | exact Or.inl rfl | exact Or.inr rfl) (pe_op op_mod (pe_callTy call_int1 (by rfl) T.b_int boot_int (pa_cons (pe_ix ix_seq (pv 0) pe_int (fun _ _ => rfl)) pa_nil)) (pv 1)))
    (pss_cons (ps_asg (pe_op op_fdiv (pe_ix ix_seq (pv 0) pe_int (fun _ _ => rfl)) (pv 1)) (pg_sub (pv 0) pe_int set_list))
    (pss_one (ps_ret (pv 3))))) pss_nil)
    (pss_cons (ps_set (i := 4) sc__law_draw.nd rfl (by first | exact Or.inl rfl | exact Or.inr rfl) (pe_op op_mod (pe_callTy call_int1 (by rfl) T.b_int boot_int (pa_cons (pe_op op_pow (pe_op op_addA (pe_op op_addA (pe_ix ix_seq (pv 0) pe_int (fun _ _ => rfl)) (pe_op op_mulA pe_int (pe_ix ix_seq (pv 0) pe_int (fun _ _ => rfl)))) pe_int) pe_int) pa_nil)) pe_int))
    (pss_one (ps_ret (pe_op op_mod (pe_op op_mod (pe_callTy call_int1 (by rfl) T.b_int boot_int (pa_cons (pe_op op_pow (pe_op op_addA (pe_op op_addA (pe_op op_mulA (pv 4) pe_int) (pe_op op_mulA pe_int (pe_ix ix_seq (pv 0) pe_int (fun _ _ => rfl)))) pe_int) pe_int) pa_nil)) pe_int) (pv 1)))))))), ?_⟩
    -- stream[2] = stream[2] + 1
    refine ix_at (i := 0) rfl S.hs (v := .int b) rfl ?_
    refine .inl ⟨b, 1, rfl, rfl, ?_⟩
    refine set_at (i := 0) (j := 2) rfl S.hs rfl ?_
    have S1 : SpAt st cl ms a (b + 1) c (upd H st (.lst [.ref cl, .int a, .int (b + 1), .int c])) := S.put2 (by have := S.b0; omega)
    have k1 : KpS st cl H (upd H st (.lst [.ref cl, .int a, .int (b + 1), .int c])) := KpS.put (.inl rfl)
    -- the loop
    refine ⟨fun σ H' => ∃ ms' a' c' x, σ = [some (.ref st), some (.int m), x, none, none] ∧ SpAt st cl ms' a' (b + 1) c' H' ∧ KpS st cl H H',
      ⟨fun l σ H' => ∃ ms' a' c' x, l = ms'.length ∧ σ = [some (.ref st), some (.int m), x, none, none] ∧ SpAt st cl ms' a' (b + 1) c' H' ∧ KpS st cl H H', ⟨ms.length, ms, a, c, none, rfl, rfl, S1, k1⟩, ?_⟩, ?_⟩
    · rintro l σ H1 ⟨ms1, a1, c1, x1, rfl, rfl, S2, k2⟩
      refine ix_at (i := 0) rfl S2.hs (v := .int a1) rfl ?_
      refine ⟨.int a1, .int 0, .int _, .int _, shaped_int _, shaped_int _, _, rfl, ?_⟩
      rw [eqv_int]
      by_cases ha : a1 = 0
      · rw [decide_eq_true ha]
        refine iteT ?_
        refine ix_at (i := 0) rfl S2.hs (v := .ref cl) rfl ?_
        refine ⟨by show 0 ≤ sizeLine; decide, fun p hp => ?_⟩
        have S3 := S2.same (Same.upd (o := .lst []) hp)
        refine ⟨.list (ms1.map .int), .list [], .lst (SqL.of S3.hc) (dp_ints ms1), .lst (SqL.of upd_same) .nil, shaped_ints ms1, shaped_ints [], _, rfl, ?_⟩
        have k3 : KpS st cl H (upd H1 p (.lst [])) := k2.trans (KpS.of (Same.upd hp))
        cases ms1 with
        | nil =>
          refine iteF ?_
          exact ⟨[], a1, c1, x1, rfl, S3, k3⟩
        | cons m1 r1 =>
          refine iteT ?_
          refine ⟨fun σ H' => ∃ a' c' x, σ = [some (.ref st), some (.int m), x, none, none] ∧ SpAt st cl r1 a' (b + 1) c' H' ∧ KpS st cl H H', fun σ' H' ⟨a', c', x, e, S', k'⟩ => ⟨r1.length, Nat.lt_succ_self _, r1, a', c', x, rfl, e, S', k'⟩, ?_⟩
          -- cell = stream[0].pop(0)
          refine ix_at (i := 0) rfl S3.hs (v := .ref cl) rfl ?_
          refine ⟨.inl ⟨rfl, _, SqL.of S3.hc⟩, cl, _, 0, 0, .int m1, rfl, rfl, S3.hc, by decide, by decide, (by simp [seqIndex?]), rfl, ?_⟩
          have S4 := S3.pop rfl
          have k4 := k3.trans (KpS.put (H := upd H1 p (.lst [])) (o := .lst (r1.map V.int)) (st := st) (.inr rfl))
          -- stream[3] = int(stream[3] * 8191 + cell + 3) % 2147483647
          refine ix_at (i := 0) rfl S4.hs (v := .int c1) rfl ?_
          refine .inl ⟨c1, 8191, rfl, rfl, .inr ⟨by decide, by decide⟩, ?_⟩
          refine ⟨.int m1, rfl, .inl ⟨_, _, rfl, rfl, ?_⟩⟩
          refine .inl ⟨_, _, rfl, rfl, ?_⟩
          refine .inl ⟨_, rfl, ?_⟩
          refine ⟨_, _, rfl, rfl, (by decide : (0 : Int) < 2147483647), ?_⟩
          refine set_at (i := 0) (j := 3) rfl S4.hs rfl ?_
          have S5 := S4.put3 (z := (c1 * 8191 + m1 + 3) % 2147483647) (Int.emod_nonneg _ (by decide)) (Int.emod_lt_of_pos _ (by decide))
          have k5 := k4.trans (KpS.put (H := upd (upd H1 p (.lst [])) cl (.lst (r1.map V.int))) (o := .lst [.ref cl, .int a1, .int (b + 1), .int ((c1 * 8191 + m1 + 3) % 2147483647)]) (st := st) (cl := cl) (.inl rfl))
          -- stream[1] = cell if cell >= 10 ** 18 else 0
          refine ⟨.int m1, rfl, ?_⟩
          refine ⟨10, 18, rfl, rfl, ⟨by decide, by decide, by decide⟩, ?_⟩
          refine ⟨_, _, rfl, rfl, _, rfl, ?_⟩
          by_cases hg : (10 : Int) ^ (18 : Int).toNat ≤ m1
          · rw [decide_eq_true hg]
            refine iteT ?_
            refine ⟨.int m1, rfl, ?_⟩
            refine set_at (i := 0) (j := 1) rfl S5.hs rfl ?_
            exact ⟨m1, _, _, rfl, S5.put1 (Int.le_trans (by decide) hg), k5.trans (KpS.put (.inl rfl))⟩
          · rw [decide_eq_false hg]
            refine iteF ?_
            refine set_at (i := 0) (j := 1) rfl S5.hs rfl ?_
            exact ⟨0, _, _, rfl, S5.put1 (by decide), k5.trans (KpS.put (.inl rfl))⟩
      · rw [decide_eq_false ha]
        refine iteF ?_
        refine iteF ?_
        exact ⟨ms1, a1, c1, x1, rfl, S2, k2⟩
    · rintro σ H1 ⟨ms1, a1, c1, x1, rfl, S2, k2⟩
      -- if stream[1] > 0
      refine ix_at (i := 0) rfl S2.hs (v := .int a1) rfl ?_
      refine ⟨a1, 0, rfl, rfl, _, rfl, ?_⟩
      by_cases ha : 0 < a1
      · rw [decide_eq_true ha]
        refine iteT ?_
        refine ix_at (i := 0) rfl S2.hs (v := .int a1) rfl ?_
        refine .inl ⟨a1, rfl, ?_⟩
        refine ⟨.int m, rfl, a1, m, rfl, rfl, hm, ?_⟩
        refine ix_at (i := 0) rfl S2.hs (v := .int a1) rfl ?_
        refine ⟨.int m, rfl, a1, m, rfl, rfl, ⟨hm, by omega⟩, ?_⟩
        refine set_at (i := 0) (j := 1) rfl S2.hs rfl ?_
        refine ⟨.int (a1 % m), rfl, ?_⟩
        exact k _ _ (Int.emod_nonneg _ (by omega)) (Int.emod_lt_of_pos _ hm) (k2.trans (KpS.put (.inl rfl))) ⟨ms1, _, _, _, S2.put1 (Int.ediv_nonneg (by omega) (by omega)), by omega⟩
      · rw [decide_eq_false ha]
        refine iteF ?_
        -- mixed
        refine ix_at (i := 0) rfl S2.hs (v := .int c1) rfl ?_
        refine ix_at (i := 0) rfl S2.hs (v := .int (b + 1)) rfl ?_
        refine .inl ⟨7919, b + 1, rfl, rfl, .inl ⟨by decide, by decide⟩, ?_⟩
        refine .inl ⟨_, _, rfl, rfl, ?_⟩
        refine .inl ⟨_, _, rfl, rfl, ?_⟩
        have c0 := S2.c0
        have c1' := S2.c1
        have b0 := S.b0
        refine ⟨_, 5, rfl, rfl, ⟨by decide, by decide, by omega⟩, ?_⟩
        refine .inl ⟨_, rfl, ?_⟩
        refine ⟨_, _, rfl, rfl, (by decide : (0 : Int) < 2147483629), ?_⟩
        show gName 4 (V.int ((c1 + 7919 * (b + 1) + 104729) ^ (5 : Int).toNat % 2147483629)) _ _ _
        generalize hx : (c1 + 7919 * (b + 1) + 104729) ^ (5 : Int).toNat % 2147483629 = x
        have x0 : 0 ≤ x := by rw [← hx]; exact Int.emod_nonneg _ (by decide)
        have x1' : x < 2147483629 := by rw [← hx]; exact Int.emod_lt_of_pos _ (by decide)
        refine ⟨.int x, rfl, .inl ⟨x, 48271, rfl, rfl, .inr ⟨by decide, by decide⟩, ?_⟩⟩
        refine ix_at (i := 0) rfl S2.hs (v := .int (b + 1)) rfl ?_
        refine .inl ⟨30011, b + 1, rfl, rfl, .inl ⟨by decide, by decide⟩, ?_⟩
        refine .inl ⟨_, _, rfl, rfl, ?_⟩
        refine .inl ⟨_, _, rfl, rfl, ?_⟩
        refine ⟨_, 3, rfl, rfl, ⟨by decide, by decide, by omega⟩, ?_⟩
        refine .inl ⟨_, rfl, ?_⟩
        refine ⟨_, _, rfl, rfl, (by decide : (0 : Int) < 1000000007), ?_⟩
        refine ⟨.int m, rfl, _, m, rfl, rfl, hm, ?_⟩
        exact k _ _ (Int.emod_nonneg _ (by omega)) (Int.emod_lt_of_pos _ hm) k2 ⟨ms1, _, _, _, S2, by omega⟩
end K56

/-! Draws over data. -/
namespace K56
-- HINT _law_mixed lcte tBM K "list" rPopAt (tVar 2) (tCons (tCall spDraw [] E0 (tCons (tVar 0) (tCons (tCB (fun xs H Q => ∃ x n, xs = [x] ∧ LenV K x H n ∧ Q (V.int n) H) (tCons (tVar 2) tNil)) tNil))) tNil)
open PySem PySem.Spec PyProof.Rows L2 KD
variable {P : Program} {w : World} {K : PySem.W.Frag} {mg : Str → Option Value} {base : Heap}
/-- the spring stands apart from the data -/
structure Sg (X : Addr → Prop) (st cl : Addr) (n : Nat) (H : Hp) : Prop where
  ok : SpOk st cl n H
  x1 : X st
  x2 : X cl
  t : Trk X H
section
variable {X X' : Addr → Prop} {st cl p : Addr} {n m : Nat} {H H' : Hp} {σ : L2.St} {Γ : List Sv}
theorem Sg.same (S : Sg X st cl n H) (s : Same H H') : Sg X st cl n H' := ⟨S.ok.same s, S.x1, S.x2, S.t.mono s⟩
theorem Sg.step (S : Sg X st cl n H) (k : KpS st cl H H') (o : SpOk st cl m H') : Sg X st cl m H' := ⟨o, S.x1, S.x2, o.trk k S.t⟩
theorem Sg.le (S : Sg X st cl n H) (h : n ≤ m) : Sg X st cl m H := ⟨S.ok.le h, S.x1, S.x2, S.t⟩
theorem Sg.kp (S : Sg X st cl n H) (k : KpS st cl H H') : Kp X H H' := k.kp S.x1 S.x2
theorem Sg.more (S : Sg X st cl n H) (m : More X X' H) (t : Trk X' H) : Sg X' st cl n H := ⟨S.ok, m.1 _ S.x1, m.1 _ S.x2, t⟩
theorem Sg.ne1 (S : Sg X st cl n H) (h : H p = none) : p ≠ st := fun e => S.t.new h (e ▸ S.x1)
theorem Sg.ne2 (S : Sg X st cl n H) (h : H p = none) : p ≠ cl := fun e => S.t.new h (e ▸ S.x2)
theorem SpOk.put {o : HO} (h : SpOk st cl n H) (h1 : p ≠ st) (h2 : p ≠ cl) : SpOk st cl n (upd H p o) := by
  obtain ⟨ms, a, b, c, S, hb⟩ := h
  exact ⟨ms, a, b, c, ⟨by rw [upd_ne (Ne.symm h1)]; exact S.hs, by rw [upd_ne (Ne.symm h2)]; exact S.hc, S.ne, S.a0, S.b0, S.c0, S.c1, S.ml⟩, hb⟩
theorem Sg.put {o : HO} (S : Sg X st cl n H) (h1 : p ≠ st) (h2 : p ≠ cl) : Sg X st cl n (upd H p o) := ⟨S.ok.put h1 h2, S.x1, S.x2, S.t.put⟩
theorem _root_.KD.EnvOk.kps (E : EnvOk X H σ Γ) (S : Sg X st cl n H) (k : KpS st cl H H') : EnvOk X H' σ Γ := E.mono (S.kp k)
end
section
variable {σ : L2.St} {H : Hp} {te ta tb : TE} {D : Ends} {r : R2} {Q : VK} {g : TG} {tz : TS} {tt : TT} {tl : TA}
theorem k_ret (h : te σ H D.rt) : tRet te D σ H := h
theorem k_op (h : ta σ H fun x H1 => tb σ H1 fun y H2 => r x y H2 Q) : tOp r ta tb σ H Q := h
theorem k_set {i : Nat} (h : te σ H fun v H1 => tz D (σ.set i (some v)) H1) : tSeq (tAsg te (gName i)) tz D σ H := h
theorem k_asg (h : te σ H fun v H1 => g v σ H1 fun σ2 H2 => tz D σ2 H2) : tSeq (tAsg te g) tz D σ H := h
theorem k_yes {A B : Hp → Prop} (h : A H) : tYes σ H fun b H3 => if b = true then A H3 else B H3 := by
  show (if true = true then A H else B H)
  rw [if_pos rfl]
  exact h
theorem k_lcR {ta : TA} {us : List Nat} (h : ta σ H fun vs H1 => ∃ j : Int, vs = [.int j] ∧ -(2 ^ 62) ≤ j ∧ j < 2 ^ 62 ∧ tLc (fun _ H2 R => R (Itr 0 j.toNat) H2) g tt te us σ H1 Q) : tLc (iRng1 ta) g tt te us σ H Q := h
theorem k_cb {rr : List V → Hp → VK → Prop} (h : tl σ H fun vs H1 => rr vs H1 Q) : tCB rr tl σ H Q := h
theorem k_cons {Qa : List V → Hp → Prop} (h : te σ H fun v H1 => tl σ H1 fun vs H2 => Qa (v :: vs) H2) : tCons te tl σ H Qa := h
theorem k_par {i j : Nat} (h : ta σ H fun x H1 => tb σ H1 fun y H2 => ∃ v w, [x, y] = [v, w] ∧ tz D ((σ.set i (some v)).set j (some w)) H2) : tSeq (tPar i j (tCons ta (tCons tb tNil))) tz D σ H := h
end
theorem at_nat {ds : List PyData} {i : Int} (h0 : 0 ≤ i) (hj : i.toNat < ds.length) : atI ds i = some ds[i.toNat] := by
  unfold atI
  have e : ixN ds.length i = some i.toNat := by
    have h := Evl.ixN_nat hj
    rw [show ((i.toNat : Nat) : Int) = i from by omega] at h
    exact h
  rw [e]
  show ds[i.toNat]? = some _
  rw [List.getElem?_eq_getElem hj]
theorem seqIx_nat {i : Int} {n : Nat} (h0 : 0 ≤ i) (h1 : i.toNat < n) : seqIndex? i n = some i.toNat := by
  unfold seqIndex?
  have h : ¬ i < 0 := by omega
  have h2 : (decide (0 ≤ i) && decide (i < (n : Int))) = true := by
    rw [Bool.and_eq_true]
    exact ⟨decide_eq_true h0, decide_eq_true (by omega)⟩
  simp only [if_neg h]
  rw [if_pos h2]
theorem erase_perm {α : Type} : ∀ (l : List α) (i : Nat) (h : i < l.length), (l[i] :: l.eraseIdx i).Perm l
  | a :: l, 0, _ => List.Perm.refl _
  | a :: l, i + 1, h => (List.Perm.swap _ _ _).trans ((erase_perm l i (by simpa using h)).cons a)
/-- a draw -/
theorem c_draw {X : Addr → Prop} {st cl : Addr} {n : Nat} {H : Hp} {σ : L2.St} {ts tm : TE} {E : XK} {m : Int} {Q : VK} (S : Sg X st cl n H) (hv : GV ts σ H (.ref st)) (hm : G X tm σ H (.int m)) (hn : n ≤ 1000000000) (h0 : 0 < m) (h1 : m < 1000000)
    (k : ∀ i H', 0 ≤ i → i < m → Sg X st cl (n + 1) H' → KpS st cl H H' → Q (.int i) H') : tCall spDraw [] E (tCons ts (tCons tm tNil)) σ H Q :=
  hv H (Same.refl H) _ (hm H (Same.refl H) _ fun v H1 s1 r => ⟨st, cl, n, m, by rw [r.int_inv]; rfl, S.ok.same s1, hn, h0, h1, fun i H' i0 i1 kk so => k i H' i0 i1 ((S.same s1).step kk so) ((KpS.of s1).trans kk)⟩)
abbrev s__law_pick : Stmt := topS 41
abbrev n__law_pick : List Str := ["_law_stream", "_law_some"]
theorem sc__law_pick : FnScope n__law_pick ["_law_stream", "_law_some"] (defScope s__law_pick) := ⟨rfl, rfl, rfl, by decide +kernel, rfl, by decide +kernel, by decide +kernel⟩
def spPick : Sp := fun vs H Q _ => ∃ (X : Addr → Prop) (st cl : Addr) (n : Nat) (v : V) (ds : List PyData), vs = [.ref st, v] ∧ Sg X st cl n H ∧ n ≤ 1000000000 ∧ DX X H v (.list ds) ∧ 0 < ds.length ∧ ds.length < 1000000 ∧
  ∀ w d H', d ∈ ds → Sg X st cl (n + 1) H' → KpS st cl H H' → DX X H' w d → Q w H'
theorem ok_pick {f : Addr} {fd : FuncData} (F : Fun K "_law_pick" "_law_pick" s__law_pick f fd) (T : Bl mg) (O__law_draw : Own P w K mg base CX0 1 "_law_draw" ["_law_stream", "_law_many"] spDraw) : FnOk P w K mg base CX0 2 f fd ["_law_stream", "_law_some"] spPick := by
  refine F.ok sc__law_pick (fun vs H Q E h => ?_) (fun cdv A outer s H vs Q E hr h => ?_)
  · obtain ⟨X, st, cl, n, v, ds, rfl, _⟩ := h
    rfl
  · obtain ⟨X, st, cl, n, v, ds, rfl, S, hn, hd, h0, h1, k⟩ := h
    refine ⟨_, (pss_one (ps_ret (pe_ix ix_seq (pv 1) (pe_own O__law_draw hr (by decide) (by rfl) (pa_cons (pv 0) (pa_cons (pe_callB call_len (by rfl) T.b_len boot_len (pa_cons (pv 1) pa_nil)) pa_nil))) (fun _ _ => rfl)))), ?_⟩
    have En : EnvOk X H (L2.start n__law_pick [.ref st, v]) [.val (.ref st), .dat (.list ds)] := ⟨rfl, fun i s e => by
      match i, e with
      | 0, e => cases e; rfl
      | 1, e => cases e; exact ⟨_, rfl, hd⟩⟩
    refine k_ret (k_op (g_var (i := 1) En rfl H (Same.refl H) _ fun v1 H1 s1 r1 => ?_))
    refine c_draw (S.same s1) (gv_var (En.same s1) rfl) (g_len (S.t.mono s1) (g_var (En.same s1) rfl) rfl) hn (by show 0 < (ds.length : Int); omega) (by show (ds.length : Int) < 1000000; omega) fun i H' i0 i1 S2 k2 => ?_
    have i1 : i < (ds.length : Int) := i1
    have hj : i.toNat < ds.length := by omega
    refine rd_ixL (z := ds[i.toNat]) (at_nat (by omega) hj) H' v1 (.int i) S2.t (r1.mono ((S.same s1).kp k2)) (.int i) _ fun w2 H2 s2 dw => ?_
    exact k w2 _ H2 (List.getElem_mem _) (S2.same s2) (((KpS.of s1).trans k2).trans (KpS.of s2)) dw
theorem c_pick {X : Addr → Prop} {st cl : Addr} {n : Nat} {H : Hp} {σ : L2.St} {ts tm : TE} {E : XK} {ds : List PyData} {Q : VK} (S : Sg X st cl n H) (hv : GV ts σ H (.ref st)) (hm : G X tm σ H (.list ds)) (hn : n ≤ 1000000000) (h0 : 0 < ds.length) (h1 : ds.length < 1000000)
    (k : ∀ w d H', d ∈ ds → Sg X st cl (n + 1) H' → KpS st cl H H' → DX X H' w d → Q w H') : tCall spPick [] E (tCons ts (tCons tm tNil)) σ H Q :=
  hv H (Same.refl H) _ (hm H (Same.refl H) _ fun v H1 s1 r => ⟨X, st, cl, n, v, ds, rfl, S.same s1, hn, r, h0, h1, fun w d H' hd S2 kk dw => k w d H' hd S2 ((KpS.of s1).trans kk) dw⟩)
/-- some things drawn one after the other into a new list -/
theorem lc_draws {X : Addr → Prop} {st cl : Addr} {n : Nat} {H : Hp} {σ : L2.St} {Γ : List Sv} {te : TE} {i m : Nat} {Q : VK} (pr : PyData → Prop) (S : Sg X st cl n H) (En : EnvOk X H σ Γ) (hm : m ≤ 100000)
    (he : ∀ X' H1 σ2 k Q1, k < m → EnvOk X' H1 σ2 ((Γ.set i .un).set i (.dat (.int (k : Nat)))) → Sg X' st cl (n + k) H1 → (∀ w d H', pr d → Sg X' st cl (n + k + 1) H' → KpS st cl H1 H' → DX X' H' w d → Q1 w H') → te σ2 H1 Q1)
    (q : ∀ w ds H', ds.length = m → (∀ d ∈ ds, pr d) → Sg X st cl (n + m) H' → KpS st cl H H' → DX X H' w (.list ds) → Nw H w → Q w H') : tLc (fun σ H R => R (Itr 0 m) H) (gName i) tYes te [i] σ H Q := by
  intro D hD
  have m2 : More X (fun a => X a ∨ a = D) H := More.one hD
  have d1 := S.ne1 hD
  have d2 := S.ne2 hD
  obtain ⟨Gd, Y, w1, w2⟩ := walkD_range (X := X) (H := H) (lo := 0) (n := m)
  rw [rangeD_len] at w1
  have key : ∀ H3, Kp (fun a => X a ∨ a = D) H H3 ∧ Trk (fun a => X a ∨ a = D) H3 → Gd H3 := fun H3 p => (w2 _ m2.2 H3 p.1 p.2).1
  let I : Nat → Hp → Prop := fun k H3 => KpS st cl H H3 ∧ Sg (fun a => X a ∨ a = D) st cl (n + k) H3 ∧ ∃ acc ds, H3 D = some (.lst acc) ∧ DXs (fun a => X a ∨ a = D) H3 acc ds ∧ ds.length = k ∧ ∀ d ∈ ds, pr d
  have ik : ∀ {k H3}, I k H3 → Kp (fun a => X a ∨ a = D) H H3 ∧ Trk (fun a => X a ∨ a = D) H3 := fun {k H3} p => ⟨p.1.kp (.inl S.x1) (.inl S.x2), p.2.1.t⟩
  refine lc_it w1 I ?_ (fun i H3 _ p => key H3 (ik p)) ?_ ?_
  · exact ⟨KpS.of (Same.upd hD), ⟨(S.ok).same (Same.upd hD), .inl S.x1, .inl S.x2, S.t.one hD⟩, [], [], upd_same, .nil, rfl, fun d h => by cases h⟩
  · rintro k x H3 H4 hk p y
    obtain ⟨s4, d, hd, dx⟩ := (w2 _ m2.2 H3 (ik p).1 (ik p).2).2 k x H4 y
    obtain ⟨p1, p2, acc, ds, p3, p4, p5, p6⟩ := p
    rw [rangeD_get hk] at hd
    cases hd
    have S4 := p2.same s4
    have k4 : Kp (fun a => X a ∨ a = D) H H4 := (p1.kp (.inl S.x1) (.inl S.x2)).trans (Kp.of s4)
    refine tgt_name (X := X) (i := i) En _ H4 m2 k4 S4.t x dx _ fun σ2 E2 hw => ⟨hw, ?_⟩
    refine k_yes ?_
    rw [show (0 : Int) + (k : Int) = (k : Nat) from by omega] at E2
    refine he _ H4 σ2 k _ hk E2 S4 fun w d H5 hp S5 k5 dw => ?_
    refine ⟨acc, k5 D _ d1 d2 (s4 D _ p3), by rw [p4.length, p5, sizeLine_eq]; omega, ?_, ?_, acc ++ [w], ds ++ [d], upd_same, ?_, by rw [List.length_append, p5]; rfl, fun z hz => ?_⟩
    · exact fun a o n1 n2 e => by
        have := k5 a o n1 n2 (s4 a _ (p1 a o n1 n2 e))
        rw [upd_ne (ne_of_none e hD)]
        exact this
    · exact S5.put d1 d2
    · exact (((p4.mono (Kp.of s4)).mono (S4.kp k5)).snoc dw).mono (Kp.put (.inr rfl))
    · rcases List.mem_append.mp hz with h | h
      · exact p6 z h
      · rw [List.mem_singleton.mp h]
        exact hp
  · rintro H3 ⟨p1, p2, acc, ds, p3, p4, p5, p6⟩
    have nXD : ¬ X D := S.t.new hD
    exact q (.ref D) ds H3 p5 p6 ⟨p2.ok, S.x1, S.x2, fun a h => p2.t a (.inl h)⟩ p1 (.lst nXD p3 (p4.less fun a => .inl)) (Nw.of hD)
abbrev s__law_mixed : Stmt := topS 42
abbrev n__law_mixed : List Str := ["_law_stream", "_law_some", "_law_left", "_law_k"]
theorem sc__law_mixed : FnScope n__law_mixed ["_law_stream", "_law_some"] (defScope s__law_mixed) := ⟨rfl, rfl, rfl, by decide +kernel, rfl, by decide +kernel, by decide +kernel⟩
def spMixed : Sp := fun vs H Q _ => ∃ (X : Addr → Prop) (st cl : Addr) (n : Nat) (v : V) (ds : List PyData), vs = [.ref st, v] ∧ Sg X st cl n H ∧ n + ds.length ≤ 1000000000 ∧ DX X H v (.list ds) ∧ ds.length < 1000000 ∧
  ∀ w es H', es.Perm ds → Sg X st cl (n + ds.length) H' → KpS st cl H H' → DX X H' w (.list es) → Nw H w → Q w H'
theorem ok_mixed {f : Addr} {fd : FuncData} (F : Fun K "_law_mixed" "_law_mixed" s__law_mixed f fd) (T : Bl mg) (O__law_draw : Own P w K mg base CX0 1 "_law_draw" ["_law_stream", "_law_many"] spDraw) : FnOk P w K mg base CX0 2 f fd ["_law_stream", "_law_some"] spMixed := by
  refine F.ok sc__law_mixed (fun vs H Q E h => ?_) (fun cdv A outer s H vs Q E hr h => ?_)
  · obtain ⟨X, st, cl, n, v, ds, rfl, _⟩ := h
    rfl
  · obtain ⟨X, st, cl, n, v, ds, rfl, S, hn, hd, h1, k⟩ := h
    refine ⟨_, (pss_cons (ps_set (i := 2) sc__law_mixed.nd rfl (by first | exact Or.inl rfl | exact Or.inr rfl) (pe_callTy call_list_of (by rfl) T.b_list boot_list (pa_cons (pv 1) pa_nil)))
    (pss_one (ps_ret (pe_lc (own := [("_law_k", 3)]) (g := (gName 3)) (tt := tYes) (te := tBM K "list" rPopAt (tVar 2) (tCons (tCall spDraw [] E0 (tCons (tVar 0) (tCons (tCB (fun xs H Q => ∃ x n, xs = [x] ∧ LenV K x H n ∧ Q (V.int n) H) (tCons (tVar 2) tNil)) tNil))) tNil)) rfl sc__law_mixed.nd (pi_range1 (by rfl) T.b_range (pa_cons (pe_callB call_len (by rfl) T.b_len boot_len (pa_cons (pv 2) pa_nil)) pa_nil)) (blkOk_by (N := n__law_mixed) (sc := defScope s__law_mixed) (by decide +kernel)) (fun _ _ _ _ _ => (pg_name (i := 3) sc__law_mixed.nd rfl (by first | exact Or.inl rfl | exact Or.inr rfl))) (fun _ _ _ _ _ => pts_nil) (fun _ _ _ _ _ => (pe_bm PySem.F.plainAttrs_list PySem.F.slot_list_pop PySem.F.type_list_pop mt_popAt (pv 2) (pa_cons (pe_own O__law_draw hr (by decide) (by rfl) (pa_cons (pv 0) (pa_cons (pe_callB call_len (by rfl) T.b_len boot_len (pa_cons (pv 2) pa_nil)) pa_nil))) pa_nil))))))), ?_⟩
    have En : EnvOk X H (L2.start n__law_mixed [.ref st, v]) [.val (.ref st), .dat (.list ds), .un, .un] := ⟨rfl, fun i s e => by
      match i, e with
      | 0, e => cases e; rfl
      | 1, e => cases e; exact ⟨_, rfl, hd⟩
      | 2, e => cases e; trivial
      | 3, e => cases e; trivial⟩
    -- left = list(some)
    refine k_set (gn_listOf (d := .list ds) S.t (g_var (i := 1) En rfl) rfl H (Same.refl H) _ fun v1 H1 s1 d1 nw1 => ?_)
    obtain ⟨L, us, rfl, nL, eL, rL⟩ := d1.inner
    have hL : H L = none := nw1 L rfl
    have E1 := (((En.more (More.one hL)).same s1).setV (i := 2) (v := .ref L))
    have t1 : Trk (fun b => X b ∨ b = L) H1 := fun a h => h.elim (fun x => S.t.mono s1 a x) fun e => ⟨_, e ▸ eL⟩
    have S1 : Sg (fun b => X b ∨ b = L) st cl n H1 := ⟨S.ok.same s1, .inl S.x1, .inl S.x2, t1⟩
    have n1 := S.ne1 hL
    have n2 := S.ne2 hL
    -- range(len(left))
    refine k_ret ?_
    refine ⟨_, E1.get 2 _ rfl, ?_⟩
    have xl1 : us.length = ds.length := rL.length
    refine ⟨.ref L, us.length, rfl, .inl ⟨us, SqL.of eL, rfl⟩, ?_⟩
    refine ⟨_, rfl, by omega, by omega, ?_⟩
    rw [show (us.length : Int).toNat = ds.length from by omega]
    intro D hD
    have dL : D ≠ L := fun e => by rw [e, eL] at hD; cases hD
    let X1 : Addr → Prop := fun b => X b ∨ b = L
    let X2 : Addr → Prop := fun a => X1 a ∨ a = D
    have m2 : More X1 X2 H1 := More.one hD
    have d1 := S1.ne1 hD
    have d2 := S1.ne2 hD
    obtain ⟨Gd, Y, w1, w2⟩ := walkD_range (X := X1) (H := H1) (lo := 0) (n := ds.length)
    rw [rangeD_len] at w1
    let I : Nat → Hp → Prop := fun k H3 => (∀ a o, a ≠ st → a ≠ cl → a ≠ L → H1 a = some o → H3 a = some o) ∧ Sg X2 st cl (n + k) H3 ∧ ∃ acc es left xs, H3 D = some (.lst acc) ∧ DXs X2 H3 acc es ∧ H3 L = some (.lst xs) ∧ DXs X2 H3 xs left ∧ es.length = k ∧ (es ++ left).Perm ds
    have ik : ∀ {k H3}, I k H3 → Kp X2 H1 H3 ∧ Trk X2 H3 := fun {k H3} p => ⟨fun a o n e => p.1 a o (fun z => n (z ▸ .inl (.inl S.x1))) (fun z => n (z ▸ .inl (.inl S.x2))) (fun z => n (z ▸ .inl (.inr rfl))) e, p.2.1.t⟩
    refine lc_it w1 I ?_ (fun i H3 _ p => (w2 _ m2.2 H3 (ik p).1 (ik p).2).1) ?_ ?_
    · have sD : Same H1 (upd H1 D (.lst [])) := Same.upd hD
      exact ⟨fun a o _ _ _ e => sD a o e, ⟨S1.ok.same sD, .inl (.inl S.x1), .inl (.inl S.x2), t1.one hD⟩, [], [], ds, us, upd_same, .nil, sD _ _ eL, (rL.more m2).mono (Kp.of sD), rfl, List.Perm.refl _⟩
    · rintro j x H3 H4 hj p y
      obtain ⟨s4, d, hd4, dx⟩ := (w2 _ m2.2 H3 (ik p).1 (ik p).2).2 j x H4 y
      obtain ⟨p1, p2, acc, es, left, xs, p3, p4, p5, p6, p7, p8⟩ := p
      have S4 := p2.same s4
      refine tgt_name (X := X1) (i := 3) E1 _ H4 m2 ((ik ⟨p1, p2, acc, es, left, xs, p3, p4, p5, p6, p7, p8⟩).1.trans (Kp.of s4)) S4.t x dx _ fun σ2 E2 hw => ⟨hw, ?_⟩
      refine k_yes ?_
      have hL4 : H4 L = some (.lst xs) := s4 _ _ p5
      have r4 := p6.mono (Kp.of s4)
      have q4 := p4.mono (Kp.of s4)
      have lt0 : 0 < left.length := by
        have := p8.length_eq
        rw [List.length_append] at this
        omega
      have lt1 : left.length ≤ ds.length := by
        have := p8.length_eq
        rw [List.length_append] at this
        omega
      have lx : xs.length = left.length := r4.length
      refine ⟨_, E2.get 2 _ rfl, .inl ⟨rfl, _, SqL.of hL4⟩, ?_⟩
      refine k_cons (c_draw (m := (left.length : Nat)) S4 (gv_var (i := 0) E2 rfl) ?_ (by omega) (by omega) (by omega) fun i H5 i0 i1 S5 k5 => ?_)
      · intro H5 s5 Q5 q5
        refine ⟨_, E2.get 2 _ rfl, ?_⟩
        refine ⟨.ref L, xs.length, rfl, .inl ⟨xs, SqL.of (s5 _ _ hL4), rfl⟩, ?_⟩
        rw [lx]
        exact q5 _ H5 (Same.refl _) (.int _)
      · have hL5 : H5 L = some (.lst xs) := k5 L _ n1 n2 hL4
        have r5 := r4.mono (S4.kp k5)
        have q5 := q4.mono (S4.kp k5)
        have hi : i.toNat < left.length := by omega
        have hx : i.toNat < xs.length := by omega
        obtain ⟨y, hy, ry⟩ := r5.get (i := i.toNat) (d := left[i.toNat]) (List.getElem?_eq_getElem hi)
        refine ⟨L, xs, i, i.toNat, y, rfl, rfl, hL5, by omega, by omega, ?_, hy, ?_⟩
        · exact seqIx_nat i0 hx
        · have kL : Kp X2 H5 (upd H5 L (.lst (xs.eraseIdx i.toNat))) := Kp.put (.inl (.inr rfl))
          have nD : H5 D = some (.lst acc) := k5 D _ d1 d2 (s4 D _ p3)
          refine ⟨acc, by rw [upd_ne dL]; exact nD, by rw [p4.length, p7, sizeLine_eq]; omega, ?_, ?_, acc ++ [y], es ++ [left[i.toNat]], left.eraseIdx i.toNat, xs.eraseIdx i.toNat, upd_same, ?_, by rw [upd_ne (Ne.symm dL)]; exact upd_same, ?_, by rw [List.length_append, p7]; rfl, ?_⟩
          · intro a o a1 a2 a3 e
            rw [upd_ne (ne_of_none e hD), upd_ne a3]
            exact k5 a o a1 a2 (s4 a _ (p1 a o a1 a2 a3 e))
          · exact (S5.put n1 n2).put d1 d2
          · exact ((q5.snoc ry).mono kL).mono (Kp.put (.inr rfl))
          · exact ((r5.erase i.toNat).mono kL).mono (Kp.put (.inr rfl))
          · rw [List.append_assoc]
            refine List.Perm.trans (List.Perm.append_left es ?_) p8
            exact erase_perm left i.toNat hi
    · rintro H3 ⟨p1, p2, acc, es, left, xs, p3, p4, p5, p6, p7, p8⟩
      have nXD : ¬ X D := t1.new hD ∘ .inl
      have le : left = [] := by
        have := p8.length_eq
        rw [List.length_append] at this
        exact List.eq_nil_of_length_eq_zero (by omega)
      subst le
      rw [List.append_nil] at p8
      exact k (.ref D) es H3 p8 ⟨p2.ok, S.x1, S.x2, fun a h => p2.t a (.inl (.inl h))⟩ (fun a o n3 n4 e => p1 a o n3 n4 (ne_of_none e hL) (s1 a o e)) (.lst nXD p3 (p4.less fun a h => .inl (.inl h))) (fun a e => by cases e; exact s1.free hD)
end K56

namespace K56
open PySem PySem.Spec PyProof.Rows L2 KD
variable {P : Program} {w : World} {K : PySem.W.Frag} {mg : Str → Option Value} {base : Heap}
/-! ### leaves -/
def leaf : PyData → Bool
  | .none => true
  | .bool _ => true
  | .int _ => true
  | .str s => PyData.strOk s
  | _ => false
theorem canLay_leaf : ∀ {ds : List PyData}, (∀ d ∈ ds, leaf d = true) → PyData.canLayAll0 ds = true
  | [], _ => by simp [PyData.canLayAll0]
  | d :: ds, h => by
    have h1 := h d List.mem_cons_self
    have h2 := canLay_leaf fun z hz => h z (List.mem_cons_of_mem _ hz)
    cases d <;> simp_all [PyData.canLayAll0, PyData.canLay0, leaf]
theorem depth_leaf : ∀ {ds : List PyData}, (∀ d ∈ ds, leaf d = true) → PyData.depthAll ds ≤ 1
  | [], _ => by simp [PyData.depthAll]
  | d :: ds, h => by
    have h1 := h d List.mem_cons_self
    have h2 := depth_leaf fun z hz => h z (List.mem_cons_of_mem _ hz)
    cases d <;> simp_all [PyData.depthAll, PyData.depth, leaf]
theorem shaped_leaf {d : PyData} (h : leaf d = true) : SeqAt.shaped d = true := by
  cases d <;> simp_all [SeqAt.shaped, PyData.canLay0, PyData.depth, leaf]
theorem shaped_leafs {ds : List PyData} (h : ∀ d ∈ ds, leaf d = true) : SeqAt.shaped (.list ds) = true := by
  have := depth_leaf h
  have h2 : PyData.depth (.list ds) ≤ 64 := by
    simp only [PyData.depth]
    omega
  show ((PyData.list ds).canLay0 && decide ((PyData.list ds).depth ≤ 64)) = true
  rw [Bool.and_eq_true]
  exact ⟨by simp only [PyData.canLay0]; exact canLay_leaf h, decide_eq_true h2⟩
theorem noDict_leaf {d : PyData} (h : leaf d = true) : noDict d = true := by cases d <;> first | rfl | cases h
theorem noDicts_leaf : ∀ {ds : List PyData}, (∀ d ∈ ds, leaf d = true) → noDicts ds = true
  | [], _ => by simp [noDicts]
  | d :: ds, h => by
    have h1 := noDict_leaf (h d List.mem_cons_self)
    have h2 := noDicts_leaf fun z hz => h z (List.mem_cons_of_mem _ hz)
    simp [noDicts, h1, h2]
theorem rb_inD {X : Addr → Prop} {d : PyData} {ds : List PyData} (h : leaf d = true) (hs : ∀ z ∈ ds, leaf z = true) : RB X (rInD K) d (.list ds) (ds.any fun z => PyData.eqv z d) := fun H u v _ ru rv Q q => ⟨d, ds, ru.dp (noDict_leaf h), rv.dp (by show noDicts ds = true; exact noDicts_leaf hs), shaped_leaf h, shaped_leafs hs, q⟩
def letters : List Str := ["a", "b", "c", "d e", "", "a"]
def spText : Sp := fun vs H Q _ => ∃ (X : Addr → Prop) (st cl : Addr) (n m : Nat), vs = [.ref st, .int m] ∧ Sg X st cl n H ∧ n + m ≤ 1000000000 ∧ m ≤ 1000 ∧
  ∀ w ws H', ws.length = m → (∀ z ∈ ws, z ∈ letters) → Sg X st cl (n + m) H' → KpS st cl H H' → DX X H' w (wsD ws) → Nw H w → Q w H'
theorem strs_of {L : List Str} : ∀ {ds : List PyData}, (∀ d ∈ ds, d ∈ L.map PyData.str) → ∃ ws : List Str, ds = ws.map PyData.str ∧ ∀ z ∈ ws, z ∈ L
  | [], _ => ⟨[], rfl, fun z h => by cases h⟩
  | d :: ds, h => by
    obtain ⟨s, hs, rfl⟩ := List.mem_map.mp (h d List.mem_cons_self)
    obtain ⟨ws, rfl, hw⟩ := strs_of fun z hz => h z (List.mem_cons_of_mem _ hz)
    exact ⟨s :: ws, rfl, fun z hz => (List.mem_cons.mp hz).elim (fun e => e ▸ hs) (hw z)⟩
theorem env_sv {X : Addr → Prop} {H : Hp} {N : List Str} {vs : List V} {ss : List Sv} (hl : vs.length = ss.length) (hs : ∀ (i : Nat) (s : Sv), ss[i]? = some s → ∀ v, vs[i]? = some v → SvOk X H s (some (some v))) (hN : vs.length ≤ N.length) : EnvOk X H (L2.start N vs) (pad N ss) := by
  unfold pad
  rw [← hl]
  exact envOk_start hl hs hN
theorem env_s1 {X : Addr → Prop} {H : Hp} {N : List Str} {st : Addr} {v : V} {s : Sv} (h : SvOk X H s (some (some v))) (hN : 2 ≤ N.length) : EnvOk X H (L2.start N [.ref st, v]) (pad N [.val (.ref st), s]) :=
  env_sv rfl (fun i s e u e2 => by
    match i, e, e2 with
    | 0, e, e2 => cases e; cases e2; rfl
    | 1, e, e2 => cases e; cases e2; exact h) hN
theorem env_s2 {X : Addr → Prop} {H : Hp} {N : List Str} {st : Addr} {v v2 : V} {s s2 : Sv} (h : SvOk X H s (some (some v))) (h2 : SvOk X H s2 (some (some v2))) (hN : 3 ≤ N.length) : EnvOk X H (L2.start N [.ref st, v, v2]) (pad N [.val (.ref st), s, s2]) :=
  env_sv rfl (fun i s e u e2 => by
    match i, e, e2 with
    | 0, e, e2 => cases e; cases e2; rfl
    | 1, e, e2 => cases e; cases e2; exact h
    | 2, e, e2 => cases e; cases e2; exact h2) hN
theorem ga_strs {X : Addr → Prop} {σ : L2.St} {H : Hp} : ∀ L : List Str, GA X (L.foldr (fun s t => tCons (tC (.str s)) t) tNil) σ H (L.map PyData.str)
  | [] => ga_nil
  | s :: L => ga_cons g_str (ga_strs L)
end K56

/-! Whether two things are the same. -/
namespace K56
open PySem PySem.Spec PyProof.Rows L2 KD
variable {P : Program} {w : World} {K : PySem.W.Frag} {mg : Str → Option Value} {base : Heap}
theorem walk_zipT {a b : Addr} {xs ys : List V} {n : Nat} (hn : n = min xs.length ys.length) : Walk (RZ.ItzT K a b) n (fun H => SqT K H a xs ∧ SqT K H b ys) (YPair (fun i => xs[i]?) (fun i => ys[i]?)) := by
  subst hn
  refine ⟨fun i _ hi q => ?_, fun _ q => ⟨xs, ys, q.1, q.2, by omega⟩, fun i H v H' _ q y => ?_⟩
  · have h1 : i < xs.length := by omega
    have h2 : i < ys.length := by omega
    exact ⟨xs, ys, xs[i], ys[i], q.1, q.2, by simp [h1], by simp [h2]⟩
  · obtain ⟨T, x, z, h1, h2, h3, h4, h5⟩ := y
    exact ⟨T, x, z, h1, h2, h3, h4 xs q.1, h5 ys q.2⟩
theorem gi_zipT {X : Addr → Prop} {H : Hp} {σ : L2.St} {te tb : TE} {ds es : List PyData} (h : G X te σ H (.tuple ds)) (h' : G X tb σ H (.tuple es)) : GI X (RZ.iZipA K (tCons te (tCons tb tNil))) σ H (zipD ds es) := fun H1 s R r => h H1 s _ fun v H2 s2 rv => h' H2 (s.trans s2) _ fun w H3 s3 rw_ => by
  obtain ⟨a, xs, rfl, n, e, rx⟩ := (rv.mono (Kp.of s3)).tup_inv
  obtain ⟨b, ys, rfl, n2, e2, ry⟩ := rw_.tup_inv
  refine ⟨a, b, xs, ys, rfl, .inr ⟨SqT.of e, SqT.of e2, r _ H3 (s2.trans s3) ⟨_, _, walk_zipT (xs := xs) (ys := ys) (by simp [zipD, rx.length, ry.length]), fun X' m H4 k t => ?_⟩⟩⟩
  have n' : ¬ X' a := fun z => (m a z).elim n fun q => by rw [e] at q; cases q
  have n2' : ¬ X' b := fun z => (m b z).elim n2 fun q => by rw [e2] at q; cases q
  refine ⟨⟨SqT.of (k a _ n' e), SqT.of (k b _ n2' e2)⟩, fun i x H5 y => ?_⟩
  obtain ⟨T, u, w, rfl, hT, rfl, hu, hw⟩ := y
  obtain ⟨d, h1, h2⟩ := rx.getV hu
  obtain ⟨d', h3, h4⟩ := ry.getV hw
  refine ⟨Same.upd hT, .tuple [d, d'], ?_, DX.newT t (.cons ((h2.grow m).mono k) (.cons ((h4.grow m).mono k) .nil)) hT⟩
  unfold zipD
  rw [List.getElem?_zipWith, h1, h3]
theorem gi_zipL {X : Addr → Prop} {H : Hp} {σ : L2.St} {te tb : TE} {ds es : List PyData} (h : G X te σ H (.list ds)) (h' : G X tb σ H (.list es)) : GI X (RZ.iZipA K (tCons te (tCons tb tNil))) σ H (zipD ds es) := fun H1 s R r => h H1 s _ fun v H2 s2 rv => h' H2 (s.trans s2) _ fun w H3 s3 rw_ => by
  obtain ⟨a, xs, rfl, n, e, rx⟩ := (rv.mono (Kp.of s3)).lst_inv
  obtain ⟨b, ys, rfl, n2, e2, ry⟩ := rw_.lst_inv
  refine ⟨a, b, xs, ys, rfl, .inl ⟨SqL.of e, SqL.of e2, r _ H3 (s2.trans s3) ⟨_, _, walk_zip (xs := xs) (ys := ys) (by simp [zipD, rx.length, ry.length]), fun X' m H4 k t => ?_⟩⟩⟩
  have n' : ¬ X' a := fun z => (m a z).elim n fun q => by rw [e] at q; cases q
  have n2' : ¬ X' b := fun z => (m b z).elim n2 fun q => by rw [e2] at q; cases q
  refine ⟨⟨SqL.of (k a _ n' e), SqL.of (k b _ n2' e2)⟩, fun i x H5 y => ?_⟩
  obtain ⟨T, u, w, rfl, hT, rfl, hu, hw⟩ := y
  obtain ⟨d, h1, h2⟩ := rx.getV hu
  obtain ⟨d', h3, h4⟩ := ry.getV hw
  refine ⟨Same.upd hT, .tuple [d, d'], ?_, DX.newT t (.cons ((h2.grow m).mono k) (.cons ((h4.grow m).mono k) .nil)) hT⟩
  unfold zipD
  rw [List.getElem?_zipWith, h1, h3]
/-- so deep at most, leaves below -/
def sm : Nat → PyData → Prop
  | 0, d => leaf d = true
  | n + 1, .list ds => ds.length ≤ 100000 ∧ ∀ z ∈ ds, sm n z
  | n + 1, .tuple ds => ds.length ≤ 100000 ∧ ∀ z ∈ ds, sm n z
  | _ + 1, d => leaf d = true
def spSame (n : Nat) : Sp := fun vs H Q _ => ∃ (X : Addr → Prop) (v1 v2 : V) (d : PyData), vs = [v1, v2] ∧ Trk X H ∧ DX X H v1 d ∧ DX X H v2 d ∧ sm n d ∧ ∀ H', Same H H' → Q (.bl true) H'
def spPrev : Nat → Sp
  | 0 => fun _ _ _ _ => False
  | n + 1 => spSame n
theorem eqv_leaf {d : PyData} (h : leaf d = true) : PyData.eqv d d = true := by
  cases d <;> simp_all [PyData.eqv, leaf]
-- HINT _law_same never return isinstance(_law_found, dict)
-- HINT _law_same le (Nat.le_refl _)
-- HINT _law_same zip RZ.pi_zipA
abbrev s__law_same : Stmt := topS 43
abbrev n__law_same : List Str := ["_law_found", "_law_due", "_law_x", "_law_y"]
theorem sc__law_same : FnScope n__law_same ["_law_found", "_law_due"] (defScope s__law_same) := ⟨rfl, rfl, rfl, by decide +kernel, rfl, by decide +kernel, by decide +kernel⟩
theorem ok_same_body {f : Addr} {fd : FuncData} {n : Nat} (F : Fun K "_law_same" "_law_same" s__law_same f fd) (T : Bl mg) (O__law_same : Own P w K mg base CX0 (n + 1) "_law_same" ["_law_found", "_law_due"] (spPrev n)) : FnOk P w K mg base CX0 (n + 2) f fd ["_law_found", "_law_due"] (spSame n) := by
  refine F.ok sc__law_same (fun vs H Q E h => ?_) (fun cdv A outer s H vs Q E hr h => ?_)
  · obtain ⟨X, v1, v2, d, rfl, _⟩ := h
    rfl
  · obtain ⟨X, v1, v2, d, rfl, t, d1, d2, hs, k⟩ := h
    refine ⟨_, (pss_cons (ps_if (pt_val (pe_callB call_isiT (by rfl) T.b_isinstance boot_isinstance (pa_cons (pv 1) (pa_cons (pe_tup (pa_cons (pe_bltn (v := .ty "list") (by rfl) T.b_list boot_list rfl) (pa_cons (pe_bltn (v := .ty "tuple") (by rfl) T.b_tuple boot_tuple rfl) pa_nil))) pa_nil))))
    (pss_cons (ps_if (PW.pt (pw_or (pt_cmpR (op_neD hr.units) (pe_callB call_isi (by rfl) T.b_isinstance boot_isinstance (pa_cons (pv 0) (pa_cons (pe_bltn (v := .ty "list") (by rfl) T.b_list boot_list rfl) pa_nil))) (pe_callB call_isi (by rfl) T.b_isinstance boot_isinstance (pa_cons (pv 1) (pa_cons (pe_bltn (v := .ty "list") (by rfl) T.b_list boot_list rfl) pa_nil))) (nomark _)) (pw_or1 (pt_cmpR (op_neD hr.units) (pe_callB call_isi (by rfl) T.b_isinstance boot_isinstance (pa_cons (pv 0) (pa_cons (pe_bltn (v := .ty "tuple") (by rfl) T.b_tuple boot_tuple rfl) pa_nil))) (pe_callB call_isi (by rfl) T.b_isinstance boot_isinstance (pa_cons (pv 1) (pa_cons (pe_bltn (v := .ty "tuple") (by rfl) T.b_tuple boot_tuple rfl) pa_nil))) (nomark _)))))
    (pss_one (ps_ret pe_bl)) pss_nil)
    (pss_one (ps_ret (pe_and (pe_cmpR (op_eqD hr.units) (pe_callB call_len (by rfl) T.b_len boot_len (pa_cons (pv 0) pa_nil)) (pe_callB call_len (by rfl) T.b_len boot_len (pa_cons (pv 1) pa_nil)) (nomark _)) (pe_one (pe_callB (cr_all rfl) (by rfl) T.b_all boot_all (pa_cons (pe_lc (own := [("_law_x", 2), ("_law_y", 3)]) (g := (gTup K 2 (gCons (gName 2) (gCons (gName 3) gNil)))) (tt := tYes) rfl sc__law_same.nd (RZ.pi_zipA (by rfl) T.b_zip (pa_cons (pv 0) (pa_cons (pv 1) pa_nil))) (blkOk_by (N := n__law_same) (sc := defScope s__law_same) (by decide +kernel)) (fun _ _ _ _ _ => (pg_tup (n := 2) rfl (pgs_cons (pg_name (i := 2) sc__law_same.nd rfl (by first | exact Or.inl rfl | exact Or.inr rfl)) (pgs_cons (pg_name (i := 3) sc__law_same.nd rfl (by first | exact Or.inl rfl | exact Or.inr rfl)) pgs_nil)))) (fun _ _ _ _ _ => pts_nil) (fun _ _ _ _ _ => (pe_own O__law_same hr (Nat.le_refl _) (by rfl) (pa_cons (pv 2) (pa_cons (pv 3) pa_nil))))) pa_nil))))))) pss_nil)
    (pss_cons (ps_if (pt_val (pe_callB call_isi (by rfl) T.b_isinstance boot_isinstance (pa_cons (pv 1) (pa_cons (pe_bltn (v := .ty "dict") (by rfl) T.b_dict boot_dict rfl) pa_nil))))
    (pss_one ps_never) pss_nil)
    (pss_cons (ps_if (pt_val (pe_callB call_isi (by rfl) T.b_isinstance boot_isinstance (pa_cons (pv 1) (pa_cons (pe_bltn (v := .ty "int") (by rfl) T.b_int boot_int rfl) pa_nil))))
    (pss_one (ps_ret (pe_and (pe_callB call_isi (by rfl) T.b_isinstance boot_isinstance (pa_cons (pv 0) (pa_cons (pe_bltn (v := .ty "int") (by rfl) T.b_int boot_int rfl) pa_nil))) (pe_and (pe_cmpR (op_eqD hr.units) (pe_callB call_isi (by rfl) T.b_isinstance boot_isinstance (pa_cons (pv 0) (pa_cons (pe_bltn (v := .ty "bool") (by rfl) T.b_bool boot_bool rfl) pa_nil))) (pe_callB call_isi (by rfl) T.b_isinstance boot_isinstance (pa_cons (pv 1) (pa_cons (pe_bltn (v := .ty "bool") (by rfl) T.b_bool boot_bool rfl) pa_nil))) (nomark _)) (pe_one (pe_cmpR (op_eqD hr.units) (pv 0) (pv 1) (nomark _))))))) pss_nil)
    (pss_one (ps_ret (pe_and (pe_not (pe_callB call_isiT (by rfl) T.b_isinstance boot_isinstance (pa_cons (pv 0) (pa_cons (pe_tup (pa_cons (pe_bltn (v := .ty "int") (by rfl) T.b_int boot_int rfl) (pa_cons (pe_bltn (v := .ty "list") (by rfl) T.b_list boot_list rfl) (pa_cons (pe_bltn (v := .ty "tuple") (by rfl) T.b_tuple boot_tuple rfl) (pa_cons (pe_bltn (v := .ty "dict") (by rfl) T.b_dict boot_dict rfl) pa_nil))))) pa_nil)))) (pe_one (pe_cmpR (op_eqD hr.units) (pv 0) (pv 1) (nomark _))))))))), ?_⟩
    have En : EnvOk X H (L2.start n__law_same [v1, v2]) (pad n__law_same [.dat d, .dat d]) := env2 d1 d2 (by decide)
    have b1 : PyData.eqv (.bool true) (.bool true) = true := by simp [PyData.eqv]
    have eqb : ∀ b : Bool, PyData.eqv (.bool b) (.bool b) = true := fun b => by simp [PyData.eqv]
    have shb : ∀ b : Bool, SeqAt.shaped (.bool b) = true := fun b => shaped_leaf rfl
    have ndb : ∀ b : Bool, noDict (.bool b) = true := fun b => by simp [noDict]
    refine q_if (gt_B (g_isSeq (g_var (i := 1) En rfl))) (fun hb H1 s1 => ?_) (fun hb H1 s1 => ?_)
    · -- a list or a tuple
      have E1 := En.same s1
      have t1 := t.mono s1
      refine q_if (b := false) (gt_is (gt_or (b := !PyData.eqv (.bool (isa_tuple d)) (.bool (isa_tuple d))) (gt_neD t1 (g_isList (g_var (i := 0) E1 rfl)) (g_isList (g_var (i := 1) E1 rfl)) (ndb _) (ndb _) (shb _) (shb _)) fun _ => gt_neD t1 (g_isTuple (g_var (i := 0) E1 rfl)) (g_isTuple (g_var (i := 1) E1 rfl)) (ndb _) (ndb _) (shb _) (shb _)) (by rw [eqb, eqb]; rfl)) (fun h => by cases h) fun _ H2 s2 => ?_
      have E2 := E1.same s2
      have t2 := t1.mono s2
      have hln : ∀ i : Int, PyData.eqv (.int i) (.int i) = true := fun i => by rw [eqv_int]; simp
      have core : ∀ (m : Nat) (te : TE) (wi : TI) (ds : List PyData), ds.length ≤ 100000 → (∀ z ∈ ds, sm m z) → GI X wi (L2.start n__law_same [v1, v2]) H2 (zipD ds ds) → te = tCall (spSame m) [] E0 (tCons (tVar 2) (tCons (tVar 3) tNil)) → G X (tCB (rAll K) (tCons (tLc wi (gTup K 2 (gCons (gName 2) (gCons (gName 3) gNil))) tYes te [2, 3]) tNil)) (L2.start n__law_same [v1, v2]) H2 (.bool true) := fun m te wi ds hl hz hi hte => by
        subst hte
        have hzip : ∀ p ∈ zipD ds ds, ∃ z ∈ ds, p = .tuple [z, z] := fun p hp => by
          obtain ⟨i, hi, he⟩ := List.mem_iff_getElem.mp hp
          unfold zipD at he hi
          rw [List.length_zipWith] at hi
          rw [List.getElem_zipWith] at he
          exact ⟨_, List.getElem_mem (by omega), he.symm⟩
        refine g_is (g_cb (ds := [.list (((zipD ds ds).map fun _ => true).map PyData.bool)]) t2 (ga_cons (g_is (g_lc1 (ds := zipD ds ds) (Γ2 := fun p => ((((pad n__law_same [.dat d, .dat d]).set 3 .un).set 2 .un).set 2 (.dat (it p 0))).set 3 (.dat (it p 1))) (fun _ => .bool true) t2 hi (by unfold zipD; rw [List.length_zipWith]; omega) (fun H3 s3 p hp => ?_) (fun X' H3 σ2 p hp t3 E3 => ?_)) (by rw [List.map_map]; rfl)) ga_nil) rf_all) (by rw [List.all_map]; simp)
        · obtain ⟨z, hzm, rfl⟩ := hzip p hp
          exact tgt_pair (E2.same s3) (by decide)
        · obtain ⟨z, hzm, rfl⟩ := hzip p hp
          intro H4 s4 Q4 q4
          refine g_var (i := 2) E3 rfl H4 s4 _ fun u H5 s5 r5 => g_var (i := 3) (E3.same (s4.trans s5)) rfl H5 (Same.refl _) _ fun u2 H6 s6 r6 => ?_
          exact ⟨X', u, u2, z, rfl, t3.mono ((s4.trans s5).trans s6), r5.mono (Kp.of s6), r6, hz z hzm, fun H7 s7 => q4 _ H7 ((s5.trans s6).trans s7) (.bl true)⟩
      cases n with
      | zero => cases d with
        | list ds => exact absurd hs (by simp [sm, leaf])
        | tuple ds => exact absurd hs (by simp [sm, leaf])
        | _ => cases hb
      | succ m =>
        cases d with
        | list ds =>
          obtain ⟨hl, hz⟩ := hs
          exact s_ret (X := X) (d := .bool true) (g_is (g_and (b := true) (g_eqD t2 (g_len t2 (g_var (i := 0) E2 rfl) rfl) (g_len t2 (g_var (i := 1) E2 rfl) rfl) rfl rfl (shaped_int _) (shaped_int _)) fun _ => core m _ _ ds hl hz (gi_zipL (g_var (i := 0) E2 rfl) (g_var (i := 1) E2 rfl)) rfl) (by rw [hln]; rfl)) fun w H' s' dw => by rw [dw.bl_inv]; exact k H' ((s1.trans s2).trans s')
        | tuple ds =>
          obtain ⟨hl, hz⟩ := hs
          exact s_ret (X := X) (d := .bool true) (g_is (g_and (b := true) (g_eqD t2 (g_len t2 (g_var (i := 0) E2 rfl) rfl) (g_len t2 (g_var (i := 1) E2 rfl) rfl) rfl rfl (shaped_int _) (shaped_int _)) fun _ => core m _ _ ds hl hz (gi_zipT (g_var (i := 0) E2 rfl) (g_var (i := 1) E2 rfl)) rfl) (by rw [hln]; rfl)) fun w H' s' dw => by rw [dw.bl_inv]; exact k H' ((s1.trans s2).trans s')
        | _ => cases hb
    · -- a leaf
      have hlf : leaf d = true := by
        cases n with
        | zero => exact hs
        | succ m => cases d <;> first | exact hs | cases hb
      have E1 := En.same s1
      have t1 := t.mono s1
      refine q_if (b := false) (gt_is (gt_B (g_isDict (g_var (i := 1) E1 rfl))) (by cases d <;> first | rfl | cases hlf)) (fun h => by cases h) fun _ H2 s2 => ?_
      have E2 := E1.same s2
      have t2 := t1.mono s2
      refine q_if (gt_B (g_isInt (g_var (i := 1) E2 rfl))) (fun hi H3 s3 => ?_) (fun hi H3 s3 => ?_)
      · have E3 := E2.same s3
        have t3 := t2.mono s3
        refine s_ret (X := X) (d := .bool true) (g_is (g_and (b := PyData.eqv (.bool (isa_bool d)) (.bool (isa_bool d)) && PyData.eqv d d) (g_isInt (g_var (i := 0) E3 rfl)) fun _ => g_and (g_eqD t3 (g_isBool (g_var (i := 0) E3 rfl)) (g_isBool (g_var (i := 1) E3 rfl)) (ndb _) (ndb _) (shb _) (shb _)) fun _ => g_eqD t3 (g_var (i := 0) E3 rfl) (g_var (i := 1) E3 rfl) (noDict_leaf hlf) (noDict_leaf hlf) (shaped_leaf hlf) (shaped_leaf hlf)) (by rw [hi, eqb, eqv_leaf hlf]; rfl)) fun w H' s' dw => by rw [dw.bl_inv]; exact k H' (((s1.trans s2).trans s3).trans s')
      · have E3 := E2.same s3
        have t3 := t2.mono s3
        refine s_ret (X := X) (d := .bool true) (g_is (g_and (b := PyData.eqv d d) (g_not (g_isiT (ns := ["int", "list", "tuple", "dict"]) (g_var (i := 0) E3 rfl) rfl (by decide) ?_)) fun _ => g_eqD t3 (g_var (i := 0) E3 rfl) (g_var (i := 1) E3 rfl) (noDict_leaf hlf) (noDict_leaf hlf) (shaped_leaf hlf) (shaped_leaf hlf)) ?_) fun w H' s' dw => by rw [dw.bl_inv]; exact k H' (((s1.trans s2).trans s3).trans s')
        · intro n hn
          simp at hn
          rcases hn with rfl | rfl | rfl | rfl
          · exact ksm_int d
          · exact ksm_list d
          · exact ksm_tuple d
          · exact ksm_dict d
        · have e : isDs ["int", "list", "tuple", "dict"] d = false := by
            unfold isDs
            rw [List.any_cons, List.any_cons, List.any_cons, List.any_cons, List.any_nil, isD_int, isD_list, isD_tuple, isD_dict, hi]
            cases d <;> first | rfl | cases hlf
          rw [e, eqv_leaf hlf]
          rfl
theorem ok_same {f : Addr} {fd : FuncData} (F : Fun K "_law_same" "_law_same" s__law_same f fd) (T : Bl mg) (h1 : mg "_law_same" = some (.ref f)) (h2 : PySem.W.keepIn K (.ref f) = true) (h3 : Binds K fd ["_law_found", "_law_due"] []) : ∀ n : Nat, FnOk P w K mg base CX0 (n + 2) f fd ["_law_found", "_law_due"] (spSame n)
  | 0 => ok_same_body F T ⟨f, fd, h1, h2, h3, F.ok (k := 0) sc__law_same (fun _ _ _ _ h => h.elim) (fun _ _ _ _ _ _ _ _ _ h => h.elim)⟩
  | n + 1 => ok_same_body F T ⟨f, fd, h1, h2, h3, ok_same F T h1 h2 h3 n⟩
end K56

/-! Lists of one's own. -/
namespace K56
open PySem PySem.Spec PyProof.Rows L2 KD
variable {P : Program} {w : World} {K : PySem.W.Frag} {mg : Str → Option Value} {base : Heap}
/-! ### a list of one's own that is made longer -/
section
variable {X : Addr → Prop} {σ : L2.St} {H : Hp} {te : TE} {Γ : List Sv} {D : Ends} {tz : TS} {L : Addr} {xs : List V} {ds es : List PyData} {d : PyData} {i : Nat}
/-- all but L stays -/
def KpL (L : Addr) (H H' : Hp) : Prop := ∀ a o, a ≠ L → H a = some o → H' a = some o
theorem KpL.of (s : Same H H') : KpL L H H' := fun a o _ e => s a o e
theorem KpL.trans {H H1 H2 : Hp} (h : KpL L H H1) (k : KpL L H1 H2) : KpL L H H2 := fun a o n e => k a o n (h a o n e)
theorem KpL.put {o : HO} : KpL L H (upd H L o) := fun a u n e => by rw [upd_ne n]; exact e
theorem q_extend (En : EnvOk X H σ Γ) (hi : Γ[i]? = some (.val (.ref L))) (x : X L) (t : Trk X H) (hL : H L = some (.lst xs)) (hx : DXs X H xs ds) (h : G X te σ H (.list es)) (hl : ds.length + es.length ≤ 1000000)
    (k : ∀ H2 ys, H2 L = some (.lst ys) → DXs X H2 ys (ds ++ es) → EnvOk X H2 σ Γ → Trk X H2 → KpL L H H2 → tz D σ H2) : tSeq (tDrop (tBM K "list" rExtend (tVar i) (tCons te tNil))) tz D σ H := by
  refine ⟨.ref L, En.get i _ hi, .inl ⟨rfl, _, SqL.of hL⟩, ?_⟩
  refine h H (Same.refl H) _ fun v H1 s1 dv => ?_
  obtain ⟨b, zs, rfl, nb, hb, hz⟩ := dv.lst_inv
  have hL1 := s1 _ _ hL
  have e1 : xs.length = ds.length := hx.length
  have e2 : zs.length = es.length := hz.length
  refine ⟨L, b, xs, zs, rfl, rfl, hL1, hb, by rw [sizeLine_eq]; omega, ?_⟩
  have kp : Kp X H1 (upd H1 L (.lst (xs ++ zs))) := Kp.put x
  exact k _ _ upd_same (((hx.mono (Kp.of s1)).append hz).mono kp) ((En.same s1).mono kp) ((t.mono s1).put) ((KpL.of s1).trans KpL.put)
theorem q_append (En : EnvOk X H σ Γ) (hi : Γ[i]? = some (.val (.ref L))) (x : X L) (t : Trk X H) (hL : H L = some (.lst xs)) (hx : DXs X H xs ds) (h : G X te σ H d) (hl : ds.length < 1000000)
    (k : ∀ H2 ys, H2 L = some (.lst ys) → DXs X H2 ys (ds ++ [d]) → EnvOk X H2 σ Γ → Trk X H2 → KpL L H H2 → tz D σ H2) : tSeq (tDrop (tBM K "list" rAppend (tVar i) (tCons te tNil))) tz D σ H := by
  refine ⟨.ref L, En.get i _ hi, .inl ⟨rfl, _, SqL.of hL⟩, ?_⟩
  refine h H (Same.refl H) _ fun v H1 s1 dv => ?_
  have hL1 := s1 _ _ hL
  have e1 : xs.length = ds.length := hx.length
  refine ⟨L, xs, v, rfl, rfl, hL1, by rw [sizeLine_eq]; omega, ?_⟩
  have kp : Kp X H1 (upd H1 L (.lst (xs ++ [v]))) := Kp.put x
  exact k _ _ upd_same (((hx.mono (Kp.of s1)).snoc dv).mono kp) ((En.same s1).mono kp) ((t.mono s1).put) ((KpL.of s1).trans KpL.put)
/-- a new list becomes one's own -/
theorem k_own (En : EnvOk X H σ Γ) (t : Trk X H) (h : GN X te σ H (.list ds)) (k : ∀ L H1 xs, H L = none → Same H H1 → H1 L = some (.lst xs) → DXs (fun b => X b ∨ b = L) H1 xs ds → EnvOk (fun b => X b ∨ b = L) H1 (σ.set i (some (.ref L))) (Γ.set i (.val (.ref L))) → Trk (fun b => X b ∨ b = L) H1 → tz D (σ.set i (some (.ref L))) H1) :
    tSeq (tAsg te (gName i)) tz D σ H := by
  refine k_set (h H (Same.refl H) _ fun v H1 s1 dv nw => ?_)
  obtain ⟨L, xs, rfl, nL, hL, hx⟩ := dv.inner
  have h0 := nw L rfl
  exact k L H1 xs h0 s1 hL hx (((En.more (More.one h0)).same s1).setV) (fun a e => e.elim (fun z => t.mono s1 a z) fun z => ⟨_, z ▸ hL⟩)

theorem g_dict (t : Trk X H) : G X tDNewK σ H (.dict []) := fun H1 s Q q => fun p hp => q _ _ (Same.upd hp) (.dic ((t.mono s).new hp) upd_same .nil)
theorem _root_.KD.EnvOk.less {X' : Addr → Prop} (m : ∀ a, X a → X' a) (E : EnvOk X' H σ Γ) : EnvOk X H σ Γ := ⟨E.len, fun i s e => by
  have h := E.get i s e
  cases s with
  | dat d =>
    obtain ⟨v, e1, r⟩ := h
    exact ⟨v, e1, r.less m⟩
  | val v => exact h
  | un => trivial⟩
/-- one's own list is a datum again -/
theorem _root_.KD.EnvOk.give (En : EnvOk (fun b => X b ∨ b = L) H σ Γ) (hi : Γ[i]? = some (.val (.ref L))) (n : ¬ X L) (hL : H L = some (.lst xs)) (hx : DXs (fun b => X b ∨ b = L) H xs ds) : EnvOk X H σ (Γ.set i (.dat (.list ds))) := by
  have E2 : EnvOk X H σ Γ := En.less fun _ => .inl
  refine ⟨by rw [List.length_set]; exact E2.len, fun j s e => ?_⟩
  by_cases hj : i = j
  · subst hj
    have hl : i < Γ.length := (List.getElem?_eq_some_iff.mp hi).1
    rw [List.getElem?_set_self hl] at e
    cases e
    exact ⟨.ref L, En.get i _ hi, .lst n hL (hx.less fun _ => .inl)⟩
  · rw [List.getElem?_set_ne hj] at e
    exact E2.get j s e
end
end K56

/-! Longest common rows: how long they are, which matches are on one. -/
namespace KL
variable (M : Nat → Nat → Bool)
def nxt (m : Nat → Bool) (b : Nat → Nat) : Nat → Nat
  | 0 => 0
  | j + 1 => max (max (b (j + 1)) (nxt m b j)) (if m j = true then b j + 1 else 0)
/-- how long a common row of the first i and the first j can be -/
def L : Nat → Nat → Nat
  | 0 => fun _ => 0
  | i + 1 => nxt (M i) (L i)
abbrev Pr := Nat × Nat
def bh (a b : Pr) : Prop := a.1 < b.1 ∧ a.2 < b.2
/-- a common row -/
def Ch (l : List Pr) : Prop := l.Pairwise bh ∧ ∀ p ∈ l, M p.1 p.2 = true
def Bd (i j : Nat) (l : List Pr) : Prop := ∀ p ∈ l, p.1 < i ∧ p.2 < j
variable {M}
theorem ch_nil : Ch M [] := ⟨.nil, fun p h => by cases h⟩
theorem ch_left {l k : List Pr} (h : Ch M (l ++ k)) : Ch M l := ⟨(List.pairwise_append.mp h.1).1, fun p hp => h.2 p (List.mem_append_left _ hp)⟩
theorem ch_right {l k : List Pr} (h : Ch M (l ++ k)) : Ch M k := ⟨(List.pairwise_append.mp h.1).2.1, fun p hp => h.2 p (List.mem_append_right _ hp)⟩
theorem ch_app {l k : List Pr} (h : Ch M l) (g : Ch M k) (c : ∀ a ∈ l, ∀ b ∈ k, bh a b) : Ch M (l ++ k) := ⟨List.pairwise_append.mpr ⟨h.1, g.1, c⟩, fun p hp => (List.mem_append.mp hp).elim (h.2 p) (g.2 p)⟩
theorem ch_one {p : Pr} (h : M p.1 p.2 = true) : Ch M [p] := ⟨List.pairwise_singleton _ _, fun q hq => by rw [List.mem_singleton.mp hq]; exact h⟩
theorem ch_last {l : List Pr} {p : Pr} (h : Ch M (l ++ [p])) : Bd p.1 p.2 l := fun a ha => (List.pairwise_append.mp h.1).2.2 a ha p (List.mem_singleton.mpr rfl)
theorem snoc {l : List Pr} : l = [] ∨ ∃ k p, l = k ++ [p] := by
  rcases List.eq_nil_or_concat l with h | ⟨k, p, h⟩
  · exact .inl h
  · exact .inr ⟨k, p, by rw [h]; simp⟩
theorem L_up : ∀ (i j : Nat) (l : List Pr), Ch M l → Bd i j l → l.length ≤ L M i j
  | 0, j, l, h, b => by
    cases l with
    | nil => simp
    | cons p l => exact absurd (b p List.mem_cons_self).1 (by omega)
  | i + 1, 0, l, h, b => by
    cases l with
    | nil => simp
    | cons p l => exact absurd (b p List.mem_cons_self).2 (by omega)
  | i + 1, j + 1, l, h, b => by
    have e : L M (i + 1) (j + 1) = max (max (L M i (j + 1)) (L M (i + 1) j)) (if M i j = true then L M i j + 1 else 0) := rfl
    rw [e]
    rcases snoc (l := l) with rfl | ⟨k, p, rfl⟩
    · simp
    have hp := b p (by simp)
    have hk := ch_last h
    by_cases h1 : p.1 < i
    · have := L_up i (j + 1) (k ++ [p]) h fun q hq => by
        rcases List.mem_append.mp hq with hq | hq
        · have := hk q hq
          omega
        · rw [List.mem_singleton.mp hq]
          omega
      omega
    · by_cases h2 : p.2 < j
      · have := L_up (i + 1) j (k ++ [p]) h fun q hq => by
          rcases List.mem_append.mp hq with hq | hq
          · have := hk q hq
            omega
          · rw [List.mem_singleton.mp hq]
            omega
        omega
      · have e1 : p.1 = i := by omega
        have e2 : p.2 = j := by omega
        have hm := h.2 p (by simp)
        rw [e1, e2] at hm
        have := L_up i j k (ch_left h) fun q hq => by
          have := hk q hq
          omega
        rw [if_pos hm, List.length_append]
        simp
        omega
theorem bd_le {i j i' j' : Nat} {l : List Pr} (h : Bd i j l) (hi : i ≤ i') (hj : j ≤ j') : Bd i' j' l := fun p hp => by
  have := h p hp
  omega
theorem L_is : ∀ (i j : Nat), ∃ l, Ch M l ∧ Bd i j l ∧ l.length = L M i j
  | 0, j => ⟨[], ch_nil, (fun p h => by cases h), rfl⟩
  | i + 1, 0 => ⟨[], ch_nil, (fun p h => by cases h), rfl⟩
  | i + 1, j + 1 => by
    have e : L M (i + 1) (j + 1) = max (max (L M i (j + 1)) (L M (i + 1) j)) (if M i j = true then L M i j + 1 else 0) := rfl
    obtain ⟨l1, a1, b1, c1⟩ := L_is i (j + 1)
    obtain ⟨l2, a2, b2, c2⟩ := L_is (i + 1) j
    obtain ⟨l3, a3, b3, c3⟩ := L_is i j
    by_cases hm : M i j = true
    · rw [if_pos hm] at e
      by_cases h1 : L M (i + 1) (j + 1) = L M i (j + 1)
      · exact ⟨l1, a1, bd_le b1 (by omega) (by omega), by omega⟩
      · by_cases h2 : L M (i + 1) (j + 1) = L M (i + 1) j
        · exact ⟨l2, a2, bd_le b2 (by omega) (by omega), by omega⟩
        · refine ⟨l3 ++ [(i, j)], ch_app a3 (ch_one hm) fun a ha b hb => ?_, fun q hq => ?_, ?_⟩
          · rw [List.mem_singleton.mp hb]
            exact b3 a ha
          · rcases List.mem_append.mp hq with hq | hq
            · have := b3 q hq
              omega
            · rw [List.mem_singleton.mp hq]
              exact ⟨by simp, by simp⟩
          · rw [List.length_append]
            simp
            omega
    · rw [if_neg hm] at e
      by_cases h1 : L M (i + 1) (j + 1) = L M i (j + 1)
      · exact ⟨l1, a1, bd_le b1 (by omega) (by omega), by omega⟩
      · exact ⟨l2, a2, bd_le b2 (by omega) (by omega), by omega⟩
theorem L_mono {i j i' j' : Nat} (hi : i ≤ i') (hj : j ≤ j') : L M i j ≤ L M i' j' := by
  obtain ⟨l, a, b, c⟩ := L_is (M := M) i j
  rw [← c]
  exact L_up _ _ l a (bd_le b hi hj)
/-! ### turned round -/
variable (M) in
def rv (n m : Nat) : Nat → Nat → Bool := fun i j => M (n - 1 - i) (m - 1 - j)
def tp (n m : Nat) (p : Pr) : Pr := (n - 1 - p.1, m - 1 - p.2)
theorem ch_turn {n m : Nat} {l : List Pr} (h : Ch M l) (b : Bd n m l) : Ch (rv M n m) (l.map (tp n m)).reverse := by
  refine ⟨?_, fun p hp => ?_⟩
  · rw [List.pairwise_reverse, List.pairwise_map]
    refine h.1.imp_of_mem fun {x y} hx hy hxy => ?_
    have := b x hx
    have := b y hy
    unfold bh tp at *
    omega
  · rw [List.mem_reverse] at hp
    obtain ⟨q, hq, rfl⟩ := List.mem_map.mp hp
    have := b q hq
    show M (n - 1 - (n - 1 - q.1)) (m - 1 - (m - 1 - q.2)) = true
    rw [show n - 1 - (n - 1 - q.1) = q.1 by omega, show m - 1 - (m - 1 - q.2) = q.2 by omega]
    exact h.2 q hq
theorem rv_rv {n m i j : Nat} (hi : i < n) (hj : j < m) : rv (rv M n m) n m i j = M i j := by
  show M (n - 1 - (n - 1 - i)) (m - 1 - (m - 1 - j)) = M i j
  rw [show n - 1 - (n - 1 - i) = i by omega, show m - 1 - (m - 1 - j) = j by omega]
theorem ch_turn' {n m : Nat} {l : List Pr} (h : Ch (rv M n m) l) (b : Bd n m l) : Ch M (l.map (tp n m)).reverse := by
  have h2 := ch_turn h b
  refine ⟨h2.1, fun p hp => ?_⟩
  have := h2.2 p hp
  rw [List.mem_reverse] at hp
  obtain ⟨q, hq, rfl⟩ := List.mem_map.mp hp
  have hb := b q hq
  rwa [rv_rv (by unfold tp; omega) (by unfold tp; omega)] at this
/-- the longest row that ends with p, the longest one that begins with it -/
def lev (M : Nat → Nat → Bool) (p : Pr) : Nat := L M p.1 p.2 + 1
def rst (M : Nat → Nat → Bool) (n m : Nat) (p : Pr) : Nat := L (rv M n m) (n - 1 - p.1) (m - 1 - p.2) + 1
theorem lev_up {l : List Pr} {p : Pr} (h : Ch M (l ++ [p])) : l.length + 1 ≤ lev M p := by
  have := L_up _ _ l (ch_left h) (ch_last h)
  unfold lev
  omega
theorem lev_is (p : Pr) (hp : M p.1 p.2 = true) : ∃ l, Ch M (l ++ [p]) ∧ Bd p.1 p.2 l ∧ l.length + 1 = lev M p := by
  obtain ⟨l, a, b, c⟩ := L_is (M := M) p.1 p.2
  exact ⟨l, ch_app a (ch_one hp) fun x hx y hy => by rw [List.mem_singleton.mp hy]; exact b x hx, b, by unfold lev; omega⟩
theorem ch_first {l : List Pr} {p : Pr} (h : Ch M (p :: l)) : ∀ q ∈ l, bh p q := (List.pairwise_cons.mp h.1).1
theorem rst_up {n m : Nat} {l : List Pr} {p : Pr} (h : Ch M (p :: l)) (b : Bd n m (p :: l)) : l.length + 1 ≤ rst M n m p := by
  have hp := b p List.mem_cons_self
  have h2 := ch_turn h b
  rw [List.map_cons, List.reverse_cons] at h2
  have := L_up _ _ _ (ch_left h2) (ch_last h2)
  rw [List.length_reverse, List.length_map] at this
  unfold rst
  unfold tp at this
  exact Nat.succ_le_succ this
theorem rst_is {n m : Nat} (p : Pr) (hp : M p.1 p.2 = true) (hn : p.1 < n) (hm : p.2 < m) : ∃ l, Ch M (p :: l) ∧ Bd n m (p :: l) ∧ l.length + 1 = rst M n m p := by
  obtain ⟨l, a, b, c⟩ := L_is (M := rv M n m) (n - 1 - p.1) (m - 1 - p.2)
  have b' : Bd n m l := bd_le b (by omega) (by omega)
  have a' := ch_turn' a b'
  have bb : ∀ q ∈ (l.map (tp n m)).reverse, bh p q ∧ q.1 < n ∧ q.2 < m := fun q hq => by
    rw [List.mem_reverse] at hq
    obtain ⟨r, hr, rfl⟩ := List.mem_map.mp hq
    have := b r hr
    unfold bh tp
    omega
  refine ⟨(l.map (tp n m)).reverse, ch_app (ch_one hp) a' fun x hx y hy => by rw [List.mem_singleton.mp hx]; exact (bb y hy).1, fun q hq => ?_, by unfold rst; rw [List.length_reverse, List.length_map]; omega⟩
  rcases List.mem_cons.mp hq with rfl | hq
  · exact ⟨hn, hm⟩
  · exact (bb q hq).2
/-! ### on a longest one -/
section
variable {n m : Nat}
theorem sum_le {p : Pr} (hp : M p.1 p.2 = true) (hn : p.1 < n) (hm : p.2 < m) : lev M p + rst M n m p ≤ L M n m + 1 := by
  obtain ⟨l, a1, b1, c1⟩ := lev_is p hp
  obtain ⟨k, a2, b2, c2⟩ := rst_is (n := n) (m := m) p hp hn hm
  have h : Ch M (l ++ p :: k) := ch_app (ch_left a1) a2 fun x hx y hy => by
    have h1 := b1 x hx
    rcases List.mem_cons.mp hy with rfl | hy
    · exact h1
    · have h2 := ch_first a2 y hy
      unfold bh at *
      omega
  have := L_up n m _ h fun q hq => by
    rcases List.mem_append.mp hq with hq | hq
    · have := b1 q hq
      omega
    · exact b2 q hq
  rw [List.length_append, List.length_cons] at this
  omega
/-- on a longest row, at its place -/
def On (M : Nat → Nat → Bool) (n m k : Nat) (p : Pr) : Prop := M p.1 p.2 = true ∧ p.1 < n ∧ p.2 < m ∧ lev M p = k ∧ lev M p + rst M n m p = L M n m + 1
theorem on_next {k : Nat} {p : Pr} (h : On M n m k p) (hk : k < L M n m) : ∃ q, On M n m (k + 1) q ∧ bh p q := by
  obtain ⟨h1, h2, h3, h4, h5⟩ := h
  obtain ⟨l, a, b, c⟩ := rst_is (n := n) (m := m) p h1 h2 h3
  cases l with
  | nil =>
    simp at c
    omega
  | cons q l =>
    have a' : Ch M (q :: l) := ch_right (l := [p]) a
    have hq := ch_first a q List.mem_cons_self
    have bq := b q (by simp)
    have mq := a.2 q (by simp)
    have r1 := rst_up (n := n) (m := m) a' fun x hx => b x (List.mem_cons_of_mem _ hx)
    have s1 := sum_le (n := n) (m := m) mq bq.1 bq.2
    obtain ⟨l2, a2, b2, c2⟩ := lev_is p h1
    have lq : l2.length + 1 + 1 ≤ lev M q := by
      have : Ch M ((l2 ++ [p]) ++ [q]) := ch_app a2 (ch_one mq) fun x hx y hy => by
        rw [List.mem_singleton.mp hy]
        rcases List.mem_append.mp hx with hx | hx
        · have := b2 x hx
          unfold bh at *
          omega
        · rw [List.mem_singleton.mp hx]
          exact hq
      have := lev_up this
      rw [List.length_append] at this
      simpa using this
    rw [List.length_cons] at c
    exact ⟨q, ⟨mq, bq.1, bq.2, by omega, by omega⟩, hq⟩
theorem on_first (h : 0 < L M n m) : ∃ q, On M n m 1 q := by
  obtain ⟨l, a, b, c⟩ := L_is (M := M) n m
  cases l with
  | nil =>
    simp at c
    omega
  | cons q l =>
    have bq := b q (by simp)
    have mq := a.2 q (by simp)
    have r1 := rst_up a b
    have s1 := sum_le (n := n) (m := m) mq bq.1 bq.2
    have l1 : 1 ≤ lev M q := by unfold lev; omega
    rw [List.length_cons] at c
    exact ⟨q, mq, bq.1, bq.2, by omega, by omega⟩
theorem on_le {k : Nat} {p : Pr} (h : On M n m k p) : 1 ≤ k ∧ k ≤ L M n m := by
  obtain ⟨h1, h2, h3, h4, h5⟩ := h
  have : 1 ≤ lev M p := by unfold lev; omega
  have : 1 ≤ rst M n m p := by unfold rst; omega
  omega
end
end KL

/-! Longest common rows: all of them by going on; turned texts; texts of one word. -/
namespace KL
variable {M : Nat → Nat → Bool}
theorem len_fst : ∀ {l : List Pr} {lo hi : Nat}, Ch M l → (∀ p ∈ l, lo ≤ p.1 ∧ p.1 < hi) → l.length ≤ hi - lo
  | [], lo, hi, _, _ => by simp
  | p :: l, lo, hi, h, b => by
    have hp := b p List.mem_cons_self
    have := len_fst (lo := p.1 + 1) (hi := hi) (ch_right (l := [p]) h) fun q hq => by
      have h1 := ch_first h q hq
      have h2 := b q (List.mem_cons_of_mem _ hq)
      unfold bh at h1
      omega
    rw [List.length_cons]
    omega
theorem len_snd : ∀ {l : List Pr} {lo hi : Nat}, Ch M l → (∀ p ∈ l, lo ≤ p.2 ∧ p.2 < hi) → l.length ≤ hi - lo
  | [], lo, hi, _, _ => by simp
  | p :: l, lo, hi, h, b => by
    have hp := b p List.mem_cons_self
    have := len_snd (lo := p.2 + 1) (hi := hi) (ch_right (l := [p]) h) fun q hq => by
      have h1 := ch_first h q hq
      have h2 := b q (List.mem_cons_of_mem _ hq)
      unfold bh at h1
      omega
    rw [List.length_cons]
    omega
/-- a straight row: c of them, from (i, j) on -/
def str (i j : Nat) : Nat → List Pr
  | 0 => []
  | c + 1 => (i, j) :: str (i + 1) (j + 1) c
theorem str_len : ∀ {c i j : Nat}, (str i j c).length = c
  | 0, _, _ => rfl
  | c + 1, i, j => by rw [str, List.length_cons, str_len]
theorem str_mem : ∀ {c i j : Nat} {p : Pr}, p ∈ str i j c → ∃ k, k < c ∧ p = (i + k, j + k)
  | 0, _, _, p, h => by cases h
  | c + 1, i, j, p, h => by
    rcases List.mem_cons.mp h with rfl | h
    · exact ⟨0, by omega, rfl⟩
    · obtain ⟨k, hk, rfl⟩ := str_mem h
      exact ⟨k + 1, by omega, by rw [show i + 1 + k = i + (k + 1) by omega, show j + 1 + k = j + (k + 1) by omega]⟩
theorem str_ch : ∀ {c i j : Nat}, (∀ k < c, M (i + k) (j + k) = true) → Ch M (str i j c)
  | 0, _, _, _ => ch_nil
  | c + 1, i, j, h => by
    refine ch_app (l := [(i, j)]) (ch_one (h 0 (by omega))) (str_ch fun k hk => ?_) fun a ha b hb => ?_
    · have := h (k + 1) (by omega)
      rwa [show i + (k + 1) = i + 1 + k by omega, show j + (k + 1) = j + 1 + k by omega] at this
    · rw [List.mem_singleton.mp ha]
      obtain ⟨k, _, rfl⟩ := str_mem hb
      exact ⟨by show i < i + 1 + k; omega, by show j < j + 1 + k; omega⟩
/-- a text of unlike words, turned round -/
theorem L_turned {n a : Nat} (ha : a ≤ n) (h : ∀ i j, i < n → j < n → (M i j = true ↔ i = (if j < n - a then j + a else j - (n - a)))) : L M n n = max (n - a) a := by
  have up : ∀ l, Ch M l → Bd n n l → l.length ≤ max (n - a) a := fun l hl b => by
    have at_ : ∀ p ∈ l, (a ≤ p.1 ∧ p.2 + a = p.1) ∨ (p.1 < a ∧ p.2 = p.1 + (n - a)) := fun p hp => by
      have bp := b p hp
      have := (h p.1 p.2 bp.1 bp.2).mp (hl.2 p hp)
      split at this <;> omega
    cases l with
    | nil => simp
    | cons p l =>
      have first := ch_first hl
      rcases at_ p List.mem_cons_self with hp | hp
      · have := len_fst (lo := a) (hi := n) hl fun q hq => by
          have bq := b q hq
          rcases List.mem_cons.mp hq with rfl | hq
          · omega
          · have := first q hq
            unfold bh at this
            omega
        omega
      · have := len_fst (lo := 0) (hi := a) hl fun q hq => by
          have bq := b q hq
          rcases List.mem_cons.mp hq with rfl | hq'
          · omega
          · have h1 := first q hq'
            have h2 := at_ q hq
            unfold bh at h1
            omega
        omega
  obtain ⟨l, x, y, z⟩ := L_is (M := M) n n
  have h1 := up l x y
  have h2 := L_up n n (str a 0 (n - a)) (str_ch (M := M) fun k hk => (h _ _ (by omega) (by omega)).mpr (by rw [if_pos (by omega)]; omega)) fun p hp => by
    obtain ⟨k, hk, rfl⟩ := str_mem hp
    show a + k < n ∧ 0 + k < n
    omega
  have h3 := L_up n n (str 0 (n - a) a) (str_ch (M := M) fun k hk => (h _ _ (by omega) (by omega)).mpr (by rw [if_neg (by omega)]; omega)) fun p hp => by
    obtain ⟨k, hk, rfl⟩ := str_mem hp
    show 0 + k < n ∧ n - a + k < n
    omega
  rw [str_len] at h2 h3
  omega
/-- texts of one word -/
theorem L_all {n m : Nat} (h : ∀ i j, i < n → j < m → M i j = true) : L M n m = min n m := by
  obtain ⟨l, x, y, z⟩ := L_is (M := M) n m
  have h1 := len_fst (lo := 0) (hi := n) x fun p hp => ⟨by omega, (y p hp).1⟩
  have h2 := len_snd (lo := 0) (hi := m) x fun p hp => ⟨by omega, (y p hp).2⟩
  have h3 := L_up n m (str 0 0 (min n m)) (str_ch (M := M) fun k hk => h _ _ (by omega) (by omega)) fun p hp => by
    obtain ⟨k, hk, rfl⟩ := str_mem hp
    show 0 + k < n ∧ 0 + k < m
    omega
  rw [str_len] at h3
  omega
/-! ### all rows of so many, one longer each time -/
def bhB (a b : Pr) : Bool := decide (a.1 < b.1) && decide (a.2 < b.2)
theorem bhB_iff {a b : Pr} : bhB a b = true ↔ bh a b := by
  unfold bhB bh
  rw [Bool.and_eq_true, decide_eq_true_eq, decide_eq_true_eq]
/-- what may stand behind a row -/
def okNext (row : List Pr) (p : Pr) : Bool := match row.getLast? with
  | none => true
  | some q => bhB q p
def longer (ps : List Pr) (rows : List (List Pr)) : List (List Pr) := rows.flatMap fun row => (ps.filter (okNext row)).map fun p => row ++ [p]
def rowsOf (ps : List Pr) : Nat → List (List Pr)
  | 0 => [[]]
  | k + 1 => longer ps (rowsOf ps k)
section
variable {n m : Nat} {ps : List Pr} (hps : ∀ p : Pr, p ∈ ps ↔ (p.1 < n ∧ p.2 < m ∧ M p.1 p.2 = true))
include hps
theorem rows_sound : ∀ (k : Nat) (l : List Pr), l ∈ rowsOf ps k → Ch M l ∧ Bd n m l ∧ l.length = k
  | 0, l, h => by
    rw [rowsOf, List.mem_singleton] at h
    subst h
    exact ⟨ch_nil, (fun p h => by cases h), rfl⟩
  | k + 1, l, h => by
    rw [rowsOf, longer, List.mem_flatMap] at h
    obtain ⟨row, hr, hl⟩ := h
    obtain ⟨p, hp, rfl⟩ := List.mem_map.mp hl
    rw [List.mem_filter] at hp
    obtain ⟨a, b, c⟩ := rows_sound k row hr
    obtain ⟨q1, q2, q3⟩ := (hps p).mp hp.1
    refine ⟨ch_app a (ch_one q3) fun x hx y hy => ?_, fun q hq => ?_, by rw [List.length_append, c]; rfl⟩
    · rw [List.mem_singleton.mp hy]
      rcases snoc (l := row) with rfl | ⟨r, z, rfl⟩
      · cases hx
      · have hz : bh z p := by
          have := hp.2
          unfold okNext at this
          rw [List.getLast?_append] at this
          simpa [bhB_iff] using this
        rcases List.mem_append.mp hx with hx | hx
        · have := ch_last a x hx
          unfold bh at *
          omega
        · rw [List.mem_singleton.mp hx]
          exact hz
    · rcases List.mem_append.mp hq with hq | hq
      · exact b q hq
      · rw [List.mem_singleton.mp hq]
        exact ⟨q1, q2⟩
theorem rows_full : ∀ (k : Nat) (l : List Pr), Ch M l → Bd n m l → l.length = k → l ∈ rowsOf ps k
  | 0, l, _, _, h => by
    rw [List.length_eq_zero_iff.mp h, rowsOf]
    exact List.mem_singleton.mpr rfl
  | k + 1, l, h, b, e => by
    rcases snoc (l := l) with rfl | ⟨r, p, rfl⟩
    · cases e
    · rw [rowsOf, longer, List.mem_flatMap]
      refine ⟨r, rows_full k r (ch_left h) (fun q hq => b q (List.mem_append_left _ hq)) (by rw [List.length_append] at e; simp at e; exact e), List.mem_map.mpr ⟨p, List.mem_filter.mpr ⟨?_, ?_⟩, rfl⟩⟩
      · have := b p (by simp)
        exact (hps p).mpr ⟨this.1, this.2, h.2 p (by simp)⟩
      · unfold okNext
        rcases snoc (l := r) with rfl | ⟨s, z, rfl⟩
        · rfl
        · rw [List.getLast?_append]
          show bhB z p = true
          rw [bhB_iff]
          exact (List.pairwise_append.mp h.1).2.2 z (by simp) p (by simp)
theorem rows_none {k : Nat} : rowsOf ps k = [] ↔ L M n m < k := by
  constructor
  · intro h
    by_cases hk : k ≤ L M n m
    · obtain ⟨l, x, y, z⟩ := L_is (M := M) n m
      have : l.take k ∈ rowsOf ps k := rows_full hps k _ (ch_left (k := l.drop k) (by rw [List.take_append_drop]; exact x)) (fun p hp => y p (List.mem_of_mem_take hp)) (by rw [List.length_take]; omega)
      rw [h] at this
      cases this
    · omega
  · intro h
    cases e : rowsOf ps k with
    | nil => rfl
    | cons l r =>
      obtain ⟨x, y, z⟩ := rows_sound hps k l (by rw [e]; exact List.mem_cons_self)
      have := L_up n m l x y
      omega
end
end KL

/-! How many common rows there can be. -/
namespace KL
def sm : Nat → (Nat → Nat) → Nat
  | 0, _ => 0
  | n + 1, f => sm n f + f n
theorem sm_le : ∀ {n : Nat} {f g : Nat → Nat}, (∀ i, i < n → f i ≤ g i) → sm n f ≤ sm n g
  | 0, _, _, _ => Nat.le_refl _
  | n + 1, f, g, h => Nat.add_le_add (sm_le fun i hi => h i (by omega)) (h n (by omega))
theorem sm_eq {n : Nat} {f g : Nat → Nat} (h : ∀ i, i < n → f i = g i) : sm n f = sm n g := Nat.le_antisymm (sm_le fun i hi => Nat.le_of_eq (h i hi)) (sm_le fun i hi => Nat.le_of_eq (h i hi).symm)
theorem sm_zero : ∀ {n : Nat}, sm n (fun _ => 0) = 0
  | 0 => rfl
  | n + 1 => by rw [sm, sm_zero]
theorem sm_left : ∀ {n : Nat} {f : Nat → Nat}, sm (n + 1) f = f 0 + sm n fun i => f (i + 1)
  | 0, f => by simp [sm]
  | n + 1, f => by
    rw [sm, sm_left (n := n), sm]
    omega
theorem sm_rev : ∀ {n : Nat} {f : Nat → Nat}, sm n (fun i => f (n - 1 - i)) = sm n f
  | 0, _ => rfl
  | n + 1, f => by
    rw [sm_left, sm]
    have : sm n (fun i => f (n + 1 - 1 - (i + 1))) = sm n fun i => f (n - 1 - i) := sm_eq fun i hi => by
      show f (n + 1 - 1 - (i + 1)) = f (n - 1 - i)
      rw [show n + 1 - 1 - (i + 1) = n - 1 - i by omega]
    rw [this, sm_rev]
    show f (n + 1 - 1 - 0) + sm n f = sm n f + f n
    rw [show n + 1 - 1 - 0 = n by omega]
    omega
/-- those behind q alone -/
theorem sm_behind {q : Nat} : ∀ {n : Nat} {f : Nat → Nat}, sm n (fun i => if q < i then f i else 0) = sm (n - 1 - q) fun k => f (q + 1 + k)
  | 0, f => by
    show 0 = sm (0 - 1 - q) _
    rw [show 0 - 1 - q = 0 by omega]
    rfl
  | n + 1, f => by
    rw [sm, sm_behind (n := n)]
    by_cases h : q < n
    · rw [if_pos h, show n + 1 - 1 - q = (n - 1 - q) + 1 by omega, sm, show q + 1 + (n - 1 - q) = n by omega]
    · rw [if_neg h, show n + 1 - 1 - q = 0 by omega, show n - 1 - q = 0 by omega]
      rfl
/-- all rows but the empty one, in a field of a and b -/
def S : Nat → Nat → Nat
  | 0 => fun _ => 0
  | a + 1 => fun b => S a b + sm b fun j => 1 + S a j
theorem S_is : ∀ (a b : Nat), S a b = sm a fun i => sm b fun j => 1 + S i j
  | 0, _ => rfl
  | a + 1, b => by
    show S a b + _ = sm a _ + _
    rw [S_is a b]
theorem S_left : ∀ (i j a b : Nat), i ≤ a → j ≤ b → S i j ≤ S a b := by
  have one : ∀ (b : Nat) (f : Nat → Nat) (j : Nat), j ≤ b → sm j f ≤ sm b f := by
    intro b f j h
    induction b with
    | zero => rw [show j = 0 by omega]; exact Nat.le_refl _
    | succ b ih =>
      by_cases e : j = b + 1
      · rw [e]; exact Nat.le_refl _
      · have := ih (by omega)
        rw [sm]
        omega
  intro i j a b hi hj
  rw [S_is, S_is]
  exact Nat.le_trans (sm_le fun k _ => one b _ j hj) (one a _ i hi)
variable {M : Nat → Nat → Bool} {n m : Nat}
/-- the matches -/
def rowM (m : Nat) (c : Nat → Bool) (i : Nat) : List Pr := ((List.range m).filter c).map fun j => (i, j)
def psL (M : Nat → Nat → Bool) (n m : Nat) : List Pr := (List.range n).flatMap fun i => rowM m (M i) i
theorem psL_mem (p : Pr) : p ∈ psL M n m ↔ (p.1 < n ∧ p.2 < m ∧ M p.1 p.2 = true) := by
  obtain ⟨i, j⟩ := p
  unfold psL rowM
  simp only [List.mem_flatMap, List.mem_range, List.mem_map, List.mem_filter]
  constructor
  · rintro ⟨i', h1, j', ⟨h2, h3⟩, e⟩
    cases e
    exact ⟨h1, h2, h3⟩
  · rintro ⟨h1, h2, h3⟩
    exact ⟨i, h1, j, ⟨h2, h3⟩, rfl⟩
theorem sum_row {c : Nat → Bool} {d : Pr → Bool} {w : Pr → Nat} {i : Nat} : ∀ {m : Nat}, (((rowM m c i).filter d).map w).sum ≤ sm m fun j => if d (i, j) = true then w (i, j) else 0
  | 0 => by simp [rowM, sm]
  | m + 1 => by
    have ih := sum_row (c := c) (d := d) (w := w) (i := i) (m := m)
    have e : rowM (m + 1) c i = rowM m c i ++ (if c m = true then [(i, m)] else []) := by
      unfold rowM
      rw [List.range_succ, List.filter_append, List.map_append]
      congr 1
      by_cases h : c m = true
      · rw [if_pos h]
        simp [h]
      · rw [if_neg h]
        simp [h]
    rw [e, List.filter_append, List.map_append, List.sum_append, sm]
    refine Nat.add_le_add ih ?_
    by_cases h : c m = true
    · rw [if_pos h]
      by_cases h2 : d (i, m) = true
      · rw [if_pos h2]
        simp [h2]
      · rw [if_neg h2]
        simp [h2]
    · rw [if_neg h]
      simp
theorem sum_all {d : Pr → Bool} {w : Pr → Nat} : ∀ {n : Nat}, (((psL M n m).filter d).map w).sum ≤ sm n fun i => sm m fun j => if d (i, j) = true then w (i, j) else 0
  | 0 => by simp [psL, sm]
  | n + 1 => by
    have ih := sum_all (d := d) (w := w) (n := n)
    have e : psL M (n + 1) m = psL M n m ++ rowM m (M n) n := by
      unfold psL
      rw [List.range_succ, List.flatMap_append]
      simp
    rw [e, List.filter_append, List.map_append, List.sum_append, sm]
    exact Nat.add_le_add ih sum_row
/-- how many rows a row can still become, itself too -/
def wt (n m : Nat) (row : List Pr) : Nat := match row.getLast? with
  | none => 1 + S n m
  | some q => 1 + S (n - 1 - q.1) (m - 1 - q.2)
theorem wt_snoc {row : List Pr} {p : Pr} : wt n m (row ++ [p]) = 1 + S (n - 1 - p.1) (m - 1 - p.2) := by
  unfold wt
  rw [List.getLast?_append]
  rfl
theorem wt_next (row : List Pr) : (((psL M n m).filter (okNext row)).map fun p => wt n m (row ++ [p])).sum + 1 ≤ wt n m row := by
  have e : (fun p : Pr => wt n m (row ++ [p])) = fun p => 1 + S (n - 1 - p.1) (m - 1 - p.2) := funext fun p => wt_snoc
  rw [e]
  refine Nat.le_trans (Nat.succ_le_succ sum_all) ?_
  rcases snoc (l := row) with rfl | ⟨r, q, rfl⟩
  · show sm n (fun i => sm m fun j => if true = true then 1 + S (n - 1 - i) (m - 1 - j) else 0) + 1 ≤ 1 + S n m
    rw [S_is n m]
    have : sm n (fun i => sm m fun j => if true = true then 1 + S (n - 1 - i) (m - 1 - j) else 0) = sm n fun i => sm m fun j => 1 + S i j := by
      rw [← sm_rev (n := n) (f := fun i => sm m fun j => 1 + S i j)]
      refine sm_eq fun i _ => ?_
      rw [← sm_rev (n := m) (f := fun j => 1 + S (n - 1 - i) j)]
      exact sm_eq fun j _ => if_pos rfl
    omega
  · have hd : ∀ p, okNext (r ++ [q]) p = bhB q p := fun p => by
      unfold okNext
      rw [List.getLast?_append]
      rfl
    rw [wt_snoc, S_is (n - 1 - q.1)]
    have : sm n (fun i => sm m fun j => if okNext (r ++ [q]) (i, j) = true then 1 + S (n - 1 - i) (m - 1 - j) else 0) = sm (n - 1 - q.1) fun i => sm (m - 1 - q.2) fun j => 1 + S i j := by
      have h1 : ∀ i, i < n → (sm m fun j => if okNext (r ++ [q]) (i, j) = true then 1 + S (n - 1 - i) (m - 1 - j) else 0) = if q.1 < i then sm (m - 1 - q.2) (fun j => 1 + S (n - 1 - i) j) else 0 := fun i _ => by
        by_cases hi : q.1 < i
        · rw [if_pos hi, ← sm_rev (n := m - 1 - q.2), show (sm (m - 1 - q.2) fun j => 1 + S (n - 1 - i) (m - 1 - q.2 - 1 - j)) = sm (m - 1 - q.2) fun k => (fun j => 1 + S (n - 1 - i) (m - 1 - j)) (q.2 + 1 + k) from sm_eq fun j _ => by
            show 1 + S (n - 1 - i) (m - 1 - q.2 - 1 - j) = 1 + S (n - 1 - i) (m - 1 - (q.2 + 1 + j))
            rw [show m - 1 - q.2 - 1 - j = m - 1 - (q.2 + 1 + j) by omega], ← sm_behind (q := q.2) (n := m) (f := fun j => 1 + S (n - 1 - i) (m - 1 - j))]
          refine sm_eq fun j _ => ?_
          rw [hd]
          by_cases hj : q.2 < j
          · rw [if_pos hj, if_pos (by simp [bhB, hi, hj])]
          · rw [if_neg hj, if_neg (by simp [bhB, hj])]
        · rw [if_neg hi]
          rw [show (fun j => if okNext (r ++ [q]) (i, j) = true then 1 + S (n - 1 - i) (m - 1 - j) else 0) = fun _ => 0 from funext fun j => if_neg (by rw [hd]; simp [bhB, hi])]
          exact sm_zero
      rw [sm_eq h1, sm_behind, ← sm_rev (n := n - 1 - q.1) (f := fun i => sm (m - 1 - q.2) fun j => 1 + S i j)]
      refine sm_eq fun i hi => sm_eq fun j _ => ?_
      rw [show n - 1 - (q.1 + 1 + i) = n - 1 - q.1 - 1 - i by omega]
    rw [this]
    omega
theorem rows_wt : ∀ k : Nat, ((rowsOf (psL M n m) k).map (wt n m)).sum ≤ 1 + S n m
  | 0 => by
    rw [rowsOf]
    simp [wt]
  | k + 1 => by
    refine Nat.le_trans ?_ (rows_wt k)
    rw [rowsOf]
    generalize rowsOf (psL M n m) k = rows
    induction rows with
    | nil => simp [longer]
    | cons row rows ih =>
      have h := wt_next (M := M) (n := n) (m := m) row
      have e : longer (psL M n m) (row :: rows) = ((psL M n m).filter (okNext row)).map (fun p => row ++ [p]) ++ longer (psL M n m) rows := by
        unfold longer
        rw [List.flatMap_cons]
      rw [e, List.map_append, List.sum_append, List.map_map, List.map_cons, List.sum_cons]
      have h' : (((psL M n m).filter (okNext row)).map (wt n m ∘ fun p => row ++ [p])).sum + 1 ≤ wt n m row := h
      omega
theorem rows_many (k : Nat) : (rowsOf (psL M n m) k).length ≤ 1 + S n m := by
  refine Nat.le_trans ?_ (rows_wt (M := M) (n := n) (m := m) k)
  generalize rowsOf (psL M n m) k = rows
  induction rows with
  | nil => simp
  | cons row rows ih =>
    rw [List.map_cons, List.sum_cons, List.length_cons]
    have : 1 ≤ wt n m row := by
      unfold wt
      split <;> omega
    omega
theorem S_seven : S 7 7 = 3431 := by decide +kernel
end KL

/-! Matches of two texts, by the law. -/
namespace K56
open PySem PySem.Spec PyProof.Rows L2 KD KL
variable {P : Program} {w : World} {K : PySem.W.Frag} {mg : Str → Option Value} {base : Heap}
def prD (p : Pr) : PyData := .tuple [.int (p.1 : Nat), .int (p.2 : Nat)]
def rowD (l : List Pr) : PyData := .list (l.map prD)
def wAt (ws : List Str) (i : Nat) : Str := ws.getD i default
/-- the words at i and at j are the same -/
def Mw (ws vs : List Str) : Nat → Nat → Bool := fun i j => decide (wAt vs j = wAt ws i)
def matchL (ws vs : List Str) : List Pr := psL (Mw ws vs) ws.length vs.length
theorem eqv_str (a b : Str) : PyData.eqv (.str a) (.str b) = decide (a = b) := by
  have := eqv_strs [a] [b]
  simpa [PyData.eqvAll] using this
theorem enum_range (vs : List Str) : enumD (vs.map PyData.str) = (List.range vs.length).map fun j => .tuple [.int (j : Nat), .str (wAt vs j)] := by
  apply List.ext_getElem?
  intro j
  by_cases h : j < vs.length
  · have e : (vs.map PyData.str)[j]? = some (.str vs[j]) := by rw [List.getElem?_map, List.getElem?_eq_getElem h]; rfl
    rw [enumD_get e, List.getElem?_map, List.getElem?_range h]
    simp [wAt, List.getD_eq_getElem?_getD, List.getElem?_eq_getElem h]
  · rw [List.getElem?_eq_none (by rw [enumD_len, List.length_map]; omega), List.getElem?_eq_none (by rw [List.length_map, List.length_range]; omega)]
theorem enum_at {ws : List Str} {i : Nat} {d : PyData} (h : (enumD (ws.map PyData.str))[i]? = some d) : i < ws.length ∧ d = .tuple [.int (i : Nat), .str (wAt ws i)] := by
  rw [enum_range, List.getElem?_map] at h
  have hi : i < ws.length := by
    by_cases hi : i < ws.length
    · exact hi
    · rw [List.getElem?_eq_none (by rw [List.length_range]; omega)] at h
      cases h
  rw [List.getElem?_range hi] at h
  exact ⟨hi, (Option.some.inj h).symm⟩
theorem row_data (ws vs : List Str) (i : Nat) : (((enumD (vs.map PyData.str)).filter fun d => PyData.eqv (it d 1) (.str (wAt ws i))).map fun d => PyData.tuple [.int (i : Nat), it d 0]) = (rowM vs.length (Mw ws vs i) i).map prD := by
  rw [enum_range, List.filter_map, List.map_map]
  unfold rowM
  rw [List.map_map]
  have : ((fun d => PyData.eqv (it d 1) (.str (wAt ws i))) ∘ fun j : Nat => PyData.tuple [.int (j : Nat), .str (wAt vs j)]) = Mw ws vs i := funext fun j => by
    show PyData.eqv (.str (wAt vs j)) (.str (wAt ws i)) = decide (wAt vs j = wAt ws i)
    rw [eqv_str]
  rw [this]
  rfl
theorem rowM_len {m i : Nat} {c : Nat → Bool} : (rowM m c i).length ≤ m := by
  unfold rowM
  rw [List.length_map]
  exact Nat.le_trans (List.length_filter_le _ _) (by rw [List.length_range]; exact Nat.le_refl _)
theorem psL_succ (M : Nat → Nat → Bool) (n m : Nat) : psL M (n + 1) m = psL M n m ++ rowM m (M n) n := by
  unfold psL
  rw [List.range_succ, List.flatMap_append]
  simp
theorem psL_len (M : Nat → Nat → Bool) (m : Nat) : ∀ n, (psL M n m).length ≤ n * m
  | 0 => by simp [psL]
  | n + 1 => by
    have := psL_len M m n
    have := rowM_len (m := m) (i := n) (c := M n)
    rw [psL_succ, List.length_append, Nat.succ_mul]
    omega
theorem envUn' {X : Addr → Prop} {H : Hp} {σ : L2.St} {Γ : List Sv} (E : EnvOk X H σ Γ) (i : Nat) : EnvOk X H σ (Γ.set i .un) := ⟨by rw [List.length_set]; exact E.len, fun j s e => by
  rw [List.getElem?_set] at e
  split at e
  · split at e
    · cases e
      trivial
    · cases e
  · exact E.get j s e⟩
theorem k_drop1 {te : TE} {D : Ends} {σ : L2.St} {H : Hp} (h : tSeq (tDrop te) (fun D σ H => D.nx σ H) D σ H) : tDrop te D σ H := h
abbrev s__law_m_behind : Stmt := topS 34
abbrev n__law_m_behind : List Str := ["_law_pair", "_law_near"]
theorem sc__law_m_behind : FnScope n__law_m_behind ["_law_pair", "_law_near"] (defScope s__law_m_behind) := ⟨rfl, rfl, rfl, by decide +kernel, rfl, by decide +kernel, by decide +kernel⟩
def pr2 (a b : PyData) : Prop := ∃ p q : Pr, a = prD p ∧ b = prD q
def prOf (a : PyData) : Pr := ((intOf (it a 0)).toNat, (intOf (it a 1)).toNat)
theorem prOf_prD (p : Pr) : prOf (prD p) = p := by
  obtain ⟨i, j⟩ := p
  rfl
theorem ok_behind {f : Addr} {fd : FuncData} (F : Fun K "_law_m_behind" "_law_m_behind" s__law_m_behind f fd) (T : Bl mg) : FnOk P w K mg base CX0 1 f fd ["_law_pair", "_law_near"] (sp2 pr2 fun a b => .bool (bhB (prOf b) (prOf a))) := by
  refine ok2 F sc__law_m_behind (by decide) fun cdv A outer s H E X d1 d2 Q hr t hp q => ⟨_, (pss_one (ps_ret (pe_and (pe_cmpR op_gt (pe_ix ix_seq (pv 0) pe_int (fun _ _ => rfl)) (pe_ix ix_seq (pv 1) pe_int (fun _ _ => rfl)) (nomark _)) (pe_one (pe_cmpR op_gt (pe_ix ix_seq (pv 0) pe_int (fun _ _ => rfl)) (pe_ix ix_seq (pv 1) pe_int (fun _ _ => rfl)) (nomark _)))))), fun σ En => ?_⟩
  obtain ⟨⟨i, j⟩, ⟨k, l⟩, rfl, rfl⟩ := hp
  refine s_ret (X := X) (g_is (g_and (a := decide (((k : Nat) : Int) < ((i : Nat) : Int))) (b := decide (((l : Nat) : Int) < ((j : Nat) : Int))) ?_ fun _ => ?_) ?_) q
  · exact g_op t (g_ixT t (g_var (i := 0) (d := prD (i, j)) En rfl) g_int rfl) (g_ixT t (g_var (i := 1) (d := prD (k, l)) En rfl) g_int rfl) fun H1 u v _ ru rv Q q => ⟨(i : Nat), (k : Nat), ru.int_inv, rv.int_inv, q _ H1 (Same.refl H1) (.bl _)⟩
  · exact g_op t (g_ixT t (g_var (i := 0) (d := prD (i, j)) En rfl) g_int rfl) (g_ixT t (g_var (i := 1) (d := prD (k, l)) En rfl) g_int rfl) fun H1 u v _ ru rv Q q => ⟨(j : Nat), (l : Nat), ru.int_inv, rv.int_inv, q _ H1 (Same.refl H1) (.bl _)⟩
  · rw [prOf_prD, prOf_prD]
    simp [bhB]
-- HINT _law_m_matches lctt#1 tTest (tOp (rEqD K) (tVar 6) (tVar 4))
abbrev s__law_m_matches : Stmt := topS 33
abbrev n__law_m_matches : List Str := ["_law_one", "_law_other", "_law_found", "_law_at", "_law_words", "_law_to", "_law_near"]
theorem sc__law_m_matches : FnScope n__law_m_matches ["_law_one", "_law_other"] (defScope s__law_m_matches) := ⟨rfl, rfl, rfl, by decide +kernel, rfl, by decide +kernel, by decide +kernel⟩
def ws2 (a b : PyData) : Prop := ∃ ws vs : List Str, a = wsD ws ∧ b = wsD vs ∧ ws.length ≤ 100 ∧ vs.length ≤ 100 ∧ WsOk ws ∧ WsOk vs
theorem wAt_ok {ws : List Str} (h : WsOk ws) {i : Nat} (hi : i < ws.length) : PyData.strOk (wAt ws i) = true := by
  unfold wAt
  rw [List.getD_eq_getElem?_getD, List.getElem?_eq_getElem hi]
  exact h.2 _ (List.getElem_mem hi)
theorem ok_matches {f : Addr} {fd : FuncData} (F : Fun K "_law_m_matches" "_law_m_matches" s__law_m_matches f fd) (T : Bl mg) : FnOk P w K mg base CX0 1 f fd ["_law_one", "_law_other"] (sp2 ws2 fun a b => rowD (matchL (wsOf a) (wsOf b))) := by
  refine ok2 F sc__law_m_matches (by decide) fun cdv A outer s H E X d1 d2 Q hr t hp q => ⟨_, (pss_cons (ps_set (i := 2) sc__law_m_matches.nd rfl (by first | exact Or.inl rfl | exact Or.inr rfl) (pe_lst pa_nil))
    (pss_cons (ps_for PassesOwn.never rfl (pi_enum (by rfl) T.b_enumerate (pa_cons (pv 0) pa_nil)) (pg_tup (n := 2) rfl (pgs_cons (pg_name (i := 3) sc__law_m_matches.nd rfl (by first | exact Or.inl rfl | exact Or.inr rfl)) (pgs_cons (pg_name (i := 4) sc__law_m_matches.nd rfl (by first | exact Or.inl rfl | exact Or.inr rfl)) pgs_nil)))
    (pss_one (ps_expr (pe_bm PySem.F.plainAttrs_list PySem.F.slot_list_extend PySem.F.type_list_extend mt_extend (pv 2) (pa_cons (pe_lc (own := [("_law_to", 5), ("_law_near", 6)]) (g := (gTup K 2 (gCons (gName 5) (gCons (gName 6) gNil)))) (tt := tTest (tOp (rEqD K) (tVar 6) (tVar 4))) rfl sc__law_m_matches.nd (pi_enum (by rfl) T.b_enumerate (pa_cons (pv 1) pa_nil)) (blkOk_by (N := n__law_m_matches) (sc := defScope s__law_m_matches) (by decide +kernel)) (fun _ _ _ _ _ => (pg_tup (n := 2) rfl (pgs_cons (pg_name (i := 5) sc__law_m_matches.nd rfl (by first | exact Or.inl rfl | exact Or.inr rfl)) (pgs_cons (pg_name (i := 6) sc__law_m_matches.nd rfl (by first | exact Or.inl rfl | exact Or.inr rfl)) pgs_nil)))) (fun _ _ _ _ _ => (pts_one (pt_cmpR (op_eqD hr.units) (pv 6) (pv 4) (nomark _)))) (fun _ _ _ _ _ => (pe_tup (pa_cons (pv 3) (pa_cons (pv 5) pa_nil))))) pa_nil)))))
    (pss_one (ps_ret (pv 2))))), fun σ En => ?_⟩
  obtain ⟨ws, vs, rfl, rfl, l1, l2, k1, k2⟩ := hp
  rw [wsOf_wsD, wsOf_wsD] at q
  refine k_own (i := 2) En t (gn_lst t ga_nil (by simp)) fun L H1 xs hL s1 h1 x1 E1 t1 => ?_
  have nX : ¬ X L := t.new hL
  let X' : Addr → Prop := fun b => X b ∨ b = L
  refine s_forD (X := X') (gi_enum (g_var (i := 0) (d := wsD ws) E1 rfl)) (fun Hb i σ' H' => Kp X' Hb H' ∧ Trk X' H' ∧ Same H H' ∧ ∃ ys, H' L = some (.lst ys) ∧ DXs X' H' ys ((psL (Mw ws vs) i vs.length).map prD) ∧ EnvOk X' H' σ' [.dat (wsD ws), .dat (wsD vs), .val (.ref L), .un, .un, .un, .un]) ?_ ?_ ?_ ?_
  · intro Hb sb
    exact ⟨Kp.refl, t1.mono sb, s1.trans sb, xs, sb _ _ h1, x1.mono (Kp.of sb), E1.same sb⟩
  · rintro Hb i σ' H' ⟨p1, p2, _⟩
    exact ⟨p1, p2⟩
  · rintro Hb i x d σ' H' H'' sb hd ⟨p1, p2, p3, ys, p4, p5, E⟩ s5 dx
    obtain ⟨hi, rfl⟩ := enum_at hd
    have t5 := p2.mono s5
    refine g_pair dx fun u v q1 q2 => ?_
    have E5 := ((E.same s5).set (i := 3) q1).set (i := 4) q2
    have lp := psL_len (Mw ws vs) vs.length i
    have l5 : i * vs.length ≤ 100 * 100 := Nat.mul_le_mul (by omega) l2
    have lr := rowM_len (m := vs.length) (i := i) (c := Mw ws vs i)
    refine k_drop1 (q_extend (i := 2) (L := L) (es := (rowM vs.length (Mw ws vs i) i).map prD) E5 rfl (.inr rfl) t5 (s5 _ _ p4) (p5.mono (Kp.of s5)) (g_is (g_lc (ds := enumD (vs.map PyData.str)) (Γ2 := fun d => (((((([.dat (wsD ws), .dat (wsD vs), .val (.ref L), .dat (.int (i : Nat)), .dat (.str (wAt ws i)), .un, .un] : List Sv)).set 6 .un).set 5 .un).set 5 (.dat (it d 0))).set 6 (.dat (it d 1)))) (fun d => PyData.eqv (it d 1) (.str (wAt ws i))) (fun d => .tuple [.int (i : Nat), it d 0]) t5 (gi_enum (g_var (i := 1) (d := wsD vs) E5 rfl)) (by rw [enumD_len, List.length_map]; omega) (fun H3 s3 p hp => ?_) (fun X2 H3 σ2 p hp t3 E3 => ?_) (fun X2 H3 σ2 p hp hf t3 E3 => ?_)) (by rw [row_data])) (by rw [List.length_map, List.length_map]; omega) fun H6 ys6 h6 x6 E6 t6 k6 => ?_)
    · obtain ⟨j, hj⟩ := List.mem_iff_getElem?.mp hp
      obtain ⟨_, rfl⟩ := enum_at hj
      exact tgt_pair (E5.same s3) (by decide)
    · obtain ⟨j, hj⟩ := List.mem_iff_getElem?.mp hp
      obtain ⟨hj2, rfl⟩ := enum_at hj
      exact gt_eqD t3 (x := .str (wAt vs j)) (y := .str (wAt ws i)) (g_var (i := 6) E3 rfl) (g_var (i := 4) E3 rfl) rfl rfl (shaped_str (wAt_ok k2 hj2)) (shaped_str (wAt_ok k1 hi))
    · obtain ⟨j, hj⟩ := List.mem_iff_getElem?.mp hp
      obtain ⟨hj2, rfl⟩ := enum_at hj
      exact g_tup t3 (ga_cons (g_var (i := 3) E3 rfl) (ga_cons (g_var (i := 5) (d := .int (j : Nat)) E3 rfl) ga_nil)) (by simp)
    · have kx : Kp X' H'' H6 := fun a o n e => k6 a o (fun z => n (.inr z)) e
      refine ⟨(p1.trans (Kp.of s5)).trans kx, t6, fun a o e => ?_, ys6, h6, ?_, envUn' (envUn' E6 3) 4⟩
      · have n1 : a ≠ L := fun z => by rw [z, hL] at e; cases e
        exact k6 a o n1 (s5 a o (p3 a o e))
      · rw [psL_succ, List.map_append]
        exact x6
  · rintro Hb σ' H' sb ⟨p1, p2, p3, ys, p4, p5, E⟩
    rw [enumD_len, List.length_map] at p5
    have E8 := E.give (i := 2) rfl nX p4 p5
    exact s_ret (X := X) (D := { nx := fun _ H' => Q .non H', rt := Q }) (d := rowD (matchL ws vs)) (g_var (i := 2) E8 rfl) fun w H9 s9 dw => q w H9 (p3.trans s9) dw
end K56

/-! All longest common rows, by the law. -/
namespace K56
open PySem PySem.Spec PyProof.Rows L2 KD KL
variable {P : Program} {w : World} {K : PySem.W.Frag} {mg : Str → Option Value} {base : Heap}
def rowsD (ls : List (List Pr)) : PyData := .list (ls.map rowD)
theorem nd_all : ∀ {ds : List PyData}, (∀ z ∈ ds, noDict z = true) → noDicts ds = true
  | [], _ => by simp [noDicts]
  | d :: ds, h => by simp [noDicts, h d List.mem_cons_self, nd_all fun z hz => h z (List.mem_cons_of_mem _ hz)]
theorem lay_all : ∀ {ds : List PyData}, (∀ z ∈ ds, z.canLay0 = true) → PyData.canLayAll0 ds = true
  | [], _ => by simp [PyData.canLayAll0]
  | d :: ds, h => by simp [PyData.canLayAll0, h d List.mem_cons_self, lay_all fun z hz => h z (List.mem_cons_of_mem _ hz)]
theorem dep_all {k : Nat} : ∀ {ds : List PyData}, (∀ z ∈ ds, z.depth ≤ k) → PyData.depthAll ds ≤ k
  | [], _ => by simp [PyData.depthAll]
  | d :: ds, h => by
    have a := h d List.mem_cons_self
    have b := dep_all fun z hz => h z (List.mem_cons_of_mem _ hz)
    simp only [PyData.depthAll]
    omega
theorem row_mk {l : List Pr} {z : PyData} (h : z ∈ l.map prD) : ∃ p, p ∈ l ∧ z = prD p := by
  obtain ⟨p, hp, rfl⟩ := List.mem_map.mp h
  exact ⟨p, hp, rfl⟩
theorem row_shaped (l : List Pr) : noDict (rowD l) = true ∧ (rowD l).canLay0 = true ∧ (rowD l).depth ≤ 3 := by
  refine ⟨?_, ?_, ?_⟩
  · show noDicts (l.map prD) = true
    refine nd_all fun z hz => ?_
    obtain ⟨p, _, rfl⟩ := row_mk hz
    simp [prD, noDict, noDicts]
  · show PyData.canLay0 (.list (l.map prD)) = true
    simp only [PyData.canLay0]
    refine lay_all fun z hz => ?_
    obtain ⟨p, _, rfl⟩ := row_mk hz
    simp [prD, PyData.canLay0, PyData.canLayAll0]
  · have : PyData.depthAll (l.map prD) ≤ 1 := dep_all fun z hz => by
      obtain ⟨p, _, rfl⟩ := row_mk hz
      simp [prD, PyData.depth, PyData.depthAll]
    show PyData.depth (.list (l.map prD)) ≤ 3
    simp only [PyData.depth]
    omega
theorem shaped_mk {d : PyData} (h : d.canLay0 = true) (h2 : d.depth ≤ 64) : SeqAt.shaped d = true := by
  show (d.canLay0 && decide (d.depth ≤ 64)) = true
  rw [h, decide_eq_true h2]
  rfl
theorem row_sh (l : List Pr) : SeqAt.shaped (rowD l) = true := shaped_mk (row_shaped l).2.1 (by have := (row_shaped l).2.2; omega)
theorem rows_shaped (ls : List (List Pr)) : noDict (rowsD ls) = true ∧ SeqAt.shaped (rowsD ls) = true := by
  have mk : ∀ {z : PyData}, z ∈ ls.map rowD → ∃ l, z = rowD l := fun h => by
    obtain ⟨l, _, rfl⟩ := List.mem_map.mp h
    exact ⟨l, rfl⟩
  refine ⟨?_, shaped_mk ?_ ?_⟩
  · show noDicts (ls.map rowD) = true
    refine nd_all fun z hz => ?_
    obtain ⟨l, rfl⟩ := mk hz
    exact (row_shaped l).1
  · show PyData.canLay0 (.list (ls.map rowD)) = true
    simp only [PyData.canLay0]
    refine lay_all fun z hz => ?_
    obtain ⟨l, rfl⟩ := mk hz
    exact (row_shaped l).2.1
  · have : PyData.depthAll (ls.map rowD) ≤ 3 := dep_all fun z hz => by
      obtain ⟨l, rfl⟩ := mk hz
      exact (row_shaped l).2.2
    show PyData.depth (.list (ls.map rowD)) ≤ 64
    simp only [PyData.depth]
    omega
theorem eqv_nil {ds : List PyData} : PyData.eqv (.list ds) (.list []) = decide (ds = []) := by
  cases ds <;> simp [PyData.eqv, PyData.eqvAll]
theorem atI_last {l : List Pr} {p : Pr} : atI ((l ++ [p]).map prD) (-1) = some (prD p) := by
  unfold atI ixN
  simp
  rw [if_pos (by omega)]
  show (List.map prD l ++ [prD p])[((-1 : Int) + ((l.length : Int) + 1)).toNat]? = some (prD p)
  rw [show ((-1 : Int) + ((l.length : Int) + 1)).toNat = l.length by omega, List.getElem?_append_right (by simp)]
  simp
theorem longer_app (ps : List Pr) (a b : List (List Pr)) : longer ps (a ++ b) = longer ps a ++ longer ps b := by
  unfold longer
  rw [List.flatMap_append]
theorem longer_one (ps : List Pr) (row : List Pr) : longer ps [row] = (ps.filter (okNext row)).map fun p => row ++ [p] := by
  unfold longer
  simp
theorem next_data (ps row : List Pr) : (((ps.map prD).filter fun d => okNext row (prOf d)).map fun d => PyData.list (row.map prD ++ [d])) = ((ps.filter (okNext row)).map fun p => row ++ [p]).map rowD := by
  rw [List.filter_map, List.map_map, List.map_map]
  have : ((fun d => okNext row (prOf d)) ∘ prD) = okNext row := funext fun p => by
    show okNext row (prOf (prD p)) = _
    rw [prOf_prD]
  rw [this]
  congr 1
  funext p
  show PyData.list (row.map prD ++ [prD p]) = .list ((row ++ [p]).map prD)
  rw [List.map_append]
  rfl
theorem g_neg1 {X : Addr → Prop} {σ : L2.St} {H : Hp} : G X (tUn (rU fun i => .int (-i)) (tC (.int 1))) σ H (.int (-1)) := fun H1 s Q q => ⟨1, rfl, q _ H1 (Same.refl H1) (.int _)⟩
theorem k_name {i : Nat} {v : V} {σ : L2.St} {H : Hp} {Ψ : L2.St → Hp → Prop} (h : Ψ (σ.set i (some v)) H) : gName i v σ H Ψ := h
theorem k_set1 {te : TE} {i : Nat} {D : Ends} {σ : L2.St} {H : Hp} (h : te σ H fun v H1 => D.nx (σ.set i (some v)) H1) : tAsg te (gName i) D σ H := h
-- HINT _law_m_longest lctt#1 tOr (tTest (tOp (rEqD K) (tVar 6) (tLst tNil))) (tB (tCall (sp2 pr2 fun a b => .bool (bhB (prOf b) (prOf a))) [] E0 (tCons (tVar 7) (tCons (tOp (rIx K) (tVar 6) (tUn (rU fun i => .int (-i)) (tC (.int 1)))) tNil))))
abbrev s__law_m_longest : Stmt := topS 35
abbrev n__law_m_longest : List Str := ["_law_one", "_law_other", "_law_pairs", "_law_found", "_law_last", "_law_longer", "_law_row", "_law_pair"]
theorem sc__law_m_longest : FnScope n__law_m_longest ["_law_one", "_law_other"] (defScope s__law_m_longest) := ⟨rfl, rfl, rfl, by decide +kernel, rfl, by decide +kernel, by decide +kernel⟩
def ws7 (a b : PyData) : Prop := ∃ ws vs : List Str, a = wsD ws ∧ b = wsD vs ∧ ws.length ≤ 7 ∧ vs.length ≤ 7 ∧ WsOk ws ∧ WsOk vs
def longestL (ws vs : List Str) : List (List Pr) := rowsOf (matchL ws vs) (L (Mw ws vs) ws.length vs.length)
theorem ok_longest {f : Addr} {fd : FuncData} (F : Fun K "_law_m_longest" "_law_m_longest" s__law_m_longest f fd) (T : Bl mg) (O__law_m_matches : Own P w K mg base CX0 1 "_law_m_matches" ["_law_one", "_law_other"] (sp2 ws2 fun a b => rowD (matchL (wsOf a) (wsOf b))))
    (O__law_m_behind : Own P w K mg base CX0 1 "_law_m_behind" ["_law_pair", "_law_near"] (sp2 pr2 fun a b => .bool (bhB (prOf b) (prOf a)))) : FnOk P w K mg base CX0 2 f fd ["_law_one", "_law_other"] (sp2 ws7 fun a b => rowsD (longestL (wsOf a) (wsOf b))) := by
  refine ok2 F sc__law_m_longest (by decide) fun cdv A outer s H E X d1 d2 Q hr t hp q => ⟨_, (pss_cons (ps_par (i := 2) (j := 3) (by rfl) sc__law_m_longest.nd rfl rfl (by decide) rfl rfl (pa_cons (pe_own O__law_m_matches hr (by decide) (by rfl) (pa_cons (pv 0) (pa_cons (pv 1) pa_nil))) (pa_cons (pe_lst (pa_cons (pe_lst pa_nil) pa_nil)) pa_nil)) (by rfl))
    (Evl.pss_cut (ps_while PassesOwn.never (pt_cmpR (op_neD hr.units) (pv 3) (pe_lst pa_nil) (nomark _))
    (pss_cons (ps_par (i := 4) (j := 5) (by rfl) sc__law_m_longest.nd rfl rfl (by decide) rfl rfl (pa_cons (pv 3) (pa_cons (pe_lst pa_nil) pa_nil)) (by rfl))
    (pss_cons (ps_for PassesOwn.never rfl (pi_list (pv 3)) (pg_name (i := 6) sc__law_m_longest.nd rfl (by first | exact Or.inl rfl | exact Or.inr rfl))
    (pss_one (ps_expr (pe_bm PySem.F.plainAttrs_list PySem.F.slot_list_extend PySem.F.type_list_extend mt_extend (pv 5) (pa_cons (pe_lc (own := [("_law_pair", 7)]) (g := (gName 7)) (tt := tOr (tTest (tOp (rEqD K) (tVar 6) (tLst tNil))) (tB (tCall (sp2 pr2 fun a b => .bool (bhB (prOf b) (prOf a))) [] E0 (tCons (tVar 7) (tCons (tOp (rIx K) (tVar 6) (tUn (rU fun i => .int (-i)) (tC (.int 1)))) tNil))))) rfl sc__law_m_longest.nd (pi_list (pv 2)) (blkOk_by (N := n__law_m_longest) (sc := defScope s__law_m_longest) (by decide +kernel)) (fun _ _ _ _ _ => (pg_name (i := 7) sc__law_m_longest.nd rfl (by first | exact Or.inl rfl | exact Or.inr rfl))) (fun _ _ _ _ _ => (pts_one (PW.pt (pw_or (pt_cmpR (op_eqD hr.units) (pv 6) (pe_lst pa_nil) (nomark _)) (pw_or1 (pt_val (pe_own O__law_m_behind hr (by decide) (by rfl) (pa_cons (pv 7) (pa_cons (pe_ix ix_seq (pv 6) (pe_un un_neg pe_int) (fun _ _ => rfl)) pa_nil))))))))) (fun _ _ _ _ _ => (pe_op op_addA (pv 6) (pe_lst (pa_cons (pv 7) pa_nil))))) pa_nil)))))
    (pss_one (ps_set (i := 3) sc__law_m_longest.nd rfl (by first | exact Or.inl rfl | exact Or.inr rfl) (pv 5))))))
    (pss_one (ps_ret (pv 4))))), fun σ En => ?_⟩
  obtain ⟨ws, vs, rfl, rfl, l1, l2, k1, k2⟩ := hp
  rw [wsOf_wsD, wsOf_wsD] at q
  refine k_par (g_call2 t (g_var (i := 0) (d := wsD ws) En rfl) (g_var (i := 1) (d := wsD vs) En rfl) (by exact ⟨ws, vs, rfl, rfl, by omega, by omega, k1, k2⟩) H (Same.refl _) _ fun v1 H1 s1 r1 => g_lst (ds := [.list []]) (t.mono s1) (ga_cons (g_lst (t.mono s1) ga_nil (by simp)) ga_nil) (by simp) H1 (Same.refl _) _ fun v2 H2 s2 r2 => ⟨_, _, rfl, ?_⟩)
  rw [wsOf_wsD, wsOf_wsD] at r1
  have hps : ∀ p : Pr, p ∈ matchL ws vs ↔ (p.1 < ws.length ∧ p.2 < vs.length ∧ Mw ws vs p.1 p.2 = true) := psL_mem
  have hmany : ∀ k, (rowsOf (matchL ws vs) k).length ≤ 3432 := fun k => by
    have h := rows_many (M := Mw ws vs) (n := ws.length) (m := vs.length) k
    have h2 := S_left ws.length vs.length 7 7 l1 l2
    rw [S_seven] at h2
    show (rowsOf (psL (Mw ws vs) ws.length vs.length) k).length ≤ 3432
    omega
  have lps : (matchL ws vs).length ≤ 49 := by
    have h := psL_len (Mw ws vs) vs.length ws.length
    have h2 : ws.length * vs.length ≤ 7 * 7 := Nat.mul_le_mul l1 l2
    show (psL (Mw ws vs) ws.length vs.length).length ≤ 49
    omega
  have hnone : ∀ k, rowsOf (matchL ws vs) k = [] ↔ L (Mw ws vs) ws.length vs.length < k := fun k => rows_none hps
  unfold longestL at q
  generalize hT : L (Mw ws vs) ws.length vs.length = tot at q hnone
  generalize matchL ws vs = ps at *
  have E2 : EnvOk X H2 _ [.dat (wsD ws), .dat (wsD vs), .dat (rowD ps), .dat (rowsD [[]]), .un, .un, .un, .un] := ((En.same (s1.trans s2)).set (i := 2) (r1.mono (Kp.of s2))).set (i := 3) (d := rowsD [[]]) r2
  let Γ (k : Nat) (x : Sv) : List Sv := [.dat (wsD ws), .dat (wsD vs), .dat (rowD ps), .dat (rowsD (rowsOf ps k)), x, .un, .un, .un]
  let J : Nat → L2.St → Hp → Prop := fun l σ' H' => ∃ k x, l = tot + 1 - k ∧ k ≤ tot + 1 ∧ (k = 0 ∨ x = .dat (rowsD (rowsOf ps (k - 1)))) ∧ Same H H' ∧ EnvOk X H' σ' (Γ k x)
  refine ⟨fun σ' H' => Same H H' ∧ ∃ y, EnvOk X H' σ' [.dat (wsD ws), .dat (wsD vs), .dat (rowD ps), y, .dat (rowsD (rowsOf ps tot)), .un, .un, .un], ⟨J, ⟨_, 0, .un, rfl, by omega, .inl rfl, s1.trans s2, E2⟩, ?_⟩, ?_⟩
  rotate_left
  · rintro σ' H' ⟨p1, y, E⟩
    exact s_ret (X := X) (D := { nx := fun _ H' => Q .non H', rt := Q }) (d := rowsD (rowsOf ps tot)) (g_var (i := 4) E rfl) fun w H9 s9 dw => q w H9 (p1.trans s9) dw
  rintro l σ' H3 ⟨k, x, rfl, hk, hx, p1, E3⟩
  have t3 := t.mono p1
  obtain ⟨nd, sh⟩ := rows_shaped (rowsOf ps k)
  refine gt_neD t3 (x := rowsD (rowsOf ps k)) (y := .list []) (g_var (i := 3) E3 rfl) (g_lst t3 ga_nil (by simp)) nd rfl sh rfl H3 (Same.refl _) _ fun H4 s4 => ?_
  have E4 := E3.same s4
  have p4 := p1.trans s4
  have t4 := t.mono p4
  have eq : PyData.eqv (rowsD (rowsOf ps k)) (.list []) = decide (rowsOf ps k = []) := by
    show PyData.eqv (.list _) _ = _
    rw [eqv_nil]
    simp
  rw [eq]
  by_cases h0 : rowsOf ps k = []
  · rw [decide_eq_true h0]
    show (if (false : Bool) = true then _ else _)
    rw [if_neg (by simp)]
    have := (hnone k).mp h0
    have ek : k = tot + 1 := by omega
    subst ek
    rcases hx with hx | rfl
    · omega
    · exact ⟨p4, _, E4⟩
  rw [decide_eq_false h0]
  show (if (true : Bool) = true then _ else _)
  rw [if_pos rfl]
  have hkt : k < tot + 1 := by
    by_cases h : tot < k
    · exact absurd ((hnone k).mpr h) h0
    · omega
  refine ⟨fun σ' H' => ∃ l', l' < tot + 1 - k ∧ J l' σ' H', fun σ' H' h => h, ?_⟩
  -- last, longer
  refine k_par (g_var (i := 3) E4 rfl H4 (Same.refl _) _ fun v5 H5 s5 r5 => ?_)
  refine ⟨by show 0 ≤ sizeLine; omega, fun A hA => ⟨_, _, rfl, ?_⟩⟩
  have p5 := p4.trans s5
  have t5 := t.mono p5
  have nX : ¬ X A := t5.new hA
  have s6 : Same H5 (upd H5 A (.lst [])) := Same.upd hA
  let X' : Addr → Prop := fun b => X b ∨ b = A
  have t6 : Trk X' (upd H5 A (.lst [])) := t5.one hA
  have E6 : EnvOk X' (upd H5 A (.lst [])) _ [.dat (wsD ws), .dat (wsD vs), .dat (rowD ps), .dat (rowsD (rowsOf ps k)), .dat (rowsD (rowsOf ps k)), .val (.ref A), .un, .un] := ((((E4.same s5).set (i := 4) r5).more (More.one hA)).same s6).setV (i := 5) (v := .ref A)
  have hmk := hmany (k + 1)
  have hmk0 := hmany k
  have e1 : rowsOf ps (k + 1) = longer ps (rowsOf ps k) := rfl
  generalize hrows : rowsOf ps k = rows at *
  refine s_forD (X := X') (gi_list (g_var (i := 3) (d := rowsD rows) E6 rfl)) (fun Hb i σ' H' => Kp X' Hb H' ∧ Trk X' H' ∧ Same H5 H' ∧ ∃ ys, H' A = some (.lst ys) ∧ DXs X' H' ys ((longer ps (rows.take i)).map rowD) ∧ EnvOk X' H' σ' [.dat (wsD ws), .dat (wsD vs), .dat (rowD ps), .dat (rowsD rows), .dat (rowsD rows), .val (.ref A), .un, .un]) ?_ ?_ ?_ ?_
  · intro Hb sb
    exact ⟨Kp.refl, t6.mono sb, s6.trans sb, [], sb _ _ upd_same, .nil, E6.same sb⟩
  · rintro Hb i σ' H' ⟨p1, p2, _⟩
    exact ⟨p1, p2⟩
  · rintro Hb i x d σ' H' H'' sb hd ⟨q1, q2, q3, ys, q4, q5, E⟩ s7 dx
    rw [List.getElem?_map] at hd
    obtain ⟨row, hrow, rfl⟩ := Option.map_eq_some_iff.mp hd
    have hi := (List.getElem?_eq_some_iff.mp hrow).1
    have t7 := q2.mono s7
    refine k_name ?_
    have E7 := (E.same s7).set (i := 6) dx
    have lrow : row.length ≤ 7 := by
      obtain ⟨z1, z2, _⟩ := rows_sound hps k row (by rw [hrows]; exact List.mem_of_getElem? hrow)
      have := len_fst (lo := 0) (hi := ws.length) z1 fun p hp => ⟨by omega, (z2 p hp).1⟩
      omega
    have etake : longer ps (rows.take (i + 1)) = longer ps (rows.take i) ++ (ps.filter (okNext row)).map fun p => row ++ [p] := by
      rw [List.take_add_one, hrow, Option.toList_some, longer_app, longer_one]
    have ltake : (longer ps (rows.take i)).length + ((ps.filter (okNext row)).map fun p => row ++ [p]).length ≤ 3432 := by
      rw [← List.length_append, ← etake]
      have : longer ps rows = longer ps (rows.take (i + 1)) ++ longer ps (rows.drop (i + 1)) := by rw [← longer_app, List.take_append_drop]
      rw [e1, this, List.length_append] at hmk
      omega
    refine k_drop1 (q_extend (i := 5) (L := A) (es := ((ps.filter (okNext row)).map fun p => row ++ [p]).map rowD) E7 rfl (.inr rfl) t7 (s7 _ _ q4) (q5.mono (Kp.of s7)) (g_is (g_lc (ds := ps.map prD) (Γ2 := fun d => (([.dat (wsD ws), .dat (wsD vs), .dat (rowD ps), .dat (rowsD rows), .dat (rowsD rows), .val (.ref A), .dat (rowD row), .un] : List Sv).set 7 .un).set 7 (.dat d)) (fun d => okNext row (prOf d)) (fun d => .list (row.map prD ++ [d])) t7 (gi_list (g_var (i := 2) (d := rowD ps) E7 rfl)) (by rw [List.length_map]; omega) (fun H3 s3 p hp => tgt_name (E7.same s3)) (fun X2 H3 σ2 z hz t3 E3 => ?_) (fun X2 H3 σ2 z hz hf t3 E3 => ?_)) (by rw [next_data])) (by rw [List.length_map, List.length_map]; omega) fun H8 ys8 h8 x8 E8 t8 k8 => ?_)
    · obtain ⟨p, hp, rfl⟩ := row_mk hz
      rcases snoc (l := row) with rfl | ⟨r, qq, rfl⟩
      · exact gt_is (gt_or (a := true) (b := true) (gt_is (gt_eqD t3 (x := rowD []) (y := .list []) (g_var (i := 6) E3 rfl) (g_lst t3 ga_nil (by simp)) rfl rfl rfl rfl) rfl) (fun h => by cases h)) rfl
      · refine gt_is (gt_or (a := false) (gt_is (gt_eqD t3 (x := rowD (r ++ [qq])) (y := .list []) (g_var (i := 6) E3 rfl) (g_lst t3 ga_nil (by simp)) (row_shaped _).1 rfl (row_sh _) rfl) (by show PyData.eqv (.list _) _ = _; rw [eqv_nil]; simp)) fun _ => gt_B (g_call2 t3 (g_var (i := 7) (d := prD p) E3 rfl) (g_ixL t3 (g_var (i := 6) (d := rowD (r ++ [qq])) E3 rfl) g_neg1 atI_last) (by exact ⟨p, qq, rfl, rfl⟩))) ?_
        rw [prOf_prD, prOf_prD]
        unfold okNext
        rw [List.getLast?_append]
        rfl
    · exact g_cat t3 (g_var (i := 6) (d := rowD row) E3 rfl) (g_lst t3 (ga_cons (g_var (i := 7) E3 rfl) ga_nil) (by simp)) (by rw [List.length_map]; show row.length + 1 ≤ _; omega)
    · have kx : Kp X' H'' H8 := fun a o n e => k8 a o (fun z => n (.inr z)) e
      refine ⟨(q1.trans (Kp.of s7)).trans kx, t8, fun a o e => ?_, ys8, h8, ?_, envUn' E8 6⟩
      · have n1 : a ≠ A := fun z => by rw [z, hA] at e; cases e
        exact k8 a o n1 (s7 a o (q3 a o e))
      · rw [etake, List.map_append]
        exact x8
  · rintro Hb σ' H' sb ⟨q1, q2, q3, ys, q4, q5, E⟩
    rw [List.length_map, List.take_length] at q5
    have E8 := E.give (i := 5) rfl nX q4 q5
    refine k_set1 (g_var (i := 5) (d := rowsD (longer ps rows)) E8 rfl H' (Same.refl _) _ fun v9 H9 s9 r9 => ?_)
    have E9 := (E8.same s9).set (i := 3) r9
    exact ⟨_, by omega, k + 1, .dat (rowsD rows), rfl, by omega, .inr (by rw [Nat.add_sub_cancel, hrows]), (p5.trans q3).trans s9, by
      have z := envUn' E9 5
      rw [← e1] at z
      exact z⟩
end K56

/-! enumerate of a tuple, and of what is a list or a tuple. -/
namespace KD
open PySem PySem.Spec PyProof.Rows L2
open AutoSeq1 (wpAny_loadPart')
theorem newT (l : Addr) (its : Array Value) (n : Nat) (dc : Option Addr) (sl : Array (Option Value)) : Meets (Builtin.«enumerate.__new__» ⟨[.type "enumerate", .ref l], []⟩) (fun _ R s =>
    s.heap.get? l = some ⟨.type "tuple", dc, .seq its n, sl⟩ ∧ R (.ok (.ret (.ref (s.heap.push ⟨.type "tuple_iterator", none, .fields #[.ref l, .int 0 0], #[]⟩).objs.size))) { s with heap := (s.heap.push ⟨.type "tuple_iterator", none, .fields #[.ref l, .int 0 0], #[]⟩).push ⟨.type "enumerate", none, .fields #[.none, .bool false, .ref s.heap.objs.size, rawInt 0, .none, .none], #[]⟩ }) :=
  .of_wp fun prog w A R s q => by
    obtain ⟨hp, g, d, tk, os⟩ := s
    obtain ⟨e, q⟩ := q
    have hs := sub_enumerate
    have T : Heap.IsTuple (Shared.heap ⟨hp, g, d, tk, os⟩) l its := ⟨_, e, rfl, n, rfl⟩
    wp_walk using wpAny_loadPart' e
    refine wpAny_stack_any fun st => wpAny_pure ?_
    split
    · rename_i c _ _ _ _ _
      cases c == Value.type "enumerate" <;> (wp_walk using wpAny_loadPart' e, wpAny_pyIter_tuple T; exact ⟨_, rfl, q⟩)
    · wp_walk using wpAny_loadPart' e, wpAny_pyIter_tuple T
      exact ⟨_, rfl, q⟩
section
variable {P : Program} {w : World} {A : Around} {E : Value → Shared → Prop} {s : Shared} {l : Addr} {its : Array Value} {Q : Value → Shared → Prop}
theorem call_enumT (T : s.heap.IsTuple l its) (k : ∀ h', IsEnum h' (s.heap.objs.size + 1) s.heap.objs.size 0 .none → h'.IsTupleIter s.heap.objs.size l 0 → (∀ b o, s.heap.get? b = some o → h'.get? b = some o) → Q (.ref (s.heap.objs.size + 1)) { s with heap := h' }) :
    wpAny (model P w) A (call (.type "enumerate") [.ref l]) Q E s := by
  obtain ⟨⟨c, dc, dt, sl⟩, e, hc, n, hd⟩ := T
  simp only at hc hd
  subst hc
  subst hd
  refine callType_new F.called_enumerate (by decide) (F.typeCall_enumerate_1 _) (F.newCall_enumerate_1 _) (fun v => F.args_object_init_2 v _) F.entry_enumerate_new (newT l its n dc sl) ⟨e, (?_ : _ ∧ _)⟩
  have sz : (s.heap.push ⟨.type "tuple_iterator", none, .fields #[.ref l, .int 0 0], #[]⟩).objs.size = s.heap.objs.size + 1 := Heap.size_push ..
  rw [sz]
  have en := Heap.get?_push_size (s.heap.push ⟨.type "tuple_iterator", none, .fields #[.ref l, .int 0 0], #[]⟩) (o := ⟨.type "enumerate", none, .fields #[.none, .bool false, .ref s.heap.objs.size, rawInt 0, .none, .none], #[]⟩) rfl
  rw [sz] at en
  exact ⟨⟨_, en, rfl⟩, k _ en ⟨_, Heap.get?_push_of_some _ (Heap.get?_push_size _ rfl), rfl, rfl⟩ fun b o q => Heap.get?_push_of_some _ (Heap.get?_push_of_some _ q)⟩
end
/-- the tuple at a, each item in a new pair with its place -/
def ItEt (K : PySem.W.Frag) (a : Addr) (n : Nat) : It where
  go := fun i H => ∃ (xs : List V) (x : V), SqT K H a xs ∧ xs.length = n ∧ xs[i]? = some x
  yld := fun i H v H' => ∃ (T : Addr) (x : V), v = .ref T ∧ H T = none ∧ H' = upd H T (.tup [.int (i : Nat), x]) ∧ ∀ xs, SqT K H a xs → xs[i]? = some x
  stop := fun i H => ∃ xs : List V, SqT K H a xs ∧ xs.length = n ∧ xs.length ≤ i
theorem turn_enumT {P : Program} {w : World} {K : PySem.W.Frag} {elts : List Expr} {kk : Nat} {tpos : Pos} (a e it : Addr) (n : Nat) :
    Turn P w K (.Tuple elts kk tpos) (ItEt K a n) [e, it] e (fun i h => (∃ old, IsEnum h e it ((i : Nat) : Int) old) ∧ h.IsTupleIter it a i ∧ e ≠ it ∧ a ≠ it ∧ i ≤ n) where
  mem := List.mem_cons_self
  obj := fun i h st b hb => by
    obtain ⟨⟨old, he⟩, ⟨o, ho, hc, hd⟩, _⟩ := st
    rcases List.mem_cons.mp hb with z | z
    · subst z
      exact ⟨_, he, fun v q => nomatch q⟩
    · rw [List.mem_singleton.mp z]
      exact ⟨o, ho, fun v q => by rw [hd] at q; cases q⟩
  keep := fun i h h' st k => by
    obtain ⟨⟨old, he⟩, hi, h2, h3⟩ := st
    exact ⟨⟨old, k e List.mem_cons_self _ he⟩, hi.at fun o q => k it (.tail _ List.mem_cons_self) o q, h2, h3⟩
  item := by
    intro X hP hw hK hc i pins s σ H E I hf st hg
    subst hP hw hK
    obtain ⟨⟨old, he⟩, hit, hne, hne2, hle⟩ := st
    obtain ⟨xs, x, hq, hn, hx⟩ := hg
    obtain ⟨its, rv, p, hz⟩ := I.tuple hq
    obtain ⟨u, hu, ru⟩ := rv.get hx
    have hel : e < s.heap.objs.size := Heap.lt_size he
    have hil : it < s.heap.objs.size := by
      obtain ⟨_, q, _⟩ := hit
      exact Heap.lt_size q
    have nea : e ∉ [it, a] := fun q => by
      rcases List.mem_cons.mp q with q | q
      · exact hne q
      · obtain ⟨o, e1, e2, _⟩ := p
        rw [← List.mem_singleton.mp q, he] at e1
        cases e1
        exact absurd (show Value.type "enumerate" = Value.type "tuple" from e2) (by decide)
    have hlt : i < its.toArray.size := by
      rw [List.size_toArray]
      exact (List.getElem?_eq_some_iff.mp hu).1
    have D : Draws X.prog X.w X.A.in1 it [it, a] its.toArray.size _ _ := Draws.tuple (A := X.A.in1) (I.ok.hd hc) it a hne2 its.toArray
    refine wpAny_pyNext_enum_itemD D he ⟨hit, p⟩ hlt hne nea fun y h1 tk hy ho st1 hT hsz hk => ?_
    have ey : y = u := by
      rw [List.getElem?_toArray, hu] at hy
      exact (Option.some.inj hy).symm
    subst ey
    refine ⟨_, rfl, wpAny_letOwnedTupleGo_enum (s := { s with heap := h1, toks := tk + 1 }) ho fun h2 he' sb => ?_⟩
    have hT2 : h2.get? s.heap.objs.size = some { cls := .type "tuple", data := .seq #[.int i tk, y] } := (sb.2 _ (Nat.ne_of_gt hel)).trans hT
    have new : ObjOk X.prog X.w (upd H s.heap.objs.size (.tup [.int (i : Nat), x])) h2 s.heap.objs.size (.tup [.int (i : Nat), x]) := ⟨by show 2 ≤ sizeLine; decide, [.int i tk, y], .cons ⟨_, rfl⟩ (.cons ru .nil), ⟨_, hT2, rfl, _, rfl⟩⟩
    have no : ∀ b, b ∉ [e, it] → b ≠ e ∧ b ≠ it := fun b q => ⟨fun z => q (z ▸ List.mem_cons_self), fun z => q (z ▸ .tail _ List.mem_cons_self)⟩
    have I1 := I.turnedNew (t' := tk + 1) (ch := [e, it]) (fun b ob hb q => (sb.2 b (no b hb).1).trans (hk b ob (no b hb).1 (no b hb).2 q)) hf (Nat.le_refl _) new
    refine ⟨.ref s.heap.objs.size, _, I1, rfl, ⟨_, x, rfl, I.hok.fresh (Nat.le_refl _), rfl, fun ys hy => by rw [I.tuple_inj hy hq]; exact hx⟩, ⟨⟨y, ?_⟩, st1.1.at fun o q => (sb.2 it (Ne.symm hne)).trans q, hne, hne2, by
      have := (List.getElem?_eq_some_iff.mp hx).1
      omega⟩, fun b hb => ?_⟩
    · rw [show ((i + 1 : Nat) : Int) = (i : Int) + 1 by omega]
      exact he'
    · have lt : b < s.heap.objs.size := by
        rcases List.mem_cons.mp hb with z | z
        · rw [z]
          exact hel
        · rw [List.mem_singleton.mp z]
          exact hil
      rw [upd_ne (Nat.ne_of_lt lt)]
      exact (hf b hb).1
  done := by
    intro X hP hw hK hc i pins s σ H E I hf st hg
    subst hP hw hK
    obtain ⟨⟨old, he⟩, hit, hne, hne2, hle⟩ := st
    obtain ⟨xs, hq, hn, hx⟩ := hg
    obtain ⟨its, rv, p, hz⟩ := I.tuple hq
    obtain ⟨f0, f1, f2, f3, f4, f5⟩ := hf it (.tail _ List.mem_cons_self)
    have hl := rv.length
    have nea : e ∉ [it, a] := fun q => by
      rcases List.mem_cons.mp q with q | q
      · exact hne q
      · obtain ⟨o, e1, e2, _⟩ := p
        rw [← List.mem_singleton.mp q, he] at e1
        cases e1
        exact absurd (show Value.type "enumerate" = Value.type "tuple" from e2) (by decide)
    have ei : i = its.toArray.size := by
      rw [List.size_toArray]
      omega
    have D : Draws X.prog X.w X.A.in1 it [it, a] its.toArray.size _ _ := Draws.tuple (A := X.A.in1) (I.ok.hd hc) it a hne2 its.toArray
    exact wpAny_pyNext_enum_endD D he (ei ▸ ⟨hit, p⟩) fun h' eb => ⟨rfl, I.turned (t' := s.toks) (fun b o hb q => eb b o hb q) f0 f1 f3 f4 f5⟩
  self := fun A i s Q E st h => let ⟨⟨_, he⟩, _⟩ := st; wpAny_pyIter_enum he h
/-- a list or a tuple, each item with its place -/
def iEnumQ (K : PySem.W.Frag) (ta : TA) : TI := fun σ H R => ta σ H fun vs H1 => ∃ (a : Addr) (xs : List V), vs = [.ref a] ∧ ((SqL K H1 a xs ∧ R (Ite K a) H1) ∨ (SqT K H1 a xs ∧ R (ItEt K a xs.length) H1))
theorem pi_enumQ {X : Cx} {e : Expr} {ta : TA} {p pos tpos : Pos} {elts : List Expr} {kk : Nat} (hg : Gl X "enumerate") (hm : X.mg "enumerate" = none) (ha : PA X [e] ta) (hs : starEach [e] X.env = [(false, eval e X.env)] := by rfl) :
    PI X (.Tuple elts kk tpos) (.Call (.Name "enumerate" p) [e] [] pos) (iEnumQ X.K ta) := by
  refine ⟨fun pins s σ H R I h => Call_ (ld_blt I hg hm boot_enumerate (PyProof.Rows.callWith_type1 (thn (ha.run pos pins s σ H _ I h) fun us s1 w => ?_) hs rfl))⟩
  obtain ⟨vs, H1, I1, r1, a, xs, rfl, q⟩ := w
  cases r1 with
  | cons r rr =>
    cases rr
    cases r
    have fresh : ∀ b, b ∈ [s1.heap.objs.size + 1, s1.heap.objs.size] → s1.heap.objs.size ≤ b := fun b hb => by
      rcases List.mem_cons.mp hb with z | z
      · rw [z]
        exact Nat.le_succ _
      · rw [List.mem_singleton.mp z]
        exact Nat.le_refl _
    rcases q with ⟨hq, q⟩ | ⟨hq, q⟩
    · obtain ⟨its, rv, p', _⟩ := I1.list hq
      refine call_enumerate_list p'.isList fun h' he hit hz hk => wpAny_pyIter_enum he ?_
      exact ⟨_, [s1.heap.objs.size + 1, s1.heap.objs.size], _, _, H1, rfl, I1.kept (t' := s1.toks) hk, turn_enum a _ _, ⟨⟨.none, he⟩, hit, Nat.succ_ne_self _⟩, fun b hb => I1.fpOk (fresh b hb) (I1.hok.fresh (fresh b hb)), q⟩
    · obtain ⟨its, rv, p', _⟩ := I1.tuple hq
      have na : a ≠ s1.heap.objs.size := by
        obtain ⟨o, e1, _⟩ := p'
        exact Nat.ne_of_lt (Heap.lt_size e1)
      refine call_enumT p' fun h' he hit hk => wpAny_pyIter_enum he ?_
      exact ⟨_, [s1.heap.objs.size + 1, s1.heap.objs.size], _, _, H1, rfl, I1.kept (t' := s1.toks) hk, turn_enumT a _ _ xs.length, ⟨⟨.none, he⟩, hit, Nat.succ_ne_self _, na, Nat.zero_le _⟩, fun b hb => I1.fpOk (fresh b hb) (I1.hok.fresh (fresh b hb)), q⟩
section
variable {K : PySem.W.Frag} {a : Addr} {xs : List V}
theorem walk_enumT : Walk (ItEt K a xs.length) xs.length (fun H => SqT K H a xs) (YPair (fun i => some (.int (i : Nat))) (fun i => xs[i]?)) := by
  refine ⟨fun i _ hi q => ⟨xs, xs[i], q, rfl, by simp [hi]⟩, fun _ q => ⟨xs, q, rfl, Nat.le_refl _⟩, fun i H v H' _ q y => ?_⟩
  obtain ⟨T, x, h1, h2, h3, h4⟩ := y
  exact ⟨T, .int (i : Nat), x, h1, h2, h3, rfl, h4 xs q⟩
end
section
variable {X : Addr → Prop} {H : Hp} {σ : L2.St} {te : TE} {K : PySem.W.Frag} {d : PyData}
theorem gi_enumQ (h : G X te σ H d) (hs : isSeq d = true) : GI X (iEnumQ K (tCons te tNil)) σ H (enumD (itemsD d)) := by
  cases d with
  | list ds =>
    exact fun H1 s R r => h H1 s _ fun v H2 s2 rv => by
      obtain ⟨a, xs, rfl, n, e, rx⟩ := rv.lst_inv
      refine ⟨a, xs, rfl, .inl ⟨SqL.of e, r _ H2 s2 ⟨_, _, by rw [enumD_len, show (itemsD (PyData.list ds)).length = ds.length from rfl, ← rx.length]; exact walk_enum, fun X' m H3 k t => ?_⟩⟩⟩
      have n' : ¬ X' a := fun z => (m a z).elim n fun q => by rw [e] at q; cases q
      refine ⟨SqL.of (k a _ n' e), fun i x H4 y => ?_⟩
      obtain ⟨T, u, w, rfl, hT, rfl, hu, hw⟩ := y
      cases hu
      obtain ⟨d, h1, h2⟩ := rx.getV hw
      exact ⟨Same.upd hT, _, enumD_get h1, DX.newT t (.cons (.int _) (.cons ((h2.grow m).mono k) .nil)) hT⟩
  | tuple ds =>
    exact fun H1 s R r => h H1 s _ fun v H2 s2 rv => by
      obtain ⟨a, xs, rfl, n, e, rx⟩ := rv.tup_inv
      refine ⟨a, xs, rfl, .inr ⟨SqT.of e, r _ H2 s2 ⟨_, _, by rw [enumD_len, show (itemsD (PyData.tuple ds)).length = ds.length from rfl, ← rx.length]; exact walk_enumT, fun X' m H3 k t => ?_⟩⟩⟩
      have n' : ¬ X' a := fun z => (m a z).elim n fun q => by rw [e] at q; cases q
      refine ⟨SqT.of (k a _ n' e), fun i x H4 y => ?_⟩
      obtain ⟨T, u, w, rfl, hT, rfl, hu, hw⟩ := y
      cases hu
      obtain ⟨d, h1, h2⟩ := rx.getV hw
      exact ⟨Same.upd hT, _, enumD_get h1, DX.newT t (.cons (.int _) (.cons ((h2.grow m).mono k) .nil)) hT⟩
  | _ => cases hs
end
end KD

/-! min(xs, default=d), max(xs, default=d): whole numbers. -/
namespace KD
open PySem PySem.W PySem.Spec PyProof.Rows L2
def leastD (d : Int) : List Int → Int
  | [] => d
  | n :: ns => ns.foldl min n
def mostD (d : Int) : List Int → Int
  | [] => d
  | n :: ns => ns.foldl max n
def rMinDef (K : PySem.W.Frag) (g : Int → List Int → Int) : List V → List V → Hp → VK → Prop := fun xs zs H Q => ∃ (a : Addr) (ns : List Int) (d : Int), xs = [.ref a] ∧ zs = [.int d] ∧ SqL K H a (ns.map V.int) ∧ Q (.int (g d ns)) H
section
variable {X : Cx}
theorem ints_alike (ns : List Int) : AlikeAll (ns.map PyData.int) := by
  refine ⟨fun x hx y hy => ?_, fun x hx => ?_⟩
  · obtain ⟨i, _, rfl⟩ := List.mem_map.mp hx
    obtain ⟨j, _, rfl⟩ := List.mem_map.mp hy
    rfl
  · obtain ⟨i, _, rfl⟩ := List.mem_map.mp hx
    simp
theorem ints_reads (h : Heap) : ∀ (ns : List Int) (us : List Value), Vals (ns.map V.int) us → ReadsAll h us (ns.map PyData.int) []
  | [], _, .nil => .nil
  | n :: ns, _, .cons ⟨t, e⟩ r => by
    subst e
    exact .cons (as := []) (.int n t) (ints_reads h ns _ r)
theorem ints_depth : ∀ ns : List Int, PyData.depthAll (ns.map PyData.int) ≤ 1
  | [] => by simp [PyData.depthAll]
  | n :: ns => by
    have := ints_depth ns
    rw [List.map_cons, PyData.depthAll]
    have e : (PyData.int n).depth = 0 := by simp [PyData.depth]
    omega
theorem cr_minDef (hc : X.calm = true) (hu : X.A.units + 64 < cLine) : CallRK X (.builtin "min") [Str.ofString "default"] (rMinDef X.K leastD) := by
  intro pins s σ H vs zs us ws Q I r rz h
  obtain ⟨a, ns, d, rfl, rfl, hs, q⟩ := h
  obtain rfl := Vals.ref1 r
  obtain ⟨w1, rfl, t1, e1⟩ := vals1 rz
  subst e1
  obtain ⟨its, rv, hl, _⟩ := I.list hs
  have hd := ints_depth ns
  refine min_list_default (I.ok.hd hc) hl.isList (by simpa using ints_reads s.heap ns its rv) (ints_alike ns) (by omega) (fun e h' tk hk => ?_) fun y ys i v h' tk bs e hv hr hk => ?_
  · have e2 : ns = [] := List.map_eq_nil_iff.mp e
    subst e2
    exact ⟨.int d, H, I.kept hk, ⟨_, rfl⟩, q⟩
  · match ns, e with
    | n :: ns, e =>
      rw [List.map_cons] at e
      cases e
      rw [minD_ints] at hr
      cases hr
      exact ⟨.int _, H, I.kept hk, ⟨_, rfl⟩, q⟩
theorem cr_maxDef (hc : X.calm = true) (hu : X.A.units + 64 < cLine) : CallRK X (.builtin "max") [Str.ofString "default"] (rMinDef X.K mostD) := by
  intro pins s σ H vs zs us ws Q I r rz h
  obtain ⟨a, ns, d, rfl, rfl, hs, q⟩ := h
  obtain rfl := Vals.ref1 r
  obtain ⟨w1, rfl, t1, e1⟩ := vals1 rz
  subst e1
  obtain ⟨its, rv, hl, _⟩ := I.list hs
  have hd := ints_depth ns
  refine max_list_default (I.ok.hd hc) hl.isList (by simpa using ints_reads s.heap ns its rv) (ints_alike ns) (by omega) (fun e h' tk hk => ?_) fun y ys i v h' tk bs e hv hr hk => ?_
  · have e2 : ns = [] := List.map_eq_nil_iff.mp e
    subst e2
    exact ⟨.int d, H, I.kept hk, ⟨_, rfl⟩, q⟩
  · match ns, e with
    | n :: ns, e =>
      rw [List.map_cons] at e
      cases e
      rw [maxD_ints] at hr
      cases hr
      exact ⟨.int _, H, I.kept hk, ⟨_, rfl⟩, q⟩
end
theorem cr_minDefK {X : Cx} {K : PySem.W.Frag} (h : X.K = K) (hc : X.calm = true) (hu : X.A.units + 64 < cLine) : CallRK X (.builtin "min") [Str.ofString "default"] (rMinDef K leastD) := h ▸ cr_minDef hc hu
section
variable {X : Addr → Prop} {H : Hp} {σ : L2.St} {te td : TE} {K : PySem.W.Frag} {ns : List Int} {d : Int} {g : Int → List Int → Int}
theorem g_minDef (h : G X te σ H (.list (ns.map PyData.int))) (h2 : G X td σ H (.int d)) : G X (tCKw (rMinDef K g) (tCons te tNil) (tCons td tNil)) σ H (.int (g d ns)) := fun H1 s Q q =>
  h H1 s _ fun v H2 s2 r => h2 H2 (s.trans s2) _ fun w H3 s3 r3 => by
    obtain ⟨a, vs, rfl, _, ha, rv⟩ := (r.mono (Kp.of s3)).lst_inv
    exact ⟨a, ns, d, rfl, by rw [r3.int_inv], SqL.of (by rw [← rv.ints]; exact ha), q _ H3 (s2.trans s3) (.int _)⟩
end
theorem foldl_least : ∀ (ns : List Int) (n : Int), ns.foldl min n ∈ n :: ns ∧ ∀ y ∈ n :: ns, ns.foldl min n ≤ y
  | [], n => ⟨List.mem_cons_self, fun y hy => by rw [List.mem_singleton.mp hy]; exact Int.le_refl _⟩
  | m :: ms, n => by
    obtain ⟨a, b⟩ := foldl_least ms (min n m)
    have e : (m :: ms).foldl min n = ms.foldl min (min n m) := rfl
    rw [e]
    refine ⟨?_, fun y hy => ?_⟩
    · rcases List.mem_cons.mp a with h | h
      · rw [h]
        by_cases c : n ≤ m
        · rw [Int.min_eq_left c]
          exact List.mem_cons_self
        · rw [Int.min_eq_right (by omega)]
          exact .tail _ List.mem_cons_self
      · exact .tail _ (.tail _ h)
    · have b0 := b (min n m) List.mem_cons_self
      rcases List.mem_cons.mp hy with rfl | hy
      · omega
      · rcases List.mem_cons.mp hy with rfl | hy
        · omega
        · exact b y (.tail _ hy)
theorem least_is {d : Int} : ∀ {ns : List Int}, ns ≠ [] → leastD d ns ∈ ns ∧ ∀ y ∈ ns, leastD d ns ≤ y
  | [], h => absurd rfl h
  | n :: ns, _ => foldl_least ns n
end KD

/-! Dicts of data: by their keys; compared. -/
namespace KD
open PySem PySem.Spec PyProof.Rows L2
/-- a dict's data by keys -/
abbrev KDs := List (Key × PyData)
def dicD (ks : KDs) : PyData := .dict (ks.map fun p => (kd p.1, p.2))
def DK (X : Addr → Prop) (H : Hp) : List (Key × V) → KDs → Prop := Paired fun (p : Key × V) (q : Key × PyData) => p.1 = q.1 ∧ DX X H p.2 q.2
theorem kd_inj {a b : Key} (h : kd a = kd b) : a = b := by
  cases a <;> cases b <;> simp [kd] at h <;> rw [h]
section
variable {X0 : Addr → Prop} {H H' : Hp}
theorem DK.of : ∀ {kvs : List (Key × V)} {ks : KDs}, DXk X0 H kvs (ks.map fun p => (kd p.1, p.2)) → DK X0 H kvs ks
  | [], [], _ => .nil
  | [], _ :: _, h => by cases h
  | _ :: _, [], h => by cases h
  | (k, v) :: kvs, (k2, d) :: ks, h => by
    have h' : DXk X0 H ((k, v) :: kvs) ((kd k2, d) :: ks.map fun p => (kd p.1, p.2)) := h
    generalize hk : kd k2 = z at h'
    cases h' with
    | cons h1 h2 => exact .cons ⟨(kd_inj hk).symm, h1⟩ (DK.of h2)
theorem DK.to {kvs : List (Key × V)} {ks : KDs} (h : DK X0 H kvs ks) : DXk X0 H kvs (ks.map fun p => (kd p.1, p.2)) := by
  unfold DK at h
  induction h with
  | nil => exact .nil
  | @cons p q ps qs h t ih =>
    obtain ⟨h1, h2⟩ := h
    obtain ⟨k, v⟩ := p
    have h1 : k = q.1 := h1
    subst h1
    exact .cons h2 ih
theorem DK.mono (k : Kp X0 H H') {kvs : List (Key × V)} {ks : KDs} (h : DK X0 H kvs ks) : DK X0 H' kvs ks := DK.of (DXk.mono k h.to)
theorem DX.dic_inv {v : V} {ks : KDs} (h : DX X0 H v (dicD ks)) : ∃ a kvs, v = .ref a ∧ ¬ X0 a ∧ H a = some (.dK kvs) ∧ DK X0 H kvs ks := by
  unfold dicD at h
  generalize hz : ks.map (fun p => (kd p.1, p.2)) = z at h
  cases h with
  | dic n e r =>
    subst hz
    exact ⟨_, _, rfl, n, e, DK.of r⟩
theorem DX.dic_mk {a : Addr} {kvs : List (Key × V)} {ks : KDs} (n : ¬ X0 a) (e : H a = some (.dK kvs)) (h : DK X0 H kvs ks) : DX X0 H (.ref a) (dicD ks) := .dic n e h.to
/-- a store -/
def putD (ks : KDs) (k : Key) (d : PyData) : KDs := if (ks.any fun q => decide (q.1 = k)) = true then ks.map (fun q => if q.1 = k then (q.1, d) else q) else ks ++ [(k, d)]
end
def valD (ks : KDs) (k : Key) : Option PyData := (ks.find? fun q => decide (q.1 = k)).map (·.2)
def hitB (bs : KDs) : KDs → Bool
  | [] => true
  | p :: r => match valD bs p.1 with
    | some e => PyData.eqv p.2 e && hitB bs r
    | none => false
/-- == of dicts of data -/
def eqK (as bs : KDs) : Bool := decide (as.length = bs.length) && hitB bs as
/-- values that may be compared -/
def cmpD (d : PyData) : Prop := noDict d = true ∧ SeqAt.shaped d = true
section
variable {X0 : Addr → Prop} {H : Hp}
theorem DK.length {kvs : List (Key × V)} {ks : KDs} (h : DK X0 H kvs ks) : kvs.length = ks.length := Paired.length h
theorem DK.val {kvs : List (Key × V)} {ks : KDs} (h : DK X0 H kvs ks) (k : Key) : (∃ v d, valV kvs k = some v ∧ valD ks k = some d ∧ DX X0 H v d ∧ ∃ p ∈ ks, p.2 = d) ∨ (valV kvs k = none ∧ valD ks k = none) := by
  unfold DK at h
  induction h with
  | nil => exact .inr ⟨rfl, rfl⟩
  | @cons p q ps qs h t ih =>
    obtain ⟨h1, h2⟩ := h
    by_cases hk : q.1 = k
    · refine .inl ⟨p.2, q.2, ?_, ?_, h2, q, List.mem_cons_self, rfl⟩
      · unfold valV
        rw [List.find?_cons_of_pos (by rw [h1]; exact decide_eq_true hk)]
        rfl
      · simp [valD, List.find?_cons, hk]
    · have e1 : valV (p :: ps) k = valV ps k := by
        unfold valV
        rw [List.find?_cons_of_neg (by rw [h1]; simpa using hk)]
      have e2 : valD (q :: qs) k = valD qs k := by
        unfold valD
        rw [List.find?_cons_of_neg (by simpa using hk)]
      rw [e1, e2]
      rcases ih with ⟨v, d, a, b, c, r, hr, e⟩ | h
      · exact .inl ⟨v, d, a, b, c, r, List.mem_cons_of_mem _ hr, e⟩
      · exact .inr h
end
section
variable {X : Cx} {pins : List (Addr × Obj)} {σ : L2.St} {H : Hp} {s : Shared} {X0 : Addr → Prop}
theorem hits_dx {A : Around} (hu : A.in1.units + 64 < cLine) (I : L2.Inv X pins σ H s) {kb : List (Key × V)} {bs : KDs} {vb : List (Key × Value)} (rb : KV kb vb) (db : DK X0 H kb bs) (cb : ∀ p ∈ bs, cmpD p.2) :
    ∀ {ka : List (Key × V)} {as : KDs} {va : List (Key × Value)}, KV ka va → DK X0 H ka as → (∀ p ∈ as, cmpD p.2) → PySem.W.KeqHits A.in1 s vb va (hitB bs as)
  | [], [], _, ra, _, _ => by
    cases ra
    exact .nil
  | [], _ :: _, _, _, d, _ => by cases d
  | _ :: _, [], _, _, d, _ => by cases d
  | p :: ps, q :: qs, va, ra, d, c => by
    cases ra with
    | @cons _ r _ rs h t =>
      cases d with
      | cons d1 d2 =>
        obtain ⟨k, u⟩ := r
        obtain ⟨h1, h2⟩ := h
        obtain ⟨e1, e2⟩ := d1
        have hk : k = q.1 := h1.symm.trans e1
        subst hk
        have rest := hits_dx hu I rb db cb t d2 fun z hz => c z (List.mem_cons_of_mem _ hz)
        have rr := rb.val q.1
        rcases db.val q.1 with ⟨v, e, a1, a2, a3, z, hz, ez⟩ | ⟨a1, a2⟩
        · rw [a1] at rr
          obtain ⟨y, hy, ry⟩ := rr.some_of
          have cq := c q List.mem_cons_self
          have ce := cb z hz
          rw [ez] at ce
          obtain ⟨as1, r1⟩ := Dp.reads I q.2 p.2 u (e2.dp cq.1) h2
          obtain ⟨as2, r2⟩ := Dp.reads I e v y (a3.dp ce.1) ry
          have := PySem.W.keq_at (A := A) r1 r2 cq.2 ce.2 hu
          show PySem.W.KeqHits A.in1 s vb ((q.1, u) :: rs) (hitB bs (q :: qs))
          unfold hitB
          rw [a2]
          exact .hit hy this rest
        · rw [a1] at rr
          have hn : valueAt vb q.1 = none := by
            cases hv : valueAt vb q.1 with
            | none => rfl
            | some y => rw [hv] at rr; exact rr.elim
          show PySem.W.KeqHits A.in1 s vb ((q.1, u) :: rs) (hitB bs (q :: qs))
          unfold hitB
          rw [a2]
          exact .miss hn
def rEqK : R2 := fun x y H Q => ∃ (X0 : Addr → Prop) (as bs : KDs), DX X0 H x (dicD as) ∧ DX X0 H y (dicD bs) ∧ (∀ p ∈ as, cmpD p.2) ∧ (∀ p ∈ bs, cmpD p.2) ∧ Q (.bl (eqK as bs)) H
def rNeK : R2 := fun x y H Q => ∃ (X0 : Addr → Prop) (as bs : KDs), DX X0 H x (dicD as) ∧ DX X0 H y (dicD bs) ∧ (∀ p ∈ as, cmpD p.2) ∧ (∀ p ∈ bs, cmpD p.2) ∧ Q (.bl (!eqK as bs)) H
theorem op_eqK (hu : X.A.units + 65 < cLine) : OpR X (compareOp .Eq) rEqK := by
  intro pins s σ H x y v u Q I rx ry h
  obtain ⟨X0, as, bs, dx, dy, ca, cb, q⟩ := h
  obtain ⟨a, ka, rfl, _, ea, da⟩ := dx.dic_inv
  obtain ⟨b, kb, rfl, _, eb, db⟩ := dy.dic_inv
  cases rx
  cases ry
  obtain ⟨_, ya, va, ra, oa⟩ := I.hok a _ ea
  obtain ⟨_, yb, vb, rb, ob⟩ := I.hok b _ eb
  have la : va.length = as.length := by rw [← ra.length]; exact da.length
  have lb : vb.length = bs.length := by rw [← rb.length]; exact db.length
  refine PySem.W.keq_eq (knd := mixKind X.prog X.w) ya yb oa ob (by omega) (fun _ => hits_dx (by show X.A.units + 1 + 64 < cLine; omega) I rb db cb ra da ca) (fin_bl I q ?_)
  rw [la, lb]
  unfold eqK
  rw [Bool.eq_iff_iff]
  simp
theorem op_neK (hu : X.A.units + 65 < cLine) : OpR X (compareOp .NotEq) rNeK := by
  intro pins s σ H x y v u Q I rx ry h
  obtain ⟨X0, as, bs, dx, dy, ca, cb, q⟩ := h
  obtain ⟨a, ka, rfl, _, ea, da⟩ := dx.dic_inv
  obtain ⟨b, kb, rfl, _, eb, db⟩ := dy.dic_inv
  cases rx
  cases ry
  obtain ⟨_, ya, va, ra, oa⟩ := I.hok a _ ea
  obtain ⟨_, yb, vb, rb, ob⟩ := I.hok b _ eb
  have la : va.length = as.length := by rw [← ra.length]; exact da.length
  have lb : vb.length = bs.length := by rw [← rb.length]; exact db.length
  refine PySem.W.keq_ne (knd := mixKind X.prog X.w) ya yb oa ob (by omega) (fun _ => hits_dx (by show X.A.units + 1 + 64 < cLine; omega) I rb db cb ra da ca) (fin_bl I q ?_)
  rw [la, lb]
  unfold eqK
  rw [Bool.eq_iff_iff]
  simp
end
/-! ### a dict of one's own -/
section
variable {X0 : Addr → Prop} {H : Hp}
theorem DK.put {kvs : List (Key × V)} {ks : KDs} {k : Key} {v : V} {d : PyData} (h : DK X0 H kvs ks) (hd : DX X0 H v d) : DK X0 H (putK kvs k v) (putD ks k d) := by
  have an : (kvs.any fun kv => decide (kv.1 = k)) = (ks.any fun q => decide (q.1 = k)) := by
    clear hd
    unfold DK at h
    induction h with
    | nil => rfl
    | @cons p q ps qs h t ih => rw [List.any_cons, List.any_cons, ih, h.1]
  unfold putK putD
  rw [an]
  cases hb : ks.any fun q => decide (q.1 = k) with
  | true =>
    rw [if_pos rfl, if_pos rfl]
    clear an hb
    unfold DK at h ⊢
    induction h with
    | nil => exact .nil
    | @cons p q ps qs h t ih =>
      rw [List.map_cons, List.map_cons]
      refine .cons ?_ ih
      obtain ⟨h1, h2⟩ := h
      by_cases e : q.1 = k
      · rw [if_pos (h1.trans e), if_pos e]
        exact ⟨h1, hd⟩
      · rw [if_neg (fun z => e (h1.symm.trans z)), if_neg e]
        exact ⟨h1, h2⟩
  | false =>
    rw [if_neg (by simp), if_neg (by simp)]
    unfold DK at h ⊢
    clear an hb
    induction h with
    | nil => exact .cons ⟨rfl, hd⟩ .nil
    | cons h t ih => exact .cons h ih
end
end KD

/-! for k, v in d.items(), where d's keys are tuples: each time a new pair of the key's own tuple and the value. -/
namespace KT
open PySem PySem.Calls PySem.Spec PyProof.V PyProof.Rows L2
/-- the pairs -/
def ItiT (d : Addr) (o : Obj) (kvs : List (List Key × V)) : It :=
  ⟨fun i H => H d = some (.frz o (.dT kvs)) ∧ i < kvs.length, fun i H x H' => ∃ (T q : Addr) (k : List Key) (v : V), kvs[i]? = some (k, v) ∧ H q = some (.tup (k.map kV)) ∧ x = .ref T ∧ H T = none ∧ H' = upd H T (.tup [.ref q, v]), fun i H => H d = some (.frz o (.dT kvs)) ∧ kvs.length ≤ i⟩
section
variable {X : Cx} {pins : List (Addr × Obj)} {σ : L2.St} {H : Hp} {s : Shared} {d : Addr} {o : Obj}
theorem held {kvs : List (List Key × V)} (I : Inv X pins σ H s) (h : H d = some (.frz o (.dT kvs))) : (d == sysModules) = false ∧ s.heap.get? d = some o ∧ o.ExactDict ∧ kvs.length ≤ sizeLine ∧ ∃ (ents : Array DictEntry) (ph : Nat), o.data = .dict ents ph ∧ ents.size = kvs.length ∧
    ∀ (i : Nat) (k : List Key) (v : V), kvs[i]? = some (k, v) → ∃ (en : DictEntry) (q : Addr), ents[i]? = some en ∧ en.key = .ref q ∧ RelV v en.val ∧ H q = some (.tup (k.map kV)) := by
  obtain ⟨hd, z, hs, xs, pr, o', ents, ph, ho, hx, hdata, he, _⟩ := I.hok d _ h
  rw [hd] at ho
  cases ho
  refine ⟨hs, hd, hx, z, ents, ph, hdata, ?_, fun i k v e => ?_⟩
  · have l1 : ents.size = xs.length := size_of_entries he
    have l2 : kvs.length = xs.length := Paired.length pr
    omega
  · obtain ⟨b, hb, e1, e2, e3⟩ := paired_get pr e
    have q := entry_at he i
    rw [hb] at q
    exact ⟨_, b.2.1, q, rfl, e3, e2⟩
end
section
variable {P : Program} {w : World} {K : PySem.W.Frag} {d : Addr} {o : Obj} {ents : Array DictEntry} {ph : Nat}
theorem turn {kvs : List (List Key × V)} {elts : List Expr} {kk : Nat} {tpos : Pos} (it : Addr) (hdo : o.data = .dict ents ph) :
    Turn P w K (.Tuple elts kk tpos) (ItiT d o kvs) [it] it (fun i h => ∃ a b, IsItemIter h it d i kvs.length ph a b) where
  mem := List.mem_singleton.mpr rfl
  obj := fun i h ⟨_, _, e⟩ b hb => by
    rw [List.mem_singleton.mp hb]
    exact ⟨_, e, fun v z => nomatch z⟩
  keep := fun i h h' ⟨a, b, e⟩ k => ⟨a, b, k it (List.mem_singleton.mpr rfl) _ e⟩
  item := by
    intro X hP hw hK hc i pins s σ H E I hf st hg
    subst hP hw hK
    obtain ⟨hd, hi⟩ := hg
    obtain ⟨hs, atd, hx, _, es', ep', hdata, many, ent⟩ := held I hd
    obtain ⟨rfl, rfl⟩ := dict_ep hdo hdata
    obtain ⟨en, q, hen, hkey, hval, hq⟩ := ent i kvs[i].1 kvs[i].2 (List.getElem?_eq_getElem hi)
    obtain ⟨hlt', een⟩ := Array.getElem?_eq_some_iff.mp hen
    obtain ⟨a, b, he⟩ := st
    rw [← many] at he
    have below : it < s.heap.objs.size := Heap.lt_size he
    refine DT.nextI he ⟨o, atd, hx, hdata⟩ hlt' fun h' ho hT hz hk => ?_
    refine ⟨_, rfl, wpAny_letOwnedTupleGo_items (s := { s with heap := h' }) ho fun h'' he' sb => ?_⟩
    have hT2 := (sb.2 _ (Nat.ne_of_gt below)).trans hT
    rw [een] at hT2
    have new : ObjOk X.prog X.w (upd H s.heap.objs.size (.tup [.ref q, kvs[i].2])) h'' s.heap.objs.size (.tup [.ref q, kvs[i].2]) :=
      ⟨by show 2 ≤ sizeLine; decide, [en.key, en.val], .cons hkey (.cons hval .nil), ⟨_, hT2, rfl, _, rfl⟩⟩
    have J1 : Inv X pins σ (upd H s.heap.objs.size (.tup [.ref q, kvs[i].2])) { s with heap := h'' } :=
      I.turnedNew (t' := s.toks) (ch := [it]) (fun b ob hb e => (sb.2 b (fun z => hb (List.mem_singleton.mpr z))).trans (hk b ob (fun z => hb (List.mem_singleton.mpr z)) e)) hf (Nat.le_refl _) new
    refine ⟨.ref s.heap.objs.size, _, J1, rfl, ⟨_, q, _, _, List.getElem?_eq_getElem hi, hq, rfl, I.hok.fresh (Nat.le_refl _), rfl⟩, ⟨_, _, by rw [← many]; exact he'⟩, fun b hb => ?_⟩
    rw [List.mem_singleton.mp hb, upd_ne (Nat.ne_of_lt below)]
    exact (hf it (List.mem_singleton.mpr rfl)).1
  done := by
    intro X hP hw hK hc i pins s σ H E I hf st hg
    subst hP hw hK
    obtain ⟨hd, hi⟩ := hg
    obtain ⟨f0, f1, f2, f3, f4, f5⟩ := hf it (List.mem_singleton.mpr rfl)
    obtain ⟨hs, atd, hx, _, es', ep', hdata, many, ent⟩ := held I hd
    obtain ⟨rfl, rfl⟩ := dict_ep hdo hdata
    obtain ⟨a, b, he⟩ := st
    rw [← many] at he
    exact DT.endI (I.ok.hd hc) he ⟨o, atd, hx, hdata⟩ (by omega) fun h' eb => ⟨rfl, I.turned (t' := s.toks) (fun b ob hb e => eb b ob hb e) f0 f1 f3 f4 f5⟩
  self := fun A i s Q E ⟨_, _, e⟩ h => PySem.W.kcp_self e h
end
def iItT (td : TE) : TI := fun σ H R => td σ H fun x G1 => ∃ d o kvs, x = .ref d ∧ G1 d = some (.frz o (.dT kvs)) ∧ R (ItiT d o kvs) G1
theorem pi_itT {X : Cx} {e : Expr} {td : TE} {apos cpos : Pos} {elts : List Expr} {kk : Nat} {tpos : Pos} (he : PE X e td) (hbase : attributeBase e "items" X.env (eval e X.env) = eval e X.env := by rfl) (hline : (apos.endLine == cpos.line) = true := by rfl) :
    PI X (.Tuple elts kk tpos) (.Call (.Attribute e "items" apos) [] [] cpos) (iItT td) := by
  refine ⟨fun pins s σ H R I h => ?_⟩
  refine wpAny_Call_method (T := "dict") (id := "dict.items") hbase rfl hline F.plainAttrs_dict F.slot_dict_items F.type_dict_items (thn (he.run pins s σ H _ I h) fun u t1 ⟨x, G1, J1, ru, d, o, kvs, ex, hd, q⟩ => ?_)
  subst ex
  obtain rfl : u = Value.ref d := ru
  obtain ⟨hs, atd, hx, _, ents, ph, hdata, many, ent⟩ := held J1 hd
  have hm : DT.Raw t1.heap d ents ph := ⟨o, atd, hx, hdata⟩
  refine ⟨hm.typeIs, ?_, ?_⟩
  · intro a e
    cases e
    exact ⟨o, atd, hx.2.1⟩
  have J2 : Inv X pins σ G1 { t1 with heap := t1.heap.push { cls := .type "dict_items", data := .fields #[.ref d] } } := J1.kept (t' := t1.toks) fun b ob q => Heap.get?_push_of_some _ q
  have fin : wpAny (model X.prog X.w) X.A (pyIter (.ref t1.heap.objs.size)) (PIE X pins σ (.Tuple elts kk tpos) R) X.xe { t1 with heap := t1.heap.push { cls := .type "dict_items", data := .fields #[.ref d] } } :=
    DT.iterI (d := d) ⟨_, Heap.get?_push_size _ rfl, rfl, rfl⟩ (hm.push _) (pi_one (tk := t1.toks) J2 _ (turn _ hdata) ⟨.none, .none, by rw [← many]; exact Heap.get?_push_size _ rfl⟩ q)
  show wpAny _ _ (callWith cpos (.builtin "dict.items") [.ref d] [] []) _ X.xe t1
  exact method_meetsIn F.slot_dict_items F.entry_dict_items rfl (PySem.evalArgs_none ⟨rfl, hm.typeIs, F.args_dict_items_1 _, _, DT.meetsItems (es := ents) (ep := ph) hs, hm, fin⟩)
end KT

/-! list(d.values()), where d's keys are tuples. -/
namespace KT
open PySem PySem.W PySem.Calls PySem.Spec PyProof.V PyProof.Rows L2
/-- the view d.values() at p -/
def valsO (p d : Addr) : HO := .ext fun h => h.IsValuesView p d
theorem valsO_ok {P : Program} {w : World} {H : Hp} {h : Heap} {p d : Addr} (e : h.get? p = some { cls := .type "dict_values", data := .fields #[.ref d] }) : ObjOk P w H h p (valsO p d) :=
  ⟨⟨_, e, rfl, rfl⟩, ⟨_, e⟩, fun h1 h2 x k => let ⟨o, ho, r⟩ := x; ⟨o, k o ho, r⟩⟩
section
variable {X : Cx}
def rValsT : V → List V → Hp → VK → Prop := fun x xs H Q => ∃ (a : Addr) (kvs : List (List Key × V)), x = .ref a ∧ xs = [] ∧ H a = some (.dT kvs) ∧ ∀ p, H p = none → Q (.ref p) (upd H p (valsO p a))
theorem mt_valsT : MtR X "dict.values" rValsT := by
  intro pins s σ H x xs v us Q I ru rus h
  obtain ⟨a, kvs, rfl, rfl, ha, q⟩ := h
  cases ru
  cases rus
  obtain ⟨z, hd, ms, rel, o, ents, ph, ho, hx, hdata, _⟩ := dt_of I.hok ha
  have hm : DT.Raw s.heap a ents ph := ⟨o, ho, hx, hdata⟩
  refine call_meetsIn PySem.F.slot_dict_values hm.typeIs PySem.F.entry_dict_values (PySem.F.args_dict_values_1 _) (meets_dict_values_raw a hd) ⟨⟨ents, ph, o, ho, hx, hdata⟩, ?_⟩
  exact ⟨.ref s.heap.objs.size, upd H s.heap.objs.size (valsO s.heap.objs.size a), I.laid (t' := s.toks) (fun b u e => Heap.get?_push_of_some _ e) (Nat.le_refl _) (valsO_ok (Heap.get?_push_size _ rfl)), rfl, q _ (I.hok.fresh (Nat.le_refl _))⟩
theorem vals_at : ∀ {vs : List V} {us : List Value}, vs.length = us.length → (∀ (j : Nat) (v : V) (u : Value), vs[j]? = some v → us[j]? = some u → RelV v u) → Vals vs us
  | [], [], _, _ => .nil
  | v :: vs, u :: us, h, k => .cons (k 0 v u rfl rfl) (vals_at (by simpa using h) fun j v u e1 e2 => k (j + 1) v u e1 e2)
  | [], _ :: _, h, _ => by cases h
  | _ :: _, [], h, _ => by cases h
def rListV : List V → Hp → VK → Prop := fun xs H Q => ∃ (p a : Addr) (kvs : List (List Key × V)), xs = [.ref p] ∧ H p = some (valsO p a) ∧ H a = some (.dT kvs) ∧ ∀ l, H l = none → Q (.ref l) (upd H l (.lst (kvs.map Prod.snd)))
theorem call_listV (hc : X.calm = true) : CallR X (.type "list") rListV := by
  intro pins s σ H xs us Q I r h
  obtain ⟨p, a, kvs, rfl, hp, ha, q⟩ := h
  obtain ⟨u, rfl, ru⟩ := r.one
  cases ru
  have hv : s.heap.IsValuesView p a := (I.hok p _ hp).1
  obtain ⟨z, hd, ks, pr, o, ents, ph, ho, hx, hdt, he, hn⟩ := (show ObjOk X.prog X.w H s.heap a (.dT kvs) from I.hok a _ ha)
  have m1 : ents.size = ks.length := size_of_entries he
  have m2 : kvs.length = ks.length := Paired.length pr
  refine PySem.W.kdl_call (KdlSrc.rawValues (prog := X.prog) (w := X.w) (r := p) (es := ents) (ep := ph) (d := a)) (I.ok.hd hc) ⟨hv, o, ho, hx, hdt⟩ (by omega) fun h' tk acc' c' kp e it => ?_
  have rv : Vals (kvs.map Prod.snd) acc'.toList := by
    have hl : acc'.toList.length = kvs.length := by rw [Array.length_toList, it.1]; omega
    refine vals_at (by rw [List.length_map]; exact hl.symm) fun j v u e1 e2 => ?_
    obtain ⟨kv, ekv, rfl⟩ := List.getElem?_eq_some_iff.mp e1 |>.elim fun hj ej => (by
      rw [List.getElem_map] at ej
      exact ⟨kvs[j]'(by rw [List.length_map] at hj; exact hj), List.getElem?_eq_getElem _, ej⟩ : ∃ kv, kvs[j]? = some kv ∧ kv.2 = v)
    obtain ⟨b, hb, f1, f2, f3⟩ := paired_get pr ekv
    obtain ⟨hj, rfl⟩ := it.2 j u (by rw [← Array.getElem?_toList]; exact e2)
    have qe := entry_at he j
    rw [hb, Array.getElem?_eq_getElem hj] at qe
    have e3 : ents[j] = entryOfKey (tupleKind (mixKind X.prog X.w)) b := Option.some.inj qe
    rw [e3]
    exact f3
  have few : (kvs.map Prod.snd).length ≤ sizeLine := by rw [List.length_map]; exact z
  refine ⟨.ref s.heap.objs.size, _, I.laid (t' := tk) (o := .lst (kvs.map Prod.snd)) kp (Nat.le_refl _) ?_, rfl, q _ (I.hok.fresh (Nat.le_refl _))⟩
  exact ⟨few, acc'.toList, c', rv, by rw [Array.toArray_toList]; exact e⟩
end
end KT

/-! Dict comprehensions whose keys are tuples. -/
namespace KT
open PySem PySem.Calls PySem.Spec PyProof.V PyProof.Rows L2
section
variable {X : Cx}
/-- a cell of the new dict is told -/
theorem tell {ps : List (Addr × Obj)} {τ : L2.St} {G : Hp} {t : Shared} {Er : Value → Shared → Prop} {D q : Addr} {cs : List (List Key × V)} {k : List Key} {z : V} {r : Value} {R : Unit → Shared → Prop} (hu : X.A.units < cLine) (J : Inv X ps τ G t) (atD : G D = some (.dT cs)) (few : cs.length < sizeLine)
    (atq : G q = some (.tup (k.map kV))) (rz : RelV z r) (go : ∀ t', Inv X ps τ (upd G D (.dT (putK cs k z))) t' → R () t') : wpAny (model X.prog X.w) X.A (dictSet D (.ref q) r) R Er t := by
  obtain ⟨_, lo, ms, pr, dd⟩ := dt_of J.hok atD
  have few2 : ms.length ≤ sizeLine := by have := Paired.length pr; omega
  refine wpAny_dictSet_heap (hsz := few2) (show (tupleKind (mixKind X.prog X.w)).room X.A from hu) (key_of J.hok atq) dd fun g' ⟨ob, ents, ph, e1, e2, e3, e4, _, e6⟩ sb => go _ ?_
  refine d_write J (by rw [atD]; trivial) sb ⟨ob, e1⟩ ⟨by have := length_putK cs k z; omega, lo, _, (pr.put k atq rz).keeps fun c ys ec => ?_, ob, ents, ph, e1, e2, e3, e4, e6⟩
  rw [upd_ne (ne_of ec atD (fun z => nomatch z))]
  exact ec
/-- one turn's end: a cell is told, or none -/
def Told (D : Addr) (tk tv : TE) (Nx : Hp → Prop) (τ : L2.St) (b : Bool) (G : Hp) : Prop :=
  if b = true then tk τ G fun y G1 => tv τ G1 fun z G2 => ∃ (cs : List (List Key × V)) (k : List Key) (q : Addr), y = .ref q ∧ G2 q = some (.tup (k.map kV)) ∧ G2 D = some (.dT cs) ∧ cs.length < sizeLine ∧ Nx (upd G2 D (.dT (putK cs k z))) else Nx G
/-- {k: v for target in iter if ..}, keys tuples -/
def tDcT (wi : TI) (g : TG) (tt : TT) (tk tv : TE) (own : List Nat) : TE := fun σ H Q => wi σ H fun J G => ∀ D, G D = none → ∃ W : Nat → Nat → Hp → Prop, (∃ m, W 0 m (upd G D (.dT []))) ∧ ∀ i m G1, W i m G1 →
  (J.stop i G1 ∧ Q (.ref D) G1) ∨ (J.go i G1 ∧ ∃ Nx : Hp → Prop, (∀ G2, Nx G2 → ∃ m', m' < m ∧ W (i + 1) m' G2) ∧ ∀ x G2, J.yld i G1 x G2 → g x (wipe σ own) G2 fun τ G3 => wipe τ own = wipe σ own ∧ tt τ G3 (Told D tk tv Nx τ))
variable {kx vx tg iter : Expr} {ifs : List Expr} {scope : Scope} {own : List (Str × Nat)} {pos : Pos} {wi : TI} {g : TG} {tt : TT} {tk tv : TE}
/-- what is asked of the parts of the block -/
structure Parts (X : Cx) (scope : Scope) (tg kx vx : Expr) (ifs : List Expr) (g : TG) (tt : TT) (tk tv : TE) : Prop where
  g : ∀ (s : Shared) (H : Hp) (C : Addr) (cl : List (Str × Addr)) (fp : List Addr), PG (X.blk s H scope (compEnvC scope cl C X.env) fp) tg g
  t : ∀ (s : Shared) (H : Hp) (C : Addr) (cl : List (Str × Addr)) (fp : List Addr), PTs (X.blk s H scope (compEnvC scope cl C X.env) fp) ifs tt
  k : ∀ (s : Shared) (H : Hp) (C : Addr) (cl : List (Str × Addr)) (fp : List Addr), PE (X.blk s H scope (compEnvC scope cl C X.env) fp) kx tk
  v : ∀ (s : Shared) (H : Hp) (C : Addr) (cl : List (Str × Addr)) (fp : List Addr), PE (X.blk s H scope (compEnvC scope cl C X.env) fp) vx tv
theorem core {ps : List (Addr × Obj)} {s : Shared} {σ : L2.St} {H : Hp} {Q : VK} {at2 : Pos} {use : Option (Value → Sem Unit)} {Qf : Value → Shared → Prop}
    (hc : X.calm = true) (hu : X.A.units < cLine) (hN : X.N.Nodup) (I : Inv X ps σ H s) (hi : PI X tg iter wi) (ok : BlkOk X.N X.env.scope scope own) (pa : Parts X scope tg kx vx ifs g tt tk tv) (hs : ∀ x, foldedSetIterable iter X.env x = pure x)
    (h : tDcT wi g tt tk tv (own.map (·.2)) σ H Q)
    (fine : ∀ D C t m G, Inv X ps σ G t → Q (.ref D) G → t.heap.Ns C m → FpOk X ps G C → compPost (model X.prog X.w) X.A X.xe use Qf (.ref D) C (.ok .next) t) :
    wpAny (model X.prog X.w) X.A (comprehension (.DictComp kx vx [⟨tg, iter, ifs, 0⟩] scope pos) scope X.env at2 newDict false (eval iter X.env) use) Qf X.xe s := by
  have cells : ∀ y ∈ scope.names, y.2 = .free → ∃ c, X.env.cells.lookup y.1 = some c := fun y hy e => (ok.free y hy e).elim (fun z => I.ok.has _ (.inl z)) fun z => I.ok.has _ (.inr z)
  refine wpAny_comprehension_free (use := use) rfl hs (closure_ok cells) ok.kind (fun y hy e => by rw [ok.uniq y hy, e]) (thn (hi.run ps s σ H _ I h) fun _ _ a => thn a fun _ t2 ⟨it, fp, tn, J, G2, e, I2, T, st, fr, q⟩ => ?_)
  subst e
  refine wpAny_newObj_type (newEnv_comp ?_)
  obtain ⟨D, hD⟩ : ∃ D, t2.heap.objs.size = D := ⟨_, rfl⟩
  obtain ⟨W, ⟨m0, w0⟩, go⟩ := q D (I2.hok.fresh (Nat.le_of_eq hD))
  rw [hD]
  -- the new dict is laid
  obtain ⟨t3, ht3⟩ : ∃ t3 : Shared, t3 = { t2 with heap := t2.heap.push { cls := .type "dict", data := .dict #[] } } := ⟨_, rfl⟩
  have h3 : t3.heap = t2.heap.push { cls := .type "dict", data := .dict #[] } := by rw [ht3]
  have I3 : Inv X ps σ (upd G2 D (.dT [])) t3 := by
    rw [ht3]
    refine I2.laid (t' := t2.toks) (fun b o e => Heap.get?_push_of_some _ e) (Nat.le_of_eq hD) ?_
    rw [← hD]
    exact dt_empty t2.heap I2.big
  have fr3 : ∀ b ∈ fp, FpOk X ps (upd G2 D (.dT [])) b ∧ b < t3.heap.objs.size := fun b hb => by
    obtain ⟨o, e, _⟩ := T.obj _ _ st b hb
    have lt := Heap.lt_size e
    refine ⟨⟨?_, (fr b hb).2⟩, ?_⟩
    · rw [upd_ne (fun z => Nat.lt_irrefl _ (hD ▸ z ▸ lt))]
      exact (fr b hb).1
    · rw [h3, Heap.size_push]
      exact Nat.lt_succ_of_lt lt
  have st3 : tn 0 t3.heap := T.keep _ _ _ st fun b _ o e => by rw [h3]; exact Heap.get?_push_of_some _ e
  have I4 := block_start I3 ok hN fr3
  have pg := pa.g t3 (upd G2 D (.dT [])) t3.heap.objs.size (cellsFrom (t3.heap.objs.size + 1) scope.names (cloFrom X.env.cells scope.names [])) fp
  have pt := pa.t t3 (upd G2 D (.dT [])) t3.heap.objs.size (cellsFrom (t3.heap.objs.size + 1) scope.names (cloFrom X.env.cells scope.names [])) fp
  have pk := pa.k t3 (upd G2 D (.dT [])) t3.heap.objs.size (cellsFrom (t3.heap.objs.size + 1) scope.names (cloFrom X.env.cells scope.names [])) fp
  have pv := pa.v t3 (upd G2 D (.dT [])) t3.heap.objs.size (cellsFrom (t3.heap.objs.size + 1) scope.names (cloFrom X.env.cells scope.names [])) fp
  rw [← ht3]
  show codeAny _ _ (.compStart (.DictComp kx vx [⟨tg, iter, ifs, 0⟩] scope pos) 0 (.ref it) (.ref D) (compEnvC scope (cellsFrom (t3.heap.objs.size + 1) scope.names (cloFrom X.env.cells scope.names [])) t3.heap.objs.size X.env)) (compPost (model X.prog X.w) X.A X.xe use Qf (.ref D) t3.heap.objs.size) { t3 with heap := pushCells (t3.heap.push { cls := .type "dict", data := .dict #[] }) scope.names }
  have none3 : ∀ b ∈ fp, (upd G2 D (.dT [])) b = none := fun b hb => (fr3 b hb).1.1
  obtain ⟨ce, hce⟩ : ∃ ce, compEnvC scope (cellsFrom (t3.heap.objs.size + 1) scope.names (cloFrom X.env.cells scope.names [])) t3.heap.objs.size X.env = ce := ⟨_, rfl⟩
  have locs : ce.locals = t3.heap.objs.size := by rw [← hce]; rfl
  rw [hce] at I4 pg pt pk pv ⊢
  generalize upd G2 D (.dT []) = G3 at I3 I4 pg pt pk pv w0 none3 fr3
  obtain ⟨t4, ht4⟩ : ∃ t4 : Shared, ({ t3 with heap := pushCells (t3.heap.push { cls := .type "dict", data := .dict #[] }) scope.names } : Shared) = t4 := ⟨_, rfl⟩
  rw [ht4] at I4 ⊢
  have st4 : tn 0 t4.heap := T.keep _ _ _ st3 fun b _ o e => by rw [← ht4]; exact pushCells_keeps _ _ _ _ (Heap.get?_push_of_some _ e)
  have still : ∀ {τ : L2.St} {G : Hp} {t : Shared}, Inv (X.blk t3 G3 scope ce fp) [] τ G t → (∀ b ∈ fp, G b = none) → ∀ b ∈ fp, FpOk (X.blk t3 G3 scope ce fp) [] G b := fun {τ G t} J hn b hb =>
    ⟨hn b hb, (J.ok.exf b hb).1, J.ok.exfs b hb, .inl hb, fun x c e => (J.ok.exf b hb).2 x c e, fun p hp => by cases (show p ∈ ([] : List (Addr × Obj)) from hp)⟩
  let S : Nat → Shared → Prop := fun n t => ∃ i G, Inv (X.blk t3 G3 scope ce fp) [] (wipe σ (own.map (·.2))) G t ∧ tn i t.heap ∧ (∀ b ∈ fp, G b = none) ∧ W i n G
  have run : codeAny (model X.prog X.w) X.A (.compLoop (.DictComp kx vx [⟨tg, iter, ifs, 0⟩] scope pos) 0 (.ref it) (.ref D) ce) (compPost (model X.prog X.w) X.A X.xe use Qf (.ref D) t3.heap.objs.size) t4 := by
    refine compLoop_anyD S (fun n t5 ⟨i, G5, I5, st5, n5, w5⟩ => ?_) m0 ⟨0, G3, I4, st4, none3, w0⟩
    rcases go i n G5 w5 with ⟨stop, done⟩ | ⟨more, Nx, next, step⟩
    · refine thnF (T.done (X.blk t3 G3 scope ce fp) rfl rfl rfl hc i [] t5 _ G5 (fun _ _ => False) I5 (still I5 n5) st5 stop) fun r t6 ⟨hr, I6⟩ => ?_
      subst hr
      have I7 : Inv X ps σ G5 t6 := I3.call' (ch := fp) I6.os I6.base I6.hok I6.bare fun b hb => by
        obtain ⟨⟨_, a1, _, a2, a3, a4⟩, _⟩ := fr3 b hb
        exact ⟨a2, a1, a3, a4⟩
      have gone : G5 t3.heap.objs.size = none := locs ▸ (show G5 ce.locals = none from I6.free)
      obtain ⟨m, hn, _⟩ := I6.loc
      exact fine D t3.heap.objs.size t6 m G5 I7 done (locs ▸ (show t6.heap.Ns ce.locals m from hn)) (I3.fpOk (Nat.le_refl _) gone)
    · refine thnF (T.item (X.blk t3 G3 scope ce fp) rfl rfl rfl hc i [] t5 _ G5 (fun _ _ => False) I5 (still I5 n5) st5 more) fun r t6 ⟨u, hr, a6⟩ => ?_
      subst hr
      refine thnF a6 fun _ t7 ⟨x, G7, I7, r7, y7, st7, n7⟩ => ?_
      refine thnF (pg.run _ t7 _ G7 x u _ (I7.pinned (still I7 n7) (T.obj _ _ st7)) r7 (step x G7 y7)) fun _ t8 ⟨τ, G8, I8, wiped, q8⟩ => ?_
      refine thnF (pt.run _ t8 τ G8 _ I8 q8) fun b t9 ⟨G9, I9, q9⟩ => ?_
      have turned : ∀ {t : Shared} {G : Hp}, Inv (X.blk t3 G3 scope ce fp) ([] ++ pinsAt fp t7.heap) τ G t → Nx G → ∃ m, m < n ∧ S m t := fun {t G} J nx => by
        obtain ⟨m, lt, wm⟩ := next G nx
        have pinned : ∀ b ∈ fp, ∀ o, t7.heap.get? b = some o → t.heap.get? b = some o ∧ G b = none := fun b hb o e => by
          obtain ⟨z1, z2, _⟩ := J.pin (b, o) (List.mem_append_right _ (List.mem_append_right _ (mem_pinsAt hb e)))
          exact ⟨z1, z2⟩
        refine ⟨m, lt, i + 1, G, (J.unpinned (pins := [])).weak (by rw [← wiped, wipe_length]) (fun j v e => ?_), T.keep _ _ _ st7 fun b hb o e => (pinned b hb o e).1, fun b hb => ?_, wm⟩
        · rw [← wiped] at e
          exact (wipe_some e).1
        · obtain ⟨o, e, _⟩ := T.obj _ _ st7 b hb
          exact (pinned b hb o e).2
      cases b with
      | false => exact turned I9 q9
      | true =>
        refine thnF (pk.run _ t9 τ G9 _ I9 q9) fun _ t10 ⟨yk, G10, I10, r10, q10⟩ => ?_
        refine thnF (pv.run _ t10 τ G10 _ I10 q10) fun _ t11 ⟨yv, G11, I11, r11, cs, k, a, ek, ha, hD11, few, nx⟩ => ?_
        subst ek
        cases r10
        exact tell (X := X.blk t3 G3 scope ce fp) hu I11 hD11 few ha r11 fun t12 I12 => turned I12 nx
  exact codeAny_compStart_dict run (T.self X.A 0 _ _ _ st4 run)
theorem pe_dcT (hc : X.calm = true) (hu : X.A.units < cLine) (hN : X.N.Nodup) (hi : PI X tg iter wi) (ok : BlkOk X.N X.env.scope scope own) (pa : Parts X scope tg kx vx ifs g tt tk tv) (hs : ∀ x, foldedSetIterable iter X.env x = pure x := by intro _; rfl) : PE X (.DictComp kx vx [⟨tg, iter, ifs, 0⟩] scope pos) (tDcT wi g tt tk tv (own.map (·.2))) :=
  ⟨fun ps s σ H Q I h => by
    rw [arm_eval_DictComp]
    refine core hc hu hN I hi ok pa hs h fun D C t m G J q hn f => ⟨m, hn, fun h'' sb => ?_⟩
    obtain ⟨f0, f1, f2, f3, f4, f5⟩ := f
    exact ⟨.ref D, G, J.turned (t' := t.toks) (fun b o hb e => (sb.2 b hb).trans e) f0 f1 f3 f4 f5, rfl, q⟩⟩
end
end KT

/-! Levels. -/
namespace K56
open PySem PySem.Spec PyProof.Rows L2 KD KL
variable {P : Program} {w : World} {K : PySem.W.Frag} {mg : Str → Option Value} {base : Heap}
-- HINT levels_in dnew pe_dnewT
-- HINT levels_in enum pi_enumQ
-- HINT levels_in it pi_seq
/-- a text as it is passed -/
structure Txt (d : PyData) (ws : List Str) : Prop where
  seq : isSeq d = true
  its : itemsD d = ws.map PyData.str
  few : ws.length ≤ 60
  ok : ∀ z ∈ ws, PyData.strOk z = true
theorem Txt.len {d : PyData} {ws : List Str} (T : Txt d ws) : lenD d = ws.length := by rw [lenD_seq T.seq, T.its, List.length_map]
/-! ### the cells -/
abbrev Ce := Pr × Nat
def lvRow (M : Nat → Nat → Bool) (i : Nat) : Nat → List Ce
  | 0 => []
  | j + 1 => lvRow M i j ++ (if M i j = true then [((i, j), L M i j + 1)] else [])
def lvC (M : Nat → Nat → Bool) (m : Nat) : Nat → List Ce
  | 0 => []
  | i + 1 => lvC M m i ++ lvRow M i m
def keyC (p : Pr) : List Key := [.inl (p.1 : Int), .inl (p.2 : Int)]
def celV (c : Ce) : List Key × V := (keyC c.1, .int (c.2 : Int))
theorem lvRow_in {M : Nat → Nat → Bool} {i : Nat} : ∀ {j : Nat} {c : Ce}, c ∈ lvRow M i j ↔ c.1.1 = i ∧ c.1.2 < j ∧ M c.1.1 c.1.2 = true ∧ c.2 = L M c.1.1 c.1.2 + 1
  | 0, c => ⟨fun h => (by cases h), fun h => (by omega)⟩
  | j + 1, c => by
    rw [lvRow, List.mem_append, lvRow_in (j := j)]
    obtain ⟨⟨a, b⟩, l⟩ := c
    by_cases e : M i j = true
    · rw [if_pos e, List.mem_singleton]
      simp only [Prod.mk.injEq]
      constructor
      · rintro (⟨h1, h2, h3⟩ | ⟨⟨rfl, rfl⟩, rfl⟩)
        · exact ⟨h1, by omega, h3⟩
        · exact ⟨rfl, by omega, e, rfl⟩
      · rintro ⟨h1, h2, h3, h4⟩
        by_cases x : b = j
        · exact .inr ⟨⟨h1, x⟩, by rw [h4, h1, x]⟩
        · exact .inl ⟨h1, by omega, h3, h4⟩
    · rw [if_neg e]
      constructor
      · rintro (⟨h1, h2, h3⟩ | h)
        · exact ⟨h1, by omega, h3⟩
        · cases h
      · rintro ⟨h1, h2, h3, h4⟩
        refine .inl ⟨h1, ?_, h3, h4⟩
        simp only at h1 h2 h3 ⊢
        by_cases x : b = j
        · rw [h1, x] at h3
          exact absurd h3 e
        · omega
theorem lvC_in {M : Nat → Nat → Bool} {m : Nat} : ∀ {i : Nat} {c : Ce}, c ∈ lvC M m i ↔ c.1.1 < i ∧ c.1.2 < m ∧ M c.1.1 c.1.2 = true ∧ c.2 = L M c.1.1 c.1.2 + 1
  | 0, c => ⟨fun h => (by cases h), fun h => (by omega)⟩
  | i + 1, c => by
    rw [lvC, List.mem_append, lvC_in (i := i), lvRow_in]
    constructor
    · rintro (⟨h1, h2⟩ | ⟨h1, h2⟩)
      · exact ⟨by omega, h2⟩
      · exact ⟨by omega, h2⟩
    · rintro ⟨h1, h2⟩
      by_cases x : c.1.1 = i
      · exact .inr ⟨x, h2⟩
      · exact .inl ⟨by omega, h2⟩
theorem lvRow_len {M : Nat → Nat → Bool} {i : Nat} : ∀ {j : Nat}, (lvRow M i j).length ≤ j
  | 0 => Nat.le_refl _
  | j + 1 => by
    have := lvRow_len (M := M) (i := i) (j := j)
    rw [lvRow, List.length_append]
    split <;> simp <;> omega
theorem lvC_len {M : Nat → Nat → Bool} {m : Nat} : ∀ {i : Nat}, (lvC M m i).length ≤ i * m
  | 0 => Nat.zero_le _
  | i + 1 => by
    have := lvC_len (M := M) (m := m) (i := i)
    have := lvRow_len (M := M) (i := i) (j := m)
    rw [lvC, List.length_append, Nat.succ_mul]
    omega
theorem val_none {cs : List Ce} {p : Pr} (h : ∀ c ∈ cs, c.1 ≠ p) : valV (cs.map celV) (keyC p) = none := by
  induction cs with
  | nil => rfl
  | cons c r ih =>
    have h1 := h c List.mem_cons_self
    rw [List.map_cons, valV_neg (by
      show keyC c.1 ≠ keyC p
      intro e
      unfold keyC at e
      simp only [List.cons.injEq, Sum.inl.injEq, and_true] at e
      exact h1 (Prod.ext (by omega) (by omega)))]
    exact ih fun z hz => h z (List.mem_cons_of_mem _ hz)
theorem val_some {cs : List Ce} {p : Pr} {n : Nat} (h : (p, n) ∈ cs) (u : ∀ c ∈ cs, c.1 = p → c.2 = n) : valV (cs.map celV) (keyC p) = some (.int (n : Int)) := by
  induction cs with
  | nil => cases h
  | cons c r ih =>
    rw [List.map_cons]
    by_cases e : c.1 = p
    · rw [valV_pos (by show keyC c.1 = keyC p; rw [e])]
      show some (V.int (c.2 : Int)) = _
      rw [u c List.mem_cons_self e]
    · rw [valV_neg (by
        show keyC c.1 ≠ keyC p
        intro e2
        unfold keyC at e2
        simp only [List.cons.injEq, Sum.inl.injEq, and_true] at e2
        exact e (Prod.ext (by omega) (by omega)))]
      refine ih ((List.mem_cons.mp h).resolve_left fun z => e ?_) fun z hz => u z (List.mem_cons_of_mem _ hz)
      rw [← z]
section
variable {X : Addr → Prop} {σ : L2.St} {H : Hp} {Γ : List Sv} {te tl th : TE} {i : Nat} {D : Addr}
theorem rf_max {ns : List Int} {m : Int} (h0 : 0 < ns.length) (hm : m ∈ ns) (hl : ∀ y ∈ ns, y ≤ m) : RF X (rMax K) [.list (ns.map PyData.int)] (.int m) := fun H us _ rs Q q => by
  cases rs with
  | cons r r2 =>
    cases r2
    obtain ⟨a, vs, rfl, _, ha, rv⟩ := r.lst_inv
    refine ⟨a, ns, rfl, SqL.of (by rw [← rv.ints]; exact ha), h0, fun m' h1 h2 => ?_⟩
    have e : m' = m := by
      have := hl m' h1
      have := h2 m hm
      omega
    rw [e]
    exact q _ H (Same.refl H) (.int m)
theorem g_max {ns : List Int} {m : Int} (t : Trk X H) (h : G X te σ H (.list (ns.map PyData.int))) (h0 : 0 < ns.length) (hm : m ∈ ns) (hl : ∀ y ∈ ns, y ≤ m) : G X (tCB (rMax K) (tCons te tNil)) σ H (.int m) := g_cb t (ga_cons h ga_nil) (rf_max h0 hm hl)
/-- a slice of a list of one's own -/
theorem g_slOwn {xs : List V} {ds : List PyData} {lo hi : Option Int} {tl th : TO} (t : Trk X H) (En : EnvOk X H σ Γ) (hi' : Γ[i]? = some (.val (.ref D))) (hD : H D = some (.lst xs)) (hx : DXs X H xs ds) (hl : GO tl σ H lo) (hh : GO th σ H hi) : G X (tSl (rSlL K) (tVar i) tl th) σ H (.list (cutPD ds lo hi)) := fun H1 s Q q =>
  ⟨.ref D, En.get _ _ hi', hl H1 s _ fun H3 s3 => hh H3 (s.trans s3) _ fun H4 s4 => ⟨D, xs, rfl, SqL.of (((s.trans s3).trans s4) _ _ hD), fun p hp => q _ _ ((s3.trans s4).trans (Same.upd hp)) (DX.newL (((t.mono s).mono s3).mono s4) ((hx.mono (Kp.of ((s.trans s3).trans s4))).cut lo hi) hp)⟩⟩
end
theorem L_z {M : Nat → Nat → Bool} {i : Nat} : L M i 0 = 0 := by cases i <;> rfl
theorem L_s {M : Nat → Nat → Bool} {i j : Nat} : L M (i + 1) (j + 1) = max (max (L M i (j + 1)) (L M (i + 1) j)) (if M i j = true then L M i j + 1 else 0) := rfl
theorem k_nil {σ : L2.St} {H : Hp} {Qa : List V → Hp → Prop} (h : Qa [] H) : tNil σ H Qa := h
theorem k_lstN {ta : TA} {σ : L2.St} {H : Hp} {Q : VK} (h : ta σ H fun vs H1 => vs.length ≤ sizeLine ∧ ∀ p, H1 p = none → Q (.ref p) (upd H1 p (.lst vs))) : tLst ta σ H Q := h
theorem k_seq {tu tz : TS} {D : Ends} {σ : L2.St} {H : Hp} (h : tu { D with nx := tz D } σ H) : tSeq tu tz D σ H := h
theorem k_put {td ty tv : TE} {D : Ends} {σ : L2.St} {H : Hp} (h : tv σ H fun v H1 => td σ H1 fun x H2 => ty σ H2 fun y H3 => ∃ a H4, x = .ref a ∧ DPut H3 a y v H4 ∧ D.nx σ H4) : sDPut td ty tv D σ H := h
theorem q_ifJ {tt : TT} {tu tz : TS} {D : Ends} {σ : L2.St} {H : Hp} {b : Bool} (h : GT tt σ H b) (J : L2.St → Hp → Prop) (hJ : ∀ σ H, J σ H → tz D σ H) (h1 : b = true → (∀ σ H, J σ H → tz D σ H) → ∀ H1, Same H H1 → tu { D with nx := tz D } σ H1) (h0 : b = false → ∀ H1, Same H H1 → J σ H1) : tSeq (tIfS tt tu tNext) tz D σ H :=
  q_if h (fun e H1 s => h1 e hJ H1 s) fun e H1 s => hJ σ H1 (h0 e H1 s)
def lastL (n : Nat) (f : Nat → Nat) : List Nat := match n with
  | 0 => []
  | j + 1 => [f j]
theorem cut_last (f : Nat → PyData) : ∀ j : Nat, cutPD ((List.range j).map f) (some (-1)) none = match j with | 0 => [] | k + 1 => [f k]
  | 0 => rfl
  | k + 1 => by
    show (((List.range (k + 1)).map f).drop (HT.sIx ((List.range (k + 1)).map f).length 0 (some (-1)))).take (HT.sIx ((List.range (k + 1)).map f).length ((List.range (k + 1)).map f).length none - HT.sIx ((List.range (k + 1)).map f).length 0 (some (-1))) = [f k]
    have e : HT.sIx ((List.range (k + 1)).map f).length 0 (some (-1)) = k := by
      unfold HT.sIx
      rw [List.length_map, List.length_range]
      show (if (-1 : Int) < 0 then (-1 + ((k + 1 : Nat) : Int)).toNat else _) = k
      rw [if_pos (by decide)]
      omega
    have e2 : HT.sIx ((List.range (k + 1)).map f).length ((List.range (k + 1)).map f).length none = k + 1 := by
      show ((List.range (k + 1)).map f).length = k + 1
      rw [List.length_map, List.length_range]
    rw [e, e2, List.range_succ, List.map_append, List.drop_append_of_le_length (by simp), List.drop_of_length_le (by simp), List.nil_append, show k + 1 - k = 1 by omega]
    rfl
def befD (M : Nat → Nat → Bool) (m i : Nat) : PyData := .list ((List.range m).map fun j => .int (L M i (j + 1) : Int))
def spLevels : Sp := fun us H Q _ => ∃ (X : Addr → Prop) (v1 v2 : V) (d1 d2 : PyData) (ws vs : List Str), us = [v1, v2] ∧ Trk X H ∧ DX X H v1 d1 ∧ DX X H v2 d2 ∧ Txt d1 ws ∧ Txt d2 vs ∧ ∀ D H', Same H H' → H D = none → H' D = some (.dT ((lvC (Mw ws vs) vs.length ws.length).map celV)) → Q (.ref D) H'
abbrev s_levels_in : Stmt := topS 14
abbrev n_levels_in : List Str := ["one", "other", "before", "levels", "i", "words", "found", "ahead", "j", "said", "longest", "_"]
theorem sc_levels_in : FnScope n_levels_in ["one", "other"] (defScope s_levels_in) := ⟨rfl, rfl, rfl, by decide +kernel, rfl, by decide +kernel, by decide +kernel⟩
theorem ok_levels_in {f : Addr} {fd : FuncData} (F : Fun K "levels_in" "levels_in" s_levels_in f fd) (T : Bl mg) (b_max : mg "max" = none) : FnOk P w K mg base CX0 1 f fd ["one", "other"] spLevels := by
  refine F.ok sc_levels_in (fun vs H Q E h => ?_) (fun cdv A outer s H us Q E hr h => ?_)
  · obtain ⟨X, v1, v2, d1, d2, ws, vs, rfl, _⟩ := h
    rfl
  · obtain ⟨X, v1, v2, d1, d2, ws, vs, rfl, t, r1, r2, T1, T2, q⟩ := h
    refine ⟨_, (pss_cons (ps_setLc (i := 2) (own := [("_", 11)]) (g := (gName 11)) (tt := tYes) rfl sc_levels_in.nd rfl rfl (sw_true rfl rfl rfl (by decide +kernel)) (pi_seq (pv 1)) (blkOk_by (N := n_levels_in) (sc := defScope s_levels_in) (by decide +kernel)) (fun _ _ _ _ _ => (pg_name (i := 11) sc_levels_in.nd rfl (by first | exact Or.inl rfl | exact Or.inr rfl))) (fun _ _ _ _ _ => pts_nil) (fun _ _ _ _ _ => pe_int))
    (pss_cons (ps_set (i := 3) sc_levels_in.nd rfl (by first | exact Or.inl rfl | exact Or.inr rfl) pe_dnewT)
    (pss_cons (ps_for PassesOwn.never rfl (pi_enumQ (by rfl) T.b_enumerate (pa_cons (pv 0) pa_nil)) (pg_tup (n := 2) rfl (pgs_cons (pg_name (i := 4) sc_levels_in.nd rfl (by first | exact Or.inl rfl | exact Or.inr rfl)) (pgs_cons (pg_name (i := 5) sc_levels_in.nd rfl (by first | exact Or.inl rfl | exact Or.inr rfl)) pgs_nil)))
    (pss_cons (ps_set (i := 6) sc_levels_in.nd rfl (by first | exact Or.inl rfl | exact Or.inr rfl) (pe_lst pa_nil))
    (pss_cons (ps_set (i := 7) sc_levels_in.nd rfl (by first | exact Or.inl rfl | exact Or.inr rfl) pe_int)
    (pss_cons (ps_for PassesOwn.never rfl (pi_enumQ (by rfl) T.b_enumerate (pa_cons (pv 1) pa_nil)) (pg_tup (n := 2) rfl (pgs_cons (pg_name (i := 8) sc_levels_in.nd rfl (by first | exact Or.inl rfl | exact Or.inr rfl)) (pgs_cons (pg_name (i := 9) sc_levels_in.nd rfl (by first | exact Or.inl rfl | exact Or.inr rfl)) pgs_nil)))
    (pss_cons (ps_set (i := 10) sc_levels_in.nd rfl (by first | exact Or.inl rfl | exact Or.inr rfl) (pe_callB (cr_max rfl) (by rfl) b_max boot_max (pa_cons (pe_op op_addA (pe_lst (pa_cons (pe_ix ix_seq (pv 2) (pv 8) (fun _ _ => rfl)) pa_nil)) (pe_slice sl_list (pv 6) (po_some (pe_un un_neg pe_int)) po_none)) pa_nil)))
    (pss_cons (ps_if (pt_cmpR (op_eqD hr.units) (pv 5) (pv 9) (nomark _))
    (pss_cons (ps_dput (hu_of hr) (pv 3) (pe_tup (pa_cons (pv 4) (pa_cons (pv 8) pa_nil))) (pe_op op_addA (pv 7) pe_int) rfl)
    (pss_one (ps_set (i := 10) sc_levels_in.nd rfl (by first | exact Or.inl rfl | exact Or.inr rfl) (pe_callB (cr_max rfl) (by rfl) b_max boot_max (pa_cons (pe_lst (pa_cons (pv 10) (pa_cons (pe_op op_addA (pv 7) pe_int) pa_nil))) pa_nil))))) pss_nil)
    (pss_cons (ps_set (i := 7) sc_levels_in.nd rfl (by first | exact Or.inl rfl | exact Or.inr rfl) (pe_ix ix_seq (pv 2) (pv 8) (fun _ _ => rfl)))
    (pss_one (ps_expr (pe_bm PySem.F.plainAttrs_list PySem.F.slot_list_append PySem.F.type_list_append mt_append (pv 6) (pa_cons (pv 10) pa_nil))))))))
    (pss_one (ps_set (i := 2) sc_levels_in.nd rfl (by first | exact Or.inl rfl | exact Or.inr rfl) (pv 6)))))))
    (pss_one (ps_ret (pv 3)))))), ?_⟩
    have En : EnvOk X H (L2.start n_levels_in [v1, v2]) [.dat d1, .dat d2, .un, .un, .un, .un, .un, .un, .un, .un, .un, .un] := env2 (N := n_levels_in) r1 r2 (by decide)
    have w1 := T1.few
    have w2 := T2.few
    obtain ⟨M, hM⟩ : ∃ M, M = Mw ws vs := ⟨_, rfl⟩
    rw [← hM] at q
    refine q_set (i := 2) (d := befD M vs.length 0) En (g_is (g_lc1 (ds := itemsD d2) (Γ2 := fun d => ([.dat d1, .dat d2, .un, .un, .un, .un, .un, .un, .un, .un, .un, .un].set 11 .un).set 11 (.dat d)) (fun _ => .int 0) t (gi_seq (g_var (i := 1) (d := d2) En rfl) T2.seq) (by rw [T2.its, List.length_map]; omega) (fun H3 s3 z hm => tgt_name (En.same s3)) (fun X2 H3 σ2 z hm t3 E3 => g_int)) ?_) fun H1 x1 s1 E1 => ?_
    · rw [T2.its, List.map_map]
      show PyData.list (vs.map fun _ => PyData.int 0) = PyData.list ((List.range vs.length).map fun j => PyData.int 0)
      congr 1
      apply List.ext_getElem?
      intro k
      rw [List.getElem?_map, List.getElem?_map]
      by_cases c : k < vs.length
      · rw [List.getElem?_range c, List.getElem?_eq_getElem c]
        rfl
      · rw [List.getElem?_eq_none (by omega), List.getElem?_eq_none (by rw [List.length_range]; omega)]
        rfl
    have t1 := t.mono s1
    refine k_set fun D hD => ?_
    have nX : ¬ X D := t1.new hD
    have s2 : Same H1 (upd H1 D (.dT [])) := Same.upd hD
    let X1 : Addr → Prop := fun b => X b ∨ b = D
    have t2 : Trk X1 (upd H1 D (.dT [])) := t1.one hD
    have h0 : H D = none := s1.free hD
    let Γ (i : Nat) (a b c e x y z : Sv) : List Sv := [.dat d1, .dat d2, .dat (befD M vs.length i), .val (.ref D), a, b, c, e, x, y, z, .un]
    have E2 : EnvOk X1 (upd H1 D (.dT [])) _ (Γ 0 .un .un .un .un .un .un .un) := ((E1.more (More.one hD)).same s2).setV (i := 3) (v := .ref D)
    refine s_forD (X := X1) (gi_enumQ (g_var (i := 0) (d := d1) E2 rfl) T1.seq) (fun Hb i σ' H' => Kp X1 Hb H' ∧ Trk X1 H' ∧ Same H H' ∧ H' D = some (.dT ((lvC M vs.length i).map celV)) ∧ EnvOk X1 H' σ' (Γ i .un .un .un .un .un .un .un)) (fun Hb sb => ⟨Kp.refl, t2.mono sb, (s1.trans s2).trans sb, sb _ _ upd_same, E2.same sb⟩) (fun Hb i σ' H' p => ⟨p.1, p.2.1⟩) ?_ ?_
    rotate_left
    · rintro Hb σ' H' sb ⟨p1, p2, p3, p4, E⟩
      rw [enumD_len, T1.its, List.length_map] at p4
      show tRet (tVar 3) { nx := fun _ H' => Q .non H', rt := Q } σ' H'
      exact ⟨_, E.get 3 _ rfl, q D H' p3 h0 p4⟩
    rintro Hb i x d σ' H' H'' sb hd ⟨p1, p2, p3, p4, E⟩ s5 dx
    rw [T1.its] at hd
    obtain ⟨hi, rfl⟩ := enum_at hd
    refine g_pair (i := 4) (j := 5) dx fun u v q1 q2 => ?_
    have E6 : EnvOk X1 H'' _ (Γ i (.dat (.int (i : Nat))) (.dat (.str (wAt ws i))) .un .un .un .un .un) := ((E.same s5).set (i := 4) q1).set (i := 5) q2
    have t6 := p2.mono s5
    refine k_set (k_lstN (k_nil ⟨by show 0 ≤ sizeLine; omega, fun Lf hF => ?_⟩))
    have s7 : Same H'' (upd H'' Lf (.lst [])) := Same.upd hF
    have nXF : ¬ X1 Lf := t6.new hF
    let X2 : Addr → Prop := fun b => X1 b ∨ b = Lf
    have t7 : Trk X2 (upd H'' Lf (.lst [])) := t6.one hF
    have E7 := ((E6.more (More.one hF)).same s7).setV (i := 6) (v := .ref Lf)
    refine q_set (i := 7) (d := .int (L M i 0 : Int)) E7 (g_is g_int (by rw [L_z]; rfl)) fun H8 v8 s8 E8 => ?_
    have t8 := t7.mono s8
    have nDL : D ≠ Lf := fun z => nXF (.inr z.symm)
    have s58 : Same H' H8 := (s5.trans s7).trans s8
    have E8 : EnvOk X2 H8 _ (Γ i (.dat (.int (i : Nat))) (.dat (.str (wAt ws i))) (.val (.ref Lf)) (.dat (.int (L M i 0 : Int))) .un .un .un) := E8
    have few : (lvC M vs.length i).length ≤ 3600 := by
      have h1 := lvC_len (M := M) (m := vs.length) (i := i)
      have h2 : i * vs.length ≤ 60 * 60 := Nat.mul_le_mul (by omega) (by omega)
      omega
    refine s_forD (X := X2) (gi_enumQ (g_var (i := 1) (d := d2) E8 rfl) T2.seq) (fun Hc j σ2 H2 => Kp X2 Hc H2 ∧ Trk X2 H2 ∧ (∀ a o, a ≠ D → a ≠ Lf → H8 a = some o → H2 a = some o) ∧ H2 D = some (.dT ((lvC M vs.length i ++ lvRow M i j).map celV)) ∧ (∃ ys, H2 Lf = some (.lst ys) ∧ DXs X2 H2 ys ((List.range j).map fun k => .int (L M (i + 1) (k + 1) : Int))) ∧ EnvOk X2 H2 σ2 (Γ i (.dat (.int (i : Nat))) (.dat (.str (wAt ws i))) (.val (.ref Lf)) (.dat (.int (L M i j : Int))) .un .un .un)) (fun Hc sc => ⟨Kp.refl, t8.mono sc, fun a o _ _ e => sc _ _ e, by rw [lvRow, List.append_nil]; exact sc _ _ (s58 _ _ p4), ⟨[], sc _ _ (s8 _ _ upd_same), .nil⟩, E8.same sc⟩) (fun Hc j σ2 H2 p => ⟨p.1, p.2.1⟩) ?_ ?_
    rotate_left
    · rintro Hc σ2 H2 sc ⟨c1, c2, c3, c4, ⟨ys, c5, c6⟩, E9⟩
      rw [enumD_len, T2.its, List.length_map] at c4 c6 E9
      have Eg : EnvOk X1 H2 σ2 (Γ i (.dat (.int (i : Nat))) (.dat (.str (wAt ws i))) (.dat (befD M vs.length (i + 1))) (.dat (.int (L M i vs.length : Int))) .un .un .un) := EnvOk.give (X := X1) (L := Lf) (i := 6) E9 rfl nXF c5 c6
      refine k_set1 (g_var (i := 6) (d := befD M vs.length (i + 1)) Eg rfl H2 (Same.refl _) _ fun w H3 s3 r3 => ?_)
      have kept : ∀ a o, a ≠ D → H' a = some o → H3 a = some o := fun a o nd e => s3 _ _ (c3 a o nd (fun z => by rw [z, s5.free hF] at e; cases e) (s58 _ _ e))
      refine ⟨fun a o nx e => kept a o (fun z => nx (.inr z)) (p1 a o nx e), fun a h => (c2.mono s3) a (.inl h), fun a o e => kept a o (fun z => by rw [z, h0] at e; cases e) (p3 a o e), s3 _ _ c4, ?_⟩
      exact envUn' (envUn' (envUn' (envUn' ((Eg.same s3).set (i := 2) r3) 4) 5) 6) 7
    rintro Hc j x' d' σ2 H2 H2' sc hd' ⟨c1, c2, c3, c4, ⟨ys, c5, c6⟩, E9⟩ s9 dx'
    rw [T2.its] at hd'
    obtain ⟨hj, rfl⟩ := enum_at hd'
    refine g_pair (i := 8) (j := 9) dx' fun u' v' q3 q4 => ?_
    have t9 := c2.mono s9
    have EA : EnvOk X2 H2' _ (Γ i (.dat (.int (i : Nat))) (.dat (.str (wAt ws i))) (.val (.ref Lf)) (.dat (.int (L M i j : Int))) (.dat (.int (j : Nat))) (.dat (.str (wAt vs j))) .un) := ((E9.same s9).set (i := 8) q3).set (i := 9) q4
    have bef : ∀ {Z : Hp} {τ : L2.St} {Δ : List Sv}, Trk X2 Z → EnvOk X2 Z τ Δ → Δ[2]? = some (.dat (befD M vs.length i)) → Δ[8]? = some (.dat (.int (j : Nat))) → G X2 (tOp (rIx K) (tVar 2) (tVar 8)) τ Z (.int (L M i (j + 1) : Int)) := fun t E e2 e8 => g_ixL t (g_var E e2) (g_var E e8) (atI_nat (by rw [List.getElem?_map, List.getElem?_range hj]; rfl))
    have DA := s9 _ _ c4
    have FA := s9 _ _ c5
    have XA := c6.mono (Kp.of s9)
    have oldl : ∃ ns : List Int, ns.map PyData.int = cutPD ((List.range j).map fun k => .int (L M (i + 1) (k + 1) : Int)) (some (-1)) none ∧ (∀ y ∈ ns, y = (L M (i + 1) j : Int)) ∧ ns.length ≤ 1 ∧ (0 < j → (L M (i + 1) j : Int) ∈ ns) := by
      rw [cut_last (fun k => .int (L M (i + 1) (k + 1) : Int)) j]
      cases j with
      | zero => exact ⟨[], rfl, fun y hy => (by cases hy), by simp, fun h => (by omega)⟩
      | succ k => exact ⟨[(L M (i + 1) (k + 1) : Int)], rfl, fun y hy => List.mem_singleton.mp hy, by simp, fun _ => List.mem_singleton.mpr rfl⟩
    obtain ⟨ns, n1, n2, n3, n4⟩ := oldl
    obtain ⟨lg, hlg⟩ : ∃ lg : Nat, lg = max (L M i (j + 1)) (L M (i + 1) j) := ⟨_, rfl⟩
    refine q_set (i := 10) (d := .int (lg : Int)) EA (g_max (ns := (L M i (j + 1) : Int) :: ns) t9 (g_is (g_cat t9 (g_lst t9 (ga_cons (bef t9 EA rfl rfl) ga_nil) (by simp)) (g_slOwn t9 EA rfl FA XA (go_some (X := X2) g_neg1) go_none) (by rw [← n1, List.length_map]; show 1 + ns.length ≤ _; omega)) (by rw [← n1]; rfl)) (by simp) ?_ ?_) fun HB vB sB EB => ?_
    · by_cases c : L M (i + 1) j ≤ L M i (j + 1)
      · rw [hlg, Nat.max_eq_left c]
        exact List.mem_cons_self
      · rw [hlg, Nat.max_eq_right (by omega)]
        refine List.mem_cons_of_mem _ (n4 ?_)
        by_cases z : j = 0
        · rw [z, L_z] at c
          omega
        · omega
    · intro y hy
      have := Nat.le_max_left (L M i (j + 1)) (L M (i + 1) j)
      have := Nat.le_max_right (L M i (j + 1)) (L M (i + 1) j)
      rcases List.mem_cons.mp hy with rfl | hy
      · omega
      · rw [n2 y hy]
        omega
    have tB := t9.mono sB
    have EB : EnvOk X2 HB _ (Γ i (.dat (.int (i : Nat))) (.dat (.str (wAt ws i))) (.val (.ref Lf)) (.dat (.int (L M i j : Int))) (.dat (.int (j : Nat))) (.dat (.str (wAt vs j))) (.dat (.int (lg : Int)))) := EB
    have sAB := s9.trans sB
    let Jv : L2.St → Hp → Prop := fun σ3 H3 => Kp X2 Hc H3 ∧ Trk X2 H3 ∧ (∀ a o, a ≠ D → a ≠ Lf → H8 a = some o → H3 a = some o) ∧ H3 D = some (.dT ((lvC M vs.length i ++ lvRow M i (j + 1)).map celV)) ∧ (∃ ys, H3 Lf = some (.lst ys) ∧ DXs X2 H3 ys ((List.range j).map fun k => .int (L M (i + 1) (k + 1) : Int))) ∧ EnvOk X2 H3 σ3 (Γ i (.dat (.int (i : Nat))) (.dat (.str (wAt ws i))) (.val (.ref Lf)) (.dat (.int (L M i j : Int))) (.dat (.int (j : Nat))) (.dat (.str (wAt vs j))) (.dat (.int (L M (i + 1) (j + 1) : Int))))
    have okw : ∀ {k : Nat} {us : List Str}, (∀ z ∈ us, PyData.strOk z = true) → k < us.length → SeqAt.shaped (.str (wAt us k)) = true := fun {k us} ok hk => shaped_str (by unfold wAt; rw [List.getD_eq_getElem?_getD, List.getElem?_eq_getElem hk]; exact ok _ (List.getElem_mem hk))
    refine q_ifJ (b := M i j) (gt_is (gt_eqD (K := K) tB (g_var (i := 5) (d := .str (wAt ws i)) EB rfl) (g_var (i := 9) (d := .str (wAt vs j)) EB rfl) rfl rfl (okw T1.ok hi) (okw T2.ok hj)) (by rw [eqv_str, hM]; unfold Mw; exact decide_eq_decide.mpr eq_comm)) Jv (fun σ3 H3 pJ => ?_) (fun hb hJ HC sC => ?_) fun hb HC sC => ?_
    · obtain ⟨e1, e2, e3, e4, ⟨zs, e5, e6⟩, EC⟩ := pJ
      refine q_set (i := 7) (d := .int (L M i (j + 1) : Int)) EC (bef e2 EC rfl rfl) fun HD vD sD ED => ?_
      have tD := e2.mono sD
      refine k_drop1 (q_append (i := 6) (L := Lf) (d := .int (L M (i + 1) (j + 1) : Int)) ED rfl (.inr rfl) tD (sD _ _ e5) (e6.mono (Kp.of sD)) (g_var (i := 10) (d := .int (L M (i + 1) (j + 1) : Int)) ED rfl) (by rw [List.length_map, List.length_range]; omega) fun HE zs' hE xE EE tE kE => ?_)
      refine ⟨(e1.trans (Kp.of sD)).trans fun a o n e => kE a o (fun z => n (.inr z)) e, tE, fun a o n1 n2 e => kE a o n2 (sD _ _ (e3 a o n1 n2 e)), kE _ _ nDL (sD _ _ e4), ⟨zs', hE, ?_⟩, ?_⟩
      · rw [List.range_succ, List.map_append]
        exact xE
      · exact envUn' (envUn' (envUn' EE 8) 9) 10
    · have EC := EB.same sC
      have tC := tB.mono sC
      refine k_seq (k_put ?_)
      refine (g_addI (j := 1) tC (g_var (i := 7) (d := .int (L M i j : Int)) EC rfl) g_int) HC (Same.refl _) _ fun w1 H3 s3 r3 => ⟨_, (EC.same s3).get 3 _ rfl, ?_⟩
      refine g_var (i := 4) (d := .int (i : Nat)) (EC.same s3) rfl H3 (Same.refl _) _ fun w2 H4 s4 r4 => g_var (i := 8) (d := .int (j : Nat)) ((EC.same s3).same s4) rfl H4 (Same.refl _) _ fun w3 H5 s5' r5 => ⟨by show 2 ≤ sizeLine; decide, fun y hy => ?_⟩
      rw [r3.int_inv, r4.int_inv, r5.int_inv]
      have sg : Same HC (upd H5 y (.tup [.int (i : Nat), .int (j : Nat)])) := ((s3.trans s4).trans s5').trans (Same.upd hy)
      have Dg := (sAB.trans (sC.trans sg)) _ _ c4
      have Fg := (sAB.trans (sC.trans sg)) _ _ c5
      have fewr := lvRow_len (M := M) (i := i) (j := j)
      refine ⟨D, _, rfl, DPut.t (k := keyC (i, j)) Dg upd_same (by rw [List.length_map, List.length_append, sizeLine_eq]; omega), ?_⟩
      have eput : putK ((lvC M vs.length i ++ lvRow M i j).map celV) (keyC (i, j)) (.int ((L M i j : Int) + 1)) = (lvC M vs.length i ++ lvRow M i (j + 1)).map celV := by
        rw [putK_new _ (val_none fun c hc e => ?_), lvRow, if_pos hb, ← List.append_assoc, List.map_append (l₁ := lvC M vs.length i ++ lvRow M i j)]
        · rfl
        · rcases List.mem_append.mp hc with h | h
          · have := (lvC_in.mp h).1
            rw [e] at this
            exact absurd this (Nat.lt_irrefl _)
          · have := (lvRow_in.mp h).2.1
            rw [e] at this
            exact absurd this (Nat.lt_irrefl _)
      rw [eput]
      have kp : Kp X2 (upd H5 y (.tup [.int (i : Nat), .int (j : Nat)])) (upd (upd H5 y (.tup [.int (i : Nat), .int (j : Nat)])) D (.dT ((lvC M vs.length i ++ lvRow M i (j + 1)).map celV))) := Kp.put (.inl (.inr rfl))
      have EG := (EC.same sg).mono kp
      have tG := (tC.mono sg).put (p := D) (o := .dT ((lvC M vs.length i ++ lvRow M i (j + 1)).map celV))
      have sAll : Same H2 (upd H5 y (.tup [.int (i : Nat), .int (j : Nat)])) := sAB.trans (sC.trans sg)
      have kept : ∀ a o, a ≠ D → H2 a = some o → upd (upd H5 y (.tup [.int (i : Nat), .int (j : Nat)])) D (.dT ((lvC M vs.length i ++ lvRow M i (j + 1)).map celV)) a = some o := fun a o n e => by
        rw [upd_ne n]
        exact sAll _ _ e
      have hDu : upd (upd H5 y (.tup [.int (i : Nat), .int (j : Nat)])) D (.dT ((lvC M vs.length i ++ lvRow M i (j + 1)).map celV)) D = some (.dT ((lvC M vs.length i ++ lvRow M i (j + 1)).map celV)) := upd_same
      have XG := (c6.mono (Kp.of sAll)).mono kp
      generalize upd (upd H5 y (.tup [.int (i : Nat), .int (j : Nat)])) D (.dT ((lvC M vs.length i ++ lvRow M i (j + 1)).map celV)) = HG at *
      refine k_set1 ((g_max (ns := [(lg : Int), (L M i j : Int) + 1]) (m := (L M (i + 1) (j + 1) : Int)) tG (g_lst tG (ga_cons (g_var (i := 10) (d := .int (lg : Int)) EG rfl) (ga_cons (g_addI (j := 1) tG (g_var (i := 7) (d := .int (L M i j : Int)) EG rfl) g_int) ga_nil)) (by simp)) (by simp) ?_ ?_) HG (Same.refl _) _ fun w9 H9 s9' r9 => hJ _ _ ?_)
      · rw [L_s, if_pos hb, ← hlg]
        by_cases c : L M i j + 1 ≤ lg
        · rw [Nat.max_eq_left c]
          exact List.mem_cons_self
        · rw [Nat.max_eq_right (by omega)]
          exact List.mem_cons_of_mem _ (List.mem_singleton.mpr (by omega))
      · intro z hz
        have e : L M (i + 1) (j + 1) = max lg (L M i j + 1) := by rw [L_s, if_pos hb, ← hlg]
        have := Nat.le_max_left lg (L M i j + 1)
        have := Nat.le_max_right lg (L M i j + 1)
        rcases List.mem_cons.mp hz with rfl | hz
        · omega
        · rw [List.mem_singleton.mp hz]
          omega
      · refine ⟨fun a o n e => s9' _ _ (kept a o (fun z => n (.inl (.inr z))) (c1 a o n e)), tG.mono s9', fun a o n1 n2 e => s9' _ _ (kept a o n1 (c3 a o n1 n2 e)), s9' _ _ hDu, ⟨ys, s9' _ _ (kept _ _ (Ne.symm nDL) c5), XG.mono (Kp.of s9')⟩, (EG.same s9').set (i := 10) r9⟩
    · have sAC := sAB.trans sC
      have e0 : L M (i + 1) (j + 1) = lg := by rw [L_s, if_neg (by rw [hb]; simp), ← hlg]; omega
      refine ⟨c1.trans (Kp.of sAC), tB.mono sC, fun a o n1 n2 e => sAC _ _ (c3 a o n1 n2 e), ?_, ⟨ys, sAC _ _ c5, c6.mono (Kp.of sAC)⟩, ?_⟩
      · rw [lvRow, if_neg (by rw [hb]; simp), List.append_nil]
        exact sAC _ _ c4
      · rw [e0]
        exact EB.same sC
end K56

/-! xs[::-1], where xs is a tuple (or a list). -/
namespace KR
open PySem PySem.Calls PySem.Spec PyProof.Rows HT L2
section
variable {prog : Program} {w : World} {A : Around} {E : Value → Shared → Prop} {s : Shared}
theorem applied {sl : Addr} {va vb vc : Value} {n : Nat} {Q : Int × Int × Nat → Shared → Prop} (hs : s.heap.IsSliceOf sl va vb vc) (pa : IsPart va none) (pb : IsPart vb none) (pc : IsPart vc (some (-1)))
    (h : Q ((n : Int) - 1, -1, n) s) : wpAny (model prog w) A (Builtin.Slice.sliceApplied (.ref sl) (pure (n : Int))) Q E s := by
  obtain ⟨o, ho, hc, hd⟩ := id hs
  unfold Builtin.Slice.sliceApplied Builtin.Slice.sliceFields
  refine wpAny_bind (wpAny_bind (wpAny_field ho hd (x := va) rfl (wpAny_bind (wpAny_field ho hd (x := vb) rfl (wpAny_bind (wpAny_field ho hd (x := vc) rfl (wpAny_pure ?_)))))))
  refine wpAny_bind (slicePart_ pc ?_)
  show wpAny _ _ (if ((-1 : Int) == 0) = true then _ else _) _ _ s
  rw [if_neg (by decide)]
  refine wpAny_bind (slicePart_ pa (wpAny_bind (slicePart_ pb (wpAny_bind (wpAny_pure ?_)))))
  have e : Builtin.Slice.sliceAdjust none none (-1) (n : Int) = ((n : Int) - 1, -1) := by
    unfold Builtin.Slice.sliceAdjust
    simp
  have e2 : Builtin.Slice.slicePlaces ((n : Int) - 1) (-1) (-1) = n := by
    unfold Builtin.Slice.slicePlaces
    rw [if_neg (by decide)]
    by_cases c : n = 0
    · subst c
      decide
    · rw [if_pos (by omega)]
      have : (((n : Int) - 1) - (-1) - 1) / (-(-1)) = (n : Int) - 1 := by
        rw [show (-(-1) : Int) = 1 by decide, Int.ediv_one]
        omega
      rw [this]
      omega
  show wpAny _ _ (match Builtin.Slice.sliceAdjust none none (-1) (n : Int) with | (a, b) => pure (a, (-1 : Int), Builtin.Slice.slicePlaces a b (-1))) _ _ s
  rw [e]
  show wpAny _ _ (pure ((n : Int) - 1, (-1 : Int), Builtin.Slice.slicePlaces ((n : Int) - 1) (-1) (-1))) _ _ s
  rw [e2]
  exact wpAny_pure h
theorem fm_congr {α β : Type} {f g : α → Option β} : ∀ {l : List α}, (∀ a ∈ l, f a = g a) → l.filterMap f = l.filterMap g
  | [], _ => rfl
  | a :: l, h => by rw [List.filterMap_cons, List.filterMap_cons, h a List.mem_cons_self, fm_congr fun b hb => h b (List.mem_cons_of_mem _ hb)]
theorem picked (xs : Array Value) : ((List.range xs.size).filterMap fun (m : Nat) => xs[(((xs.size : Int) - 1) + (m : Int) * (-1)).toNat]?).toArray = xs.toList.reverse.toArray := by
  congr 1
  rw [← PySem.W.krv_all xs, ← List.filterMap_reverse, ← PySem.W.krv_range, List.filterMap_map]
  refine fm_congr fun m hm => ?_
  have := List.mem_range.mp hm
  show xs[(((xs.size : Int) - 1) + (m : Int) * (-1)).toNat]? = xs[xs.size - 1 - m]?
  congr 1
  omega
theorem item {t sl : Addr} {its : Array Value} {va vb vc : Value} {Q : Value → Shared → Prop} (ht : IsTup s.heap t its) (hs : s.heap.IsSliceOf sl va vb vc) (pa : IsPart va none) (pb : IsPart vb none) (pc : IsPart vc (some (-1)))
    (h : Q (.ref s.heap.objs.size) { s with heap := s.heap.push { cls := .type "tuple", data := .seq its.toList.reverse.toArray } }) (hz : its.size ≤ sizeLine) : wpAny (model prog w) A (getItem (.ref t) (.ref sl)) Q E s := by
  have fits : sizeOk (.seq its.toList.reverse.toArray) := by
    show its.toList.reverse.toArray.size ≤ sizeLine
    rw [List.size_toArray, List.length_reverse, Array.length_toList]
    exact hz
  obtain ⟨o, ho, hc, hd⟩ := id hs
  have hT : s.TypeIs (.ref sl) "slice" := ⟨o, ho, hc⟩
  unfold getItem
  try with_reducible refine wpAny_holding ?_
  first | refine wpAny_bind (wpAny_pure ?_) | skip
  refine wpAny_bind (wpAny_sequenceKey ht.typeIs (by decide) (wpAny_bind (wpAny_callSpecial?_slot (name := Str.ofString "__getitem__") ht.typeIs slot_tuple_getitem (wpAny_call_entry slot_tuple_getitem ht.typeIs entry_tuple_getitem ?_ (args_tuple_getitem _ _)))))
  show wpAny _ _ (Builtin.Tuple.tupleItemsOf (.ref t) >>= _) _ _ s
  refine wpAny_bind (tupleItemsOf_ ht (wpAny_bind (wpAny_typeOf hT ?_)))
  rw [if_pos (by decide)]
  refine wpAny_bind (applied hs pa pb pc ?_)
  show wpAny _ _ (if (((its.size : Int) - 1) == 0 && (-1 : Int) == 1 && its.size == its.size) = true then _ else _) _ _ s
  rw [if_neg (by simp)]
  rw [picked]
  first
    | exact wpAny_bind (m := Builtin.Tuple.tupleExact _) (wpAny_newObj_type (wpAny_pure ⟨_, rfl, wpAny_pure h⟩) fits)
    | exact wpAny_bind (wpAny_bind (m := Builtin.Tuple.tupleExact _) (wpAny_newObj_type (wpAny_pure ⟨_, rfl, wpAny_pure h⟩) fits))
    | exact wpAny_bind (m := Builtin.Tuple.tupleExact _) (wpAny_newObj_type (wpAny_bind (wpAny_pure (wpAny_pure ⟨_, rfl, wpAny_pure h⟩))) fits)
end
/-! ### as a reading -/
def tRevT (K : PySem.W.Frag) (te : TE) : TE := fun σ H Q => te σ H fun x H1 => ∃ a xs, x = .ref a ∧ ((SqT K H1 a xs ∧ ∀ p, H1 p = none → Q (.ref p) (upd H1 p (.tup xs.reverse))) ∨ (SqL K H1 a xs ∧ ∀ p, H1 p = none → Q (.ref p) (upd H1 p (.lst xs.reverse))))
theorem pe_revQ {X : Cx} {e : Expr} {te : TE} {k : Nat} {p1 p2 p3 pos : Pos} (he : PE X e te) : PE X (.Subscript e (.Slice none none (some (.UnaryOp .USub (.Constant (.int 1) k p1) p2)) p3) pos) (tRevT X.K te) := by
  refine ⟨fun ps s σ H Q I h => ?_⟩
  refine Subscript_ (thn (he.run ps s σ H _ I h) fun v t1 ⟨x, G1, I1, r1, a, xs, ex, hx⟩ => ?_)
  subst ex
  cases r1
  refine wpAny_Slice (thn (po_none.run ps t1 σ G1 (fun o G => o = none ∧ G = G1) I1 ⟨rfl, rfl⟩) fun va t2 ⟨l, G2, I2, pa, el, e2⟩ => ?_)
  subst el e2
  refine thn (po_none.run ps t2 σ G2 (fun o G => o = none ∧ G = G2) I2 ⟨rfl, rfl⟩) fun vb t3 ⟨u, G3, I3, pb, eu, e3⟩ => ?_
  subst eu e3
  refine thn ((po_some (pe_un un_neg pe_int) : PO X (some (.UnaryOp .USub (.Constant (.int 1) k p1) p2)) _).run ps t3 σ G3 (fun o G => o = some (-1) ∧ G = G3) I3 ⟨1, rfl, -1, rfl, rfl, rfl⟩) fun vc t4 ⟨o, G4, I4, pc, eo, e4⟩ => ?_
  subst eo e4
  have I5 : Inv X ps σ G4 { t4 with heap := t4.heap.push { cls := .type "slice", data := .fields #[va, vb, vc] } } := I4.kept (t' := t4.toks) fun b ob q => Heap.get?_push_of_some _ q
  rcases hx with ⟨hx, q⟩ | ⟨hx, q⟩
  · obtain ⟨its, r, ht, hz⟩ := I5.tuple hx
    have hl := r.length
    show wpAny (model X.prog X.w) X.A (subscriptTail e (.Slice none none (some (.UnaryOp .USub (.Constant (.int 1) k p1) p2)) p3) (.ref a) (.ref t4.heap.objs.size)) (EP X ps σ Q) X.xe { t4 with heap := t4.heap.push { cls := .type "slice", data := .fields #[va, vb, vc] } }
    refine tail_any (ops := [.ref a, .ref t4.heap.objs.size]) ht.typeIs (slot_tuple_getitem.lookup) ?_ (by with_unfolding_all rfl)
    refine item ht (Heap.IsSliceOf.new _ va vb vc) pa pb pc ?_ (by rw [List.size_toArray]; omega)
    refine ⟨.ref _, _, I5.laid (t' := t4.toks) (o := .tup xs.reverse) (fun b ob q => Heap.get?_push_of_some _ q) (Nat.le_refl _) ?_, rfl, q _ (I5.hok.fresh (Nat.le_refl _))⟩
    exact ⟨by rw [List.length_reverse]; exact hz, _, r.reverse, ⟨_, Heap.get?_push_size _ rfl, rfl, 0, rfl⟩⟩
  · obtain ⟨its, r, ht, hz⟩ := I5.list hx
    have hl := r.length
    show wpAny (model X.prog X.w) X.A (subscriptTail e (.Slice none none (some (.UnaryOp .USub (.Constant (.int 1) k p1) p2)) p3) (.ref a) (.ref t4.heap.objs.size)) (EP X ps σ Q) X.xe { t4 with heap := t4.heap.push { cls := .type "slice", data := .fields #[va, vb, vc] } }
    refine tail_any (ops := [.ref a, .ref t4.heap.objs.size]) ht.isList.typeIs (PySem.slot_list_getitem.lookup) ?_ (by with_unfolding_all rfl)
    refine wpAny_getItem_list_slice ht.isList (Heap.IsSliceOf.new _ va vb vc) pa pb pc (by decide) ?_ (by rw [List.size_toArray]; omega)
    rw [PySem.W.krv_pick]
    exact ⟨.ref _, _, I5.laid (t' := t4.toks) (o := .lst xs.reverse) (fun b ob q => Heap.get?_push_of_some _ q) (Nat.le_refl _) ⟨by rw [List.length_reverse]; exact hz, _, 0, r.reverse, Heap.get?_push_size _ rfl⟩, rfl, q _ (I5.hok.fresh (Nat.le_refl _))⟩
end KR

/-! Levels from behind. -/
namespace K56
open PySem PySem.Spec PyProof.Rows L2 KD KL
variable {P : Program} {w : World} {K : PySem.W.Frag} {mg : Str → Option Value} {base : Heap}
-- HINT levels_behind rev KR.pe_revQ
-- HINT levels_behind lctk#1 (tTup (tCons (tOp (rI0 fun i j => V.int (i - j)) (tOp (rI0 fun i j => V.int (i - j)) (tCB (fun xs H Q => ∃ x n, xs = [x] ∧ LenV K x H n ∧ Q (V.int n) H) (tCons (tVar 0) tNil)) (tC (.int 1))) (tVar 4)) (tCons (tOp (rI0 fun i j => V.int (i - j)) (tOp (rI0 fun i j => V.int (i - j)) (tCB (fun xs H Q => ∃ x n, xs = [x] ∧ LenV K x H n ∧ Q (V.int n) H) (tCons (tVar 1) tNil)) (tC (.int 1))) (tVar 5)) tNil)))
theorem dxs_rev {X : Addr → Prop} {H : Hp} : ∀ {xs : List V} {ds : List PyData}, DXs X H xs ds → DXs X H xs.reverse ds.reverse
  | _, _, .nil => .nil
  | _, _, .cons h r => by
    rw [List.reverse_cons, List.reverse_cons]
    exact (dxs_rev r).append (.cons h .nil)
def revQ : PyData → PyData
  | .list ds => .list ds.reverse
  | .tuple ds => .tuple ds.reverse
  | d => d
theorem g_revQ {X : Addr → Prop} {σ : L2.St} {H : Hp} {te : TE} {d : PyData} (t : Trk X H) (h : G X te σ H d) (hs : isSeq d = true) : G X (KR.tRevT K te) σ H (revQ d) := fun H1 s Q q =>
  h H1 s _ fun v H2 s2 r => by
    cases d with
    | list ds =>
      obtain ⟨a, xs, rfl, _, e, rx⟩ := r.lst_inv
      exact ⟨a, xs, rfl, .inr ⟨SqL.of e, fun p hp => q _ _ (s2.trans (Same.upd hp)) (DX.newL ((t.mono s).mono s2) (dxs_rev rx) hp)⟩⟩
    | tuple ds =>
      obtain ⟨a, xs, rfl, _, e, rx⟩ := r.tup_inv
      exact ⟨a, xs, rfl, .inl ⟨SqT.of e, fun p hp => q _ _ (s2.trans (Same.upd hp)) (DX.newT ((t.mono s).mono s2) (dxs_rev rx) hp)⟩⟩
    | _ => cases hs
theorem Txt.rev {d : PyData} {ws : List Str} (T : Txt d ws) : Txt (revQ d) ws.reverse := by
  have e : isSeq (revQ d) = true ∧ itemsD (revQ d) = (itemsD d).reverse := by
    have := T.seq
    cases d <;> first | exact ⟨rfl, rfl⟩ | cases this
  exact ⟨e.1, by rw [e.2, T.its, List.map_reverse], by rw [List.length_reverse]; exact T.few, fun z hz => T.ok z (List.mem_reverse.mp hz)⟩
theorem nxt_congr {f g : Nat → Bool} {b c : Nat → Nat} : ∀ {j : Nat}, (∀ k, k < j → f k = g k) → (∀ k, k ≤ j → b k = c k) → nxt f b j = nxt g c j
  | 0, _, _ => rfl
  | j + 1, h, k => by
    have ih := nxt_congr (j := j) (fun i hi => h i (by omega)) fun i hi => k i (by omega)
    show max (max (b (j + 1)) (nxt f b j)) (if f j = true then b j + 1 else 0) = max (max (c (j + 1)) (nxt g c j)) (if g j = true then c j + 1 else 0)
    rw [ih, k (j + 1) (Nat.le_refl _), k j (by omega), h j (by omega)]
theorem L_congr {M M' : Nat → Nat → Bool} {m : Nat} : ∀ {i j : Nat}, j ≤ m → (∀ a b, a < i → b < m → M a b = M' a b) → L M i j = L M' i j
  | 0, _, _, _ => rfl
  | i + 1, j, hj, h => nxt_congr (fun k hk => h i k (by omega) (by omega)) fun k hk => L_congr (by omega) fun a b ha hb => h a b (by omega) hb
theorem lvRow_congr {M M' : Nat → Nat → Bool} {i m : Nat} (h : ∀ a b, a ≤ i → b < m → M a b = M' a b) : ∀ {j : Nat}, j ≤ m → lvRow M i j = lvRow M' i j
  | 0, _ => rfl
  | j + 1, hj => by
    rw [lvRow, lvRow, lvRow_congr h (j := j) (by omega), h i j (Nat.le_refl _) (by omega), L_congr (M := M) (M' := M') (m := m) (i := i) (j := j) (by omega) fun a b ha hb => h a b (by omega) hb]
theorem lvC_congr {M M' : Nat → Nat → Bool} {m : Nat} : ∀ {i : Nat}, (∀ a b, a < i → b < m → M a b = M' a b) → lvC M m i = lvC M' m i
  | 0, _ => rfl
  | i + 1, h => by rw [lvC, lvC, lvC_congr fun a b ha hb => h a b (by omega) hb, lvRow_congr (fun a b ha hb => h a b (by omega) hb) (Nat.le_refl _)]
theorem Mw_rev {ws vs : List Str} {i j : Nat} (hi : i < ws.length) (hj : j < vs.length) : Mw ws.reverse vs.reverse i j = rv (Mw ws vs) ws.length vs.length i j := by
  unfold rv Mw wAt
  rw [List.getD_eq_getElem?_getD, List.getD_eq_getElem?_getD, List.getD_eq_getElem?_getD, List.getD_eq_getElem?_getD, List.getElem?_reverse hj, List.getElem?_reverse hi]
theorem lvRow_pair {M : Nat → Nat → Bool} {i : Nat} : ∀ {j : Nat}, (lvRow M i j).Pairwise fun a b => a.1 ≠ b.1
  | 0 => .nil
  | j + 1 => by
    rw [lvRow]
    refine List.pairwise_append.mpr ⟨lvRow_pair, ?_, fun a ha b hb e => ?_⟩
    · split <;> simp
    · have := (lvRow_in.mp ha).2.1
      split at hb
      · rw [List.mem_singleton] at hb
        rw [e, hb] at this
        exact Nat.lt_irrefl _ this
      · cases hb
theorem lvC_pair {M : Nat → Nat → Bool} {m : Nat} : ∀ {i : Nat}, (lvC M m i).Pairwise fun a b => a.1 ≠ b.1
  | 0 => .nil
  | i + 1 => by
    rw [lvC]
    refine List.pairwise_append.mpr ⟨lvC_pair, lvRow_pair, fun a ha b hb e => ?_⟩
    have h1 := (lvC_in.mp ha).1
    have h2 := (lvRow_in.mp hb).1
    rw [e] at h1
    omega
theorem wipe_three {σ : L2.St} {i j l : Nat} {x y z : Option V} : wipe ((((wipe σ [i, j, l]).set i x).set j y).set l z) [i, j, l] = wipe σ [i, j, l] := by
  show ((((((((σ.set l none).set j none).set i none).set i x).set j y).set l z).set l none).set j none).set i none = ((σ.set l none).set j none).set i none
  apply List.ext_getElem?
  intro n
  simp only [List.getElem?_set, List.length_set]
  by_cases h1 : i = n <;> by_cases h2 : j = n <;> by_cases h3 : l = n <;> simp_all
theorem k_callS {sp : Sp} {E : XK} {Q : VK} {σ : L2.St} {H : Hp} {tl : TA} (h : tl σ H fun vs H1 => sp (vs ++ []) H1 Q E) : tCall sp [] E tl σ H Q := h
theorem k_lock {t : TE} {σ : L2.St} {H : Hp} {Q : VK} (h : ∃ d u, H d = some u ∧ Mut (some u) ∧ ∀ od, t σ (upd H d (.frz od u)) fun v H' => H' d = some (.frz od u) ∧ Q v (upd H' d u)) : tLockE t σ H Q := h
def spBehind : Sp := fun us H Q _ => ∃ (X : Addr → Prop) (v1 v2 : V) (d1 d2 : PyData) (ws vs : List Str), us = [v1, v2] ∧ Trk X H ∧ DX X H v1 d1 ∧ DX X H v2 d2 ∧ Txt d1 ws ∧ Txt d2 vs ∧ ∀ D H', Same H H' → H D = none → H' D = some (.dT (((lvC (rv (Mw ws vs) ws.length vs.length) vs.length ws.length).map fun c => (tp ws.length vs.length c.1, c.2)).map celV)) → Q (.ref D) H'
abbrev s_levels_behind : Stmt := topS 15
abbrev n_levels_behind : List Str := ["one", "other", "turned_levels", "level", "i", "j"]
theorem sc_levels_behind : FnScope n_levels_behind ["one", "other"] (defScope s_levels_behind) := ⟨rfl, rfl, rfl, by decide +kernel, rfl, by decide +kernel, by decide +kernel⟩
theorem ok_levels_behind {f : Addr} {fd : FuncData} (F : Fun K "levels_behind" "levels_behind" s_levels_behind f fd) (T : Bl mg) (O_levels_in : Own P w K mg base CX0 1 "levels_in" ["one", "other"] spLevels) : FnOk P w K mg base CX0 2 f fd ["one", "other"] spBehind := by
  refine F.ok sc_levels_behind (fun vs H Q E h => ?_) (fun cdv A outer s H us Q E hr h => ?_)
  · obtain ⟨X, v1, v2, d1, d2, ws, vs, rfl, _⟩ := h
    rfl
  · obtain ⟨X, v1, v2, d1, d2, ws, vs, rfl, t, r1, r2, T1, T2, q⟩ := h
    refine ⟨_, (pss_cons (ps_set (i := 2) sc_levels_behind.nd rfl (by first | exact Or.inl rfl | exact Or.inr rfl) (pe_own O_levels_in hr (by decide) (by rfl) (pa_cons (KR.pe_revQ (pv 0)) (pa_cons (KR.pe_revQ (pv 1)) pa_nil))))
    (pss_one (ps_ret (pe_lock (KT.pe_dcT (own := [("i", 4), ("j", 5), ("level", 3)]) (g := (gTup K 2 (gCons (gTup K 2 (gCons (gName 4) (gCons (gName 5) gNil))) (gCons (gName 3) gNil)))) (tt := tYes) (tk := (tTup (tCons (tOp (rI0 fun i j => V.int (i - j)) (tOp (rI0 fun i j => V.int (i - j)) (tCB (fun xs H Q => ∃ x n, xs = [x] ∧ LenV K x H n ∧ Q (V.int n) H) (tCons (tVar 0) tNil)) (tC (.int 1))) (tVar 4)) (tCons (tOp (rI0 fun i j => V.int (i - j)) (tOp (rI0 fun i j => V.int (i - j)) (tCB (fun xs H Q => ∃ x n, xs = [x] ∧ LenV K x H n ∧ Q (V.int n) H) (tCons (tVar 1) tNil)) (tC (.int 1))) (tVar 5)) tNil)))) rfl (Nat.lt_of_succ_lt (hu_of hr)) sc_levels_behind.nd (KT.pi_itT (pv 2)) (blkOk_by (N := n_levels_behind) (sc := defScope s_levels_behind) (by decide +kernel)) (KT.Parts.mk (fun _ _ _ _ _ => (pg_tup (n := 2) rfl (pgs_cons (by exact (pg_tup (n := 2) rfl (pgs_cons (pg_name (i := 4) sc_levels_behind.nd rfl (by first | exact Or.inl rfl | exact Or.inr rfl)) (pgs_cons (pg_name (i := 5) sc_levels_behind.nd rfl (by first | exact Or.inl rfl | exact Or.inr rfl)) pgs_nil)))) (pgs_cons (pg_name (i := 3) sc_levels_behind.nd rfl (by first | exact Or.inl rfl | exact Or.inr rfl)) pgs_nil)))) (fun _ _ _ _ _ => pts_nil) (fun _ _ _ _ _ => (pe_tup (pa_cons (pe_op op_sub (pe_op op_sub (pe_callB call_len (by rfl) T.b_len boot_len (pa_cons (pv 0) pa_nil)) pe_int) (pv 4)) (pa_cons (pe_op op_sub (pe_op op_sub (pe_callB call_len (by rfl) T.b_len boot_len (pa_cons (pv 1) pa_nil)) pe_int) (pv 5)) pa_nil)))) (fun _ _ _ _ _ => (pv 3)))))))), ?_⟩
    have En : EnvOk X H (L2.start n_levels_behind [v1, v2]) [.dat d1, .dat d2, .un, .un, .un, .un] := env2 (N := n_levels_behind) r1 r2 (by decide)
    have w1 := T1.few
    have w2 := T2.few
    refine k_set (k_callS ((ga_cons (g_revQ (K := K) t (g_var (i := 0) (d := d1) En rfl) T1.seq) (ga_cons (g_revQ (K := K) t (g_var (i := 1) (d := d2) En rfl) T2.seq) ga_nil)) H (Same.refl _) _ fun us H1 s1 rs => ?_))
    have t1 := t.mono s1
    refine ⟨X, us.getD 0 .non, us.getD 1 .non, revQ d1, revQ d2, ws.reverse, vs.reverse, ?_, t1, ?_, ?_, T1.rev, T2.rev, fun D1 H2 s2 hD1 eD1 => ?_⟩
    · cases rs with
      | cons a rs =>
        cases rs with
        | cons b rs =>
          cases rs
          rfl
    · cases rs with
      | cons a rs => exact a
    · cases rs with
      | cons a rs =>
        cases rs with
        | cons b rs => exact b
    have ecs : lvC (Mw ws.reverse vs.reverse) vs.reverse.length ws.reverse.length = lvC (rv (Mw ws vs) ws.length vs.length) vs.length ws.length := by
      rw [List.length_reverse, List.length_reverse]
      exact lvC_congr fun a b ha hb => Mw_rev ha hb
    rw [ecs] at eD1
    have pw := lvC_pair (M := rv (Mw ws vs) ws.length vs.length) (m := vs.length) (i := ws.length)
    have ins : ∀ c ∈ lvC (rv (Mw ws vs) ws.length vs.length) vs.length ws.length, c.1.1 < ws.length ∧ c.1.2 < vs.length := fun c hc => ⟨(lvC_in.mp hc).1, (lvC_in.mp hc).2.1⟩
    have few : (lvC (rv (Mw ws vs) ws.length vs.length) vs.length ws.length).length ≤ 3600 := by
      have h1 := lvC_len (M := rv (Mw ws vs) ws.length vs.length) (m := vs.length) (i := ws.length)
      have h2 : ws.length * vs.length ≤ 60 * 60 := Nat.mul_le_mul (by omega) (by omega)
      omega
    generalize lvC (rv (Mw ws vs) ws.length vs.length) vs.length ws.length = cs at *
    let X1 : Addr → Prop := fun b => X b ∨ b = D1
    have s12 := s1.trans s2
    have t2 : Trk X1 H2 := fun a z => z.elim (fun z => t.mono s12 a z) fun z => ⟨_, z ▸ eD1⟩
    have E2 : EnvOk X1 H2 ((L2.start n_levels_behind [v1, v2]).set 2 (some (.ref D1))) [.dat d1, .dat d2, .val (.ref D1), .un, .un, .un] := (((En.same s1).more (More.one hD1)).same s2).setV (i := 2) (v := .ref D1)
    let σ2 : L2.St := (L2.start n_levels_behind [v1, v2]).set 2 (some (.ref D1))
    have E2 : EnvOk X1 H2 σ2 [.dat d1, .dat d2, .val (.ref D1), .un, .un, .un] := E2
    refine k_ret (k_lock ⟨D1, _, eD1, trivial, fun od => ?_⟩)
    have hL1 : upd H2 D1 (.frz od (.dT (cs.map celV))) D1 = some (.frz od (.dT (cs.map celV))) := upd_same
    have kL : Kp X1 H2 (upd H2 D1 (.frz od (.dT (cs.map celV)))) := Kp.put (.inr rfl)
    have tL : Trk X1 (upd H2 D1 (.frz od (.dT (cs.map celV)))) := t2.put
    have EL := E2.mono kL
    have nL : ∀ a, a ≠ D1 → upd H2 D1 (.frz od (.dT (cs.map celV))) a = H2 a := fun a h => upd_ne h
    generalize upd H2 D1 (.frz od (.dT (cs.map celV))) = HL at *
    refine ⟨.ref D1, EL.get 2 _ rfl, D1, od, cs.map celV, rfl, hL1, fun D hD => ?_⟩
    have nD : D ≠ D1 := fun z => by rw [z, hL1] at hD; cases hD
    have hD2 : H2 D = none := by rw [← nL D nD]; exact hD
    let X2 : Addr → Prop := fun b => X1 b ∨ b = D
    let tn : Ce → Ce := fun c => (tp ws.length vs.length c.1, c.2)
    let Γ : List Sv := [.dat d1, .dat d2, .val (.ref D1), .un, .un, .un]
    have E3 : EnvOk X2 (upd HL D (.dT [])) σ2 Γ := (EL.more (More.one hD)).same (Same.upd hD)
    have t3 : Trk X2 (upd HL D (.dT [])) := tL.one hD
    let Pv : Nat → Hp → Prop := fun i G => G D1 = some (.frz od (.dT (cs.map celV))) ∧ G D = some (.dT (((cs.take i).map tn).map celV)) ∧ (∀ a o, a ≠ D1 → H2 a = some o → G a = some o) ∧ Trk X2 G ∧ EnvOk X2 G σ2 Γ
    refine ⟨fun i m G => m = cs.length - i ∧ i ≤ cs.length ∧ Pv i G, ⟨_, rfl, Nat.zero_le _, ?_, upd_same, fun a o n e => ?_, t3, E3⟩, ?_⟩
    · rw [upd_ne (Ne.symm nD)]
      exact hL1
    · have : a ≠ D := fun z => by rw [z, hD2] at e; cases e
      rw [upd_ne this, nL a n]
      exact e
    rintro i m G ⟨rfl, hi, p1, p2, p3, p4, p5⟩
    by_cases lt : i < cs.length
    rotate_left
    · have e : i = cs.length := by omega
      subst e
      rw [List.take_length] at p2
      refine .inl ⟨⟨p1, by rw [List.length_map]; exact Nat.le_refl _⟩, p1, q D _ (fun a o e => ?_) (s12.free hD2) (by rw [upd_ne nD]; exact p2)⟩
      have n1 : a ≠ D1 := fun z => by rw [z, s1.free hD1] at e; cases e
      rw [upd_ne n1]
      exact p3 a o n1 (s12 _ _ e)
    · refine .inr ⟨⟨p1, by rw [List.length_map]; exact lt⟩, Pv (i + 1), fun G2 pn => ⟨_, by omega, rfl, lt, pn⟩, fun x G2 y => ?_⟩
      obtain ⟨Tp, qk, k, v, e1, e2, rfl, e4, rfl⟩ := y
      rw [List.getElem?_map, List.getElem?_eq_getElem lt] at e1
      obtain ⟨⟨⟩⟩ : (celV cs[i]) = (k, v) ∧ True := ⟨Option.some.inj e1, trivial⟩
      have s4 : Same G (upd G Tp (.tup [.ref qk, .int (cs[i].2 : Int)])) := Same.upd e4
      have E4 := ((((p5.same s4).wipe [4, 5, 3]).set (i := 4) (v := .int (cs[i].1.1 : Int)) (d := .int (cs[i].1.1 : Int)) (.int _)).set (i := 5) (v := .int (cs[i].1.2 : Int)) (d := .int (cs[i].1.2 : Int)) (.int _)).setV (i := 3) (v := .int (cs[i].2 : Int))
      refine ⟨Tp, _, rfl, SqT.of upd_same, rfl, _, _, rfl, qk, _, rfl, SqT.of (s4 _ _ e2), rfl, _, _, rfl, _, _, rfl, rfl, _, _, rfl, rfl, wipe_three, ?_⟩
      have t4 := p4.mono s4
      have D4 := s4 _ _ p2
      have L4 := s4 _ _ p1
      have P4 : ∀ a o, a ≠ D1 → H2 a = some o → upd G Tp (.tup [.ref qk, .int (cs[i].2 : Int)]) a = some o := fun a o n e => s4 _ _ (p3 a o n e)
      have F4 := p5.same s4
      generalize upd G Tp (.tup [.ref qk, .int (cs[i].2 : Int)]) = G4 at *
      show KT.Told D _ _ _ _ true _
      unfold KT.Told
      rw [if_pos rfl]
      obtain ⟨c1, c2⟩ := ins cs[i] (List.getElem_mem lt)
      have lenA : ∀ {Z : Hp} {τ : L2.St} {Δ : List Sv}, Trk X2 Z → EnvOk X2 Z τ Δ → Δ[0]? = some (.dat d1) → KD.G X2 (tCB (fun xs H Q => ∃ x n, xs = [x] ∧ LenV K x H n ∧ Q (V.int n) H) (tCons (tVar 0) tNil)) τ Z (.int (ws.length : Int)) := fun t E e => g_is (g_len t (g_var E e) (hasLen_seq T1.seq)) (by rw [T1.len])
      have lenB : ∀ {Z : Hp} {τ : L2.St} {Δ : List Sv}, Trk X2 Z → EnvOk X2 Z τ Δ → Δ[1]? = some (.dat d2) → KD.G X2 (tCB (fun xs H Q => ∃ x n, xs = [x] ∧ LenV K x H n ∧ Q (V.int n) H) (tCons (tVar 1) tNil)) τ Z (.int (vs.length : Int)) := fun t E e => g_is (g_len t (g_var E e) (hasLen_seq T2.seq)) (by rw [T2.len])
      refine (g_sub t4 (g_sub t4 (lenA t4 E4 rfl) g_int) (g_var (i := 4) (d := .int (cs[i].1.1 : Int)) E4 rfl)) G4 (Same.refl _) _ fun x1 Ga sa ra => (g_sub (t4.mono sa) (g_sub (t4.mono sa) (lenB (t4.mono sa) (E4.same sa) rfl) g_int) (g_var (i := 5) (d := .int (cs[i].1.2 : Int)) (E4.same sa) rfl)) Ga (Same.refl _) _ fun x2 Gb sb rb => ⟨by show 2 ≤ sizeLine; decide, fun p hp => ?_⟩
      rw [ra.int_inv, rb.int_inv]
      have sc : Same G4 (upd Gb p (.tup [.int ((ws.length : Int) - 1 - (cs[i].1.1 : Int)), .int ((vs.length : Int) - 1 - (cs[i].1.2 : Int))])) := (sa.trans sb).trans (Same.upd hp)
      have D5 := sc _ _ D4
      have L5 := sc _ _ L4
      have lti : ((cs.take i).map tn).length ≤ 3600 := by rw [List.length_map, List.length_take]; omega
      refine ⟨_, E4.get 3 _ rfl, ((cs.take i).map tn).map celV, keyC (tn cs[i]).1, p, rfl, ?_, D5, by rw [List.length_map, sizeLine_eq]; omega, ?_⟩
      · rw [upd_same]
        show some (HO.tup [_, _]) = some (HO.tup [.int ((ws.length - 1 - cs[i].1.1 : Nat) : Int), .int ((vs.length - 1 - cs[i].1.2 : Nat) : Int)])
        rw [show ((ws.length - 1 - cs[i].1.1 : Nat) : Int) = (ws.length : Int) - 1 - (cs[i].1.1 : Int) by omega, show ((vs.length - 1 - cs[i].1.2 : Nat) : Int) = (vs.length : Int) - 1 - (cs[i].1.2 : Int) by omega]
      have eput : putK (((cs.take i).map tn).map celV) (keyC (tn cs[i]).1) (.int (cs[i].2 : Int)) = ((cs.take (i + 1)).map tn).map celV := by
        rw [putK_new _ (val_none fun c hc e => ?_), List.take_add_one, List.getElem?_eq_getElem lt]
        · show _ = ((cs.take i ++ [cs[i]]).map tn).map celV
          rw [List.map_append, List.map_append]
          rfl
        · obtain ⟨b, hb, rfl⟩ := List.mem_map.mp hc
          obtain ⟨j, hj, ej⟩ := List.mem_iff_getElem.mp hb
          rw [List.length_take] at hj
          rw [List.getElem_take] at ej
          obtain ⟨b1, b2⟩ := ins b (List.mem_of_mem_take hb)
          have ne := List.pairwise_iff_getElem.mp pw j i (by omega) lt (by omega)
          rw [ej] at ne
          have x1 : ws.length - 1 - b.1.1 = ws.length - 1 - cs[i].1.1 := congrArg Prod.fst e
          have x2 : vs.length - 1 - b.1.2 = vs.length - 1 - cs[i].1.2 := congrArg Prod.snd e
          exact ne (Prod.ext (by omega) (by omega))
      rw [eput]
      have kp : Kp X2 (upd Gb p (.tup [.int ((ws.length : Int) - 1 - (cs[i].1.1 : Int)), .int ((vs.length : Int) - 1 - (cs[i].1.2 : Int))])) (upd (upd Gb p (.tup [.int ((ws.length : Int) - 1 - (cs[i].1.1 : Int)), .int ((vs.length : Int) - 1 - (cs[i].1.2 : Int))])) D (.dT (((cs.take (i + 1)).map tn).map celV))) := Kp.put (.inr rfl)
      refine ⟨?_, upd_same, fun a o n e => ?_, ((t4.mono sc).put), (F4.same sc).mono kp⟩
      · rw [upd_ne (Ne.symm nD)]
        exact L5
      · have : a ≠ D := fun z => by rw [z, hD2] at e; cases e
        rw [upd_ne this]
        exact sc _ _ (P4 a o n e)
end K56

/-! Matches, looked at. -/
namespace K56
open PySem PySem.Spec PyProof.Rows L2 KD KL
-- RAISES check_texts is_common_row common_row
-- HINT are_matches it pi_seq
-- HINT is_common_row slice sl_seq
-- HINT is_common_row enum pi_enumQ
-- HINT is_common_row ix (ix_seqK (K := K) rfl)
variable {P : Program} {w : World} {K : PySem.W.Frag} {mg : Str → Option Value} {base : Heap}
theorem ix_seqK {X : Cx} (h : X.K = K) : IxR X (rIx K) := h ▸ ix_seq
abbrev s_is_pair : Stmt := topS 8
abbrev n_is_pair : List Str := ["thing"]
theorem sc_is_pair : FnScope n_is_pair ["thing"] (defScope s_is_pair) := ⟨rfl, rfl, rfl, by decide +kernel, rfl, by decide +kernel, by decide +kernel⟩
theorem ok_is_pair {f : Addr} {fd : FuncData} (F : Fun K "is_pair" "is_pair" s_is_pair f fd) (T : Bl mg) (O_is_list : Own P w K mg base CX0 1 "is_list" ["thing"] (sp1 (fun _ => True) fun d => .bool (isSeq d))) : FnOk P w K mg base CX0 2 f fd ["thing"] (sp1 (fun _ => True) fun d => .bool (isSeq d && decide (lenD d = 2))) := by
  refine ok1 F sc_is_pair (by decide) fun cdv A outer s H E X d Q hr t hp q => ⟨_, (pss_one (ps_ret (pe_and (pe_own O_is_list hr (by decide) (by rfl) (pa_cons (pv 0) pa_nil)) (pe_one (pe_cmpR (op_eqD hr.units) (pe_callB call_len (by rfl) T.b_len boot_len (pa_cons (pv 0) pa_nil)) pe_int (nomark _)))))), fun σ En => ?_⟩
  refine s_ret (g_is (g_and (a := isSeq d) (b := decide (lenD d = 2)) (g_call1 t (g_var (i := 0) En rfl) trivial) fun h => ?_) rfl) q
  refine g_is (g_eqD (K := K) t (g_len t (g_var (i := 0) En rfl) (hasLen_seq h)) g_int rfl rfl (shaped_int _) (shaped_int _)) ?_
  rw [eqv_int]
  congr 1
  exact decide_eq_decide.mpr (by omega)
def isMatchD (ws vs : List Str) (d : PyData) : Bool := (isSeq d && decide (lenD d = 2)) && (isNumD (it d 0) && isNumD (it d 1)) && (decide (intOf (it d 0) < (ws.length : Int)) && (decide (intOf (it d 1) < (vs.length : Int)) && Mw ws vs (intOf (it d 0)).toNat (intOf (it d 1)).toNat))
def mtPre (a b : PyData) : Prop := (∃ ws, Txt a ws) ∧ ∃ vs, Txt b vs
theorem Txt.of {d : PyData} {ws : List Str} (T : Txt d ws) : wsOf d = ws := by
  unfold wsOf
  rw [T.its, List.map_map]
  exact (List.map_congr_left fun _ _ => rfl).trans (List.map_id ws)
section
variable {x qual : Str} {st : Stmt} {f : Addr} {fd : FuncData} {N : List Str} {k : Nat} {a b c : Str}
theorem ok3 {pre : PyData → PyData → PyData → Prop} {g : PyData → PyData → PyData → PyData} (F : Fun K x qual st f fd) (S : FnScope N [a, b, c] (defScope st)) (hN : 3 ≤ N.length)
    (hbody : ∀ (cdv : Value) (A : Around) (outer : List Env) (s : Shared) (H : Hp) (E : XK) (X : Addr → Prop) (d1 d2 d3 : PyData) (Q : VK), Room k (A.deeper (envOfC qual (defScope st) s.heap.objs.size f cdv)) → Trk X H → pre d1 d2 d3 → (∀ w H', Same H H' → DX X H' w (g d1 d2 d3) → Q w H') →
      ∃ t, PSs (cxOf CX0 P w K mg base N qual (defScope st) f cdv A outer s H E).nox (defBody st) t ∧ ∀ σ, EnvOk X H σ (pad N [.dat d1, .dat d2, .dat d3]) → t { nx := fun _ H' => Q .non H', rt := Q } σ H) : FnOk P w K mg base CX0 (k + 1) f fd [a, b, c] (sp3 pre g) := by
  refine F.ok S (fun vs H Q E h => ?_) (fun cdv A outer s H vs Q E hr h => ?_)
  · obtain ⟨X, v1, v2, v3, d1, d2, d3, rfl, _⟩ := h
    rfl
  · obtain ⟨X, v1, v2, v3, d1, d2, d3, rfl, t, r1, r2, r3, hp, q⟩ := h
    obtain ⟨tt, h1, h2⟩ := hbody cdv A outer s H E X d1 d2 d3 Q hr t hp q
    exact ⟨tt, h1, h2 _ (env3 r1 r2 r3 hN)⟩
end
theorem isNumD_int {d : PyData} (h : isNumD d = true) : ∃ i : Int, d = .int i ∧ 0 ≤ i := by
  cases d <;> simp [isNumD] at h ⊢
  exact h
theorem g_all {X : Addr → Prop} {σ : L2.St} {H : Hp} {te : TE} {bs : List Bool} (t : Trk X H) (h : G X te σ H (.list (bs.map PyData.bool))) : G X (tCB (rAll K) (tCons te tNil)) σ H (.bool (bs.all id)) := g_cb t (ga_cons h ga_nil) rf_all
/-! ### slices of lists and tuples -/
def rSlQ (K : PySem.W.Frag) : V → Option Int → Option Int → Hp → VK → Prop := fun x lo hi H Q => rSlL K x lo hi H Q ∨ rSlA K x lo hi H Q
theorem sl_seq {X : Cx} : SlR X (rSlQ X.K) := SlR.or sl_list sl_tupA
/-- a slice has the slice's items -/
theorem g_slQ {X : Addr → Prop} {te : TE} {tl th : TO} {σ : L2.St} {H : Hp} {d : PyData} {lo hi : Option Int} (t : Trk X H) (h : G X te σ H d) (hs : isSeq d = true) (hl : GO tl σ H lo) (hh : GO th σ H hi) : ∃ e, isSeq e = true ∧ itemsD e = cutPD (itemsD d) lo hi ∧ G X (tSl (rSlQ K) te tl th) σ H e := by
  cases d with
  | list ds =>
    refine ⟨.list (cutPD ds lo hi), rfl, rfl, fun H1 s Q q => ?_⟩
    exact h H1 s _ fun v H2 s2 r => hl H2 (s.trans s2) _ fun H3 s3 => hh H3 ((s.trans s2).trans s3) _ fun H4 s4 => by
      obtain ⟨a, xs, rfl, n, e, rx⟩ := (r.mono (Kp.of (s3.trans s4))).lst_inv
      exact .inl ⟨a, xs, rfl, SqL.of e, fun p hp => q _ _ (((s2.trans s3).trans s4).trans (Same.upd hp)) (DX.newL ((((t.mono s).mono s2).mono s3).mono s4) (rx.cut lo hi) hp)⟩
  | tuple ds =>
    refine ⟨.tuple (cutPD ds lo hi), rfl, rfl, fun H1 s Q q => ?_⟩
    exact h H1 s _ fun v H2 s2 r => hl H2 (s.trans s2) _ fun H3 s3 => hh H3 ((s.trans s2).trans s3) _ fun H4 s4 => by
      obtain ⟨a, xs, rfl, n, e, rx⟩ := (r.mono (Kp.of (s3.trans s4))).tup_inv
      have lx := rx.length
      refine .inr ⟨a, xs, rfl, SqT.of e, fun hw => q _ _ ((s2.trans s3).trans s4) ?_, fun _ p hp => q _ _ (((s2.trans s3).trans s4).trans (Same.upd hp)) (DX.newT ((((t.mono s).mono s2).mono s3).mono s4) (rx.cut lo hi) hp)⟩
      have e2 : cutPD ds lo hi = ds := by
        show (ds.drop (HT.sIx ds.length 0 lo)).take (HT.sIx ds.length ds.length hi - HT.sIx ds.length 0 lo) = ds
        rw [← lx, hw.1, hw.2, List.drop_zero, Nat.sub_zero, lx, List.take_length]
      rw [e2]
      exact .tup n e rx
  | _ => cases hs

abbrev s_is_match : Stmt := topS 20
abbrev n_is_match : List Str := ["one", "other", "thing"]
theorem sc_is_match : FnScope n_is_match ["one", "other", "thing"] (defScope s_is_match) := ⟨rfl, rfl, rfl, by decide +kernel, rfl, by decide +kernel, by decide +kernel⟩
theorem ok_is_match {f : Addr} {fd : FuncData} (F : Fun K "is_match" "is_match" s_is_match f fd) (T : Bl mg) (O_is_pair : Own P w K mg base CX0 2 "is_pair" ["thing"] (sp1 (fun _ => True) fun d => .bool (isSeq d && decide (lenD d = 2)))) (O_is_number : Own P w K mg base CX0 2 "is_number" ["thing"] (sp1 (fun _ => True) fun d => .bool (isNumD d))) : FnOk P w K mg base CX0 3 f fd ["one", "other", "thing"] (sp3 (fun a b _ => mtPre a b) fun a b c => .bool (isMatchD (wsOf a) (wsOf b) c)) := by
  refine ok3 F sc_is_match (by decide) fun cdv A outer s H E X d1 d2 d Q hr t hp q => ⟨_, (pss_cons (ps_if (PW.pt (pw_or (pt_not (pt_val (pe_own O_is_pair hr (by decide) (by rfl) (pa_cons (pv 2) pa_nil)))) (pw_or (pt_not (pt_val (pe_own O_is_number hr (by decide) (by rfl) (pa_cons (pe_ix ix_seq (pv 2) pe_int (fun _ _ => rfl)) pa_nil)))) (pw_or1 (pt_not (pt_val (pe_own O_is_number hr (by decide) (by rfl) (pa_cons (pe_ix ix_seq (pv 2) pe_int (fun _ _ => rfl)) pa_nil))))))))
    (pss_one (ps_ret pe_bl)) pss_nil)
    (pss_one (ps_ret (pe_and (pe_cmpR op_lt (pe_ix ix_seq (pv 2) pe_int (fun _ _ => rfl)) (pe_callB call_len (by rfl) T.b_len boot_len (pa_cons (pv 0) pa_nil)) (nomark _)) (pe_and (pe_cmpR op_lt (pe_ix ix_seq (pv 2) pe_int (fun _ _ => rfl)) (pe_callB call_len (by rfl) T.b_len boot_len (pa_cons (pv 1) pa_nil)) (nomark _)) (pe_one (pe_cmpR (op_eqD hr.units) (pe_ix ix_seq (pv 0) (pe_ix ix_seq (pv 2) pe_int (fun _ _ => rfl)) (fun _ _ => rfl)) (pe_ix ix_seq (pv 1) (pe_ix ix_seq (pv 2) pe_int (fun _ _ => rfl)) (fun _ _ => rfl)) (nomark _)))))))), fun σ En => ?_⟩
  obtain ⟨⟨ws, T1⟩, vs, T2⟩ := hp
  rw [T1.of, T2.of] at q
  have v2 : ∀ {H'}, Same H H' → G X (tVar 2) σ H' d := fun s => g_var (i := 2) (En.same s) rfl
  by_cases hs : (isSeq d && decide (lenD d = 2)) = true
  rotate_left
  · have e : isMatchD ws vs d = false := by unfold isMatchD; rw [Bool.eq_false_iff.mpr hs]; rfl
    rw [e] at q
    refine q_if (b := true) (gt_is (gt_or (a := true) (b := true) (gt_is (gt_not (gt_B (g_call1 t (v2 (Same.refl _)) trivial))) (by rw [Bool.eq_false_iff.mpr hs]; rfl)) fun h => by cases h) rfl) (fun _ H1 s1 => ?_) fun h => by cases h
    exact s_ret g_bl fun w H2 s2 dw => q w H2 (s1.trans s2) dw
  have hs2 := hs
  rw [Bool.and_eq_true, decide_eq_true_iff] at hs2
  obtain ⟨hsq, h2⟩ := hs2
  rw [lenD_seq hsq] at h2
  have at0 : atI (itemsD d) 0 = some (it d 0) := it_at rfl (by omega)
  have at1 : atI (itemsD d) 1 = some (it d 1) := it_at rfl (by omega)
  have e0 : isMatchD ws vs d = ((isNumD (it d 0) && isNumD (it d 1)) && (decide (intOf (it d 0) < (ws.length : Int)) && (decide (intOf (it d 1) < (vs.length : Int)) && Mw ws vs (intOf (it d 0)).toNat (intOf (it d 1)).toNat))) := by unfold isMatchD; rw [hs, Bool.true_and]
  rw [e0] at q
  refine q_if (b := !(isNumD (it d 0) && isNumD (it d 1))) (gt_is (gt_or (a := false) (gt_is (gt_not (gt_B (g_call1 t (v2 (Same.refl _)) trivial))) (by rw [hs]; rfl)) fun _ => gt_or (gt_not (gt_B (g_call1 t (g_ix t (v2 (Same.refl _)) hsq g_int at0) trivial))) fun _ => gt_not (gt_B (g_call1 t (g_ix t (v2 (Same.refl _)) hsq g_int at1) trivial))) (by simp [Bool.not_and])) (fun hb H1 s1 => ?_) fun hb H1 s1 => ?_
  · have e : (isNumD (it d 0) && isNumD (it d 1)) = false := by rw [Bool.not_eq_true'] at hb; exact hb
    rw [e, Bool.false_and] at q
    exact s_ret g_bl fun w H2 s2 dw => q w H2 (s1.trans s2) dw
  · have e : (isNumD (it d 0) && isNumD (it d 1)) = true := by rw [Bool.not_eq_false'] at hb; exact hb
    rw [e, Bool.true_and] at q
    have t1 := t.mono s1
    obtain ⟨i, ei, i0⟩ := isNumD_int (Bool.and_eq_true _ _ ▸ e).1
    obtain ⟨j, ej, j0⟩ := isNumD_int (Bool.and_eq_true _ _ ▸ e).2
    rw [ei, ej] at q
    have gi : ∀ {H'}, Trk X H' → Same H H' → G X (tOp (rIx K) (tVar 2) (tC (.int 0))) σ H' (.int i) := fun t s => g_is (g_ix t (v2 s) hsq g_int at0) ei
    have gj : ∀ {H'}, Trk X H' → Same H H' → G X (tOp (rIx K) (tVar 2) (tC (.int 1))) σ H' (.int j) := fun t s => g_is (g_ix t (v2 s) hsq g_int at1) ej
    have g0 : G X (tVar 0) σ H1 d1 := g_var (i := 0) (En.same s1) rfl
    have g1 : G X (tVar 1) σ H1 d2 := g_var (i := 1) (En.same s1) rfl
    refine s_ret (g_and (a := decide (i < (ws.length : Int))) (g_cmpI t1 (g := fun i j => decide (i < j)) (gi t1 s1) (g_is (g_len t1 g0 (hasLen_seq T1.seq)) (by rw [T1.len]))) fun ha => g_and (a := decide (j < (vs.length : Int))) (g_cmpI t1 (g := fun i j => decide (i < j)) (gj t1 s1) (g_is (g_len t1 g1 (hasLen_seq T2.seq)) (by rw [T2.len]))) fun hb2 => ?_) fun w H2 s2 dw => q w H2 (s1.trans s2) dw
    have li := of_decide_eq_true ha
    have lj := of_decide_eq_true hb2
    have okw : ∀ {k : Nat} {us : List Str}, (∀ z ∈ us, PyData.strOk z = true) → k < us.length → SeqAt.shaped (.str (wAt us k)) = true := fun {k us} ok hk => shaped_str (by unfold wAt; rw [List.getD_eq_getElem?_getD, List.getElem?_eq_getElem hk]; exact ok _ (List.getElem_mem hk))
    obtain ⟨a, rfl⟩ := Int.eq_ofNat_of_zero_le i0
    obtain ⟨b, rfl⟩ := Int.eq_ofNat_of_zero_le j0
    refine g_is (g_eqD (K := K) t1 (x := .str (wAt ws a)) (y := .str (wAt vs b)) (g_ix t1 g0 T1.seq (gi t1 s1) (atI_nat (by rw [T1.its, List.getElem?_map, List.getElem?_eq_getElem (by omega)]; unfold wAt; rw [List.getD_eq_getElem?_getD, List.getElem?_eq_getElem (by omega)]; rfl))) (g_ix t1 g1 T2.seq (gj t1 s1) (atI_nat (by rw [T2.its, List.getElem?_map, List.getElem?_eq_getElem (by omega)]; unfold wAt; rw [List.getD_eq_getElem?_getD, List.getElem?_eq_getElem (by omega)]; rfl))) rfl rfl (okw T1.ok (by omega)) (okw T2.ok (by omega))) ?_
    show PyData.bool (PyData.eqv (.str (wAt ws a)) (.str (wAt vs b))) = .bool (Mw ws vs ((a : Int)).toNat ((b : Int)).toNat)
    rw [eqv_str, show ((a : Int)).toNat = a by omega, show ((b : Int)).toNat = b by omega]
    unfold Mw
    congr 1
    exact decide_eq_decide.mpr eq_comm
abbrev s_are_matches : Stmt := topS 21
abbrev n_are_matches : List Str := ["one", "other", "thing", "match"]
theorem sc_are_matches : FnScope n_are_matches ["one", "other", "thing"] (defScope s_are_matches) := ⟨rfl, rfl, rfl, by decide +kernel, rfl, by decide +kernel, by decide +kernel⟩
def areD (ws vs : List Str) (d : PyData) : Bool := isSeq d && (itemsD d).all (isMatchD ws vs)
theorem ok_are_matches {f : Addr} {fd : FuncData} (F : Fun K "are_matches" "are_matches" s_are_matches f fd) (T : Bl mg) (O_is_list : Own P w K mg base CX0 1 "is_list" ["thing"] (sp1 (fun _ => True) fun d => .bool (isSeq d))) (O_is_match : Own P w K mg base CX0 3 "is_match" ["one", "other", "thing"] (sp3 (fun a b _ => mtPre a b) fun a b c => .bool (isMatchD (wsOf a) (wsOf b) c))) : FnOk P w K mg base CX0 4 f fd ["one", "other", "thing"] (sp3 (fun a b c => mtPre a b ∧ (isSeq c = true → (itemsD c).length ≤ 100000)) fun a b c => .bool (areD (wsOf a) (wsOf b) c)) := by
  refine ok3 F sc_are_matches (by decide) fun cdv A outer s H E X d1 d2 d Q hr t hp q => ⟨_, (pss_one (ps_ret (pe_and (pe_own O_is_list hr (by decide) (by rfl) (pa_cons (pv 2) pa_nil)) (pe_one (pe_callB (cr_all rfl) (by rfl) T.b_all boot_all (pa_cons (pe_lc (own := [("match", 3)]) (g := (gName 3)) (tt := tYes) rfl sc_are_matches.nd (pi_seq (pv 2)) (blkOk_by (N := n_are_matches) (sc := defScope s_are_matches) (by decide +kernel)) (fun _ _ _ _ _ => (pg_name (i := 3) sc_are_matches.nd rfl (by first | exact Or.inl rfl | exact Or.inr rfl))) (fun _ _ _ _ _ => pts_nil) (fun _ _ _ _ _ => (pe_own O_is_match hr (by decide) (by rfl) (pa_cons (pv 0) (pa_cons (pv 1) (pa_cons (pv 3) pa_nil)))))) pa_nil)))))), fun σ En => ?_⟩
  obtain ⟨hm, hl⟩ := hp
  refine s_ret (g_is (g_and (a := isSeq d) (b := (itemsD d).all (isMatchD (wsOf d1) (wsOf d2))) (g_call1 t (g_var (i := 2) En rfl) trivial) fun hs => ?_) rfl) q
  refine g_is (g_all (bs := (itemsD d).map (isMatchD (wsOf d1) (wsOf d2))) t (g_is (g_lc1 (ds := itemsD d) (Γ2 := fun z => ([.dat d1, .dat d2, .dat d, .un].set 3 .un).set 3 (.dat z)) (fun z => .bool (isMatchD (wsOf d1) (wsOf d2) z)) t (gi_seq (g_var (i := 2) En rfl) hs) (by have := hl hs; omega) (fun H3 s3 z hz => tgt_name (En.same s3)) (fun X2 H3 σ2 z hz t3 E3 => g_call3 t3 (g_var (i := 0) (d := d1) E3 rfl) (g_var (i := 1) (d := d2) E3 rfl) (g_var (i := 3) (d := z) E3 rfl) hm)) (by rw [List.map_map]; rfl))) ?_
  rw [List.all_map]
  rfl
end K56

/-! Several texts, looked at. -/
namespace K56
open PySem PySem.Spec PyProof.Rows L2 KD KL
-- RAISES check_texts
variable {P : Program} {w : World} {K : PySem.W.Frag} {mg : Str → Option Value} {base : Heap}
def textsOutN (C : Addr) : List PyData → Out
  | [] => .val .none
  | d :: r => if isNone (wrongD d) then textsOutN C r else .err C "index" (wrongD d)
theorem textsN_ok {C : Addr} {ds : List PyData} (h : ∀ d ∈ ds, isNone (wrongD d) = true) : textsOutN C ds = .val .none := by
  induction ds with
  | nil => rfl
  | cons d r ih =>
    rw [textsOutN, if_pos (h d List.mem_cons_self)]
    exact ih fun z hz => h z (List.mem_cons_of_mem _ hz)
theorem textsN_no {C : Addr} {d : PyData} (h2 : isNone (wrongD d) = false) : ∀ {ds : List PyData} {i : Nat}, ds[i]? = some d → (∀ j < i, ∀ e, ds[j]? = some e → isNone (wrongD e) = true) → textsOutN C ds = .err C "index" (wrongD d)
  | [], _, h, _ => by cases h
  | e :: r, 0, h, _ => by
    cases h
    rw [textsOutN, if_neg (by rw [h2]; simp)]
  | e :: r, i + 1, h, k => by
    rw [textsOutN, if_pos (k 0 (by omega) e rfl)]
    exact textsN_no h2 (i := i) h fun j hj z hz => k (j + 1) (by omega) z hz
abbrev s_check_texts : Stmt := topS 13
abbrev n_check_texts : List Str := ["texts", "text", "index"]
theorem sc_check_texts : FnScope n_check_texts ["texts"] (defScope s_check_texts) := ⟨rfl, rfl, rfl, by decide +kernel, rfl, by decide +kernel, by decide +kernel⟩
theorem ok_check_textsN {f C : Addr} {fd : FuncData} (F : Fun K "check_texts" "check_texts" s_check_texts f fd) (T : Bl mg) (O_wrong_words : Own P w K mg base CX0 2 "wrong_words" ["things"] (sp1 wordsAll wrongD)) (E_NoText : Ec P w K mg base "NoText" "index" C) : FnOk P w K mg base (L2.CX P w) 3 f fd ["texts"] (spX1 (fun D => ∃ ds, D = .list ds ∧ ∀ d ∈ ds, wordsAll d) fun D => textsOutN C (itemsD D)) := by
  refine okX1 F sc_check_texts (by decide) fun cdv A outer s H E X d Q hr t hp q => ⟨_, (pss_one (ps_for (passes_of rfl) rfl (pi_list (pv 0)) (pg_name (i := 1) sc_check_texts.nd rfl (by first | exact Or.inl rfl | exact Or.inr rfl))
    (pss_cons (ps_set (i := 2) sc_check_texts.nd rfl (by first | exact Or.inl rfl | exact Or.inr rfl) (pe_own O_wrong_words hr (by decide) (by rfl) (pa_cons (pv 1) pa_nil)))
    (pss_one (ps_if (pt_cmpR op_notN (pv 2) pe_non (nomark _))
    (pss_one (ps_err rfl E_NoText hr (by decide) (takes_of rfl rfl rfl rfl) (by rfl) (pa_cons (pv 2) pa_nil))) pss_nil))))), fun σ En => ?_⟩
  obtain ⟨ds, rfl, hw⟩ := hp
  have q : EndQ X H (textsOutN C ds) Q E := q
  refine s_forD (X := X) (gi_list (g_var (i := 0) (d := .list ds) En rfl)) (fun Hb i σ' H' => Same Hb H' ∧ Trk X H' ∧ EnvOk X H' σ' [.dat (.list ds), .un, .un] ∧ ∀ j < i, ∀ e, ds[j]? = some e → isNone (wrongD e) = true) (fun Hb sb => ⟨Same.refl _, t.mono sb, En.same sb, fun j h => by omega⟩) (fun Hb i σ' H' p => ⟨Kp.of p.1, p.2.1⟩) ?_ ?_
  · rintro Hb i x d' σ' H' H'' sb hd ⟨p1, p2, E0, p4⟩ s2 dx
    have E2 := (E0.same s2).set (i := 1) dx
    have t2 := p2.mono s2
    refine q_set (i := 2) E2 (g_call1 t2 (g_var (i := 1) E2 rfl) (hw d' (List.mem_of_getElem? hd))) fun H3 v3 s3 E3 => ?_
    have t3 := t2.mono s3
    refine s_if (b := !isNone (wrongD d')) (gt_op t3 (g_var (i := 2) E3 rfl) g_non rb_notN) (fun hb H4 s4 => ?_) fun hb H4 s4 => ?_
    · have e : isNone (wrongD d') = false := by simpa using hb
      refine mk_err (X := X) (g_var (i := 2) (E3.same s4) rfl) fun a v H5 s5 e5 dv => q.2 C "index" (wrongD d') (textsN_no e hd p4) a v H5 (((((sb.trans p1).trans s2).trans s3).trans s4).trans s5) e5 dv
    · have e : isNone (wrongD d') = true := by simpa using hb
      refine ⟨((p1.trans s2).trans s3).trans s4, t3.mono s4, envUn' (envUn' (E3.same s4) 1) 2, fun j hj z hz => ?_⟩
      by_cases h : j = i
      · subst h
        rw [hd] at hz
        cases hz
        exact e
      · exact p4 j (by omega) z hz
  · rintro Hb σ' H' sb ⟨p1, p2, E0, p4⟩
    exact q.1 .none (textsN_ok fun d hd => by
      obtain ⟨i, hi⟩ := List.mem_iff_getElem?.mp hd
      exact p4 i (List.getElem?_eq_some_iff.mp hi).1 d hi) .non H' (sb.trans p1) .non fun a z => by cases z
end K56

/-! A common row, looked at. -/
namespace K56
open PySem PySem.Spec PyProof.Rows L2 KD KL
-- RAISES check_texts is_common_row common_row
-- HINT is_common_row slice sl_seq
-- HINT is_common_row enum pi_enumQ
-- HINT is_common_row ix (ix_seqK (K := K) rfl)
-- HINT is_common_row lcte#1 (tCall (sp2 pqPre fun a b => .bool (behD a b)) [] E0 (tCons (tVar 4) (tCons (tOp (rIx K) (tVar 2) (tVar 3)) tNil)))
variable {P : Program} {w : World} {K : PySem.W.Frag} {mg : Str → Option Value} {base : Heap}
def Pq (d : PyData) : Prop := ∃ i j : Int, isSeq d = true ∧ itemsD d = [.int i, .int j]
def pqPre (a b : PyData) : Prop := Pq a ∧ Pq b
def behD (a b : PyData) : Bool := decide (intOf (it b 0) < intOf (it a 0)) && decide (intOf (it b 1) < intOf (it a 1))
abbrev s_comes_behind : Stmt := topS 17
abbrev n_comes_behind : List Str := ["match", "other"]
theorem sc_comes_behind : FnScope n_comes_behind ["match", "other"] (defScope s_comes_behind) := ⟨rfl, rfl, rfl, by decide +kernel, rfl, by decide +kernel, by decide +kernel⟩
theorem ok_comes_behind {f : Addr} {fd : FuncData} (F : Fun K "comes_behind" "comes_behind" s_comes_behind f fd) (T : Bl mg) : FnOk P w K mg base CX0 1 f fd ["match", "other"] (sp2 pqPre fun a b => .bool (behD a b)) := by
  refine ok2 F sc_comes_behind (by decide) fun cdv A outer s H E X d1 d2 Q hr t hp q => ⟨_, (pss_one (ps_ret (pe_and (pe_cmpR op_gt (pe_ix ix_seq (pv 0) pe_int (fun _ _ => rfl)) (pe_ix ix_seq (pv 1) pe_int (fun _ _ => rfl)) (nomark _)) (pe_one (pe_cmpR op_gt (pe_ix ix_seq (pv 0) pe_int (fun _ _ => rfl)) (pe_ix ix_seq (pv 1) pe_int (fun _ _ => rfl)) (nomark _)))))), fun σ En => ?_⟩
  obtain ⟨⟨a, b, s1, i1⟩, c, d, s2, i2⟩ := hp
  have e : behD d1 d2 = (decide (c < a) && decide (d < b)) := by unfold behD it; rw [i1, i2]; rfl
  rw [e] at q
  have ix1 : ∀ {k : Int} {z : PyData}, atI (itemsD d1) k = some z → G X (tOp (rIx K) (tVar 0) (tC (.int k))) σ H z := fun h => g_ix t (g_var (i := 0) (d := d1) En rfl) s1 g_int h
  have ix2 : ∀ {k : Int} {z : PyData}, atI (itemsD d2) k = some z → G X (tOp (rIx K) (tVar 1) (tC (.int k))) σ H z := fun h => g_ix t (g_var (i := 1) (d := d2) En rfl) s2 g_int h
  refine s_ret (X := X) (g_and (a := decide (c < a)) (b := decide (d < b)) (g_cmpI t (g := fun i j => decide (j < i)) (ix1 (z := .int a) (by rw [i1]; exact atI_nat (xs := [PyData.int a, .int b]) (j := 0) rfl)) (ix2 (z := .int c) (by rw [i2]; exact atI_nat (xs := [PyData.int c, .int d]) (j := 0) rfl))) fun _ => g_cmpI t (g := fun i j => decide (j < i)) (ix1 (z := .int b) (by rw [i1]; exact atI_nat (xs := [PyData.int a, .int b]) (j := 1) rfl)) (ix2 (z := .int d) (by rw [i2]; exact atI_nat (xs := [PyData.int c, .int d]) (j := 1) rfl))) q
def stepsD : List PyData → Bool
  | a :: b :: r => behD b a && stepsD (b :: r)
  | _ => true
def isRowD (ws vs : List Str) (d : PyData) : Bool := areD ws vs d && stepsD (itemsD d)
theorem match_pq {ws vs : List Str} {d : PyData} (h : isMatchD ws vs d = true) : Pq d := by
  unfold isMatchD at h
  simp only [Bool.and_eq_true, decide_eq_true_eq] at h
  obtain ⟨⟨⟨h1, h2⟩, h3, h4⟩, _⟩ := h
  rw [lenD_seq h1] at h2
  obtain ⟨i, ei, _⟩ := isNumD_int h3
  obtain ⟨j, ej, _⟩ := isNumD_int h4
  refine ⟨i, j, h1, ?_⟩
  unfold it at ei ej
  match hd : itemsD d, h2 with
  | [a, b], _ =>
    rw [hd] at ei ej
    have e1 : a = .int i := ei
    have e2 : b = .int j := ej
    rw [e1, e2]
theorem steps_iff : ∀ l : List PyData, stepsD l = true ↔ ∀ (j : Nat) (a b : PyData), l[j]? = some a → l[j + 1]? = some b → behD b a = true
  | [] => ⟨fun _ j a b h => (by simp at h), fun _ => rfl⟩
  | [x] => ⟨fun _ j a b h h2 => (by simp at h2), fun _ => rfl⟩
  | x :: y :: r => by
    have ih := steps_iff (y :: r)
    show (behD y x && stepsD (y :: r)) = true ↔ _
    rw [Bool.and_eq_true, ih]
    constructor
    · rintro ⟨h1, h2⟩ j a b ha hb
      cases j with
      | zero =>
        cases ha
        cases hb
        exact h1
      | succ j => exact h2 j a b ha hb
    · intro h
      exact ⟨h 0 x y rfl rfl, fun j a b ha hb => h (j + 1) a b ha hb⟩
theorem enum_mem {ds : List PyData} {z : PyData} (h : z ∈ enumD ds) : ∃ (j : Nat) (b : PyData), ds[j]? = some b ∧ z = .tuple [.int (j : Nat), b] := by
  obtain ⟨j, hj⟩ := List.mem_iff_getElem?.mp h
  have hl : j < ds.length := by
    have := (List.getElem?_eq_some_iff.mp hj).1
    rw [enumD_len] at this
    exact this
  have e := enumD_get (ds := ds) (List.getElem?_eq_getElem hl)
  rw [hj] at e
  exact ⟨j, _, List.getElem?_eq_getElem hl, Option.some.inj e⟩
theorem cut_one (ds : List PyData) : cutPD ds (some 1) none = ds.drop 1 := by
  show (ds.drop (HT.sIx ds.length 0 (some 1))).take (HT.sIx ds.length ds.length none - HT.sIx ds.length 0 (some 1)) = ds.drop 1
  rw [sIx_nn (by decide)]
  show (ds.drop (min 1 ds.length)).take (ds.length - min 1 ds.length) = ds.drop 1
  rw [List.take_of_length_le (by rw [List.length_drop]; exact Nat.le_refl _)]
  by_cases h : 1 ≤ ds.length
  · rw [Nat.min_eq_left h]
  · have : ds = [] := List.length_eq_zero_iff.mp (by omega)
    rw [this]
    rfl
theorem all_steps (l : List PyData) : ((enumD (l.drop 1)).map fun z => behD (it z 1) (l.getD (intOf (it z 0)).toNat .none)).all id = stepsD l := by
  rw [Bool.eq_iff_iff, steps_iff, List.all_eq_true]
  constructor
  · intro h j a b ha hb
    have hz : PyData.tuple [.int (j : Nat), b] ∈ enumD (l.drop 1) := List.mem_of_getElem? (enumD_get (ds := l.drop 1) (i := j) (by rw [List.getElem?_drop, Nat.add_comm]; exact hb))
    have := h _ (List.mem_map.mpr ⟨_, hz, rfl⟩)
    have e : behD b (l.getD ((j : Nat) : Int).toNat .none) = true := this
    rw [show ((j : Nat) : Int).toNat = j by omega, List.getD_eq_getElem?_getD, ha] at e
    exact e
  · intro h x hx
    obtain ⟨z, hz, rfl⟩ := List.mem_map.mp hx
    obtain ⟨j, b, hb, rfl⟩ := enum_mem hz
    rw [List.getElem?_drop, Nat.add_comm] at hb
    have hj : j < l.length := by have := (List.getElem?_eq_some_iff.mp hb).1; omega
    show behD b (l.getD ((j : Nat) : Int).toNat .none) = true
    rw [show ((j : Nat) : Int).toNat = j by omega, List.getD_eq_getElem?_getD, List.getElem?_eq_getElem hj]
    exact h j _ b (List.getElem?_eq_getElem hj) hb
theorem k_drop {te : TE} {tz : TS} {D : Ends} {σ : L2.St} {H : Hp} (h : te σ H fun _ H1 => tz D σ H1) : tSeq (tDrop te) tz D σ H := h
def Good (d : PyData) : Prop := isNone (wrongD d) = true ∧ wordsAll d
def spRow : Sp := fun us H Q _ => ∃ (X : Addr → Prop) (v1 v2 v3 : V) (d1 d2 d3 : PyData) (ws vs : List Str), us = [v1, v2, v3] ∧ Trk X H ∧ DX X H v1 d1 ∧ DX X H v2 d2 ∧ DX X H v3 d3 ∧ Txt d1 ws ∧ Txt d2 vs ∧ Good d1 ∧ Good d2 ∧ (isSeq d3 = true → (itemsD d3).length ≤ 1000) ∧ ∀ w H', Same H H' → DX X H' w (.bool (isRowD ws vs d3)) → Q w H'
abbrev s_is_common_row : Stmt := topS 22
abbrev n_is_common_row : List Str := ["one", "other", "thing", "index", "match"]
theorem sc_is_common_row : FnScope n_is_common_row ["one", "other", "thing"] (defScope s_is_common_row) := ⟨rfl, rfl, rfl, by decide +kernel, rfl, by decide +kernel, by decide +kernel⟩
theorem ok_is_common_row {f C : Addr} {fd : FuncData} (F : Fun K "is_common_row" "is_common_row" s_is_common_row f fd) (T : Bl mg) (O_check_texts : Own P w K mg base (L2.CX P w) 3 "check_texts" ["texts"] (spX1 (fun D => ∃ ds, D = .list ds ∧ ∀ d ∈ ds, wordsAll d) fun D => textsOutN C (itemsD D)))
    (O_are_matches : Own P w K mg base CX0 4 "are_matches" ["one", "other", "thing"] (sp3 (fun a b c => mtPre a b ∧ (isSeq c = true → (itemsD c).length ≤ 100000)) fun a b c => .bool (areD (wsOf a) (wsOf b) c))) (O_comes_behind : Own P w K mg base CX0 1 "comes_behind" ["match", "other"] (sp2 pqPre fun a b => .bool (behD a b))) :
    FnOk P w K mg base (L2.CX P w) 5 f fd ["one", "other", "thing"] spRow := by
  refine F.okX sc_is_common_row (fun vs H Q E h => ?_) (fun cdv A outer s H us Q E hr h => ?_)
  · obtain ⟨X, v1, v2, v3, d1, d2, d3, ws, vs, rfl, _⟩ := h
    rfl
  · obtain ⟨X, v1, v2, v3, d1, d2, d3, ws, vs, rfl, t, r1, r2, r3, T1, T2, g1, g2, hl, q⟩ := h
    refine ⟨_, (pss_cons (ps_expr (pe_ownX O_check_texts hr (by decide) (takes_of rfl rfl rfl rfl) (by rfl) (pa_cons (pe_lst (pa_cons (pv 0) (pa_cons (pv 1) pa_nil))) pa_nil)))
    (pss_one (ps_ret (pe_and (pe_own O_are_matches hr (by decide) (by rfl) (pa_cons (pv 0) (pa_cons (pv 1) (pa_cons (pv 2) pa_nil)))) (pe_one (pe_callB (cr_all rfl) (by rfl) T.b_all boot_all (pa_cons (pe_lc (own := [("index", 3), ("match", 4)]) (g := (gTup K 2 (gCons (gName 3) (gCons (gName 4) gNil)))) (tt := tYes) (te := (tCall (sp2 pqPre fun a b => .bool (behD a b)) [] E0 (tCons (tVar 4) (tCons (tOp (rIx K) (tVar 2) (tVar 3)) tNil)))) rfl sc_is_common_row.nd (pi_enumQ (by rfl) T.b_enumerate (pa_cons (pe_slice sl_seq (pv 2) (po_some pe_int) po_none) pa_nil)) (blkOk_by (N := n_is_common_row) (sc := defScope s_is_common_row) (by decide +kernel)) (fun _ _ _ _ _ => (pg_tup (n := 2) rfl (pgs_cons (pg_name (i := 3) sc_is_common_row.nd rfl (by first | exact Or.inl rfl | exact Or.inr rfl)) (pgs_cons (pg_name (i := 4) sc_is_common_row.nd rfl (by first | exact Or.inl rfl | exact Or.inr rfl)) pgs_nil)))) (fun _ _ _ _ _ => pts_nil) (fun _ _ _ _ _ => (pe_own O_comes_behind hr (by decide) (by rfl) (pa_cons (pv 4) (pa_cons (pe_ix (ix_seqK (K := K) rfl) (pv 2) (pv 3) (fun _ _ => rfl)) pa_nil))))) pa_nil))))))), ?_⟩
    have En : EnvOk X H (L2.start n_is_common_row [v1, v2, v3]) [.dat d1, .dat d2, .dat d3, .un, .un] := env3 (N := n_is_common_row) r1 r2 r3 (by decide)
    refine k_drop (c_X1 t (g_lst t (ga_cons (g_var (i := 0) (d := d1) En rfl) (ga_cons (g_var (i := 1) (d := d2) En rfl) ga_nil)) (by simp)) ⟨[d1, d2], rfl, by simp; exact ⟨g1.2, g2.2⟩⟩ ⟨fun r e w0 H1 s1 dw _ => ?_, fun C' fl r e a v H1 s1 ea dv => ?_⟩)
    rotate_left
    · exfalso
      rw [show textsOutN C (itemsD (.list [d1, d2])) = .val .none from textsN_ok (by simp [itemsD]; exact ⟨g1.1, g2.1⟩)] at e
      cases e
    have E1 := En.same s1
    have t1 := t.mono s1
    refine s_ret (X := X) (d := .bool (isRowD ws vs d3)) (g_is (g_and (a := areD ws vs d3) (b := stepsD (itemsD d3)) (g_is (g_call3 t1 (g_var (i := 0) (d := d1) E1 rfl) (g_var (i := 1) (d := d2) E1 rfl) (g_var (i := 2) (d := d3) E1 rfl) ⟨⟨⟨ws, T1⟩, vs, T2⟩, fun h => by have := hl h; omega⟩) (by rw [T1.of, T2.of])) fun ha => ?_) rfl) fun w H2 s2 dw => q w H2 (s1.trans s2) dw
    have ha2 := ha
    unfold areD at ha2
    rw [Bool.and_eq_true, List.all_eq_true] at ha2
    obtain ⟨hs, hall⟩ := ha2
    obtain ⟨e, es, ei, ge⟩ := g_slQ (K := K) (lo := some 1) (hi := none) t1 (g_var (i := 2) (d := d3) E1 rfl) hs (go_some (X := X) g_int) go_none
    rw [cut_one] at ei
    refine g_is (g_all (bs := (enumD (itemsD e)).map fun z => behD (it z 1) ((itemsD d3).getD (intOf (it z 0)).toNat .none)) t1 (g_is (g_lc1 (ds := enumD (itemsD e)) (Γ2 := fun z => [.dat d1, .dat d2, .dat d3, .dat (it z 0), .dat (it z 1)]) (fun z => .bool (behD (it z 1) ((itemsD d3).getD (intOf (it z 0)).toNat .none))) t1 (gi_enumQ ge es) (by rw [enumD_len, ei, List.length_drop]; have := hl hs; omega) (fun H3 s3 z hz => ?_) (fun X2 H3 σ2 z hz t3 E3 => ?_)) (by rw [List.map_map]; rfl))) (by rw [ei, all_steps])
    · obtain ⟨j, b, hb, rfl⟩ := enum_mem hz
      exact tgt_pair (E1.same s3) (by decide)
    · obtain ⟨j, b, hb, rfl⟩ := enum_mem hz
      rw [ei, List.getElem?_drop, Nat.add_comm] at hb
      have hj : j < (itemsD d3).length := by have := (List.getElem?_eq_some_iff.mp hb).1; omega
      have pb : Pq b := match_pq (hall b (List.mem_of_getElem? hb))
      have pa : Pq (itemsD d3)[j] := match_pq (hall _ (List.getElem_mem hj))
      have eg : (itemsD d3).getD ((j : Nat) : Int).toNat .none = (itemsD d3)[j] := by rw [show ((j : Nat) : Int).toNat = j by omega, List.getD_eq_getElem?_getD, List.getElem?_eq_getElem hj]; rfl
      show G X2 _ σ2 H3 (.bool (behD b ((itemsD d3).getD ((j : Nat) : Int).toNat .none)))
      rw [eg]
      exact g_call2 t3 (g_var (i := 4) (d := b) E3 rfl) (g_ix t3 (g_var (i := 2) (d := d3) E3 rfl) hs (g_var (i := 3) (d := .int (j : Nat)) E3 rfl) (atI_nat (List.getElem?_eq_getElem hj))) ⟨pb, pa⟩
end K56

/-! By levels. -/
namespace K56
open PySem PySem.Spec PyProof.Rows L2 KD KL
variable {P : Program} {w : World} {K : PySem.W.Frag} {mg : Str → Option Value} {base : Heap}
def topC : List Ce → Nat
  | [] => 0
  | c :: r => max c.2 (topC r)
theorem foldl_top : ∀ (cs : List Ce) (n : Nat), (cs.map fun c => (c.2 : Int)).foldl max (n : Int) = ((max n (topC cs) : Nat) : Int)
  | [], n => by show (n : Int) = _; rw [topC, Nat.max_zero]
  | c :: r, n => by
    show (r.map fun c => (c.2 : Int)).foldl max (max (n : Int) (c.2 : Int)) = _
    rw [show max (n : Int) (c.2 : Int) = ((max n c.2 : Nat) : Int) by omega, foldl_top r, topC, Nat.max_assoc]
theorem most_top (cs : List Ce) : KD.mostD 0 (cs.map fun c => (c.2 : Int)) = (topC cs : Int) := by
  cases cs with
  | nil => rfl
  | cons c r => exact foldl_top r c.2
theorem top_ge : ∀ {cs : List Ce} {c : Ce}, c ∈ cs → c.2 ≤ topC cs
  | a :: r, c, h => by
    rw [topC]
    rcases List.mem_cons.mp h with rfl | h
    · exact Nat.le_max_left _ _
    · exact Nat.le_trans (top_ge h) (Nat.le_max_right _ _)
/-- a key's own tuple -/
def KeyAt (H : Hp) (v : V) (p : Pr) : Prop := ∃ q, v = .ref q ∧ H q = some (.tup ((keyC p).map kV))
def KeysAt (H : Hp) : List V → List Pr → Prop
  | [], [] => True
  | v :: vs, p :: ps => KeyAt H v p ∧ KeysAt H vs ps
  | _, _ => False
theorem KeysAt.mono {H H' : Hp} (s : ∀ a xs, H a = some (.tup xs) → H' a = some (.tup xs)) : ∀ {vs : List V} {ps : List Pr}, KeysAt H vs ps → KeysAt H' vs ps
  | [], [], _ => trivial
  | v :: vs, p :: ps, ⟨⟨q, e, h⟩, r⟩ => ⟨⟨q, e, s _ _ h⟩, r.mono s⟩
theorem KeysAt.snoc {H : Hp} {v : V} {p : Pr} (k : KeyAt H v p) : ∀ {vs : List V} {ps : List Pr}, KeysAt H vs ps → KeysAt H (vs ++ [v]) (ps ++ [p])
  | [], [], _ => ⟨k, trivial⟩
  | _ :: _, _ :: _, ⟨h, r⟩ => ⟨h, KeysAt.snoc k r⟩
def ofLev (cs : List Ce) (k : Nat) : List Pr := (cs.filter fun c => decide (c.2 = k + 1)).map fun c => c.1
/-- the lists, one for each level -/
def Lists (H : Hp) (as : List Addr) (cs : List Ce) : Prop := ∀ k a, as[k]? = some a → ∃ vs, H a = some (.lst vs) ∧ KeysAt H vs (ofLev cs k)
def spByLevel : Sp := fun us H Q _ => ∃ (D : Addr) (cs : List Ce), us = [.ref D] ∧ H D = some (.dT (cs.map celV)) ∧ cs.length ≤ 3600 ∧ topC cs ≤ 60 ∧ (∀ c ∈ cs, 0 < c.2) ∧ ∀ F as H', Same H H' → H F = none → H' F = some (.lst (as.map V.ref)) → as.length = topC cs → (∀ a ∈ as, H a = none) → Lists H' as cs → Q (.ref F) H'
theorem walk_itT {d : Addr} {o : Obj} {kvs : List (List Key × V)} : Walk (KT.ItiT d o kvs) kvs.length (fun H => H d = some (.frz o (.dT kvs))) (fun i H x H' => ∃ (T q : Addr) (k : List Key) (v : V), kvs[i]? = some (k, v) ∧ H q = some (.tup (k.map kV)) ∧ x = .ref T ∧ H T = none ∧ H' = upd H T (.tup [.ref q, v])) :=
  ⟨fun i H hi g => ⟨g, hi⟩, fun H g => ⟨g, Nat.le_refl _⟩, fun i H x H' hi g y => y⟩
section
variable {σ : L2.St} {H : Hp} {Q : VK} {D : Ends}
theorem k_ckw {r : List V → List V → Hp → VK → Prop} {t tk : TA} (h : t σ H fun vs H1 => tk σ H1 fun zs H2 => r vs zs H2 Q) : tCKw r t tk σ H Q := h
theorem k_bm0 {T : String} {r : V → List V → Hp → VK → Prop} {to : TE} (h : to σ H fun x H1 => tyV K T x H1 ∧ r x [] H1 Q) : tBM0 K T r to σ H Q := h
theorem k_lockS {t tz : TS} (h : ∃ d u, H d = some u ∧ Mut (some u) ∧ ∀ od, t ⟨fun σ' H' => H' d = some (.frz od u) ∧ tz D σ' (upd H' d u), fun v H' => H' d = some (.frz od u) ∧ D.rt v (upd H' d u), fun σ' H' => H' d = some (.frz od u) ∧ D.bk σ' (upd H' d u), fun σ' H' => H' d = some (.frz od u) ∧ D.ct σ' (upd H' d u)⟩ σ (upd H d (.frz od u))) : tSeq (tLock t) tz D σ H := h
end
abbrev s_by_level : Stmt := topS 16
abbrev n_by_level : List Str := ["levels", "found", "match", "level", "_"]
theorem sc_by_level : FnScope n_by_level ["levels"] (defScope s_by_level) := ⟨rfl, rfl, rfl, by decide +kernel, rfl, by decide +kernel, by decide +kernel⟩
theorem ok_by_level {f : Addr} {fd : FuncData} (F : Fun K "by_level" "by_level" s_by_level f fd) (T : Bl mg) (b_max : mg "max" = none) : FnOk P w K mg base CX0 1 f fd ["levels"] spByLevel := by
  refine F.ok sc_by_level (fun vs H Q E h => ?_) (fun cdv A outer s H us Q E hr h => ?_)
  · obtain ⟨D, cs, rfl, _⟩ := h
    rfl
  · obtain ⟨D, cs, rfl, hD, few, top, pos, q⟩ := h
    refine ⟨_, (pss_cons (ps_setLc (i := 1) (own := [("_", 4)]) (g := (gName 4)) (tt := tYes) rfl sc_by_level.nd rfl rfl (sw_true rfl rfl rfl (by decide +kernel)) (pi_range1 (by rfl) T.b_range (pa_cons (pe_callBK (cr_maxDef rfl hr.units) (by rfl) b_max boot_max (pa_cons (pe_callTy (KT.call_listV rfl) (by rfl) T.b_list boot_list (pa_cons (pe_bm0 PySem.F.plainAttrs_dict PySem.F.slot_dict_values PySem.F.type_dict_values KT.mt_valsT (pv 0)) pa_nil)) pa_nil) (pk_cons pe_int pk_nil)) pa_nil)) (blkOk_by (N := n_by_level) (sc := defScope s_by_level) (by decide +kernel)) (fun _ _ _ _ _ => (pg_name (i := 4) sc_by_level.nd rfl (by first | exact Or.inl rfl | exact Or.inr rfl))) (fun _ _ _ _ _ => pts_nil) (fun _ _ _ _ _ => (pe_lst pa_nil)))
    (pss_cons (ps_lock (ps_for PassesOwn.never rfl (KT.pi_itT (pv 0)) (pg_tup (n := 2) rfl (pgs_cons (pg_name (i := 2) sc_by_level.nd rfl (by first | exact Or.inl rfl | exact Or.inr rfl)) (pgs_cons (pg_name (i := 3) sc_by_level.nd rfl (by first | exact Or.inl rfl | exact Or.inr rfl)) pgs_nil)))
    (pss_one (ps_expr (pe_bm PySem.F.plainAttrs_list PySem.F.slot_list_append PySem.F.type_list_append mt_append (pe_ix ix_seq (pv 1) (pe_op op_sub (pv 3) pe_int) (fun _ _ => rfl)) (pa_cons (pv 2) pa_nil))))))
    (pss_one (ps_ret (pv 1))))), ?_⟩
    refine k_set (k_lcR (k_cons (k_ckw (k_cons (k_cb (k_cons (k_bm0 ?_)))))))
    refine ⟨.ref D, rfl, .inr (.inr (.inl ⟨rfl, .inr ⟨_, hD⟩⟩)), D, _, rfl, rfl, hD, fun p hp => ?_⟩
    have s1 : Same H (upd H p (KT.valsO p D)) := Same.upd hp
    refine ⟨p, D, _, rfl, upd_same, s1 _ _ hD, fun l hl => ?_⟩
    have s2 : Same (upd H p (KT.valsO p D)) (upd (upd H p (KT.valsO p D)) l (.lst ((cs.map celV).map Prod.snd))) := Same.upd hl
    have e2 : (cs.map celV).map Prod.snd = (cs.map fun c => (c.2 : Int)).map V.int := by rw [List.map_map, List.map_map]; rfl
    have s12 := s1.trans s2
    have hl2 : upd (upd H p (KT.valsO p D)) l (.lst ((cs.map celV).map Prod.snd)) l = some (.lst ((cs.map fun c => (c.2 : Int)).map V.int)) := by rw [upd_same, e2]
    generalize upd (upd H p (KT.valsO p D)) l (.lst ((cs.map celV).map Prod.snd)) = H2 at *
    refine ⟨l, cs.map fun c => (c.2 : Int), 0, rfl, rfl, SqL.of hl2, ?_⟩
    rw [most_top]
    refine ⟨(topC cs : Int), rfl, by omega, by omega, ?_⟩
    intro Fa hF
    rw [show ((topC cs : Int)).toNat = topC cs by omega]
    have hD2 := s12 _ _ hD
    refine lc_it walk_range (fun k G => Same H2 G ∧ ∃ as : List Addr, G Fa = some (.lst (as.map V.ref)) ∧ as.length = k ∧ as.Nodup ∧ ∀ a ∈ as, H2 a = none ∧ a ≠ Fa ∧ G a = some (.lst [])) ⟨Same.upd hF, [], upd_same, rfl, List.nodup_nil, fun a h => by cases h⟩ (fun _ _ _ _ => trivial) (fun i x G G' hi p y => ?_) fun G p => ?_
    · obtain ⟨rfl, rfl⟩ := y
      obtain ⟨sG, as, f1, f2, f3, f4⟩ := p
      refine k_name ⟨wipe_one, k_yes (k_lstN (k_nil ⟨by show 0 ≤ sizeLine; omega, fun a ha => ?_⟩))⟩
      have nF : Fa ≠ a := fun z => by rw [z, ha] at f1; cases f1
      refine ⟨as.map V.ref, by rw [upd_ne nF]; exact f1, by rw [List.length_map, f2, sizeLine_eq]; omega, fun b o e => ?_, as ++ [a], by rw [upd_same, List.map_append]; rfl, by rw [List.length_append, f2]; rfl, ?_, fun b hb => ?_⟩
      · have n1 : b ≠ Fa := fun z => by rw [z, hF] at e; cases e
        have n2 : b ≠ a := fun z => by have := sG _ _ e; rw [z, ha] at this; cases this
        rw [upd_ne n1, upd_ne n2]
        exact sG _ _ e
      · refine List.nodup_append.mpr ⟨f3, by simp, fun b hb c hc e => ?_⟩
        rw [List.mem_singleton.mp hc] at e
        have := (f4 b hb).2.2
        rw [e, ha] at this
        cases this
      · rcases List.mem_append.mp hb with hb | hb
        · obtain ⟨g1, g2, g3⟩ := f4 b hb
          have n2 : b ≠ a := fun z => by rw [z, ha] at g3; cases g3
          exact ⟨g1, g2, by rw [upd_ne g2, upd_ne n2]; exact g3⟩
        · rw [List.mem_singleton.mp hb]
          exact ⟨sG.free ha, Ne.symm nF, by rw [upd_ne (Ne.symm nF)]; exact upd_same⟩
    obtain ⟨sG, as, f1, f2, f3, f4⟩ := p
    have hDG := sG _ _ hD2
    let XT : Addr → Prop := fun _ => True
    let Γ : List Sv := [.val (.ref D), .val (.ref Fa), .un, .un, .un]
    have En : EnvOk XT G ((L2.start n_by_level [.ref D]).set 1 (some (.ref Fa))) Γ := ⟨rfl, fun i s e => by
      match i, e with
      | 0, e => cases e; rfl
      | 1, e => cases e; rfl
      | 2, e => cases e; trivial
      | 3, e => cases e; trivial
      | 4, e => cases e; trivial
      | _ + 5, e => cases e⟩
    have nDF : D ≠ Fa := fun z => by rw [z, hF] at hD2; cases hD2
    have kT : ∀ {A B : Hp}, Kp XT A B := fun {A B} a o n e => absurd trivial n
    refine k_lockS ⟨D, _, hDG, trivial, fun od => ?_⟩
    refine ⟨.ref D, rfl, D, od, cs.map celV, rfl, upd_same, ?_⟩
    let Pw : Nat → L2.St → Hp → Prop := fun i σ' G' => EnvOk XT G' σ' Γ ∧ G' D = some (.frz od (.dT (cs.map celV))) ∧ G' Fa = some (.lst (as.map V.ref)) ∧ (∀ b o, H2 b = some o → b ≠ D → G' b = some o) ∧ Lists G' as (cs.take i)
    refine for_it walk_itT Pw ⟨En.mono kT, upd_same, by rw [upd_ne (Ne.symm nDF)]; exact f1, fun b o e n => by rw [upd_ne n]; exact sG _ _ e, fun k a hk => ?_⟩ (fun i σ' G' _ p => p.2.1) (fun i x σ' G1 G2 hi p y => ?_) (fun σ' G' p => ?_)
    · obtain ⟨g1, g2, g3⟩ := f4 a (List.mem_of_getElem? hk)
      have : a ≠ D := fun z => by rw [z, hD2] at g1; cases g1
      exact ⟨[], by rw [upd_ne this]; exact g3, trivial⟩
    rotate_left
    · obtain ⟨E1, p1, p2, p3, p4⟩ := p
      rw [List.length_map, List.take_length] at p4
      refine ⟨p1, ?_⟩
      show tRet (tVar 1) { nx := fun _ H' => Q .non H', rt := Q } σ' _
      refine ⟨.ref Fa, E1.get 1 _ rfl, q Fa as _ (fun b o e => ?_) (s12.free hF) (by rw [upd_ne (Ne.symm nDF)]; exact p2) f2 (fun a ha => s12.free (f4 a ha).1) fun k a hk => ?_⟩
      · by_cases z : b = D
        · rw [z, upd_same]
          rw [z, hD] at e
          exact e
        · rw [upd_ne z]
          exact p3 b o (s12 _ _ e) z
      · obtain ⟨vs, h1, h2⟩ := p4 k a hk
        obtain ⟨g1, _, _⟩ := f4 a (List.mem_of_getElem? hk)
        have : a ≠ D := fun z => by rw [z, hD2] at g1; cases g1
        refine ⟨vs, by rw [upd_ne this]; exact h1, h2.mono fun b xs e => ?_⟩
        have : b ≠ D := fun z => by rw [z, p1] at e; cases e
        rw [upd_ne this]
        exact e
    rw [List.length_map] at hi
    obtain ⟨E1, p1, p2, p3, p4⟩ := p
    obtain ⟨Tp, qk, k, v, e1, e2, rfl, e4, rfl⟩ := y
    rw [List.getElem?_map, List.getElem?_eq_getElem hi] at e1
    obtain ⟨⟨⟩⟩ : (celV cs[i]) = (k, v) ∧ True := ⟨Option.some.inj e1, trivial⟩
    have sT : Same G1 (upd G1 Tp (.tup [.ref qk, .int (cs[i].2 : Int)])) := Same.upd e4
    refine ⟨Tp, _, rfl, SqT.of upd_same, rfl, _, _, rfl, _, _, rfl, rfl, ?_⟩
    have E2 := (((E1.mono kT : EnvOk XT (upd G1 Tp (.tup [.ref qk, .int (cs[i].2 : Int)])) σ' Γ).setV (i := 2) (v := .ref qk)).setV (i := 3) (v := .int (cs[i].2 : Int)))
    have P1 := sT _ _ p1
    have P2 := sT _ _ p2
    have P3 : ∀ b o, H2 b = some o → b ≠ D → upd G1 Tp (.tup [.ref qk, .int (cs[i].2 : Int)]) b = some o := fun b o e n => sT _ _ (p3 b o e n)
    have P4 : Lists (upd G1 Tp (.tup [.ref qk, .int (cs[i].2 : Int)])) as (cs.take i) := fun k a hk => by
      obtain ⟨vs, h1, h2⟩ := p4 k a hk
      exact ⟨vs, sT _ _ h1, h2.mono fun b xs e => sT _ _ e⟩
    have Q2 := sT _ _ e2
    generalize upd G1 Tp (.tup [.ref qk, .int (cs[i].2 : Int)]) = G2 at *
    have cp := pos cs[i] (List.getElem_mem hi)
    have ct := top_ge (List.getElem_mem hi)
    obtain ⟨kk, hkk⟩ : ∃ kk : Nat, cs[i].2 = kk + 1 := ⟨cs[i].2 - 1, by omega⟩
    have lk : kk < as.length := by omega
    have hka : as[kk]? = some as[kk] := List.getElem?_eq_getElem lk
    obtain ⟨vs, v1, v2⟩ := P4 kk as[kk] hka
    obtain ⟨g1, g2, _⟩ := f4 as[kk] (List.getElem_mem lk)
    have nD : D ≠ as[kk] := fun z => by rw [← z, hD2] at g1; cases g1
    have hvs : vs.length ≤ 3600 := by
      have : ∀ {vs : List V} {ps : List Pr}, KeysAt G2 vs ps → vs.length = ps.length := by
        intro vs
        induction vs with
        | nil => intro ps h; cases ps with
          | nil => rfl
          | cons _ _ => cases h
        | cons a r ih => intro ps h; cases ps with
          | nil => cases h
          | cons b t => rw [List.length_cons, List.length_cons, ih h.2]
      rw [this v2]
      unfold ofLev
      rw [List.length_map]
      have h1 := List.length_filter_le (fun c : Ce => decide (c.2 = kk + 1)) (cs.take i)
      rw [List.length_take] at h1
      omega
    refine k_drop1 (k_drop ?_)
    refine ⟨.ref Fa, E2.get 1 _ rfl, .int (cs[i].2 : Int), E2.get 3 _ rfl, (cs[i].2 : Int), 1, rfl, rfl, .inl ⟨Fa, as.map V.ref, (cs[i].2 : Int) - 1, .ref as[kk], rfl, rfl, SqL.of P2, ?_, .inl ⟨rfl, _, SqL.of v1⟩, .ref qk, E2.get 2 _ rfl, as[kk], vs, .ref qk, rfl, rfl, v1, by rw [sizeLine_eq]; omega, ?_⟩⟩
    · rw [show (cs[i].2 : Int) - 1 = ((kk : Nat) : Int) by omega]
      exact atI_nat (by rw [List.getElem?_map, hka]; rfl)
    refine ⟨envUn' (envUn' (E2.mono kT) 2) 3, by rw [upd_ne nD]; exact P1, by rw [upd_ne (Ne.symm g2)]; exact P2, fun b o e n => ?_, fun k' a' hk' => ?_⟩
    · have : b ≠ as[kk] := fun z => by rw [z, g1] at e; cases e
      rw [upd_ne this]
      exact P3 b o e n
    have tups : ∀ b xs, G2 b = some (.tup xs) → upd G2 as[kk] (.lst (vs ++ [.ref qk])) b = some (.tup xs) := fun b xs e => by
      have : b ≠ as[kk] := fun z => by rw [z, v1] at e; cases e
      rw [upd_ne this]
      exact e
    have etake : cs.take (i + 1) = cs.take i ++ [cs[i]] := by rw [List.take_add_one, List.getElem?_eq_getElem hi]; rfl
    by_cases z : k' = kk
    · subst z
      rw [hka] at hk'
      cases hk'
      refine ⟨vs ++ [.ref qk], upd_same, ?_⟩
      have e : ofLev (cs.take (i + 1)) k' = ofLev (cs.take i) k' ++ [cs[i].1] := by
        unfold ofLev
        rw [etake, List.filter_append, List.map_append]
        congr 1
        rw [List.filter_cons, if_pos (decide_eq_true hkk)]
        rfl
      rw [e]
      exact KeysAt.snoc ⟨qk, rfl, tups _ _ Q2⟩ (v2.mono tups)
    · obtain ⟨vs', w1, w2⟩ := P4 k' a' hk'
      have na : a' ≠ as[kk] := fun e => z (by
        obtain ⟨lk', ea⟩ := List.getElem?_eq_some_iff.mp hk'
        have pw := List.pairwise_iff_getElem.mp f3
        by_cases c : k' < kk
        · exact absurd (ea.trans e) (pw k' kk lk' lk c)
        · by_cases c2 : kk < k'
          · exact absurd (ea.trans e).symm (pw kk k' lk lk' c2)
          · omega)
      refine ⟨vs', by rw [upd_ne na]; exact w1, ?_⟩
      have e : ofLev (cs.take (i + 1)) k' = ofLev (cs.take i) k' := by
        unfold ofLev
        rw [etake, List.filter_append, List.filter_cons, if_neg (by rw [decide_eq_true_iff]; omega), List.filter_nil, List.append_nil]
      rw [e]
      exact w2.mono tups
end K56

/-! The matches on a longest row, by levels. -/
namespace K56
open PySem PySem.Spec PyProof.Rows L2 KD KL
variable {P : Program} {w : World} {K : PySem.W.Frag} {mg : Str → Option Value} {base : Heap}
-- HINT longest_levels dgetn rest
-- HINT longest_levels lctt#1 (tTest (tOp (rEqD K) (tOp rAddA (tVar 6) (tDGet (tVar 3) (tVar 5))) (tOp rAddA (tVar 4) (tC (.int 1)))))
def keptC (M : Nat → Nat → Bool) (n m : Nat) : List Ce := (lvC M m n).filter fun c => decide (c.2 + rst M n m c.1 = topC (lvC M m n) + 1)
theorem tp_tp {n m : Nat} {p : Pr} (h1 : p.1 < n) (h2 : p.2 < m) : tp n m (tp n m p) = p := Prod.ext (by show n - 1 - (n - 1 - p.1) = p.1; omega) (by show m - 1 - (m - 1 - p.2) = p.2; omega)
theorem rest_at {M : Nat → Nat → Bool} {n m : Nat} {p : Pr} (h1 : p.1 < n) (h2 : p.2 < m) (h3 : M p.1 p.2 = true) : valV (((lvC (rv M n m) m n).map fun c => (tp n m c.1, c.2)).map celV) (keyC p) = some (.int (rst M n m p : Int)) := by
  refine val_some (List.mem_map.mpr ⟨(tp n m p, rst M n m p), lvC_in.mpr ⟨?_, ?_, ?_, rfl⟩, Prod.ext (tp_tp h1 h2) rfl⟩) fun c hc e => ?_
  · show n - 1 - p.1 < n
    omega
  · show m - 1 - p.2 < m
    omega
  · show M (n - 1 - (n - 1 - p.1)) (m - 1 - (m - 1 - p.2)) = true
    rw [show n - 1 - (n - 1 - p.1) = p.1 by omega, show m - 1 - (m - 1 - p.2) = p.2 by omega]
    exact h3
  · obtain ⟨b, hb, rfl⟩ := List.mem_map.mp hc
    obtain ⟨b1, b2, _, b4⟩ := lvC_in.mp hb
    have e2 : tp n m p = b.1 := by rw [← e]; exact tp_tp b1 b2
    show b.2 = rst M n m p
    rw [b4, ← e2]
    rfl
theorem env_conv {X Y : Addr → Prop} {H H' : Hp} {σ : L2.St} {Γ : List Sv} (E : EnvOk X H σ Γ) (h : ∀ s ∈ Γ, (∃ v, s = .val v) ∨ s = .un) : EnvOk Y H' σ Γ := ⟨E.len, fun i s e => by
  have := E.get i s e
  rcases h s (List.mem_of_getElem? e) with ⟨v, rfl⟩ | rfl
  · exact this
  · trivial⟩
theorem g_val {X : Addr → Prop} {H : Hp} {σ : L2.St} {Γ : List Sv} {i : Nat} {n : Int} (E : EnvOk X H σ Γ) (h : Γ[i]? = some (.val (.int n))) : G X (tVar i) σ H (.int n) := fun H1 s Q q => ⟨.int n, E.get i _ h, q _ H1 (Same.refl _) (.int _)⟩
theorem topC_le {B : Nat} : ∀ {cs : List Ce}, (∀ c ∈ cs, c.2 ≤ B) → topC cs ≤ B
  | [], _ => Nat.zero_le _
  | c :: r, h => Nat.max_le.mpr ⟨h c List.mem_cons_self, topC_le fun z hz => h z (List.mem_cons_of_mem _ hz)⟩
theorem L_le {M : Nat → Nat → Bool} {i j : Nat} : L M i j ≤ i := by
  obtain ⟨l, h1, h2, h3⟩ := L_is (M := M) i j
  have := len_fst h1 (lo := 0) (hi := i) fun p hp => ⟨Nat.zero_le _, (h2 p hp).1⟩
  omega
def spLongest : Sp := fun us H Q _ => ∃ (X : Addr → Prop) (v1 v2 : V) (d1 d2 : PyData) (ws vs : List Str), us = [v1, v2] ∧ Trk X H ∧ DX X H v1 d1 ∧ DX X H v2 d2 ∧ Txt d1 ws ∧ Txt d2 vs ∧ ∀ F as H', Same H H' → H F = none → H' F = some (.lst (as.map V.ref)) → as.length = topC (keptC (Mw ws vs) ws.length vs.length) → (∀ a ∈ as, H a = none) → Lists H' as (keptC (Mw ws vs) ws.length vs.length) → Q (.ref F) H'
abbrev s_longest_levels : Stmt := topS 18
abbrev n_longest_levels : List Str := ["one", "other", "levels", "rest", "longest", "match", "level"]
theorem sc_longest_levels : FnScope n_longest_levels ["one", "other"] (defScope s_longest_levels) := ⟨rfl, rfl, rfl, by decide +kernel, rfl, by decide +kernel, by decide +kernel⟩
theorem ok_longest_levels {f : Addr} {fd : FuncData} (F : Fun K "longest_levels" "longest_levels" s_longest_levels f fd) (T : Bl mg) (b_max : mg "max" = none) (O_levels_in : Own P w K mg base CX0 1 "levels_in" ["one", "other"] spLevels) (O_levels_behind : Own P w K mg base CX0 2 "levels_behind" ["one", "other"] spBehind) (O_by_level : Own P w K mg base CX0 1 "by_level" ["levels"] spByLevel) : FnOk P w K mg base CX0 3 f fd ["one", "other"] spLongest := by
  refine F.ok sc_longest_levels (fun vs H Q E h => ?_) (fun cdv A outer s H us Q E hr h => ?_)
  · obtain ⟨X, v1, v2, d1, d2, ws, vs, rfl, _⟩ := h
    rfl
  · obtain ⟨X, v1, v2, d1, d2, ws, vs, rfl, t, r1, r2, T1, T2, q⟩ := h
    refine ⟨_, (pss_cons (ps_set (i := 2) sc_longest_levels.nd rfl (by first | exact Or.inl rfl | exact Or.inr rfl) (pe_own O_levels_in hr (by decide) (by rfl) (pa_cons (pv 0) (pa_cons (pv 1) pa_nil))))
    (pss_cons (ps_set (i := 3) sc_longest_levels.nd rfl (by first | exact Or.inl rfl | exact Or.inr rfl) (pe_own O_levels_behind hr (by decide) (by rfl) (pa_cons (pv 0) (pa_cons (pv 1) pa_nil))))
    (pss_cons (ps_set (i := 4) sc_longest_levels.nd rfl (by first | exact Or.inl rfl | exact Or.inr rfl) (pe_callBK (cr_maxDef rfl hr.units) (by rfl) b_max boot_max (pa_cons (pe_callTy (KT.call_listV rfl) (by rfl) T.b_list boot_list (pa_cons (pe_bm0 PySem.F.plainAttrs_dict PySem.F.slot_dict_values PySem.F.type_dict_values KT.mt_valsT (pv 2)) pa_nil)) pa_nil) (pk_cons pe_int pk_nil)))
    (pss_one (ps_ret (pe_own O_by_level hr (by decide) (by rfl) (pa_cons (pe_lock (KT.pe_dcT (own := [("match", 5), ("level", 6)]) (g := (gTup K 2 (gCons (gName 5) (gCons (gName 6) gNil)))) (tt := (tTest (tOp (rEqD K) (tOp rAddA (tVar 6) (tDGet (tVar 3) (tVar 5))) (tOp rAddA (tVar 4) (tC (.int 1)))))) rfl (Nat.lt_of_succ_lt (hu_of hr)) sc_longest_levels.nd (KT.pi_itT (pv 2)) (blkOk_by (N := n_longest_levels) (sc := defScope s_longest_levels) (by decide +kernel)) (KT.Parts.mk (fun _ _ _ _ _ => (pg_tup (n := 2) rfl (pgs_cons (pg_name (i := 5) sc_longest_levels.nd rfl (by first | exact Or.inl rfl | exact Or.inr rfl)) (pgs_cons (pg_name (i := 6) sc_longest_levels.nd rfl (by first | exact Or.inl rfl | exact Or.inr rfl)) pgs_nil)))) (fun _ _ _ _ _ => (pts_one (pt_cmpR (op_eqD hr.units) (pe_op op_addA (pv 6) (pe_dget (hu_of hr) (pv 3) (pv 5) (fun _ _ => rfl))) (pe_op op_addA (pv 4) pe_int) (nomark _)))) (fun _ _ _ _ _ => (pv 5)) (fun _ _ _ _ _ => (pv 6))))) pa_nil))))))), ?_⟩
    have En : EnvOk X H (L2.start n_longest_levels [v1, v2]) [.dat d1, .dat d2, .un, .un, .un, .un, .un] := env2 (N := n_longest_levels) r1 r2 (by decide)
    have w1 := T1.few
    have w2 := T2.few
    have two : ∀ {Z : Hp} {us : List V}, DXs X Z us [d1, d2] → us ++ [] = [us.getD 0 .non, us.getD 1 .non] ∧ DX X Z (us.getD 0 .non) d1 ∧ DX X Z (us.getD 1 .non) d2 := fun {Z us} rs => by
      cases rs with
      | cons a rs =>
        cases rs with
        | cons b rs =>
          cases rs
          exact ⟨rfl, a, b⟩
    refine k_set (k_callS ((ga_cons (g_var (i := 0) (d := d1) En rfl) (ga_cons (g_var (i := 1) (d := d2) En rfl) ga_nil)) H (Same.refl _) _ fun us H1 s1 rs => ?_))
    obtain ⟨a1, a2, a3⟩ := two rs
    refine ⟨X, _, _, d1, d2, ws, vs, a1, t.mono s1, a2, a3, T1, T2, fun D1 H2 s2 hD1 eD1 => ?_⟩
    have s12 := s1.trans s2
    have E2 := (En.same s12).setV (i := 2) (v := .ref D1)
    have t2 := t.mono s12
    refine k_set (k_callS ((ga_cons (g_var (i := 0) (d := d1) E2 rfl) (ga_cons (g_var (i := 1) (d := d2) E2 rfl) ga_nil)) H2 (Same.refl _) _ fun us' H3 s3 rs' => ?_))
    obtain ⟨b1, b2, b3⟩ := two rs'
    refine ⟨X, _, _, d1, d2, ws, vs, b1, t2.mono s3, b2, b3, T1, T2, fun D2 H4 s4 hD2 eD2 => ?_⟩
    have s34 := s3.trans s4
    have E4 := (E2.same s34).setV (i := 3) (v := .ref D2)
    have eD1' := s34 _ _ eD1
    have s14 := s12.trans s34
    have nDD : D2 ≠ D1 := fun z => by rw [z, s3 _ _ eD1] at hD2; cases hD2
    obtain ⟨M, hM⟩ : ∃ M, M = Mw ws vs := ⟨_, rfl⟩
    rw [← hM] at q eD1' eD2
    obtain ⟨cs, hcs⟩ : ∃ cs, cs = lvC M vs.length ws.length := ⟨_, rfl⟩
    rw [← hcs] at eD1'
    refine k_set (k_ckw (k_cons (k_cb (k_cons (k_bm0 ?_)))))
    refine ⟨.ref D1, E4.get 2 _ rfl, .inr (.inr (.inl ⟨rfl, .inr ⟨_, eD1'⟩⟩)), D1, _, rfl, rfl, eD1', fun p hp => ?_⟩
    have s5 : Same H4 (upd H4 p (KT.valsO p D1)) := Same.upd hp
    refine ⟨p, D1, _, rfl, upd_same, s5 _ _ eD1', fun l hl => ?_⟩
    have s6 : Same (upd H4 p (KT.valsO p D1)) (upd (upd H4 p (KT.valsO p D1)) l (.lst ((cs.map celV).map Prod.snd))) := Same.upd hl
    have e6 : (cs.map celV).map Prod.snd = (cs.map fun c => (c.2 : Int)).map V.int := by rw [List.map_map, List.map_map]; rfl
    have s46 := s5.trans s6
    have hl6 : upd (upd H4 p (KT.valsO p D1)) l (.lst ((cs.map celV).map Prod.snd)) l = some (.lst ((cs.map fun c => (c.2 : Int)).map V.int)) := by rw [upd_same, e6]
    generalize upd (upd H4 p (KT.valsO p D1)) l (.lst ((cs.map celV).map Prod.snd)) = H6 at *
    refine ⟨l, cs.map fun c => (c.2 : Int), 0, rfl, rfl, SqL.of hl6, ?_⟩
    rw [most_top]
    have E6 := (E4.same s46).setV (i := 4) (v := .int (topC cs : Int))
    have F1 := s46 _ _ eD1'
    have F2 := s46 _ _ eD2
    have s16 := s14.trans s46
    refine k_ret (k_callS (k_cons (k_lock ⟨D1, _, F1, trivial, fun od => ?_⟩)))
    have ins : ∀ c ∈ cs, c.1.1 < ws.length ∧ c.1.2 < vs.length ∧ M c.1.1 c.1.2 = true ∧ c.2 = L M c.1.1 c.1.2 + 1 := fun c hc => lvC_in.mp (hcs ▸ hc)
    have few : cs.length ≤ 3600 := by
      have h1 := lvC_len (M := M) (m := vs.length) (i := ws.length)
      have h2 : ws.length * vs.length ≤ 60 * 60 := Nat.mul_le_mul (by omega) (by omega)
      rw [hcs]
      omega
    have pw : cs.Pairwise fun a b => a.1 ≠ b.1 := hcs ▸ lvC_pair
    let pc : Ce → Bool := fun c => decide (c.2 + rst M ws.length vs.length c.1 = topC cs + 1)
    have hkept : keptC M ws.length vs.length = cs.filter pc := by unfold keptC; rw [← hcs]
    rw [hkept] at q
    let XF : Addr → Prop := fun _ => False
    let Γ : List Sv := [.un, .un, .val (.ref D1), .val (.ref D2), .val (.int (topC cs : Int)), .un, .un]
    have hvals : ∀ s ∈ Γ, (∃ v, s = Sv.val v) ∨ s = Sv.un := fun s hs => by
      simp only [Γ, List.mem_cons, List.not_mem_nil, or_false] at hs
      rcases hs with rfl | rfl | rfl | rfl | rfl | rfl | rfl <;> first | exact .inr rfl | exact .inl ⟨_, rfl⟩
    have EF : ∀ {Z : Hp}, EnvOk XF Z (((L2.start n_longest_levels [v1, v2]).set 2 (some (.ref D1))).set 3 (some (.ref D2)) |>.set 4 (some (.int (topC cs : Int)))) Γ := fun {Z} => ⟨rfl, fun i s e => by
      match i, e with
      | 0, e => cases e; trivial
      | 1, e => cases e; trivial
      | 2, e => cases e; rfl
      | 3, e => cases e; rfl
      | 4, e => cases e; rfl
      | 5, e => cases e; trivial
      | 6, e => cases e; trivial
      | _ + 7, e => cases e⟩
    have hL1 : upd H6 D1 (.frz od (.dT (cs.map celV))) D1 = some (.frz od (.dT (cs.map celV))) := upd_same
    have nL : ∀ a, a ≠ D1 → upd H6 D1 (.frz od (.dT (cs.map celV))) a = H6 a := fun a h => upd_ne h
    generalize upd H6 D1 (.frz od (.dT (cs.map celV))) = HL at *
    refine ⟨.ref D1, EF.get (H := HL) 2 _ rfl, D1, od, cs.map celV, rfl, hL1, fun D hD => ?_⟩
    have nD : D ≠ D1 := fun z => by rw [z, hL1] at hD; cases hD
    have hD6 : H6 D = none := by rw [← nL D nD]; exact hD
    have nD2 : D2 ≠ D := fun z => by rw [z, hD6] at F2; cases F2
    let Pv : Nat → Hp → Prop := fun i G => G D1 = some (.frz od (.dT (cs.map celV))) ∧ G D = some (.dT (((cs.take i).filter pc).map celV)) ∧ (∀ a o, a ≠ D1 → H6 a = some o → G a = some o)
    refine ⟨fun i m G => m = cs.length - i ∧ i ≤ cs.length ∧ Pv i G, ⟨_, rfl, Nat.zero_le _, by rw [upd_ne (Ne.symm nD)]; exact hL1, upd_same, fun a o n e => ?_⟩, ?_⟩
    · have : a ≠ D := fun z => by rw [z, hD6] at e; cases e
      rw [upd_ne this, nL a n]
      exact e
    rintro i m G ⟨rfl, hi, p1, p2, p3⟩
    by_cases lt : i < cs.length
    rotate_left
    · have e : i = cs.length := by omega
      subst e
      rw [List.take_length] at p2
      have sG : Same H (upd G D1 (.dT (cs.map celV))) := fun a o e => by
        have n1 : a ≠ D1 := fun z => by rw [z, s1.free hD1] at e; cases e
        rw [upd_ne n1]
        exact p3 a o n1 (s16 _ _ e)
      refine .inl ⟨⟨p1, by rw [List.length_map]; exact Nat.le_refl _⟩, p1, D, cs.filter pc, rfl, by rw [upd_ne nD]; exact p2, Nat.le_trans (List.length_filter_le _ _) few, topC_le fun c hc => ?_, fun c hc => ?_, fun F as H' s' hF hF' la na LL => q F as H' (sG.trans s') (sG.free hF) hF' la (fun a ha => sG.free (na a ha)) LL⟩
      · obtain ⟨c1, _, _, c4⟩ := ins c ((List.mem_filter.mp hc).1)
        have := L_le (M := M) (i := c.1.1) (j := c.1.2)
        omega
      · obtain ⟨_, _, _, c4⟩ := ins c ((List.mem_filter.mp hc).1)
        omega
    refine .inr ⟨⟨p1, by rw [List.length_map]; exact lt⟩, Pv (i + 1), fun G2 pn => ⟨_, by omega, rfl, lt, pn⟩, fun x G2 y => ?_⟩
    obtain ⟨Tp, qk, k, v, e1, e2, rfl, e4, rfl⟩ := y
    rw [List.getElem?_map, List.getElem?_eq_getElem lt] at e1
    obtain ⟨⟨⟩⟩ : (celV cs[i]) = (k, v) ∧ True := ⟨Option.some.inj e1, trivial⟩
    have sT : Same G (upd G Tp (.tup [.ref qk, .int (cs[i].2 : Int)])) := Same.upd e4
    refine ⟨Tp, _, rfl, SqT.of upd_same, rfl, _, _, rfl, _, _, rfl, rfl, wipe_two (by decide), ?_⟩
    have q1 := sT _ _ p1
    have q2 := sT _ _ p2
    have q3 : ∀ a o, a ≠ D1 → H6 a = some o → upd G Tp (.tup [.ref qk, .int (cs[i].2 : Int)]) a = some o := fun a o n e => sT _ _ (p3 a o n e)
    have q5 := sT _ _ e2
    generalize upd G Tp (.tup [.ref qk, .int (cs[i].2 : Int)]) = G4 at *
    have E4' := (((EF (Z := G4)).wipe [5, 6]).setV (i := 5) (v := .ref qk)).setV (i := 6) (v := .int (cs[i].2 : Int))
    have tF : Trk XF G4 := fun a z => z.elim
    obtain ⟨c1, c2, c3, c4⟩ := ins cs[i] (List.getElem_mem lt)
    have gget : KD.G XF (tDGet (tVar 3) (tVar 5)) _ G4 (.int (rst M ws.length vs.length cs[i].1 : Int)) := fun Z s Q' q' => ⟨.ref D2, E4'.get 3 _ rfl, .ref qk, E4'.get 5 _ rfl, D2, _, rfl, by rw [← rest_at c1 c2 c3]; exact DGet.t (s _ _ (q3 _ _ nDD F2)) (s _ _ q5), q' _ Z (Same.refl _) (.int _)⟩
    refine gt_eqI tF (g_addI tF (g_val E4' rfl) gget) (g_addI (j := 1) tF (g_val E4' rfl) g_int) G4 (Same.refl _) _ fun G5 s5' => ?_
    have etake : cs.take (i + 1) = cs.take i ++ [cs[i]] := by rw [List.take_add_one, List.getElem?_eq_getElem lt]; rfl
    have z1 := s5' _ _ q1
    have z2 := s5' _ _ q2
    have z3 : ∀ a o, a ≠ D1 → H6 a = some o → G5 a = some o := fun a o n e => s5' _ _ (q3 a o n e)
    have fewt : ((cs.take i).filter pc).length ≤ 3600 := Nat.le_trans (List.length_filter_le _ _) (by rw [List.length_take]; omega)
    show KT.Told D (tVar 5) (tVar 6) (Pv (i + 1)) _ _ G5
    unfold KT.Told
    by_cases hpc : cs[i].2 + rst M ws.length vs.length cs[i].1 = topC cs + 1
    · rw [decide_eq_true (by omega), if_pos rfl]
      refine ⟨.ref qk, E4'.get 5 _ rfl, .int (cs[i].2 : Int), E4'.get 6 _ rfl, ((cs.take i).filter pc).map celV, keyC cs[i].1, qk, rfl, s5' _ _ q5, z2, by rw [List.length_map, sizeLine_eq]; omega, ?_⟩
      have eput : putK (((cs.take i).filter pc).map celV) (keyC cs[i].1) (.int (cs[i].2 : Int)) = ((cs.take (i + 1)).filter pc).map celV := by
        rw [putK_new _ (val_none fun c hc e => ?_), etake, List.filter_append, List.map_append]
        · congr 1
          have : List.filter pc [cs[i]] = [cs[i]] := by rw [List.filter_cons, if_pos (decide_eq_true hpc)]; rfl
          rw [this]
          rfl
        · obtain ⟨j, hj, ej⟩ := List.mem_iff_getElem.mp (List.mem_filter.mp hc).1
          rw [List.length_take] at hj
          rw [List.getElem_take] at ej
          have ne := List.pairwise_iff_getElem.mp pw j i (by omega) lt (by omega)
          rw [ej] at ne
          exact ne e
      rw [eput]
      refine ⟨by rw [upd_ne (Ne.symm nD)]; exact z1, upd_same, fun a o n e => ?_⟩
      have : a ≠ D := fun z => by rw [z, hD6] at e; cases e
      rw [upd_ne this]
      exact z3 a o n e
    · rw [decide_eq_false (by omega), if_neg (by simp)]
      refine ⟨z1, ?_, z3⟩
      have : List.filter pc [cs[i]] = [] := by rw [List.filter_cons, if_neg (by simp only [pc, decide_eq_true_eq]; exact hpc)]; rfl
      rw [etake, List.filter_append, this, List.append_nil]
      exact z2
end K56

/-! What is kept is on a longest row. -/
namespace K56
open KL
variable {M : Nat → Nat → Bool} {n m : Nat}
theorem lev_top {p : Pr} (h1 : p.1 < n) (h2 : p.2 < m) (h3 : M p.1 p.2 = true) : lev M p ≤ L M n m := by
  obtain ⟨l, a, b, c⟩ := lev_is (M := M) p h3
  have := L_up n m (l ++ [p]) a fun q hq => by
    rcases List.mem_append.mp hq with hq | hq
    · have := b q hq
      omega
    · rw [List.mem_singleton.mp hq]
      exact ⟨h1, h2⟩
  rw [List.length_append, List.length_singleton] at this
  omega
theorem topC_L : topC (lvC M m n) = L M n m := by
  refine Nat.le_antisymm (topC_le fun c hc => ?_) ?_
  · obtain ⟨h1, h2, h3, h4⟩ := lvC_in.mp hc
    rw [h4]
    exact lev_top h1 h2 h3
  · obtain ⟨l, a, b, c⟩ := L_is (M := M) n m
    rcases snoc (l := l) with rfl | ⟨k, p, rfl⟩
    · rw [← c]
      exact Nat.zero_le _
    · have hp := b p (List.mem_append_right _ (List.mem_singleton.mpr rfl))
      have hm := a.2 p (List.mem_append_right _ (List.mem_singleton.mpr rfl))
      have h1 := lev_up a
      have h2 := top_ge (cs := lvC M m n) (c := (p, lev M p)) (lvC_in.mpr ⟨hp.1, hp.2, hm, rfl⟩)
      rw [List.length_append, List.length_singleton] at c
      simp only at h2
      omega
theorem kept_on {c : Ce} : c ∈ keptC M n m ↔ On M n m c.2 c.1 := by
  unfold keptC On
  rw [List.mem_filter, lvC_in, topC_L, decide_eq_true_iff]
  constructor
  · rintro ⟨⟨h1, h2, h3, h4⟩, h5⟩
    have e : lev M c.1 = c.2 := h4.symm
    exact ⟨h3, h1, h2, e, by rw [e]; exact h5⟩
  · rintro ⟨h3, h1, h2, h4, h5⟩
    exact ⟨⟨h1, h2, h3, h4.symm⟩, by rw [← h4]; exact h5⟩
theorem ofLev_on {k : Nat} {p : Pr} : p ∈ ofLev (keptC M n m) k ↔ On M n m (k + 1) p := by
  unfold ofLev
  rw [List.mem_map]
  constructor
  · rintro ⟨c, hc, rfl⟩
    obtain ⟨h1, h2⟩ := List.mem_filter.mp hc
    have := kept_on.mp h1
    rw [of_decide_eq_true h2] at this
    exact this
  · intro h
    exact ⟨(p, k + 1), List.mem_filter.mpr ⟨kept_on.mpr h, decide_eq_true rfl⟩, rfl⟩
theorem top_kept : topC (keptC M n m) = L M n m := by
  refine Nat.le_antisymm (topC_le fun c hc => (on_le (kept_on.mp hc)).2) ?_
  by_cases h : L M n m = 0
  · omega
  · obtain ⟨l, a, b, c⟩ := L_is (M := M) n m
    rcases snoc (l := l) with rfl | ⟨k, p, rfl⟩
    · exact absurd c.symm h
    · have hp := b p (List.mem_append_right _ (List.mem_singleton.mpr rfl))
      have hm := a.2 p (List.mem_append_right _ (List.mem_singleton.mpr rfl))
      have h1 := lev_up a
      have h2 := lev_top hp.1 hp.2 hm
      have h3 := sum_le hm hp.1 hp.2
      have h4 : 1 ≤ rst M n m p := Nat.le_add_left _ _
      rw [List.length_append, List.length_singleton] at c
      have on : On M n m (lev M p) p := ⟨hm, hp.1, hp.2, rfl, by omega⟩
      have := top_ge (kept_on (c := (p, lev M p)).mpr on)
      simp only at this
      omega
end K56

/-! The row that is gone, level by level. -/
namespace K56
open KL
def stepR (row ps : List Pr) : List Pr := row ++ (match ps.filter (okNext row) with
  | [] => []
  | p :: _ => [p])
def rowG (M : Nat → Nat → Bool) (n m : Nat) : Nat → List Pr
  | 0 => []
  | k + 1 => stepR (rowG M n m k) (ofLev (keptC M n m) k)
variable {M : Nat → Nat → Bool} {n m : Nat}
/-- what holds of the row behind k levels -/
structure Gone (M : Nat → Nat → Bool) (n m k : Nat) (row : List Pr) : Prop where
  len : row.length = k
  ch : Ch M row
  bd : Bd n m row
  last : 0 < k → ∃ r q, row = r ++ [q] ∧ On M n m k q
theorem ok_last {r : List Pr} {q p : Pr} : okNext (r ++ [q]) p = bhB q p := by
  unfold okNext
  rw [List.getLast?_append]
  rfl
theorem next_some {k : Nat} {row : List Pr} (g : Gone M n m k row) (hk : k < L M n m) : ∃ p r, (ofLev (keptC M n m) k).filter (okNext row) = p :: r := by
  have : ∃ p, p ∈ (ofLev (keptC M n m) k).filter (okNext row) := by
    by_cases h : 0 < k
    · obtain ⟨r, q, e, on⟩ := g.last h
      obtain ⟨p, on2, hb⟩ := on_next on hk
      exact ⟨p, List.mem_filter.mpr ⟨ofLev_on.mpr on2, by rw [e, ok_last]; exact bhB_iff.mpr hb⟩⟩
    · have e : row = [] := List.length_eq_zero_iff.mp (by have := g.len; omega)
      obtain ⟨p, on⟩ := on_first (M := M) (n := n) (m := m) (by omega)
      have k0 : k = 0 := by omega
      exact ⟨p, List.mem_filter.mpr ⟨ofLev_on.mpr (by rw [k0]; exact on), by rw [e]; rfl⟩⟩
  obtain ⟨p, hp⟩ := this
  cases h : (ofLev (keptC M n m) k).filter (okNext row) with
  | nil => rw [h] at hp; cases hp
  | cons a r => exact ⟨a, r, rfl⟩
theorem gone_step {k : Nat} {row : List Pr} (g : Gone M n m k row) (hk : k < L M n m) : Gone M n m (k + 1) (stepR row (ofLev (keptC M n m) k)) := by
  obtain ⟨p, r, e⟩ := next_some g hk
  have hp : p ∈ (ofLev (keptC M n m) k).filter (okNext row) := by rw [e]; exact List.mem_cons_self
  obtain ⟨h1, h2⟩ := List.mem_filter.mp hp
  have on := ofLev_on.mp h1
  have es : stepR row (ofLev (keptC M n m) k) = row ++ [p] := by
    unfold stepR
    rw [e]
  rw [es]
  refine ⟨by rw [List.length_append, g.len]; rfl, ch_app g.ch (ch_one on.1) fun a ha b hb => ?_, fun q hq => ?_, fun _ => ⟨row, p, rfl, on⟩⟩
  · rw [List.mem_singleton.mp hb]
    by_cases h : 0 < k
    · obtain ⟨r', q, er, _⟩ := g.last h
      rw [er, ok_last] at h2
      have hq := bhB_iff.mp h2
      rw [er] at ha
      rcases List.mem_append.mp ha with ha | ha
      · have := ch_last (er ▸ g.ch) a ha
        unfold bh at *
        omega
      · rw [List.mem_singleton.mp ha]
        exact hq
    · have e0 : row = [] := List.length_eq_zero_iff.mp (by have := g.len; omega)
      rw [e0] at ha
      cases ha
  · rcases List.mem_append.mp hq with hq | hq
    · exact g.bd q hq
    · rw [List.mem_singleton.mp hq]
      exact ⟨on.2.1, on.2.2.1⟩
theorem gone_row : ∀ k, k ≤ L M n m → Gone M n m k (rowG M n m k)
  | 0, _ => ⟨rfl, ch_nil, fun p h => (by cases h), fun h => (by omega)⟩
  | k + 1, h => gone_step (gone_row k (by omega)) (by omega)
end K56

/-! A longest common row. -/
namespace K56
open PySem PySem.Spec PyProof.Rows L2 KD KL
-- RAISES check_texts is_common_row common_row
-- HINT common_row ix (ix_seqK (K := K) rfl)
-- HINT common_row lctt#1 (tOr (tTest (tOp (rEqD K) (tCB (fun xs H Q => ∃ x n, xs = [x] ∧ LenV K x H n ∧ Q (V.int n) H) (tCons (tVar 2) tNil)) (tC (.int 0)))) (tB (tCall (sp2 pqPre fun a b => .bool (behD a b)) [] E0 (tCons (tVar 4) (tCons (tOp (rIx K) (tVar 2) (tUn (rU fun i => .int (-i)) (tC (.int 1)))) tNil)))))
variable {P : Program} {w : World} {K : PySem.W.Frag} {mg : Str → Option Value} {base : Heap}
/-- no address of X holds a tuple -/
def NoT (X : Addr → Prop) (H : Hp) : Prop := ∀ a, X a → ∀ xs, H a ≠ some (.tup xs)
theorem NoT.mono {X : Addr → Prop} {H H' : Hp} (t : Trk X H) (n : NoT X H) (s : Same H H') : NoT X H' := fun a ha xs e => by
  obtain ⟨o, ho⟩ := t a ha
  have := s _ _ ho
  rw [e] at this
  cases this
  exact n a ha xs ho
theorem dxs_at {X : Addr → Prop} {H : Hp} : ∀ {vs : List V} {ds : List PyData}, vs.length = ds.length → (∀ (k : Nat) (v : V) (d : PyData), vs[k]? = some v → ds[k]? = some d → DX X H v d) → DXs X H vs ds
  | [], [], _, _ => .nil
  | v :: vs, d :: ds, h, k => .cons (k 0 v d rfl rfl) (dxs_at (by simpa using h) fun j v d e1 e2 => k (j + 1) v d e1 e2)
  | [], _ :: _, h, _ => by simp at h
  | _ :: _, [], h, _ => by simp at h
theorem keys_dx {X : Addr → Prop} {H : Hp} (n : NoT X H) : ∀ {vs : List V} {ps : List Pr}, KeysAt H vs ps → DXs X H vs (ps.map prD)
  | [], [], _ => .nil
  | v :: vs, p :: ps, ⟨⟨q, e, h⟩, r⟩ => by
    subst e
    exact .cons (.tup (fun hx => n q hx _ h) h (.cons (.int _) (.cons (.int _) .nil))) (keys_dx n r)
def levD (M : Nat → Nat → Bool) (n m : Nat) : PyData := .list ((List.range (L M n m)).map fun k => rowD (ofLev (keptC M n m) k))
theorem g_longest {X : Addr → Prop} {σ : L2.St} {H : Hp} {ta tb : TE} {E : XK} {d1 d2 : PyData} {ws vs : List Str} (t : Trk X H) (n : NoT X H) (h1 : G X ta σ H d1) (h2 : G X tb σ H d2) (T1 : Txt d1 ws) (T2 : Txt d2 vs) : G X (tCall spLongest [] E (tCons ta (tCons tb tNil))) σ H (levD (Mw ws vs) ws.length vs.length) :=
  g_call (ga_cons h1 (ga_cons h2 ga_nil)) fun us H1 s rs Q q => by
    cases rs with
    | cons r1 rs =>
      cases rs with
      | cons r2 rs =>
        cases rs
        refine ⟨X, _, _, d1, d2, ws, vs, rfl, t.mono s, r1, r2, T1, T2, fun F as H' s' nF hF la na LL => q _ H' s' (.lst ((t.mono s).new nF) hF (dxs_at (by rw [List.length_map, List.length_map, List.length_range, la, top_kept]) fun k v d e1 e2 => ?_))⟩
        rw [List.getElem?_map] at e1 e2
        obtain ⟨a, ha, rfl⟩ := Option.map_eq_some_iff.mp e1
        obtain ⟨k', hk', rfl⟩ := Option.map_eq_some_iff.mp e2
        have hk : k' = k := by
          obtain ⟨hl, e⟩ := List.getElem?_eq_some_iff.mp hk'
          rw [List.getElem_range] at e
          exact e.symm
        subst hk
        obtain ⟨xs, x1, x2⟩ := LL k' a ha
        exact .lst ((t.mono s).new (na a (List.mem_of_getElem? ha))) x1 (keys_dx ((n.mono t s).mono (t.mono s) s') x2)
def spCommon : Sp := fun us H Q _ => ∃ (X : Addr → Prop) (v1 v2 : V) (d1 d2 : PyData) (ws vs : List Str), us = [v1, v2] ∧ Trk X H ∧ NoT X H ∧ DX X H v1 d1 ∧ DX X H v2 d2 ∧ Txt d1 ws ∧ Txt d2 vs ∧ Good d1 ∧ Good d2 ∧ ∀ w H', Same H H' → DX X H' w (rowD (rowG (Mw ws vs) ws.length vs.length (L (Mw ws vs) ws.length vs.length))) → Nw H w → Q w H'
theorem beh_pr (p q : Pr) : behD (prD p) (prD q) = bhB q p := by
  unfold bhB
  show (decide ((q.1 : Int) < (p.1 : Int)) && decide ((q.2 : Int) < (p.2 : Int))) = _
  congr 1
  · exact decide_eq_decide.mpr (by omega)
  · exact decide_eq_decide.mpr (by omega)
theorem pq_pr (p : Pr) : Pq (prD p) := ⟨_, _, rfl, rfl⟩
theorem filt_pr (row ps : List Pr) : (ps.map prD).filter (fun z => okNext row (prOf z)) = (ps.filter (okNext row)).map prD := by
  rw [List.filter_map]
  congr 1
abbrev s_common_row : Stmt := topS 19
abbrev n_common_row : List Str := ["one", "other", "row", "matches", "match"]
theorem sc_common_row : FnScope n_common_row ["one", "other"] (defScope s_common_row) := ⟨rfl, rfl, rfl, by decide +kernel, rfl, by decide +kernel, by decide +kernel⟩
theorem ok_common_row {f C : Addr} {fd : FuncData} (F : Fun K "common_row" "common_row" s_common_row f fd) (T : Bl mg) (O_check_texts : Own P w K mg base (L2.CX P w) 3 "check_texts" ["texts"] (spX1 (fun D => ∃ ds, D = .list ds ∧ ∀ d ∈ ds, wordsAll d) fun D => textsOutN C (itemsD D)))
    (O_longest_levels : Own P w K mg base CX0 3 "longest_levels" ["one", "other"] spLongest) (O_comes_behind : Own P w K mg base CX0 1 "comes_behind" ["match", "other"] (sp2 pqPre fun a b => .bool (behD a b))) :
    FnOk P w K mg base (L2.CX P w) 4 f fd ["one", "other"] spCommon := by
  refine F.okX sc_common_row (fun vs H Q E h => ?_) (fun cdv A outer s H us Q E hr h => ?_)
  · obtain ⟨X, v1, v2, d1, d2, ws, vs, rfl, _⟩ := h
    rfl
  · obtain ⟨X, v1, v2, d1, d2, ws, vs, rfl, t, nt, r1, r2, T1, T2, g1, g2, q⟩ := h
    refine ⟨_, (pss_cons (ps_expr (pe_ownX O_check_texts hr (by decide) (takes_of rfl rfl rfl rfl) (by rfl) (pa_cons (pe_lst (pa_cons (pv 0) (pa_cons (pv 1) pa_nil))) pa_nil)))
    (pss_cons (ps_set (i := 2) sc_common_row.nd rfl (by first | exact Or.inl rfl | exact Or.inr rfl) (pe_lst pa_nil))
    (pss_cons (ps_for (passes_of rfl) rfl (pi_list (pe_own O_longest_levels hr (by decide) (by rfl) (pa_cons (pv 0) (pa_cons (pv 1) pa_nil)))) (pg_name (i := 3) sc_common_row.nd rfl (by first | exact Or.inl rfl | exact Or.inr rfl))
    (pss_one (ps_expr (pe_bm PySem.F.plainAttrs_list PySem.F.slot_list_append PySem.F.type_list_append mt_append (pv 2) (pa_cons (pe_ix (ix_seqK (K := K) rfl) (pe_lc (own := [("match", 4)]) (g := (gName 4)) (tt := (tOr (tTest (tOp (rEqD K) (tCB (fun xs H Q => ∃ x n, xs = [x] ∧ LenV K x H n ∧ Q (V.int n) H) (tCons (tVar 2) tNil)) (tC (.int 0)))) (tB (tCall (sp2 pqPre fun a b => .bool (behD a b)) [] E0 (tCons (tVar 4) (tCons (tOp (rIx K) (tVar 2) (tUn (rU fun i => .int (-i)) (tC (.int 1)))) tNil)))))) rfl sc_common_row.nd (pi_list (pv 3)) (blkOk_by (N := n_common_row) (sc := defScope s_common_row) (by decide +kernel)) (fun _ _ _ _ _ => (pg_name (i := 4) sc_common_row.nd rfl (by first | exact Or.inl rfl | exact Or.inr rfl))) (fun _ _ _ _ _ => (pts_one (PW.pt (pw_or (pt_cmpR (op_eqD hr.units) (pe_callB call_len (by rfl) T.b_len boot_len (pa_cons (pv 2) pa_nil)) pe_int (nomark _)) (pw_or1 (pt_val (pe_own O_comes_behind hr (by decide) (by rfl) (pa_cons (pv 4) (pa_cons (pe_ix (ix_seqK (K := K) rfl) (pv 2) (pe_un un_neg pe_int) (fun _ _ => rfl)) pa_nil))))))))) (fun _ _ _ _ _ => (pv 4))) pe_int (fun _ _ => rfl)) pa_nil)))))
    (pss_one (ps_ret (pv 2)))))), ?_⟩
    have En : EnvOk X H (L2.start n_common_row [v1, v2]) [.dat d1, .dat d2, .un, .un, .un] := env2 (N := n_common_row) r1 r2 (by decide)
    refine k_drop (c_X1 t (g_lst t (ga_cons (g_var (i := 0) (d := d1) En rfl) (ga_cons (g_var (i := 1) (d := d2) En rfl) ga_nil)) (by simp)) ⟨[d1, d2], rfl, by simp; exact ⟨g1.2, g2.2⟩⟩ ⟨fun r e w0 H1 s1 dw _ => ?_, fun C' fl r e a v H1 s1 ea dv => ?_⟩)
    rotate_left
    · exfalso
      rw [show textsOutN C (itemsD (.list [d1, d2])) = .val .none from textsN_ok (by simp [itemsD]; exact ⟨g1.1, g2.1⟩)] at e
      cases e
    have E1 := En.same s1
    have t1 := t.mono s1
    have n1 := nt.mono t s1
    obtain ⟨M, hM⟩ : ∃ M, M = Mw ws vs := ⟨_, rfl⟩
    have lL : L M ws.length vs.length ≤ 60 := by
      have := L_le (M := M) (i := ws.length) (j := vs.length)
      have := T1.few
      omega
    refine k_own (i := 2) E1 t1 (gn_lst t1 ga_nil (by simp)) fun Lr H2 xs2 f2 s2 h2 x2 E2 t2 => ?_
    let X' : Addr → Prop := fun b => X b ∨ b = Lr
    have nX : ¬ X Lr := t1.new f2
    have n2 : NoT X' H2 := fun a ha xs e => ha.elim (fun h => (n1.mono t1 s2) a h xs e) fun h => by rw [h, h2] at e; cases e
    let Γ : List Sv := [.dat d1, .dat d2, .val (.ref Lr), .un, .un]
    have E2 : EnvOk X' H2 _ Γ := E2
    have GL := g_longest (E := E0) t2 n2 (g_var (i := 0) (d := d1) E2 rfl) (g_var (i := 1) (d := d2) E2 rfl) T1 T2
    rw [← hM] at GL q
    refine s_forD (X := X') (ds := (List.range (L M ws.length vs.length)).map fun k => rowD (ofLev (keptC M ws.length vs.length) k)) (gi_list GL) (fun Hb k σ' H' => Kp X' Hb H' ∧ Trk X' H' ∧ Same H1 H' ∧ ∃ ys, H' Lr = some (.lst ys) ∧ DXs X' H' ys ((rowG M ws.length vs.length k).map prD) ∧ EnvOk X' H' σ' Γ) ?_ ?_ ?_ ?_
    · intro Hb sb
      cases x2
      exact ⟨Kp.refl, t2.mono sb, s2.trans sb, [], sb _ _ h2, .nil, E2.same sb⟩
    · rintro Hb k σ' H' ⟨p1, p2, _⟩
      exact ⟨p1, p2⟩
    · rintro Hb k x d σ' H' H'' sb hd ⟨p1, p2, p3, ys, p4, p5, E⟩ s5 dx
      rw [List.getElem?_map] at hd
      obtain ⟨k', hk', rfl⟩ := Option.map_eq_some_iff.mp hd
      have hk : k' = k ∧ k < L M ws.length vs.length := by
        obtain ⟨hl, e⟩ := List.getElem?_eq_some_iff.mp hk'
        rw [List.getElem_range] at e
        rw [List.length_range] at hl
        exact ⟨e.symm, hl⟩
      obtain ⟨rfl, lk⟩ := hk
      refine k_name ?_
      have E5 := (E.same s5).set (i := 3) dx
      have t5 := p2.mono s5
      have h5 := s5 _ _ p4
      have x5 := p5.mono (Kp.of s5)
      have gone := gone_row (M := M) (n := ws.length) (m := vs.length) k' (by omega)
      obtain ⟨p, r, er⟩ := next_some gone lk
      have estep : rowG M ws.length vs.length (k' + 1) = rowG M ws.length vs.length k' ++ [p] := by
        show stepR _ _ = _
        unfold stepR
        rw [er]
      have llen : (rowG M ws.length vs.length k').length = k' := gone.len
      have EG : EnvOk X H'' (σ'.set 3 (some x)) [.dat d1, .dat d2, .dat (rowD (rowG M ws.length vs.length k')), .dat (rowD (ofLev (keptC M ws.length vs.length) k')), .un] := EnvOk.give (i := 2) E5 rfl nX h5 x5
      have tG : Trk X H'' := fun a h => t5 a (.inl h)
      have fewp : (ofLev (keptC M ws.length vs.length) k').length ≤ 3600 := by
        unfold ofLev keptC
        rw [List.length_map]
        have h1 := lvC_len (M := M) (m := vs.length) (i := ws.length)
        have h2 : ws.length * vs.length ≤ 60 * 60 := Nat.mul_le_mul T1.few T2.few
        exact Nat.le_trans (List.length_filter_le _ _) (Nat.le_trans (List.length_filter_le _ _) (by omega))
      generalize rowG M ws.length vs.length k' = row at *
      generalize ofLev (keptC M ws.length vs.length) k' = ps at *
      refine k_drop1 (k_drop ?_)
      refine ⟨.ref Lr, E5.get 2 _ rfl, .inl ⟨rfl, _, SqL.of h5⟩, ?_⟩
      refine k_cons ?_
      refine (g_ixL (z := prD p) (ds := ((ps.map prD).filter fun z => okNext row (prOf z)).map fun z => z) tG (g_lc (ds := ps.map prD) (Γ2 := fun z => ([.dat d1, .dat d2, .dat (rowD row), .dat (rowD ps), .un].set 4 .un).set 4 (.dat z)) (fun z => okNext row (prOf z)) (fun z => z) tG (gi_list (g_var (i := 3) (d := rowD ps) EG rfl)) (by rw [List.length_map]; omega) (fun H3 s3 z hz => tgt_name (EG.same s3)) (fun X2 H3 σ2 z hz t3 E3 => ?_) (fun X2 H3 σ2 z hz _ t3 E3 => g_var (i := 4) (d := z) E3 rfl)) g_int (by rw [filt_pr, er, List.map_id']; exact atI_nat (j := 0) rfl)) H'' (Same.refl _) _ fun v H6 s6 r6 => ⟨Lr, ys, v, rfl, rfl, s6 _ _ h5, by rw [x5.length, List.length_map, llen, sizeLine_eq]; omega, ?_⟩
      · obtain ⟨b, hb, rfl⟩ := List.mem_map.mp hz
        rw [prOf_prD]
        rcases snoc (l := row) with rfl | ⟨r', q', rfl⟩
        · refine gt_is (gt_or (a := true) (b := true) (gt_is (gt_eqI t3 (g_len t3 (g_var (i := 2) (d := rowD []) E3 rfl) rfl) g_int) rfl) fun h => by cases h) rfl
        · rw [ok_last]
          refine gt_is (gt_or (a := false) (b := bhB q' b) (gt_is (gt_eqI t3 (g_len t3 (g_var (i := 2) (d := rowD (r' ++ [q'])) E3 rfl) rfl) g_int) ?_) fun _ => gt_B (g_is (g_call2 t3 (g_var (i := 4) (d := prD b) E3 rfl) (g_ixL t3 (g_var (i := 2) (d := rowD (r' ++ [q'])) E3 rfl) g_neg1 atI_last) ⟨pq_pr b, pq_pr q'⟩) (by rw [beh_pr]))) rfl
          show decide ((((r' ++ [q']).map prD).length : Int) = 0) = false
          rw [List.length_map, List.length_append, List.length_singleton]
          exact decide_eq_false (by omega)
      have n6 : Lr ≠ Lr ∨ True := .inr trivial
      obtain ⟨qq, xs, rfl, nq, eq, rq⟩ := r6.tup_inv
      have h6 := s6 _ _ h5
      have nql : qq ≠ Lr := fun z => by rw [z, h6] at eq; cases eq
      have dv : DX X' H6 (.ref qq) (prD p) := .tup (fun z => z.elim nq nql) eq (by
        cases rq with
        | cons a rq =>
          cases rq with
          | cons b rq =>
            cases rq
            rw [a.int_inv, b.int_inv]
            exact .cons (.int _) (.cons (.int _) .nil))
      have kp : Kp X' H6 (upd H6 Lr (.lst (ys ++ [.ref qq]))) := Kp.put (.inr rfl)
      refine ⟨((p1.trans (Kp.of s5)).trans (Kp.of s6)).trans kp, (t5.mono s6).put, fun a o e => ?_, ys ++ [.ref qq], upd_same, ?_, envUn' ((E5.same s6).mono kp) 3⟩
      · have : a ≠ Lr := fun z => by rw [z, f2] at e; cases e
        rw [upd_ne this]
        exact s6 _ _ (s5 _ _ (p3 a o e))
      · rw [estep, List.map_append]
        exact (((x5.mono (Kp.of s6)).mono kp).append (.cons (dv.mono kp) .nil))
    · rintro Hb σ' H' sb ⟨p1, p2, p3, ys, p4, p5, E⟩
      rw [List.length_map, List.length_range] at p5
      show tRet (tVar 2) { nx := fun _ H' => Q .non H', rt := Q } σ' H'
      exact ⟨_, E.get 2 _ rfl, q _ H' (s1.trans p3) (.lst nX p4 (p5.less fun _ => .inl)) fun a z => by cases z; exact s1.free f2⟩
end K56

/-! A text near to another one. -/
namespace K56
open PySem PySem.Spec PyProof.Rows L2 KD KL
variable {P : Program} {w : World} {K : PySem.W.Frag} {mg : Str → Option Value} {base : Heap}
def nW : List Str := ["x", "y", "z", "", "a b", "0", "new"]
def Nw7 (ds : List PyData) : Prop := ∀ d ∈ ds, d ∈ nW.map PyData.str
theorem Nw7.app {a b : List PyData} (h : Nw7 a) (k : Nw7 b) : Nw7 (a ++ b) := fun d hd => (List.mem_append.mp hd).elim (h d) (k d)
theorem Nw7.cut {a : List PyData} {lo hi : Option Int} (h : Nw7 a) : Nw7 (cutPD a lo hi) := fun d hd => h d (List.mem_of_mem_drop (List.mem_of_mem_take hd))
theorem cutPD_len (ds : List PyData) (lo hi : Option Int) : (cutPD ds lo hi).length ≤ ds.length := by
  unfold cutPD
  rw [List.length_take, List.length_drop]
  omega
section
variable {X : Addr → Prop} {σ : L2.St} {H : Hp} {g : TG} {tu tz : TS} {D : Ends} {ta : TA} {te : TE} {Q : VK}
def ForR (g : TG) (tb : TS) (D : Ends) (σ : L2.St) (vs : List V) (H1 : Hp) : Prop := ∃ j : Int, vs = [.int j] ∧ -(2 ^ 62) ≤ j ∧ j < 2 ^ 62 ∧ tFor (fun _ H R => R (Itr 0 j.toNat) H) g tb D σ H1
theorem k_forR (h : ta σ H fun vs H1 => ForR g tu { D with nx := tz D } σ vs H1) : tSeq (tFor (iRng1 ta) g tu) tz D σ H := h
theorem k_lst (h : ta σ H fun vs H1 => vs.length ≤ sizeLine ∧ ∀ p, H1 p = none → Q (.ref p) (upd H1 p (.lst vs))) : tLst ta σ H Q := h
theorem rd_addL {xs ys : List PyData} (h : xs.length + ys.length ≤ 1000000) : RD X rAddA (.list xs) (.list ys) (.list (xs ++ ys)) := RD.or2 (RD.or1 (rd_cat h))
end
abbrev s__law_m_near : Stmt := topS 32
abbrev n__law_m_near : List Str := ["_law_stream", "_law_text", "_law_most", "_law_found", "_law_k", "_law_at", "_law_way"]
theorem sc__law_m_near : FnScope n__law_m_near ["_law_stream", "_law_text", "_law_most"] (defScope s__law_m_near) := ⟨rfl, rfl, rfl, by decide +kernel, rfl, by decide +kernel, by decide +kernel⟩
def spNear : Sp := fun vs H Q _ => ∃ (X : Addr → Prop) (st cl : Addr) (n m : Nat) (v1 : V) (ds : List PyData), vs = [.ref st, v1, .int (m : Int)] ∧ Sg X st cl n H ∧ n + 100 ≤ 1000000000 ∧ DX X H v1 (.list ds) ∧ ds.length ≤ 8 ∧ Nw7 ds ∧ m ≤ 20 ∧ ∀ w es H', es.length ≤ m → Nw7 es → Sg X st cl (n + 20) H' → KpS st cl H H' → DX X H' w (.list es) → Q w H'
theorem ok_m_near {f : Addr} {fd : FuncData} (F : Fun K "_law_m_near" "_law_m_near" s__law_m_near f fd) (T : Bl mg) (O__law_draw : Own P w K mg base CX0 1 "_law_draw" ["_law_stream", "_law_many"] spDraw) (O__law_pick : Own P w K mg base CX0 2 "_law_pick" ["_law_stream", "_law_some"] spPick) :
    FnOk P w K mg base CX0 3 f fd ["_law_stream", "_law_text", "_law_most"] spNear := by
  refine F.ok sc__law_m_near (fun vs H Q E h => ?_) (fun cdv A outer s H vs Q E hr h => ?_)
  · obtain ⟨X, st, cl, n, m, v1, ds, rfl, _⟩ := h
    rfl
  · obtain ⟨X, st, cl, n, m, v1, ds, rfl, S, hn, d1, l1, w1, hm, q⟩ := h
    refine ⟨_, (pss_cons (ps_set (i := 3) sc__law_m_near.nd rfl (by first | exact Or.inl rfl | exact Or.inr rfl) (pe_callTy call_list_of (by rfl) T.b_list boot_list (pa_cons (pv 1) pa_nil)))
    (pss_cons (ps_for PassesOwn.never rfl (pi_range1 (by rfl) T.b_range (pa_cons (pe_op op_addA pe_int (pe_own O__law_draw hr (by decide) (by rfl) (pa_cons (pv 0) (pa_cons pe_int pa_nil)))) pa_nil)) (pg_name (i := 4) sc__law_m_near.nd rfl (by first | exact Or.inl rfl | exact Or.inr rfl))
    (pss_cons (ps_par (i := 5) (j := 6) (by rfl) sc__law_m_near.nd rfl rfl (by decide) rfl rfl (pa_cons (pe_own O__law_draw hr (by decide) (by rfl) (pa_cons (pv 0) (pa_cons (pe_op op_addA (pe_callB call_len (by rfl) T.b_len boot_len (pa_cons (pv 3) pa_nil)) pe_int) pa_nil))) (pa_cons (pe_own O__law_draw hr (by decide) (by rfl) (pa_cons (pv 0) (pa_cons pe_int pa_nil))) pa_nil)) (by rfl))
    (pss_one (ps_if (pt_cmpR (op_eqD hr.units) (pv 6) pe_int (nomark _))
    (pss_one (ps_set (i := 3) sc__law_m_near.nd rfl (by first | exact Or.inl rfl | exact Or.inr rfl) (pe_op op_addA (pe_slice sl_list (pv 3) po_none (po_some (pv 5))) (pe_slice sl_list (pv 3) (po_some (pe_op op_addA (pv 5) pe_int)) po_none)))) (pss_one (ps_if (pt_cmpR (op_eqD hr.units) (pv 6) pe_int (nomark _))
    (pss_one (ps_set (i := 3) sc__law_m_near.nd rfl (by first | exact Or.inl rfl | exact Or.inr rfl) (pe_op op_addA (pe_op op_addA (pe_slice sl_list (pv 3) po_none (po_some (pv 5))) (pe_lst (pa_cons (pe_own O__law_pick hr (by decide) (by rfl) (pa_cons (pv 0) (pa_cons (pe_op op_addA (pv 1) (pe_lst (pa_cons pe_str (pa_cons pe_str pa_nil)))) pa_nil))) pa_nil))) (pe_slice sl_list (pv 3) (po_some (pv 5)) po_none)))) (pss_one (ps_if (pt_cmpR (op_eqD hr.units) (pv 6) pe_int (nomark _))
    (pss_one (ps_set (i := 3) sc__law_m_near.nd rfl (by first | exact Or.inl rfl | exact Or.inr rfl) (pe_op op_addA (pe_op op_addA (pe_slice sl_list (pv 3) po_none (po_some (pv 5))) (pe_lst (pa_cons pe_str pa_nil))) (pe_slice sl_list (pv 3) (po_some (pe_op op_addA (pv 5) pe_int)) po_none)))) (pss_one (ps_set (i := 3) sc__law_m_near.nd rfl (by first | exact Or.inl rfl | exact Or.inr rfl) (pe_op op_addA (pe_slice sl_list (pv 3) (po_some (pv 5)) po_none) (pe_slice sl_list (pv 3) po_none (po_some (pv 5))))))))))))))
    (pss_one (ps_ret (pe_slice sl_list (pv 3) po_none (po_some (pv 2))))))), ?_⟩
    have En : EnvOk X H (L2.start n__law_m_near [.ref st, v1, .int (m : Int)]) [.val (.ref st), .dat (.list ds), .dat (.int (m : Int)), .un, .un, .un, .un] := ⟨rfl, fun i s e => by
      match i, e with
      | 0, e => cases e; rfl
      | 1, e => cases e; exact ⟨_, rfl, d1⟩
      | 2, e => cases e; exact ⟨_, rfl, .int _⟩
      | 3, e => cases e; trivial
      | 4, e => cases e; trivial
      | 5, e => cases e; trivial
      | 6, e => cases e; trivial
      | _ + 7, e => cases e⟩
    refine q_set (i := 3) (d := .list ds) En (g_listOf S.t (g_var (i := 1) (d := .list ds) En rfl) rfl) fun H1 v3 s1 E1 => ?_
    have S1 := S.same s1
    have k1 := KpS.of (st := st) (cl := cl) s1
    refine k_forR (k_cons (k_op (g_int (X := X) (i := 1) H1 (Same.refl _) _ fun v4 H2 s2 r2 => ?_)))
    have S2 := S1.same s2
    have r2' := r2.int_inv
    subst r2'
    refine c_draw (m := 3) S2 (gv_var (i := 0) (E1.same s2) rfl) g_int (by omega) (by decide) (by decide) fun j H3 j0 j1 S3 k3 => ?_
    refine .inl ⟨1, j, rfl, rfl, ?_⟩
    refine ⟨1 + j, rfl, by omega, by omega, ?_⟩
    have k4 := (k1.trans (KpS.of s2)).trans k3
    refine for_it walk_range (fun i σ' H' => ∃ es : List PyData, es.length ≤ 8 + i ∧ Nw7 es ∧ Sg X st cl (n + 1 + 3 * i) H' ∧ KpS st cl H H' ∧ EnvOk X H' σ' [.val (.ref st), .dat (.list ds), .dat (.int (m : Int)), .dat (.list es), .un, .un, .un]) ⟨ds, by omega, w1, S3, k4, (E1.same s2).kps S2 k3⟩ (fun _ _ _ _ _ => trivial) (fun i x σ' H4 H5 hi p y => ?_) (fun σ' H4 p => ?_)
    rotate_left
    · obtain ⟨es, p1, p2, p3, p4, E⟩ := p
      refine k_ret (g_sl (K := K) p3.t (g_var (i := 3) (d := .list es) E rfl) go_none (go_some (g_var (i := 2) E rfl)) H4 (Same.refl _) _ fun w H5 s5 dw => q w _ H5 ?_ (Nw7.cut p2) ((p3.same s5).le ?_) (p4.trans (KpS.of s5)) dw)
      · show ((es.drop (HT.sIx es.length 0 none)).take (HT.sIx es.length es.length (some (m : Int)) - HT.sIx es.length 0 none)).length ≤ m
        rw [sIx_nn (by omega), List.length_take]
        show min (min (m : Int).toNat es.length - 0) _ ≤ m
        omega
      · have : (1 + j).toNat ≤ 3 := by omega
        omega
    · obtain ⟨rfl, rfl⟩ := y
      obtain ⟨es, p1, p2, p3, p4, E⟩ := p
      have hi3 : i < 3 := by omega
      refine k_name ?_
      have E6 := E.setV (i := 4) (v := .int (0 + (i : Int)))
      have t6 := p3.t
      refine k_par (c_draw (m := ((es.length : Int) + 1)) p3 (gv_var (i := 0) E6 rfl) (g_addI t6 (g_len t6 (g_var (i := 3) (d := .list es) E6 rfl) rfl) g_int) (by omega) (by omega) (by omega) fun at_ H6 a0 a1 S6 k6 => ?_)
      have E7 := E6.kps p3 k6
      refine c_draw (m := 4) S6 (gv_var (i := 0) E7 rfl) g_int (by omega) (by decide) (by decide) fun way H7 b0 b1 S7 k7 => ⟨_, _, rfl, ?_⟩
      have E8 := ((E7.kps S6 k7).set (i := 5) (v := .int at_) (d := .int at_) (.int _)).set (i := 6) (v := .int way) (d := .int way) (.int _)
      have k8 := p4.trans (k6.trans k7)
      clear E E6 E7 S6 k6 k7 p3 p4 t6
      have sh : ∀ i : Int, SeqAt.shaped (.int i) = true := shaped_int
      have fin : ∀ {H9 : Hp} {es' : List PyData} {v : V} {mm : Nat}, es'.length ≤ 8 + (i + 1) → Nw7 es' → mm ≤ n + 1 + 3 * (i + 1) → Sg X st cl mm H9 → KpS st cl H H9 → EnvOk X H9 (((σ'.set 4 (some (.int (0 + (i : Int))))).set 5 (some (.int at_))).set 6 (some (.int way))) [.val (.ref st), .dat (.list ds), .dat (.int (m : Int)), .dat (.list es), .val (.int (0 + (i : Int))), .dat (.int at_), .dat (.int way)] → DX X H9 v (.list es') → ∃ es : List PyData, es.length ≤ 8 + (i + 1) ∧ Nw7 es ∧ Sg X st cl (n + 1 + 3 * (i + 1)) H9 ∧ KpS st cl H H9 ∧ EnvOk X H9 ((((σ'.set 4 (some (.int (0 + (i : Int))))).set 5 (some (.int at_))).set 6 (some (.int way))).set 3 (some v)) [.val (.ref st), .dat (.list ds), .dat (.int (m : Int)), .dat (.list es), .un, .un, .un] := fun a b c S k E d => ⟨_, a, b, S.le c, k, envUn' (envUn' (envUn' (E.set (i := 3) d) 4) 5) 6⟩
      have wn : ∀ s ∈ nW, Nw7 [.str s] := fun s hs d hd => by
        rw [List.mem_singleton.mp hd]
        exact List.mem_map.mpr ⟨s, hs, rfl⟩
      have c1 := cutPD_len es none (some at_)
      have c2 := cutPD_len es (some (at_ + 1)) none
      have c3 := cutPD_len es (some at_) none
      have tk : (cutPD es none (some at_)).length ≤ at_.toNat := by
        show ((es.drop (HT.sIx es.length 0 none)).take (HT.sIx es.length es.length (some at_) - HT.sIx es.length 0 none)).length ≤ _
        rw [sIx_nn a0, List.length_take]
        show min (min at_.toNat es.length - 0) _ ≤ _
        omega
      have dk : (cutPD es (some at_) none).length ≤ es.length - at_.toNat := by
        show ((es.drop (HT.sIx es.length 0 (some at_))).take _).length ≤ _
        rw [sIx_nn a0, List.length_take, List.length_drop]
        omega
      have dk1 : (cutPD es (some (at_ + 1)) none).length ≤ es.length - (at_ + 1).toNat := by
        show ((es.drop (HT.sIx es.length 0 (some (at_ + 1)))).take _).length ≤ _
        rw [sIx_nn (by omega), List.length_take, List.length_drop]
        omega
      refine s_if (gt_eqD S7.t (x := .int way) (y := .int 0) (g_var (i := 6) E8 rfl) g_int rfl rfl (sh _) (sh _)) (fun _ H9 s9 => ?_) fun _ H9 s9 => ?_
      · have S9 := S7.same s9
        have E9 := E8.same s9
        refine k_set1 (g_cat S9.t (g_sl (K := K) S9.t (g_var (i := 3) (d := .list es) E9 rfl) go_none (go_some (g_var (i := 5) E9 rfl))) (g_sl (K := K) S9.t (g_var (i := 3) (d := .list es) E9 rfl) (go_some (g_addI S9.t (g_var (i := 5) E9 rfl) g_int)) go_none) (by omega) H9 (Same.refl _) _ fun v HA sA dv => fin (by rw [List.length_append]; omega) (Nw7.app (Nw7.cut p2) (Nw7.cut p2)) (by omega) (S9.same sA) (k8.trans ((KpS.of s9).trans (KpS.of sA))) (E9.same sA) dv)
      refine s_if (gt_eqD (S7.same s9).t (x := .int way) (y := .int 1) (g_var (i := 6) (E8.same s9) rfl) g_int rfl rfl (sh _) (sh _)) (fun _ HB sB => ?_) fun _ HB sB => ?_
      · have S9 := (S7.same s9).same sB
        have E9 := (E8.same s9).same sB
        refine k_set1 (k_op (k_op (g_sl (K := K) S9.t (g_var (i := 3) (d := .list es) E9 rfl) go_none (go_some (g_var (i := 5) E9 rfl)) HB (Same.refl _) _ fun v5 HC sC rC => k_lst (k_cons ?_))))
        have SC := S9.same sC
        have EC := E9.same sC
        refine c_pick (ds := ds ++ [.str "x", .str "new"]) SC (gv_var (i := 0) EC rfl) (g_cat SC.t (g_var (i := 1) (d := .list ds) EC rfl) (g_lst SC.t (ga_cons g_str (ga_cons g_str ga_nil)) (by simp)) (by simp; omega)) (by omega) (by simp) (by simp; omega) fun w d HD hd SD kD dw => ?_
        have ED := EC.kps SC kD
        refine ⟨by show 1 ≤ sizeLine; decide, fun q1 hq => ?_⟩
        have sq : Same HD (upd HD q1 (.lst [w])) := Same.upd hq
        have SE := SD.same sq
        have EE := ED.same sq
        have dq : DX X (upd HD q1 (.lst [w])) (.ref q1) (.list [d]) := DX.newL SD.t (.cons dw .nil) hq
        have rC' := (rC.mono (SC.kp kD)).mono (Kp.of sq)
        refine rd_addL (xs := cutPD es none (some at_)) (ys := [d]) (by simp; omega) _ _ _ SE.t rC' dq _ fun x HG s2 dx => ?_
        have SG := SE.same s2
        have EG := EE.same s2
        refine g_sl (K := K) SG.t (g_var (i := 3) (d := .list es) EG rfl) (go_some (g_var (i := 5) EG rfl)) go_none HG (Same.refl _) _ fun y HI s3 dy => ?_
        refine rd_addL (xs := cutPD es none (some at_) ++ [d]) (ys := cutPD es (some at_) none) (by simp; omega) _ _ _ (SG.t.mono s3) (dx.mono (Kp.of s3)) dy _ fun z HJ s4 dz => ?_
        have nd : Nw7 [d] := fun d' hd' => by
          rw [List.mem_singleton.mp hd']
          rcases List.mem_append.mp hd with h | h
          · exact w1 d h
          · simp at h
            rcases h with rfl | rfl
            · exact wn "x" (by decide +kernel) _ List.mem_cons_self
            · exact wn "new" (by decide +kernel) _ List.mem_cons_self
        exact fin (by rw [List.length_append, List.length_append]; simp; omega) (Nw7.app (Nw7.app (Nw7.cut p2) nd) (Nw7.cut p2)) (by omega) ((SG.same s3).same s4) (k8.trans ((((KpS.of s9).trans (KpS.of sB)).trans (KpS.of sC)).trans (kD.trans ((KpS.of sq).trans ((KpS.of s2).trans ((KpS.of s3).trans (KpS.of s4))))))) ((EG.same s3).same s4) dz
      refine s_if (gt_eqD ((S7.same s9).same sB).t (x := .int way) (y := .int 2) (g_var (i := 6) ((E8.same s9).same sB) rfl) g_int rfl rfl (sh _) (sh _)) (fun _ HC sC => ?_) fun _ HC sC => ?_
      · have S9 := ((S7.same s9).same sB).same sC
        have E9 := ((E8.same s9).same sB).same sC
        refine k_set1 (g_cat S9.t (g_cat S9.t (g_sl (K := K) S9.t (g_var (i := 3) (d := .list es) E9 rfl) go_none (go_some (g_var (i := 5) E9 rfl))) (g_lst S9.t (ga_cons g_str ga_nil) (by simp)) (by simp; omega)) (g_sl (K := K) S9.t (g_var (i := 3) (d := .list es) E9 rfl) (go_some (g_addI S9.t (g_var (i := 5) E9 rfl) g_int)) go_none) (by simp; omega) HC (Same.refl _) _ fun v HA sA dv => fin (by rw [List.length_append, List.length_append]; simp; omega) (Nw7.app (Nw7.app (Nw7.cut p2) (wn "new" (by decide +kernel))) (Nw7.cut p2)) (by omega) (S9.same sA) (k8.trans ((((KpS.of s9).trans (KpS.of sB)).trans (KpS.of sC)).trans (KpS.of sA))) (E9.same sA) dv)
      · have S9 := ((S7.same s9).same sB).same sC
        have E9 := ((E8.same s9).same sB).same sC
        refine k_set1 (g_cat S9.t (g_sl (K := K) S9.t (g_var (i := 3) (d := .list es) E9 rfl) (go_some (g_var (i := 5) E9 rfl)) go_none) (g_sl (K := K) S9.t (g_var (i := 3) (d := .list es) E9 rfl) go_none (go_some (g_var (i := 5) E9 rfl))) (by omega) HC (Same.refl _) _ fun v HA sA dv => fin (by rw [List.length_append]; omega) (Nw7.app (Nw7.cut p2) (Nw7.cut p2)) (by omega) (S9.same sA) (k8.trans ((((KpS.of s9).trans (KpS.of sB)).trans (KpS.of sC)).trans (KpS.of sA))) (E9.same sA) dv)
end K56

/-! What is drawn: texts, differences. -/
namespace K56
open PySem PySem.Spec PyProof.Rows L2 KD
variable {P : Program} {w : World} {K : PySem.W.Frag} {mg : Str → Option Value} {base : Heap}
theorem c_mixed {X : Addr → Prop} {st cl : Addr} {n : Nat} {H : Hp} {σ : L2.St} {ts tm : TE} {E : XK} {ds : List PyData} {Q : VK} (S : Sg X st cl n H) (hv : GV ts σ H (.ref st)) (hm : G X tm σ H (.list ds)) (hn : n + ds.length ≤ 1000000000) (h1 : ds.length < 1000000)
    (k : ∀ w es H', es.Perm ds → Sg X st cl (n + ds.length) H' → KpS st cl H H' → DX X H' w (.list es) → Q w H') : tCall spMixed [] E (tCons ts (tCons tm tNil)) σ H Q :=
  hv H (Same.refl H) _ (hm H (Same.refl H) _ fun v H1 s1 r => ⟨X, st, cl, n, v, ds, rfl, S.same s1, hn, r, h1, fun w es H' hp S2 kk dw _ => k w es H' hp S2 ((KpS.of s1).trans kk) dw⟩)
theorem k_sl {te : TE} {to th : TO} {rs : V → Option Int → Option Int → Hp → VK → Prop} {σ : L2.St} {H : Hp} {Q : VK} (h : te σ H fun x H1 => to σ H1 fun l H2 => th σ H2 fun u H3 => rs x l u H3 Q) : tSl rs te to th σ H Q := h
theorem cutP_to (ds : List PyData) {q : Int} (hq : 0 ≤ q) : cutPD ds none (some q) = ds.take q.toNat := by
  show (ds.drop (HT.sIx ds.length 0 none)).take (HT.sIx ds.length ds.length (some q) - HT.sIx ds.length 0 none) = _
  rw [sIx_nn hq]
  show (ds.drop 0).take (min q.toNat ds.length - 0) = _
  rw [List.drop_zero, Nat.sub_zero]
  by_cases h : q.toNat ≤ ds.length
  · rw [Nat.min_eq_left h]
  · rw [Nat.min_eq_right (by omega), List.take_length, List.take_of_length_le (by omega)]
def mW : List Str := ["x", "y", "z", "", "a b", "0"]
def dW : List Str := ["x", "y", "z", "", "a b", " ", "line a.0 x", "0", "x"]
abbrev s__law_m_text : Stmt := topS 31
abbrev n__law_m_text : List Str := ["_law_stream", "_law_most", "_law_some", "_law_k"]
theorem sc__law_m_text : FnScope n__law_m_text ["_law_stream", "_law_most"] (defScope s__law_m_text) := ⟨rfl, rfl, rfl, by decide +kernel, rfl, by decide +kernel, by decide +kernel⟩
def spMText : Sp := fun vs H Q _ => ∃ (X : Addr → Prop) (st cl : Addr) (n m : Nat), vs = [.ref st, .int (m : Int)] ∧ Sg X st cl n H ∧ n + 100 ≤ 1000000000 ∧ m ≤ 20 ∧ ∀ w ws H', ws.length ≤ m → (∀ z ∈ ws, z ∈ mW) → Sg X st cl (n + 40) H' → KpS st cl H H' → DX X H' w (wsD ws) → Q w H'
theorem ok_m_text {f : Addr} {fd : FuncData} (F : Fun K "_law_m_text" "_law_m_text" s__law_m_text f fd) (T : Bl mg) (O__law_draw : Own P w K mg base CX0 1 "_law_draw" ["_law_stream", "_law_many"] spDraw) (O__law_pick : Own P w K mg base CX0 2 "_law_pick" ["_law_stream", "_law_some"] spPick) (O__law_mixed : Own P w K mg base CX0 2 "_law_mixed" ["_law_stream", "_law_some"] spMixed) :
    FnOk P w K mg base CX0 3 f fd ["_law_stream", "_law_most"] spMText := by
  refine F.ok sc__law_m_text (fun vs H Q E h => ?_) (fun cdv A outer s H vs Q E hr h => ?_)
  · obtain ⟨X, st, cl, n, m, rfl, _⟩ := h
    rfl
  · obtain ⟨X, st, cl, n, m, rfl, S, hn, hm, k⟩ := h
    refine ⟨_, (pss_cons (ps_set (i := 2) sc__law_m_text.nd rfl (by first | exact Or.inl rfl | exact Or.inr rfl) (pe_slice sl_list (pe_own O__law_mixed hr (by decide) (by rfl) (pa_cons (pv 0) (pa_cons (pe_lst (pa_cons pe_str (pa_cons pe_str (pa_cons pe_str (pa_cons pe_str (pa_cons pe_str (pa_cons pe_str pa_nil))))))) pa_nil))) po_none (po_some (pe_op op_addA pe_int (pe_own O__law_draw hr (by decide) (by rfl) (pa_cons (pv 0) (pa_cons pe_int pa_nil)))))))
    (pss_one (ps_ret (pe_lc (own := [("_law_k", 3)]) (g := (gName 3)) (tt := tYes) rfl sc__law_m_text.nd (pi_range1 (by rfl) T.b_range (pa_cons (pe_own O__law_draw hr (by decide) (by rfl) (pa_cons (pv 0) (pa_cons (pe_op op_addA (pv 1) pe_int) pa_nil))) pa_nil)) (blkOk_by (N := n__law_m_text) (sc := defScope s__law_m_text) (by decide +kernel)) (fun _ _ _ _ _ => (pg_name (i := 3) sc__law_m_text.nd rfl (by first | exact Or.inl rfl | exact Or.inr rfl))) (fun _ _ _ _ _ => pts_nil) (fun _ _ _ _ _ => (pe_own O__law_pick hr (by decide) (by rfl) (pa_cons (pv 0) (pa_cons (pv 2) pa_nil)))))))), ?_⟩
    have En : EnvOk X H (L2.start n__law_m_text [.ref st, .int (m : Int)]) (pad n__law_m_text [.val (.ref st), .dat (.int (m : Int))]) := env_s1 ⟨_, rfl, .int _⟩ (by decide)
    refine k_set (k_sl (c_mixed (ds := mW.map PyData.str) S (gv_var (i := 0) En rfl) (g_lst S.t (ga_strs mW) (by decide)) (by show n + 6 ≤ _; omega) (by decide) fun w1 es H1 hp S1 k1 d1 => ?_))
    have E1 := En.kps S k1
    refine k_op (c_draw (m := 3) S1 (gv_var (i := 0) E1 rfl) g_int (by show n + 6 ≤ _; omega) (by decide) (by decide) fun j H2 j0 j1 S2 k2 => ?_)
    have E2 := E1.kps S1 k2
    refine .inl ⟨2, j, rfl, rfl, ?_⟩
    obtain ⟨a, us, rfl, na, ea, ra⟩ := (d1.mono (S1.kp k2)).lst_inv
    refine ⟨2 + j, rfl, a, us, rfl, SqL.of ea, fun p hp2 => ?_⟩
    have s3 : Same H2 (upd H2 p (.lst (cutV us none (some (2 + j))))) := Same.upd hp2
    have les : es.length = 6 := hp.length_eq
    have d3 : DX X (upd H2 p (.lst (cutV us none (some (2 + j))))) (.ref p) (.list (es.take (2 + j).toNat)) := by
      have := DX.newL S2.t (ra.cut none (some (2 + j))) hp2
      rw [cutP_to es (by omega)] at this
      exact this
    have S3 := S2.same s3
    have E3 := (E2.same s3).set (i := 2) d3
    refine k_ret ?_
    refine c_draw (m := (m : Int) + 1) S3 (gv_var (i := 0) E3 rfl) (g_addI S3.t (g_var (i := 1) E3 rfl) g_int) (by show n + 6 + 1 ≤ _; omega) (by omega) (by omega) fun i H4 i0 i1 S4 k4 => ?_
    have E4 := E3.kps S3 k4
    refine ⟨i, rfl, by omega, by omega, ?_⟩
    refine lc_draws (X := X) (cl := cl) (i := 3) (m := i.toNat) (fun d => d ∈ mW.map PyData.str) S4 E4 (by omega) (fun X' H5 σ2 jj Q1 hj E5 S5 q1 => ?_) fun w ds H6 hl hd S6 k6 dw nw => ?_
    · refine c_pick (ds := es.take (2 + j).toNat) S5 (gv_var (i := 0) E5 rfl) (g_var (i := 2) E5 rfl) (by show n + 6 + 1 + 1 + jj ≤ _; omega) (by rw [List.length_take]; omega) (by rw [List.length_take]; omega) fun w d H7 hd S7 k7 dw => q1 w d H7 (hp.mem_iff.mp (List.mem_of_mem_take hd)) S7 k7 dw
    · obtain ⟨ws, rfl, hw⟩ := strs_of hd
      rw [List.length_map] at hl
      exact k w ws H6 (by omega) hw (S6.le (by show n + 6 + 1 + 1 + i.toNat ≤ _; omega)) (((k1.trans k2).trans ((KpS.of s3).trans k4)).trans k6) dw
abbrev s__law_m_passed : Stmt := topS 36
abbrev n__law_m_passed : List Str := ["_law_stream", "_law_text"]
theorem sc__law_m_passed : FnScope n__law_m_passed ["_law_stream", "_law_text"] (defScope s__law_m_passed) := ⟨rfl, rfl, rfl, by decide +kernel, rfl, by decide +kernel, by decide +kernel⟩
theorem g_tupOf {X : Addr → Prop} {σ : L2.St} {H : Hp} {te : TE} {ds : List PyData} (t : Trk X H) (h : G X te σ H (.list ds)) : G X (tCB (fun xs H Q => ∃ p ys, xs = [V.ref p] ∧ ((SqL K H p ys ∧ ∀ l, H l = none → Q (.ref l) (upd H l (.tup ys))) ∨ (SqT K H p ys ∧ Q (.ref p) H))) (tCons te tNil)) σ H (.tuple ds) :=
  g_cb t (ga_cons h ga_nil) (rf_tuple (K := K) (d := .list ds) rfl)
def spMPassed : Sp := fun vs H Q _ => ∃ (X : Addr → Prop) (st cl : Addr) (n : Nat) (v1 : V) (ds : List PyData), vs = [.ref st, v1] ∧ Sg X st cl n H ∧ n ≤ 1000000000 ∧ DX X H v1 (.list ds) ∧ ds.length ≤ 1000 ∧ ∀ w d H', (d = .list ds ∨ d = .tuple ds) → Sg X st cl (n + 1) H' → KpS st cl H H' → DX X H' w d → Q w H'
theorem ok_m_passed {f : Addr} {fd : FuncData} (F : Fun K "_law_m_passed" "_law_m_passed" s__law_m_passed f fd) (T : Bl mg) (O__law_pick : Own P w K mg base CX0 2 "_law_pick" ["_law_stream", "_law_some"] spPick) : FnOk P w K mg base CX0 3 f fd ["_law_stream", "_law_text"] spMPassed := by
  refine F.ok sc__law_m_passed (fun vs H Q E h => ?_) (fun cdv A outer s H vs Q E hr h => ?_)
  · obtain ⟨X, st, cl, n, v1, ds, rfl, _⟩ := h
    rfl
  · obtain ⟨X, st, cl, n, v1, ds, rfl, S, hn, d1, hl, k⟩ := h
    refine ⟨_, (pss_one (ps_ret (pe_own O__law_pick hr (by decide) (by rfl) (pa_cons (pv 0) (pa_cons (pe_lst (pa_cons (pe_callTy call_list_of (by rfl) T.b_list boot_list (pa_cons (pv 1) pa_nil)) (pa_cons (pe_callTy call_tuple_of (by rfl) T.b_tuple boot_tuple (pa_cons (pv 1) pa_nil)) pa_nil))) pa_nil))))), ?_⟩
    have En : EnvOk X H (L2.start n__law_m_passed [.ref st, v1]) (pad n__law_m_passed [.val (.ref st), .dat (.list ds)]) := env_s1 ⟨_, rfl, d1⟩ (by decide)
    refine k_ret (c_pick (ds := [.list ds, .tuple ds]) S (gv_var (i := 0) En rfl) (g_lst S.t (ga_cons (g_is (g_listOf S.t (g_var (i := 1) (d := .list ds) En rfl) rfl) rfl) (ga_cons (g_tupOf S.t (g_var (i := 1) (d := .list ds) En rfl)) ga_nil)) (by simp)) hn (by simp) (by simp) fun w d H' hd S' k' dw => k w d H' (by simpa using hd) S' k' dw)
end K56

/-! Gaps between two rows of one base, and what is merged: the mathematics. -/
namespace KL
variable {α : Type}
abbrev Tr := Nat × Nat × Nat
/-- what a row has at a place -/
def look (l : List Pr) (p : Nat) : Option Nat := (l.find? fun x => decide (x.1 = p)).map (·.2)
def ends (l r : List Pr) : List Tr := l.filterMap fun x => (look r x.1).map fun q => (x.1, x.2, q)
def cut (ws : List α) (a b : Nat) : List α := (ws.drop a).take (b - a)
def gapL (ws us vs : List α) : Tr → List Tr → List (List α × List α × List α)
  | _, [] => []
  | s, e :: r => (cut ws s.1 e.1, cut us s.2.1 e.2.1, cut vs s.2.2 e.2.2) :: gapL ws us vs (e.1 + 1, e.2.1 + 1, e.2.2 + 1) r
def swT (e : Tr) : Tr := (e.1, e.2.2, e.2.1)
def swG (g : List α × List α × List α) : List α × List α × List α := (g.1, g.2.2, g.2.1)
/-- strictly growing, both ways -/
def Inc (l : List Pr) : Prop := l.Pairwise bh
theorem look_some {l : List Pr} (h : Inc l) {p q : Nat} : look l p = some q ↔ (p, q) ∈ l := by
  unfold look
  constructor
  · intro e
    obtain ⟨x, hx, rfl⟩ := Option.map_eq_some_iff.mp e
    have h1 := List.find?_some hx
    have h2 := List.mem_of_find?_eq_some hx
    rw [decide_eq_true_iff] at h1
    subst h1
    exact h2
  · intro hm
    cases e : l.find? fun x => decide (x.1 = p) with
    | none =>
      have := List.find?_eq_none.mp e (p, q) hm
      simp at this
    | some x =>
      have h1 := List.find?_some e
      have h2 := List.mem_of_find?_eq_some e
      rw [decide_eq_true_iff] at h1
      have : x = (p, q) := by
        obtain ⟨i, hi, e1⟩ := List.mem_iff_getElem.mp h2
        obtain ⟨j, hj, e2⟩ := List.mem_iff_getElem.mp hm
        rcases Nat.lt_trichotomy i j with z | z | z
        · have := List.pairwise_iff_getElem.mp h i j hi hj z
          rw [e1, e2] at this
          have h3 := this.1
          simp only at h3
          omega
        · subst z
          rw [← e1, e2]
        · have := List.pairwise_iff_getElem.mp h j i hj hi z
          rw [e1, e2] at this
          have h3 := this.1
          simp only at h3
          omega
      rw [this]
      rfl
theorem ends_mem {l r : List Pr} (hl : Inc l) (hr : Inc r) {e : Tr} : e ∈ ends l r ↔ (e.1, e.2.1) ∈ l ∧ (e.1, e.2.2) ∈ r := by
  unfold ends
  rw [List.mem_filterMap]
  constructor
  · rintro ⟨x, hx, h⟩
    obtain ⟨q, hq, rfl⟩ := Option.map_eq_some_iff.mp h
    exact ⟨hx, (look_some hr).mp hq⟩
  · rintro ⟨h1, h2⟩
    exact ⟨(e.1, e.2.1), h1, by rw [(look_some hr).mpr h2]; rfl⟩
def bh3 (a b : Tr) : Prop := a.1 < b.1 ∧ a.2.1 < b.2.1 ∧ a.2.2 < b.2.2
theorem ends_inc {l r : List Pr} (hl : Inc l) (hr : Inc r) : (ends l r).Pairwise bh3 := by
  unfold ends
  rw [List.pairwise_filterMap]
  refine hl.imp fun {a b} hab x hx y hy => ?_
  obtain ⟨q, hq, rfl⟩ := Option.map_eq_some_iff.mp hx
  obtain ⟨s, hs, rfl⟩ := Option.map_eq_some_iff.mp hy
  have m1 := (look_some hr).mp hq
  have m2 := (look_some hr).mp hs
  refine ⟨hab.1, hab.2, ?_⟩
  obtain ⟨i, hi, e1⟩ := List.mem_iff_getElem.mp m1
  obtain ⟨j, hj, e2⟩ := List.mem_iff_getElem.mp m2
  rcases Nat.lt_trichotomy i j with z | z | z
  · have := List.pairwise_iff_getElem.mp hr i j hi hj z
    rw [e1, e2] at this
    exact this.2
  · subst z
    rw [e1] at e2
    have h1 : a.1 = b.1 := (Prod.mk.inj e2).1
    have := hab.1
    omega
  · have := List.pairwise_iff_getElem.mp hr j i hj hi z
    rw [e1, e2] at this
    have h1 := this.1
    have h2 := hab.1
    simp only at h1
    omega
/-- two growing rows of the same members are one -/
theorem inc_ext {R : Tr → Tr → Prop} (irr : ∀ a, ¬ R a a) (asy : ∀ a b, R a b → ¬ R b a) : ∀ {l r : List Tr}, l.Pairwise R → r.Pairwise R → (∀ x, x ∈ l ↔ x ∈ r) → l = r
  | [], [], _, _, _ => rfl
  | [], b :: r, _, _, h => absurd ((h b).mpr List.mem_cons_self) (by simp)
  | a :: l, [], _, _, h => absurd ((h a).mp List.mem_cons_self) (by simp)
  | a :: l, b :: r, h1, h2, h => by
    rw [List.pairwise_cons] at h1 h2
    have e : a = b := by
      rcases List.mem_cons.mp ((h a).mp List.mem_cons_self) with e | m
      · exact e
      · rcases List.mem_cons.mp ((h b).mpr List.mem_cons_self) with e | m2
        · exact e.symm
        · exact absurd (h1.1 b m2) (asy _ _ (h2.1 a m))
    subst e
    rw [inc_ext irr asy h1.2 h2.2 fun x => ?_]
    have na : a ∉ l := fun m => irr _ (h1.1 a m)
    have nb : a ∉ r := fun m => irr _ (h2.1 a m)
    constructor
    · intro hx
      rcases List.mem_cons.mp ((h x).mp (List.mem_cons_of_mem _ hx)) with e | m
      · exact absurd (e ▸ hx) na
      · exact m
    · intro hx
      rcases List.mem_cons.mp ((h x).mpr (List.mem_cons_of_mem _ hx)) with e | m
      · exact absurd (e ▸ hx) nb
      · exact m
theorem ends_swap {l r : List Pr} (hl : Inc l) (hr : Inc r) : ends r l = (ends l r).map swT := by
  refine inc_ext (R := bh3) (fun a h => absurd h.1 (by omega)) (fun a b h k => absurd h.1 (by have := k.1; omega)) (ends_inc hr hl) ?_ fun x => ?_
  · rw [List.pairwise_map]
    exact (ends_inc hl hr).imp fun {a b} h => ⟨h.1, h.2.2, h.2.1⟩
  · rw [ends_mem hr hl, List.mem_map]
    constructor
    · rintro ⟨h1, h2⟩
      exact ⟨(x.1, x.2.2, x.2.1), (ends_mem hl hr).mpr ⟨h2, h1⟩, rfl⟩
    · rintro ⟨y, hy, rfl⟩
      have := (ends_mem hl hr).mp hy
      exact ⟨this.2, this.1⟩
theorem gap_swap (ws us vs : List α) : ∀ (es : List Tr) (s : Tr), gapL ws vs us (swT s) (es.map swT) = (gapL ws us vs s es).map swG
  | [], _ => rfl
  | e :: r, s => by
    show _ :: gapL ws vs us (swT (e.1 + 1, e.2.1 + 1, e.2.2 + 1)) (r.map swT) = _
    rw [gap_swap ws us vs r]
    rfl
theorem gap_len (ws us vs : List α) : ∀ (es : List Tr) (s : Tr), (gapL ws us vs s es).length = es.length
  | [], _ => rfl
  | e :: r, s => by
    show (gapL ws us vs _ r).length + 1 = _
    rw [gap_len ws us vs r]
    rfl
/-! ### what is merged -/
def givenS [DecidableEq α] (g : List α × List α × List α) : Option (List α) := if g.2.1 = g.1 then some g.2.2 else if g.2.2 = g.1 ∨ g.2.2 = g.2.1 then some g.2.1 else none
theorem given_swap [DecidableEq α] (g : List α × List α × List α) : givenS (swG g) = givenS g := by
  obtain ⟨o, m, t⟩ := g
  unfold givenS swG
  simp only
  by_cases h1 : m = o <;> by_cases h2 : t = o <;> by_cases h3 : t = m <;> simp_all
  · intro e
    exact absurd e.symm h3
/-- the parts with the held words between them -/
def inter : List (List α) → List α → List α
  | [], _ => []
  | p :: _, [] => p
  | p :: ps, w :: ws => p ++ w :: inter ps ws
def mergeS [DecidableEq α] (gs : List (List α × List α × List α)) (hs : List α) : Option (List α) := if gs.all fun g => (givenS g).isSome then some (inter (gs.map fun g => (givenS g).getD []) hs) else none
theorem merge_swap [DecidableEq α] (gs : List (List α × List α × List α)) (hs : List α) : mergeS (gs.map swG) hs = mergeS gs hs := by
  unfold mergeS
  rw [List.all_map, List.map_map]
  have e : (fun g => (givenS g).isSome) ∘ swG = fun (g : List α × List α × List α) => (givenS g).isSome := funext fun g => by
    show (givenS (swG g)).isSome = _
    rw [given_swap]
  have e2 : (fun g => (givenS g).getD []) ∘ swG = fun (g : List α × List α × List α) => (givenS g).getD [] := funext fun g => by
    show (givenS (swG g)).getD [] = _
    rw [given_swap]
  rw [e, e2]
theorem cut_all (vs : List α) {a : Nat} : cut vs a vs.length = vs.drop a := by
  unfold cut
  rw [List.take_of_length_le (by rw [List.length_drop]; exact Nat.le_refl _)]
theorem cut_step (vs : List α) {a b : Nat} {w : α} (h : a ≤ b) (hw : vs[b]? = some w) : cut vs a b ++ w :: vs.drop (b + 1) = vs.drop a := by
  unfold cut
  have e : vs.drop b = w :: vs.drop (b + 1) := by
    obtain ⟨hl, e⟩ := List.getElem?_eq_some_iff.mp hw
    rw [List.drop_eq_getElem_cons hl, e]
  rw [← e]
  have : vs.drop b = (vs.drop a).drop (b - a) := by rw [List.drop_drop, show a + (b - a) = b by omega]
  rw [this, List.take_append_drop]
/-- parts of one text, with its own words between them, are the text -/
theorem inter_third {ws us vs : List α} {n m : Nat} (w : Tr → α) : ∀ (es : List Tr) (s : Tr), es.Pairwise bh3 → (∀ e ∈ es, s.2.2 ≤ e.2.2 ∧ vs[e.2.2]? = some (w e)) → inter ((gapL ws us vs s (es ++ [(n, m, vs.length)])).map fun g => g.2.2) (es.map w) = vs.drop s.2.2
  | [], s, _, _ => cut_all vs
  | e :: r, s, hp, h => by
    rw [List.pairwise_cons] at hp
    have ih := inter_third (ws := ws) (us := us) (vs := vs) (n := n) (m := m) w r (e.1 + 1, e.2.1 + 1, e.2.2 + 1) hp.2 fun x hx => ⟨(hp.1 x hx).2.2, (h x (List.mem_cons_of_mem _ hx)).2⟩
    show cut vs s.2.2 e.2.2 ++ w e :: inter ((gapL ws us vs (e.1 + 1, e.2.1 + 1, e.2.2 + 1) (r ++ [(n, m, vs.length)])).map fun g => g.2.2) (r.map w) = _
    rw [ih]
    obtain ⟨h1, h2⟩ := h e List.mem_cons_self
    exact cut_step vs h1 h2
theorem inter_second {ws us vs : List α} {n k : Nat} (w : Tr → α) (es : List Tr) (s : Tr) (hp : es.Pairwise bh3) (h : ∀ e ∈ es, s.2.1 ≤ e.2.1 ∧ us[e.2.1]? = some (w e)) : inter ((gapL ws us vs s (es ++ [(n, us.length, k)])).map fun g => g.2.1) (es.map w) = us.drop s.2.1 := by
  have e := inter_third (ws := ws) (us := vs) (vs := us) (n := n) (m := k) (fun e => w (swT e)) (es.map swT) (swT s) (by rw [List.pairwise_map]; exact hp.imp fun {a b} h => ⟨h.1, h.2.2, h.2.1⟩) fun x hx => by
    obtain ⟨y, hy, rfl⟩ := List.mem_map.mp hx
    exact h y hy
  have e2 : es.map swT ++ [(n, k, us.length)] = (es ++ [(n, us.length, k)]).map swT := by rw [List.map_append]; rfl
  rw [e2, gap_swap, List.map_map, List.map_map] at e
  exact e
section
variable [DecidableEq α]
theorem merge_third {gs : List (List α × List α × List α)} {hs : List α} (h : ∀ g ∈ gs, givenS g = some g.2.2) : mergeS gs hs = some (inter (gs.map fun g => g.2.2) hs) := by
  unfold mergeS
  rw [if_pos (List.all_eq_true.mpr fun g hg => by rw [h g hg]; rfl)]
  congr 2
  exact List.map_congr_left fun g hg => by rw [h g hg]; rfl
theorem merge_second {gs : List (List α × List α × List α)} {hs : List α} (h : ∀ g ∈ gs, givenS g = some g.2.1) : mergeS gs hs = some (inter (gs.map fun g => g.2.1) hs) := by
  unfold mergeS
  rw [if_pos (List.all_eq_true.mpr fun g hg => by rw [h g hg]; rfl)]
  congr 2
  exact List.map_congr_left fun g hg => by rw [h g hg]; rfl
end
theorem gap_all {ws us vs : List α} {P : List α × List α × List α → Prop} {I : Tr → Prop} (h : ∀ s e, I s → I e → P (cut ws s.1 e.1, cut us s.2.1 e.2.1, cut vs s.2.2 e.2.2)) (hs : ∀ e, I e → I (e.1 + 1, e.2.1 + 1, e.2.2 + 1)) : ∀ (es : List Tr) (s : Tr), I s → (∀ e ∈ es, I e) → ∀ g ∈ gapL ws us vs s es, P g
  | [], _, _, _, g, hg => by cases hg
  | e :: r, s, i, k, g, hg => by
    rcases List.mem_cons.mp hg with rfl | hg
    · exact h s e i (k e List.mem_cons_self)
    · exact gap_all h hs r _ (hs e (k e List.mem_cons_self)) (fun x hx => k x (List.mem_cons_of_mem _ hx)) g hg
/-- what three texts make by two rows -/
def mergedS [DecidableEq α] (ws us vs : List α) (l r : List Pr) (w : Tr → α) : Option (List α) := mergeS (gapL ws us vs (0, 0, 0) (ends l r ++ [(ws.length, us.length, vs.length)])) ((ends l r).map w)
theorem merged_swap [DecidableEq α] {ws us vs : List α} {l r : List Pr} {w w2 : Tr → α} (hl : Inc l) (hr : Inc r) (hw : ∀ e, w2 (swT e) = w e) : mergedS ws vs us r l w2 = mergedS ws us vs l r w := by
  unfold mergedS
  rw [ends_swap hl hr]
  have e : (ends l r).map swT ++ [(ws.length, vs.length, us.length)] = (ends l r ++ [(ws.length, us.length, vs.length)]).map swT := by rw [List.map_append]; rfl
  rw [e, show ((0, 0, 0) : Tr) = swT (0, 0, 0) from rfl, gap_swap, merge_swap, List.map_map]
  congr 1
  exact List.map_congr_left fun x _ => hw x
def wholeL (n : Nat) : List Pr := (List.range n).map fun k => (k, k)
theorem whole_mem {n : Nat} {p : Pr} : p ∈ wholeL n ↔ p.1 = p.2 ∧ p.1 < n := by
  unfold wholeL
  rw [List.mem_map]
  constructor
  · rintro ⟨k, hk, rfl⟩
    exact ⟨rfl, List.mem_range.mp hk⟩
  · rintro ⟨h1, h2⟩
    exact ⟨p.1, List.mem_range.mpr h2, Prod.ext rfl h1⟩
theorem whole_inc {n : Nat} : Inc (wholeL n) := by
  unfold Inc wholeL
  rw [List.pairwise_map]
  exact List.pairwise_lt_range.imp fun h => ⟨h, h⟩
theorem merged_right [DecidableEq α] {ws vs : List α} {r : List Pr} {w : Tr → α} (hr : Inc r) (hw : ∀ e ∈ ends (wholeL ws.length) r, vs[e.2.2]? = some (w e)) : mergedS ws ws vs (wholeL ws.length) r w = some vs := by
  have hm : ∀ e ∈ ends (wholeL ws.length) r, e.1 = e.2.1 := fun e he => (whole_mem.mp ((ends_mem whole_inc hr).mp he).1).1
  unfold mergedS
  rw [merge_third, inter_third w _ _ (ends_inc whole_inc hr) fun e he => ⟨Nat.zero_le _, hw e he⟩]
  · rfl
  · refine gap_all (I := fun e => e.1 = e.2.1) (P := fun g => givenS g = some g.2.2) (fun s e i j => ?_) (fun e i => congrArg (· + 1) i) _ _ rfl fun e he => ?_
    · unfold givenS
      simp only
      rw [i, j, if_pos rfl]
    · rcases List.mem_append.mp he with he | he
      · exact hm e he
      · rw [List.mem_singleton.mp he]
theorem merged_left [DecidableEq α] {ws us : List α} {l : List Pr} {w : Tr → α} (hl : Inc l) (hw : ∀ e ∈ ends l (wholeL ws.length), us[e.2.1]? = some (w e)) : mergedS ws us ws l (wholeL ws.length) w = some us := by
  have hm : ∀ e ∈ ends l (wholeL ws.length), e.1 = e.2.2 := fun e he => (whole_mem.mp ((ends_mem hl whole_inc).mp he).2).1
  unfold mergedS
  rw [merge_second, inter_second w _ _ (ends_inc hl whole_inc) fun e he => ⟨Nat.zero_le _, hw e he⟩]
  · rfl
  · refine gap_all (I := fun e => e.1 = e.2.2) (P := fun g => givenS g = some g.2.1) (fun s e i j => ?_) (fun e i => congrArg (· + 1) i) _ _ rfl fun e he => ?_
    · unfold givenS
      simp only
      rw [i, j]
      by_cases h : cut us s.2.1 e.2.1 = cut ws s.2.2 e.2.2
      · rw [if_pos h, h]
      · rw [if_neg h, if_pos (.inl rfl)]
    · rcases List.mem_append.mp he with he | he
      · exact hm e he
      · rw [List.mem_singleton.mp he]
theorem merged_alike [DecidableEq α] {ws us : List α} {l : List Pr} {w : Tr → α} (hl : Inc l) (hw : ∀ e ∈ ends l l, us[e.2.1]? = some (w e)) : mergedS ws us us l l w = some us := by
  have hm : ∀ e ∈ ends l l, e.2.1 = e.2.2 := fun e he => by
    obtain ⟨h1, h2⟩ := (ends_mem hl hl).mp he
    have a := (look_some hl).mpr h1
    have b := (look_some hl).mpr h2
    rw [a] at b
    exact Option.some.inj b
  unfold mergedS
  rw [merge_second, inter_second w _ _ (ends_inc hl hl) fun e he => ⟨Nat.zero_le _, hw e he⟩]
  · rfl
  · refine gap_all (I := fun e => e.2.1 = e.2.2) (P := fun g => givenS g = some g.2.1) (fun s e i j => ?_) (fun e i => congrArg (· + 1) i) _ _ rfl fun e he => ?_
    · unfold givenS
      simp only
      rw [i, j]
      by_cases h : cut us s.2.2 e.2.2 = cut ws s.1 e.1
      · rw [if_pos h]
      · rw [if_neg h, if_pos (.inr rfl)]
    · rcases List.mem_append.mp he with he | he
      · exact hm e he
      · rw [List.mem_singleton.mp he]
end KL

/-! Dicts made of rows: places as keys. -/
namespace KD
open PySem PySem.Spec PyProof.Rows L2 KL
def kvsOf (l : List Pr) : List (Key × V) := l.map fun p => (.inl (p.1 : Int), .int (p.2 : Int))
theorem putK_row {l : List Pr} {p : Pr} (h : ∀ x ∈ l, x.1 ≠ p.1) : putK (kvsOf l) (.inl (p.1 : Int)) (.int (p.2 : Int)) = kvsOf (l ++ [p]) := by
  unfold putK
  rw [if_neg]
  · unfold kvsOf
    rw [List.map_append]
    rfl
  · rw [List.any_eq_true]
    rintro ⟨kv, hkv, e⟩
    obtain ⟨x, hx, rfl⟩ := List.mem_map.mp hkv
    have e := of_decide_eq_true e
    have e2 : (x.1 : Int) = (p.1 : Int) := Sum.inl.inj e
    exact h x hx (by omega)
theorem inc_ne {l : List Pr} {p : Pr} (h : Inc (l ++ [p])) : ∀ x ∈ l, x.1 ≠ p.1 := fun x hx => by
  have := (List.pairwise_append.mp h).2.2 x hx p (List.mem_singleton.mpr rfl)
  have := this.1
  omega
theorem merge_row : ∀ (l pre : List Pr), Inc (pre ++ l) → mergeK (kvsOf pre) (kvsOf l) = kvsOf (pre ++ l)
  | [], pre, _ => by rw [List.append_nil]; rfl
  | p :: r, pre, h => by
    have h1 : Inc ((pre ++ [p]) ++ r) := by rw [List.append_assoc]; exact h
    have ih := merge_row r (pre ++ [p]) h1
    rw [List.append_assoc] at ih
    show mergeK (putK (kvsOf pre) (.inl (p.1 : Int)) (.int (p.2 : Int))) (kvsOf r) = _
    rw [putK_row (inc_ne (List.pairwise_append.mp h1).1), ih]
    rfl
theorem val_look {l : List Pr} {p : Nat} : valV (kvsOf l) (.inl (p : Int)) = (look l p).map fun (q : Nat) => V.int (q : Int) := by
  unfold valV look kvsOf
  induction l with
  | nil => rfl
  | cons x r ih =>
    rw [List.map_cons, List.find?_cons, List.find?_cons]
    by_cases h : x.1 = p
    · rw [decide_eq_true h, decide_eq_true (show ((Sum.inl (x.1 : Int) : Key) = .inl (p : Int)) by rw [h])]
      rfl
    · rw [decide_eq_false h, decide_eq_false (fun e => h (by have := Sum.inl.inj e; omega))]
      exact ih
/-- a row as it is told -/
structure Rw (d : PyData) (l : List Pr) : Prop where
  seq : isSeq d = true
  len : (itemsD d).length = l.length
  its : ∀ (i : Nat) (z : PyData) (p : Pr), (itemsD d)[i]? = some z → l[i]? = some p → isSeq z = true ∧ itemsD z = [.int (p.1 : Nat), .int (p.2 : Nat)]
section
variable {X : Addr → Prop} {σ : L2.St} {H H' : Hp} {Γ : List Sv} {te ty : TE} {d : PyData} {ds : List PyData} {l : List Pr} {K : PySem.W.Frag} {Q : VK} {A : Addr}
theorem k_dc {j : Nat} (t : Trk X H) (E : EnvOk X H σ Γ) (hj : j < Γ.length) (h : G X te σ H d) (R : Rw d l) (few : l.length ≤ 1000) (inc : Inc l) (q : ∀ D H', H D = none → Same H H' → H' D = some (.dK (kvsOf l)) → Q (.ref D) H') :
    tDc (iSeq K te) (gName j) tYes (tOp (rIx K) (tVar j) (tC (.int 0))) (tOp (rIx K) (tVar j) (tC (.int 1))) [j] σ H Q := by
  refine gi_seq (K := K) h R.seq H (Same.refl _) _ fun J H2 s2 w D hD => ?_
  obtain ⟨Gd, Y, w1, w2⟩ := w
  let X' : Addr → Prop := fun a => X a ∨ a = D
  have m2 : More X X' H2 := More.one hD
  let Pv : Nat → Hp → Prop := fun i Gh => Same H2 Gh ∧ Trk X' Gh ∧ Gh D = some (.dK (kvsOf (l.take i)))
  have ln := R.len
  refine ⟨fun i m Gh => m = l.length - i ∧ i ≤ l.length ∧ Pv i Gh, ⟨_, rfl, Nat.zero_le _, Same.upd hD, (t.mono s2).one hD, upd_same⟩, ?_⟩
  rintro i m Gh ⟨rfl, hi, p1, p2, p3⟩
  have q0 := w2 X' m2.2 Gh (Kp.of p1) p2
  by_cases lt : i < l.length
  rotate_left
  · have e : i = l.length := by omega
    subst e
    rw [List.take_length] at p3
    have st := w1.stops Gh q0.1
    rw [ln] at st
    exact .inl ⟨st, q D Gh (s2.free hD) (s2.trans p1) p3⟩
  have lt2 : i < (itemsD d).length := by omega
  refine .inr ⟨w1.goes i Gh lt2 q0.1, Pv (i + 1), fun G' p' => ⟨_, by omega, rfl, lt, p'⟩, fun x G' y => ?_⟩
  obtain ⟨s4, z, hz, dx⟩ := q0.2 i x G' (w1.yields i Gh x G' lt2 q0.1 y)
  obtain ⟨zs, zi⟩ := R.its i z l[i] hz (List.getElem?_eq_getElem lt)
  have hslot : ((wipe σ [j]).set j (some x))[j]? = some (some x) := by
    refine List.getElem?_set_self ?_
    show j < (σ.set j none).length
    rw [List.length_set, E.len]
    exact hj
  show wipe ((wipe σ [j]).set j (some x)) [j] = wipe σ [j] ∧ _
  refine ⟨wipe_one, ?_⟩
  have hy : ∀ {σ : L2.St} {H : Hp} {Qb : Bool → Hp → Prop}, Qb true H → tYes σ H Qb := fun h => h
  refine hy (iteT ?_)
  have t4 := p2.mono s4
  have gv : G X' (tVar j) ((wipe σ [j]).set j (some x)) G' z := fun H1 s Q q => ⟨x, hslot, q x H1 (Same.refl _) (dx.mono (Kp.of s))⟩
  refine g_ix (K := K) t4 gv zs g_int (z := .int ((l[i].1 : Nat) : Int)) (by rw [zi]; rfl) G' (Same.refl _) _ fun v5 H5 s5 r5 => ?_
  refine g_ix (K := K) (t4.mono s5) (gv.mono s5) zs g_int (z := .int ((l[i].2 : Nat) : Int)) (by rw [zi]; rfl) H5 (Same.refl _) _ fun v6 H6 s6 r6 => ?_
  rw [r5.int_inv, r6.int_inv]
  have s46 := (s4.trans s5).trans s6
  refine ⟨kvsOf (l.take i), .inl (l[i].1 : Int), rfl, s46 _ _ p3, by unfold kvsOf; rw [List.length_map, List.length_take, sizeLine_eq]; omega, fun a o e => ?_, ?_, ?_⟩
  · have : a ≠ D := fun z => by rw [z, hD] at e; cases e
    rw [upd_ne this]
    exact s46 _ _ (p1 a o e)
  · exact (p2.mono s46).put
  · have et : l.take (i + 1) = l.take i ++ [l[i]] := by rw [List.take_add_one, List.getElem?_eq_getElem lt]; rfl
    rw [putK_row (inc_ne (p := l[i]) (l := l.take i) (by rw [← et]; exact inc.sublist (List.take_sublist _ _))), et, upd_same]
/-! ### what is told of other things while a dict is locked -/
theorem upd_ne' {a b : Addr} {o u : HO} {H : Hp} (h : H a = some u) (hb : ∀ v, H b = some v → v ≠ u) : a ≠ b := fun e => hb u (e ▸ h) rfl
mutual
theorem DX.lock {kvs : List (Key × V)} {o : HO} (hA : H A = some (.dK kvs)) : ∀ {v : V} {d : PyData}, DX X H v d → noDict d = true → DX X (upd H A o) v d
  | _, _, .non, _ => .non
  | _, _, .bl b, _ => .bl b
  | _, _, .int i, _ => .int i
  | _, _, .str x, _ => .str x
  | _, _, .lst (a := a) n h r, k => .lst n (by rw [upd_ne (fun e => by rw [e, hA] at h; cases h)]; exact h) (DXs.lock hA r (by simpa [noDict] using k))
  | _, _, .tup (a := a) n h r, k => .tup n (by rw [upd_ne (fun e => by rw [e, hA] at h; cases h)]; exact h) (DXs.lock hA r (by simpa [noDict] using k))
  | _, _, .dic _ _ _, k => by simp [noDict] at k
theorem DXs.lock {kvs : List (Key × V)} {o : HO} (hA : H A = some (.dK kvs)) : ∀ {vs : List V} {ds : List PyData}, DXs X H vs ds → noDicts ds = true → DXs X (upd H A o) vs ds
  | _, _, .nil, _ => .nil
  | _, _, .cons (d := d) (ds := ds) h r, k => by
    have k' : noDict d = true ∧ noDicts ds = true := by simpa [noDicts] using k
    exact .cons (DX.lock hA h k'.1) (DXs.lock hA r k'.2)
end
mutual
theorem DX.unlock {od : Obj} {u o : HO} (hA : H A = some (.frz od u)) : ∀ {v : V} {d : PyData}, DX X H v d → DX X (upd H A o) v d
  | _, _, .non => .non
  | _, _, .bl b => .bl b
  | _, _, .int i => .int i
  | _, _, .str x => .str x
  | _, _, .lst n h r => .lst n (by rw [upd_ne (fun e => by rw [e, hA] at h; cases h)]; exact h) (DXs.unlock hA r)
  | _, _, .tup n h r => .tup n (by rw [upd_ne (fun e => by rw [e, hA] at h; cases h)]; exact h) (DXs.unlock hA r)
  | _, _, .dic n h r => .dic n (by rw [upd_ne (fun e => by rw [e, hA] at h; cases h)]; exact h) (DXk.unlock hA r)
theorem DXs.unlock {od : Obj} {u o : HO} (hA : H A = some (.frz od u)) : ∀ {vs : List V} {ds : List PyData}, DXs X H vs ds → DXs X (upd H A o) vs ds
  | _, _, .nil => .nil
  | _, _, .cons h r => .cons (DX.unlock hA h) (DXs.unlock hA r)
theorem DXk.unlock {od : Obj} {u o : HO} (hA : H A = some (.frz od u)) : ∀ {vs : List (Key × V)} {ds : List (PyData × PyData)}, DXk X H vs ds → DXk X (upd H A o) vs ds
  | _, _, .nil => .nil
  | _, _, .cons h r => .cons (DX.unlock hA h) (DXk.unlock hA r)
end
theorem EnvOk.lock {kvs : List (Key × V)} {o : HO} (E : EnvOk X H σ Γ) (hA : H A = some (.dK kvs)) (nd : ∀ d, Sv.dat d ∈ Γ → noDict d = true) : EnvOk X (upd H A o) σ Γ := ⟨E.len, fun i s e => by
  have h := E.get i s e
  cases s with
  | dat d =>
    obtain ⟨v, e1, r⟩ := h
    exact ⟨v, e1, r.lock hA (nd d (List.mem_of_getElem? e))⟩
  | val v => exact h
  | un => trivial⟩
theorem EnvOk.unlock {od : Obj} {u o : HO} (E : EnvOk X H σ Γ) (hA : H A = some (.frz od u)) : EnvOk X (upd H A o) σ Γ := ⟨E.len, fun i s e => by
  have h := E.get i s e
  cases s with
  | dat d =>
    obtain ⟨v, e1, r⟩ := h
    exact ⟨v, e1, r.unlock hA⟩
  | val v => exact h
  | un => trivial⟩
/-! ### a dict's places -/
theorem gi_keys {i : Nat} {od : Obj} (E : EnvOk X H σ Γ) (hi : Γ[i]? = some (.val (.ref A))) (hA : H A = some (.frz od (.dK (kvsOf l)))) (nA : ¬ X A) : GI X (iKeys (tVar i)) σ H (l.map fun p => .int (p.1 : Nat)) := fun H1 s R r => by
  have h1 := s _ _ hA
  refine ⟨.ref A, (E.same s).get i _ hi, A, od, rfl, .inl ⟨_, h1, r _ H1 (Same.refl _) ⟨_, _, by rw [List.length_map]; exact (show l.length = (kvsOf l).length by simp [kvsOf]) ▸ walk_keys, fun X' m H3 k t => ?_⟩⟩⟩
  have n' : ¬ X' A := fun z => (m A z).elim nA fun q => by rw [h1] at q; cases q
  refine ⟨k A _ n' h1, fun j x H4 y => ?_⟩
  obtain ⟨rfl, kk, v, e1, rfl⟩ := y
  unfold kvsOf at e1
  rw [List.getElem?_map] at e1
  obtain ⟨p, hp, e2⟩ := Option.map_eq_some_iff.mp e1
  cases e2
  exact ⟨Same.refl _, _, by rw [List.getElem?_map, hp]; rfl, .int _⟩
theorem g_dgetI {i : Nat} {p q : Nat} (E : EnvOk X H σ Γ) (hi : Γ[i]? = some (.val (.ref A))) (hA : Rd H A (.dK (kvsOf l))) (hk : G X ty σ H (.int (p : Int))) (hv : look l p = some q) : G X (tDGet (tVar i) ty) σ H (.int (q : Int)) := fun H1 s Q r =>
  ⟨.ref A, (E.same s).get i _ hi, hk H1 s _ fun v H2 s2 rv => ⟨A, .int (q : Int), rfl, by
    have h2 : Rd H2 A (.dK (kvsOf l)) := by
      rcases hA with h | ⟨o, h⟩
      · exact .inl (s2 _ _ (s _ _ h))
      · exact .inr ⟨o, s2 _ _ (s _ _ h)⟩
    rw [rv.int_inv]
    refine .inl ⟨_, .inl (p : Int), h2, rfl, ?_⟩
    rw [val_look, hv]
    rfl, r _ H2 s2 (.int _)⟩⟩
theorem gt_dinI {i : Nat} {p : Nat} (E : EnvOk X H σ Γ) (hi : Γ[i]? = some (.val (.ref A))) (hA : Rd H A (.dK (kvsOf l))) (hk : G X ty σ H (.int (p : Int))) : GT (tB (tDIn ty (tVar i))) σ H (look l p).isSome := fun H1 s Q r =>
  hk H1 s _ fun v H2 s2 rv => ⟨.ref A, (E.same (s.trans s2)).get i _ hi, A, valV (kvsOf l) (.inl (p : Int)), rfl, by
    have h2 : Rd H2 A (.dK (kvsOf l)) := by
      rcases hA with h | ⟨o, h⟩
      · exact .inl (s2 _ _ (s _ _ h))
      · exact .inr ⟨o, s2 _ _ (s _ _ h)⟩
    rw [rv.int_inv]
    exact .inl ⟨_, .inl (p : Int), h2, rfl, rfl⟩, _, rfl, by
    rw [val_look, Option.isSome_map]
    exact r H2 s2⟩
/-- a comprehension, the heap known to be kept (KDat2's g_lc otherwise) -/
theorem g_lcS {wi : TI} {g : TG} {tt : TT} {te : TE} {vs : List Nat} {Γ2 : PyData → List Sv} (f : PyData → Bool) (h : PyData → PyData) (t : Trk X H) (hi : GI X wi σ H ds) (hl : ds.length ≤ 1000000)
    (hg : ∀ H1, Same H H1 → ∀ d ∈ ds, Tgt X g σ (Γ2 d) vs d H1)
    (ht : ∀ X' H1 σ2 d, d ∈ ds → Same H H1 → Trk X' H1 → EnvOk X' H1 σ2 (Γ2 d) → GT tt σ2 H1 (f d))
    (he : ∀ X' H1 σ2 d, d ∈ ds → f d = true → Same H H1 → Trk X' H1 → EnvOk X' H1 σ2 (Γ2 d) → G X' te σ2 H1 (h d)) : G X (tLc wi g tt te vs) σ H (.list ((ds.filter f).map h)) := fun H1 s Q q =>
  hi H1 s _ fun J H2 s2 w => by
    intro D hD
    obtain ⟨Gd, Y, w1, w2⟩ := w
    have s02 : Same H H2 := s.trans s2
    have t2 : Trk X H2 := t.mono s02
    let X' : Addr → Prop := fun a => X a ∨ a = D
    have m2 : More X X' H2 := More.one hD
    have key : ∀ H3, Same H2 H3 ∧ Trk X' H3 → Gd H3 := fun H3 p => (w2 X' m2.2 H3 (Kp.of p.1) p.2).1
    refine lc_it w1 (fun i H3 => Same H2 H3 ∧ Trk X' H3 ∧ ∃ acc, H3 D = some (.lst acc) ∧ DXs X' H3 acc (((ds.take i).filter f).map h)) ?_ ?_ ?_ ?_
    · exact ⟨Same.upd hD, t2.one hD, [], upd_same, .nil⟩
    · rintro i H3 _ ⟨p1, p2, _⟩
      exact key H3 ⟨p1, p2⟩
    · rintro i x H3 H4 hi' ⟨p1, p2, acc, p3, p4⟩ y
      obtain ⟨s4, d, hd, dx⟩ := (w2 X' m2.2 H3 (Kp.of p1) p2).2 i x H4 y
      have hmem : d ∈ ds := List.mem_of_getElem? hd
      have k4 : Kp X' H2 H4 := Kp.of (p1.trans s4)
      have t4 : Trk X' H4 := p2.mono s4
      refine hg H2 s02 d hmem X' H4 m2 k4 t4 x dx _ fun σ2 E2 hw => ⟨hw, ?_⟩
      have etake : ds.take (i + 1) = ds.take i ++ [d] := by rw [List.take_succ, hd]; rfl
      refine ht X' H4 σ2 d hmem (s02.trans (p1.trans s4)) t4 E2 H4 (Same.refl _) _ fun H5 s5 => ?_
      have lacc : acc.length ≤ 1000000 := by
        rw [p4.length, List.length_map]
        exact Nat.le_trans (List.length_filter_le _ _) (Nat.le_trans (List.length_take_le _ _) (by omega))
      cases hf : f d with
      | true =>
        refine iteT ?_
        refine he X' H4 σ2 d hmem hf (s02.trans (p1.trans s4)) t4 E2 H5 s5 _ fun y H6 s6 ry => ?_
        have s36 : Same H3 H6 := (s4.trans s5).trans s6
        refine ⟨acc, s36 D _ p3, by rw [sizeLine_eq]; omega, ?_, ?_, acc ++ [y], upd_same, ?_⟩
        · exact Same.mut (p1.trans s36) hD
        · exact (p2.mono s36).put
        · rw [etake, List.filter_append, List.map_append]
          have ef : List.filter f [d] = [d] := by simp [hf]
          rw [ef]
          exact ((p4.mono (Kp.of s36)).snoc ry).mono (Kp.put (.inr rfl))
      | false =>
        refine iteF ?_
        have s35 : Same H3 H5 := s4.trans s5
        refine ⟨p1.trans s35, p2.mono s35, acc, s35 D _ p3, ?_⟩
        rw [etake, List.filter_append, List.map_append]
        have ef : List.filter f [d] = [] := by simp [hf]
        rw [ef, List.map_nil, List.append_nil]
        exact p4.mono (Kp.of s35)
    · rintro H3 ⟨p1, p2, acc, p3, p4⟩
      rw [List.take_length] at p4
      have nXD : ¬ X D := t2.new hD
      -- D itself is a datum again
      exact q (.ref D) H3 (s2.trans p1) (.lst nXD p3 (p4.less fun a => .inl))
theorem ends_data {l r : List Pr} {h : PyData → PyData} (hh : ∀ p q s, look l p = some q → look r p = some s → h (.int (p : Nat)) = .tuple [.int (p : Nat), .int (q : Nat), .int (s : Nat)]) (hl : Inc l) : ((l.map fun p => PyData.int (p.1 : Nat)).filter fun z => (look r (match z with | .int i => i.toNat | _ => 0)).isSome).map h = (ends l r).map fun e => PyData.tuple [.int (e.1 : Nat), .int (e.2.1 : Nat), .int (e.2.2 : Nat)] := by
  have key : ∀ l' : List Pr, (∀ x ∈ l', x ∈ l) → ((l'.map fun p => PyData.int (p.1 : Nat)).filter fun z => (look r (match z with | .int i => i.toNat | _ => 0)).isSome).map h = (ends l' r).map fun e => PyData.tuple [.int (e.1 : Nat), .int (e.2.1 : Nat), .int (e.2.2 : Nat)] := by
    intro l'
    induction l' with
    | nil => intro _; rfl
    | cons x rest ih =>
      intro hx
      have ih := ih fun y hy => hx y (List.mem_cons_of_mem _ hy)
      rw [List.map_cons, List.filter_cons]
      have e0 : ((x.1 : Nat) : Int).toNat = x.1 := by omega
      simp only [e0]
      unfold ends
      rw [List.filterMap_cons]
      cases hs : look r x.1 with
      | none =>
        rw [if_neg (by simp)]
        exact ih
      | some s =>
        rw [if_pos (by simp), List.map_cons, hh x.1 x.2 s ((look_some hl).mpr (hx x List.mem_cons_self)) hs]
        show _ :: _ = _ :: _
        congr 1
  exact key l fun x hx => hx
end
end KD

/-! Gaps between two rows, and what is merged. -/
namespace K56
open PySem PySem.Spec PyProof.Rows L2 KD KL
-- RAISES check_texts is_common_row common_row check_rows gaps merged
-- HINT gaps_between dcK yes
-- HINT gaps_between it#1 pi_seq
-- HINT gaps_between it#2 pi_seq
-- HINT gaps_between it#3 pi_keys
-- HINT gaps_between locks ends =
-- HINT gaps_between in dict
-- HINT gaps_between dgetn mine,theirs
-- HINT gaps_between slice sl_seq
-- HINT gaps_between ix (ix_seqK (K := K) rfl)
-- HINT gaps_between lcte#3 (tTup (tCons (tVar 12) (tCons (tDGet (tVar 5) (tVar 12)) (tCons (tDGet (tVar 6) (tVar 12)) tNil))))
variable {P : Program} {w : World} {K : PySem.W.Frag} {mg : Str → Option Value} {base : Heap}
def trD (e : Tr) : PyData := .tuple [.int (e.1 : Nat), .int (e.2.1 : Nat), .int (e.2.2 : Nat)]
def gD (g : List Str × List Str × List Str) : PyData := .tuple [wsD g.1, wsD g.2.1, wsD g.2.2]
def gsD (gs : List (List Str × List Str × List Str)) : PyData := .list (gs.map gD)
theorem cut_data (ws : List Str) (a b : Nat) : cutPD (ws.map PyData.str) (some (a : Int)) (some (b : Int)) = (cut ws a b).map PyData.str := by
  unfold cutPD cut
  rw [sIx_nn (by omega), sIx_nn (by omega), List.length_map, show ((a : Int)).toNat = a by omega, show ((b : Int)).toNat = b by omega, ← List.map_drop, ← List.map_take]
  congr 1
  by_cases h : a ≤ ws.length
  · rw [Nat.min_eq_left h]
    by_cases h2 : b ≤ ws.length
    · rw [Nat.min_eq_left h2]
    · rw [Nat.min_eq_right (by omega), List.take_of_length_le (by rw [List.length_drop]; exact Nat.le_refl _), List.take_of_length_le (by rw [List.length_drop]; omega)]
  · rw [Nat.min_eq_right (show ws.length ≤ a by omega), List.drop_length, List.drop_eq_nil_of_le (show ws.length ≤ a by omega), List.take_nil, List.take_nil]
/-- where the i-th gap begins -/
def stA : Tr → List Tr → Nat → Tr
  | s, _, 0 => s
  | _, e :: r, i + 1 => stA (e.1 + 1, e.2.1 + 1, e.2.2 + 1) r i
  | s, [], _ => s
theorem stA_zero (es : List Tr) (s : Tr) : stA s es 0 = s := by cases es <;> rfl
theorem stA_next : ∀ (es : List Tr) (s : Tr) (i : Nat) (e : Tr), es[i]? = some e → stA s es (i + 1) = (e.1 + 1, e.2.1 + 1, e.2.2 + 1)
  | [], _, _, _, h => by simp at h
  | e :: r, s, 0, e', h => by
    have : e = e' := by simpa using h
    subst this
    cases r <;> rfl
  | e :: r, s, i + 1, e', h => by
    show stA _ r (i + 1) = _
    exact stA_next r _ i e' (by simpa using h)
theorem gap_at (ws us vs : List Str) : ∀ (es : List Tr) (s : Tr) (i : Nat) (e : Tr), es[i]? = some e → (gapL ws us vs s es)[i]? = some (cut ws (stA s es i).1 e.1, cut us (stA s es i).2.1 e.2.1, cut vs (stA s es i).2.2 e.2.2)
  | [], _, _, _, h => by simp at h
  | e :: r, s, 0, e', h => by
    have : e = e' := by simpa using h
    subst this
    rfl
  | e :: r, s, i + 1, e', h => by
    show (gapL ws us vs _ r)[i]? = _
    exact gap_at ws us vs r _ i e' (by simpa using h)
def endsN (ws us vs : List Str) (l r : List Pr) : List Tr := ends l r ++ [(ws.length, us.length, vs.length)]
def gapsS (ws us vs : List Str) (l r : List Pr) : List (List Str × List Str × List Str) := gapL ws us vs (0, 0, 0) (endsN ws us vs l r)
def heldS (ws : List Str) (l r : List Pr) : List Str := (ends l r).map fun e => wAt ws e.1
/-- rows of two texts -/
structure RowOf (ws us : List Str) (l : List Pr) : Prop where
  inc : Inc l
  bd : ∀ p ∈ l, p.1 < ws.length ∧ p.2 < us.length
theorem RowOf.few {ws us : List Str} {l : List Pr} (R : RowOf ws us l) : l.length ≤ ws.length := by
  have := len_fst (M := fun _ _ => true) ⟨R.inc, fun _ _ => rfl⟩ (lo := 0) (hi := ws.length) fun p hp => ⟨Nat.zero_le _, (R.bd p hp).1⟩
  omega
theorem ends_few {l r : List Pr} : (ends l r).length ≤ l.length := List.length_filterMap_le _ _
def spGaps : Sp := fun us H Q _ => ∃ (X : Addr → Prop) (v1 v2 v3 v4 v5 : V) (d1 d2 d3 dl dr : PyData) (ws ms vs : List Str) (l r : List Pr), us = [v1, v2, v3, v4, v5] ∧ Trk X H ∧ DX X H v1 d1 ∧ DX X H v2 d2 ∧ DX X H v3 d3 ∧ DX X H v4 dl ∧ DX X H v5 dr ∧ Txt d1 ws ∧ Txt d2 ms ∧ Txt d3 vs ∧ Rw dl l ∧ Rw dr r ∧ RowOf ws ms l ∧ RowOf ws vs r ∧
  ∀ w H', Same H H' → DX X H' w (.tuple [gsD (gapsS ws ms vs l r), wsD (heldS ws l r)]) → Q w H'
theorem txt_nd {d : PyData} {ws : List Str} (T : Txt d ws) : noDict d = true := by
  have h := T.its
  have s := T.seq
  cases d with
  | list ds =>
    have h : ds = ws.map PyData.str := h
    rw [h]
    exact noDict_strs ws
  | tuple ds =>
    have h : ds = ws.map PyData.str := h
    rw [h]
    exact noDict_strs ws
  | _ => cases s
section
variable {X : Addr → Prop} {H : Hp} {σ : L2.St} {Γ : List Sv}
theorem wipe_3n {i j l : Nat} {x y z : Option V} : wipe ((((wipe σ [i, j, l]).set i x).set j y).set l z) [i, j, l] = wipe σ [i, j, l] := by
  show ((((((((σ.set l none).set j none).set i none).set i x).set j y).set l z).set l none).set j none).set i none = ((σ.set l none).set j none).set i none
  apply List.ext_getElem?
  intro n
  simp only [List.getElem?_set, List.length_set]
  by_cases h1 : i = n <;> by_cases h2 : j = n <;> by_cases h3 : l = n <;> simp_all
theorem tgt_triple {i j l : Nat} {d e f : PyData} (E : EnvOk X H σ Γ) : Tgt X (gTup K 3 (gCons (gName i) (gCons (gName j) (gCons (gName l) gNil)))) σ ((((((Γ.set l .un).set j .un).set i .un).set i (.dat d)).set j (.dat e)).set l (.dat f)) [i, j, l] (.tuple [d, e, f]) H := fun X' H3 m k t v hd Ψ q =>
  g_triple hd fun u w z h1 h2 h3 => q _ ((((((E.more m).mono k).wipe [i, j, l] |>.set h1).set h2).set h3)) wipe_3n
end
def nzD (z : PyData) : Nat := match z with
  | .int i => i.toNat
  | _ => 0
abbrev s_gaps_between : Stmt := topS 24
abbrev n_gaps_between : List Str := ["base", "one", "other", "left", "right", "mine", "theirs", "ends", "found", "start", "end", "match", "place", "_"]
theorem sc_gaps_between : FnScope n_gaps_between ["base", "one", "other", "left", "right"] (defScope s_gaps_between) := ⟨rfl, rfl, rfl, by decide +kernel, rfl, by decide +kernel, by decide +kernel⟩
theorem ok_gaps_between {f : Addr} {fd : FuncData} (F : Fun K "gaps_between" "gaps_between" s_gaps_between f fd) (T : Bl mg) : FnOk P w K mg base CX0 1 f fd ["base", "one", "other", "left", "right"] spGaps := by
  refine F.ok sc_gaps_between (fun vs H Q E h => ?_) (fun cdv A outer s H us Q E hr h => ?_)
  · obtain ⟨X, v1, v2, v3, v4, v5, d1, d2, d3, dl, dr, ws, ms, vs, l, r, rfl, _⟩ := h
    rfl
  · obtain ⟨X, v1, v2, v3, v4, v5, d1, d2, d3, dl, dr, ws, ms, vs, l, r, rfl, t, x1, x2, x3, x4, x5, T1, T2, T3, Rl, Rr, Yl, Yr, q⟩ := h
    refine ⟨_, (pss_cons (ps_set (i := 5) sc_gaps_between.nd rfl (by first | exact Or.inl rfl | exact Or.inr rfl) (pe_dc (own := [("match", 11)]) (g := (gName 11)) (tt := tYes) rfl sc_gaps_between.nd (pi_seq (pv 3)) (blkOk_by (N := n_gaps_between) (sc := defScope s_gaps_between) (by decide +kernel)) (fun _ _ _ _ _ => (pg_name (i := 11) sc_gaps_between.nd rfl (by first | exact Or.inl rfl | exact Or.inr rfl))) (fun _ _ _ _ _ => pts_nil) (fun _ _ _ _ _ => (pe_ix (ix_seqK (K := K) rfl) (pv 11) pe_int (fun _ _ => rfl))) (fun _ _ _ _ _ => (pe_ix (ix_seqK (K := K) rfl) (pv 11) pe_int (fun _ _ => rfl)))))
    (pss_cons (ps_set (i := 6) sc_gaps_between.nd rfl (by first | exact Or.inl rfl | exact Or.inr rfl) (pe_dc (own := [("match", 11)]) (g := (gName 11)) (tt := tYes) rfl sc_gaps_between.nd (pi_seq (pv 4)) (blkOk_by (N := n_gaps_between) (sc := defScope s_gaps_between) (by decide +kernel)) (fun _ _ _ _ _ => (pg_name (i := 11) sc_gaps_between.nd rfl (by first | exact Or.inl rfl | exact Or.inr rfl))) (fun _ _ _ _ _ => pts_nil) (fun _ _ _ _ _ => (pe_ix (ix_seqK (K := K) rfl) (pv 11) pe_int (fun _ _ => rfl))) (fun _ _ _ _ _ => (pe_ix (ix_seqK (K := K) rfl) (pv 11) pe_int (fun _ _ => rfl)))))
    (pss_cons (ps_lock (ps_setLc (i := 7) (own := [("place", 12)]) (g := (gName 12)) (te := (tTup (tCons (tVar 12) (tCons (tDGet (tVar 5) (tVar 12)) (tCons (tDGet (tVar 6) (tVar 12)) tNil))))) rfl sc_gaps_between.nd rfl rfl (sw_true rfl rfl rfl (by decide +kernel)) (pi_keys (pv 5)) (blkOk_by (N := n_gaps_between) (sc := defScope s_gaps_between) (by decide +kernel)) (fun _ _ _ _ _ => (pg_name (i := 12) sc_gaps_between.nd rfl (by first | exact Or.inl rfl | exact Or.inr rfl))) (fun _ _ _ _ _ => (pts_one (pt_cmp (pc_din (hu_of hr) (pv 12) (pv 6)) (by rfl)))) (fun _ _ _ _ _ => (pe_tup (pa_cons (pv 12) (pa_cons (pe_dget (hu_of hr) (pv 5) (pv 12) (fun _ _ => rfl)) (pa_cons (pe_dget (hu_of hr) (pv 6) (pv 12) (fun _ _ => rfl)) pa_nil)))))))
    (pss_cons (ps_set (i := 8) sc_gaps_between.nd rfl (by first | exact Or.inl rfl | exact Or.inr rfl) (pe_lst pa_nil))
    (pss_cons (ps_set (i := 9) sc_gaps_between.nd rfl (by first | exact Or.inl rfl | exact Or.inr rfl) (pe_tup (pa_cons pe_int (pa_cons pe_int (pa_cons pe_int pa_nil)))))
    (pss_cons (ps_for PassesOwn.never rfl (pi_list (pe_op op_addA (pv 7) (pe_lst (pa_cons (pe_tup (pa_cons (pe_callB call_len (by rfl) T.b_len boot_len (pa_cons (pv 0) pa_nil)) (pa_cons (pe_callB call_len (by rfl) T.b_len boot_len (pa_cons (pv 1) pa_nil)) (pa_cons (pe_callB call_len (by rfl) T.b_len boot_len (pa_cons (pv 2) pa_nil)) pa_nil)))) pa_nil)))) (pg_name (i := 10) sc_gaps_between.nd rfl (by first | exact Or.inl rfl | exact Or.inr rfl))
    (pss_cons (ps_expr (pe_bm PySem.F.plainAttrs_list PySem.F.slot_list_append PySem.F.type_list_append mt_append (pv 8) (pa_cons (pe_tup (pa_cons (pe_callTy call_list_of (by rfl) T.b_list boot_list (pa_cons (pe_slice sl_seq (pv 0) (po_some (pe_ix (ix_seqK (K := K) rfl) (pv 9) pe_int (fun _ _ => rfl))) (po_some (pe_ix (ix_seqK (K := K) rfl) (pv 10) pe_int (fun _ _ => rfl)))) pa_nil)) (pa_cons (pe_callTy call_list_of (by rfl) T.b_list boot_list (pa_cons (pe_slice sl_seq (pv 1) (po_some (pe_ix (ix_seqK (K := K) rfl) (pv 9) pe_int (fun _ _ => rfl))) (po_some (pe_ix (ix_seqK (K := K) rfl) (pv 10) pe_int (fun _ _ => rfl)))) pa_nil)) (pa_cons (pe_callTy call_list_of (by rfl) T.b_list boot_list (pa_cons (pe_slice sl_seq (pv 2) (po_some (pe_ix (ix_seqK (K := K) rfl) (pv 9) pe_int (fun _ _ => rfl))) (po_some (pe_ix (ix_seqK (K := K) rfl) (pv 10) pe_int (fun _ _ => rfl)))) pa_nil)) pa_nil)))) pa_nil)))
    (pss_one (ps_set (i := 9) sc_gaps_between.nd rfl (by first | exact Or.inl rfl | exact Or.inr rfl) (pe_tup (pa_cons (pe_op op_addA (pe_ix (ix_seqK (K := K) rfl) (pv 10) pe_int (fun _ _ => rfl)) pe_int) (pa_cons (pe_op op_addA (pe_ix (ix_seqK (K := K) rfl) (pv 10) pe_int (fun _ _ => rfl)) pe_int) (pa_cons (pe_op op_addA (pe_ix (ix_seqK (K := K) rfl) (pv 10) pe_int (fun _ _ => rfl)) pe_int) pa_nil))))))))
    (pss_one (ps_ret (pe_tup (pa_cons (pv 8) (pa_cons (pe_lc (own := [("place", 12), ("_", 13), ("_", 13)]) (g := (gTup K 3 (gCons (gName 12) (gCons (gName 13) (gCons (gName 13) gNil))))) (tt := tYes) rfl sc_gaps_between.nd (pi_list (pv 7)) (blkOk_by (N := n_gaps_between) (sc := defScope s_gaps_between) (by decide +kernel)) (fun _ _ _ _ _ => (pg_tup (n := 3) rfl (pgs_cons (pg_name (i := 12) sc_gaps_between.nd rfl (by first | exact Or.inl rfl | exact Or.inr rfl)) (pgs_cons (pg_name (i := 13) sc_gaps_between.nd rfl (by first | exact Or.inl rfl | exact Or.inr rfl)) (pgs_cons (pg_name (i := 13) sc_gaps_between.nd rfl (by first | exact Or.inl rfl | exact Or.inr rfl)) pgs_nil))))) (fun _ _ _ _ _ => pts_nil) (fun _ _ _ _ _ => (pe_ix (ix_seqK (K := K) rfl) (pv 0) (pv 12) (fun _ _ => rfl)))) pa_nil))))))))))), ?_⟩
    have En : EnvOk X H (L2.start n_gaps_between [v1, v2, v3, v4, v5]) [.dat d1, .dat d2, .dat d3, .dat dl, .dat dr, .un, .un, .un, .un, .un, .un, .un, .un, .un] := ⟨rfl, fun i s e => by
      match i, e with
      | 0, e => cases e; exact ⟨_, rfl, x1⟩
      | 1, e => cases e; exact ⟨_, rfl, x2⟩
      | 2, e => cases e; exact ⟨_, rfl, x3⟩
      | 3, e => cases e; exact ⟨_, rfl, x4⟩
      | 4, e => cases e; exact ⟨_, rfl, x5⟩
      | 5, e => cases e; trivial
      | 6, e => cases e; trivial
      | 7, e => cases e; trivial
      | 8, e => cases e; trivial
      | 9, e => cases e; trivial
      | 10, e => cases e; trivial
      | 11, e => cases e; trivial
      | 12, e => cases e; trivial
      | 13, e => cases e; trivial
      | _ + 14, e => cases e⟩
    have fl := Yl.few
    have fr := Yr.few
    have f1 := T1.few
    refine k_set (k_dc (l := l) t En (by show 11 < 14; omega) (g_var (i := 3) (d := dl) En rfl) Rl (by omega) Yl.inc fun A1 H1 hA1 s1 eA1 => ?_)
    have t1 := t.mono s1
    have nA1 : ¬ X A1 := t.new hA1
    have E1 := (En.same s1).setV (i := 5) (v := .ref A1)
    refine k_set (k_dc (l := r) t1 E1 (by show 11 < 14; omega) (g_var (i := 4) (d := dr) E1 rfl) Rr (by omega) Yr.inc fun A2 H2 hA2 s2 eA2 => ?_)
    have s02 := s1.trans s2
    have t2 := t.mono s02
    have nA2 : ¬ X A2 := t1.new hA2
    have n12 : A2 ≠ A1 := fun z => by rw [z, eA1] at hA2; cases hA2
    have eA1 := s2 _ _ eA1
    let Γ (x7 x8 x9 x10 : Sv) : List Sv := [.dat d1, .dat d2, .dat d3, .un, .un, .val (.ref A1), .val (.ref A2), x7, x8, x9, x10, .un, .un, .un]
    have E2 : EnvOk X H2 _ (Γ .un .un .un .un) := envUn' (envUn' ((E1.same s2).setV (i := 6) (v := .ref A2)) 3) 4
    -- ends
    refine k_lockS ⟨A1, _, eA1, trivial, fun od => ?_⟩
    have EL := E2.lock (o := .frz od (.dK (kvsOf l))) eA1 fun d hd => by
      simp only [Γ, List.mem_cons, Sv.dat.injEq, reduceCtorEq, List.not_mem_nil, or_false, false_or] at hd
      rcases hd with rfl | rfl | rfl
      · exact txt_nd T1
      · exact txt_nd T2
      · exact txt_nd T3
    have hL : upd H2 A1 (.frz od (.dK (kvsOf l))) A1 = some (.frz od (.dK (kvsOf l))) := upd_same
    have hL2 : upd H2 A1 (.frz od (.dK (kvsOf l))) A2 = some (.dK (kvsOf r)) := by rw [upd_ne n12]; exact eA2
    have tL : Trk X (upd H2 A1 (.frz od (.dK (kvsOf l)))) := t2.put
    have kL : ∀ b o, H b = some o → upd H2 A1 (.frz od (.dK (kvsOf l))) b = some o := fun b o e => by
      have : b ≠ A1 := fun z => by rw [z, hA1] at e; cases e
      rw [upd_ne this]
      exact s02 _ _ e
    generalize upd H2 A1 (.frz od (.dK (kvsOf l))) = HL at *
    refine (show G X _ _ HL (.list ((ends l r).map trD)) from g_is (g_lcS (ds := l.map fun p => .int (p.1 : Nat)) (Γ2 := fun z => (Γ .un .un .un .un).set 12 (.dat z)) (fun z => (look r (nzD z)).isSome) (fun z => .tuple [z, .int ((look l (nzD z)).getD 0 : Nat), .int ((look r (nzD z)).getD 0 : Nat)]) tL (gi_keys EL rfl hL nA1) (by rw [List.length_map]; omega) (fun H3 s3 z hz => tgt_name (EL.same s3)) (fun X2 H3 σ2 z hz s3 t3 E3 => ?_) (fun X2 H3 σ2 z hz hf s3 t3 E3 => ?_)) ?_) HL (Same.refl _) _ fun v7 H3 s3 r7 => ?_
    · obtain ⟨p, hp, rfl⟩ := List.mem_map.mp hz
      have e0 : nzD (.int (p.1 : Nat)) = p.1 := by show ((p.1 : Nat) : Int).toNat = p.1; omega
      rw [e0]
      exact gt_dinI E3 rfl (.inl (s3 _ _ hL2)) (g_var (i := 12) (d := .int (p.1 : Nat)) E3 rfl)
    · obtain ⟨p, hp, rfl⟩ := List.mem_map.mp hz
      have e0 : nzD (.int (p.1 : Nat)) = p.1 := by show ((p.1 : Nat) : Int).toNat = p.1; omega
      rw [e0] at hf ⊢
      obtain ⟨sv, hsv⟩ := Option.isSome_iff_exists.mp hf
      have hlv : look l p.1 = some p.2 := (look_some Yl.inc).mpr hp
      rw [hsv, hlv]
      exact g_tup t3 (ga_cons (g_var (i := 12) (d := .int (p.1 : Nat)) E3 rfl) (ga_cons (g_dgetI E3 rfl (.inr ⟨od, s3 _ _ hL⟩) (g_var (i := 12) (d := .int (p.1 : Nat)) E3 rfl) hlv) (ga_cons (g_dgetI E3 rfl (.inl (s3 _ _ hL2)) (g_var (i := 12) (d := .int (p.1 : Nat)) E3 rfl) hsv) ga_nil))) (by simp)
    · congr 1
      refine ends_data (h := fun z => .tuple [z, .int ((look l (nzD z)).getD 0 : Nat), .int ((look r (nzD z)).getD 0 : Nat)]) (fun p qq ss h1 h2 => ?_) Yl.inc
      have e0 : nzD (.int (p : Nat)) = p := by show ((p : Nat) : Int).toNat = p; omega
      show PyData.tuple [.int (p : Nat), .int ((look l (nzD (.int (p : Nat)))).getD 0 : Nat), .int ((look r (nzD (.int (p : Nat)))).getD 0 : Nat)] = _
      rw [e0, h1, h2]
      rfl
    have hL3 := s3 _ _ hL
    refine k_name ⟨hL3, ?_⟩
    have E3 := ((EL.same s3).set (i := 7) r7).unlock (o := .dK (kvsOf l)) hL3
    have s4 : Same H (upd H3 A1 (.dK (kvsOf l))) := fun b o e => by
      have : b ≠ A1 := fun z => by rw [z, hA1] at e; cases e
      rw [upd_ne this]
      exact s3 _ _ (kL _ _ e)
    have t4 := t.mono s4
    let es := endsN ws ms vs l r
    let Δ (x8 x9 x10 : Sv) : List Sv := [.dat d1, .dat d2, .dat d3, .un, .un, .un, .un, .dat (.list ((ends l r).map trD)), x8, x9, x10, .un, .un, .un]
    have E4 : EnvOk X (upd H3 A1 (.dK (kvsOf l))) _ (Δ .un .un .un) := envUn' (envUn' E3 5) 6
    generalize upd H3 A1 (.dK (kvsOf l)) = H4 at *
    clear E3 EL hL hL2 tL kL hL3 E2 eA1 eA2 r7 s3
    -- found, start
    refine k_own (i := 8) E4 t4 (gn_lst t4 ga_nil (by simp)) fun Fo H5 xs5 hF s5 h5 x5 E5 t5 => ?_
    have nX : ¬ X Fo := t4.new hF
    let X' : Addr → Prop := fun b => X b ∨ b = Fo
    refine q_set (i := 9) (d := trD (0, 0, 0)) E5 (g_tup t5 (ga_cons g_int (ga_cons g_int (ga_cons g_int ga_nil))) (by simp)) fun H6 v6 s6 E6 => ?_
    have E6 : EnvOk X' H6 _ (Δ (.val (.ref Fo)) (.dat (trD (0, 0, 0))) .un) := E6
    have lw : ∀ {X2 : Addr → Prop} {H' : Hp} {σ' : L2.St} {i : Nat} {d : PyData} {ts : List Str} {Γ' : List Sv}, Trk X2 H' → EnvOk X2 H' σ' Γ' → Γ'[i]? = some (.dat d) → Txt d ts → G X2 (tCB (fun xs H Q => ∃ x n, xs = [x] ∧ LenV K x H n ∧ Q (V.int n) H) (tCons (tVar i) tNil)) σ' H' (.int (ts.length : Nat)) := fun t E h T => g_is (g_len t (g_var E h) (hasLen_seq T.seq)) (by rw [T.len])
    have t6 := t5.mono s6
    have fe : (ends l r).length ≤ 60 := by have := ends_few (l := l) (r := r); omega
    have ges : G X' _ _ H6 (.list (es.map trD)) := g_is (g_cat t6 (g_var (i := 7) (d := .list ((ends l r).map trD)) E6 rfl) (g_lst t6 (ga_cons (g_tup t6 (ga_cons (lw t6 E6 (i := 0) rfl T1) (ga_cons (lw t6 E6 (i := 1) rfl T2) (ga_cons (lw t6 E6 (i := 2) rfl T3) ga_nil))) (by simp)) ga_nil) (by simp)) (by rw [List.length_map]; simp; omega)) (by show PyData.list ((ends l r).map trD ++ [trD (ws.length, ms.length, vs.length)]) = .list ((ends l r ++ [(ws.length, ms.length, vs.length)]).map trD); rw [List.map_append]; rfl)
    have lg : (gapL ws ms vs (0, 0, 0) es).length = es.length := gap_len ws ms vs es (0, 0, 0)
    have les : es.length ≤ 61 := by show ((ends l r) ++ [_]).length ≤ 61; rw [List.length_append]; simp; omega
    refine s_forD (X := X') (gi_list ges) (fun Hb i σ' H' => Kp X' Hb H' ∧ Trk X' H' ∧ Same H4 H' ∧ ∃ ys, H' Fo = some (.lst ys) ∧ DXs X' H' ys (((gapL ws ms vs (0, 0, 0) es).take i).map gD) ∧ EnvOk X' H' σ' (Δ (.val (.ref Fo)) (.dat (trD (stA (0, 0, 0) es i))) .un)) ?_ ?_ ?_ ?_
    · intro Hb sb
      cases x5 <;> exact ⟨Kp.refl, t6.mono sb, (s5.trans s6).trans sb, [], sb _ _ (s6 _ _ h5), .nil, by rw [stA_zero]; exact E6.same sb⟩
    · rintro Hb i σ' H' ⟨p1, p2, _⟩
      exact ⟨p1, p2⟩
    · rintro Hb i x d σ' H' H'' sb hd ⟨p1, p2, p3, ys, p4, p5, E7⟩ s7 dx
      rw [List.getElem?_map] at hd
      obtain ⟨e, he, rfl⟩ := Option.map_eq_some_iff.mp hd
      have hi := (List.getElem?_eq_some_iff.mp he).1
      refine k_name ?_
      have t8 := p2.mono s7
      have E8 := (E7.same s7).set (i := 10) dx
      generalize hst : stA (0, 0, 0) es i = st at *
      have sl : ∀ {k : Nat} {c : Int} {a b : Nat} {d' : PyData} {ts : List Str}, (Δ (.val (.ref Fo)) (.dat (trD st)) (.dat (trD e)))[k]? = some (.dat d') → Txt d' ts → atI (itemsD (trD st)) c = some (.int (a : Nat)) → atI (itemsD (trD e)) c = some (.int (b : Nat)) → G X' (tCB (fun xs H Q => ∃ p ys, xs = [V.ref p] ∧ (SqL K H p ys ∨ SqT K H p ys) ∧ ∀ l, H l = none → Q (V.ref l) (upd H l (.lst ys))) (tCons (tSl (rSlQ K) (tVar k) (tPart (tOp (rIx K) (tVar 9) (tC (.int c)))) (tPart (tOp (rIx K) (tVar 10) (tC (.int c))))) tNil)) _ H'' (wsD (cut ts a b)) := fun {k c a b d' ts} hk T h1 h2 => by
        obtain ⟨z, zs, zi, gz⟩ := g_slQ (K := K) t8 (g_var (i := k) (d := d') E8 hk) T.seq (go_some (g_ix t8 (g_var (i := 9) (d := trD st) E8 rfl) rfl g_int h1)) (go_some (g_ix t8 (g_var (i := 10) (d := trD e) E8 rfl) rfl g_int h2))
        exact g_is (g_listOf t8 gz zs) (by rw [zi, T.its, cut_data]; rfl)
      refine q_append (i := 8) (L := Fo) (d := gD (cut ws st.1 e.1, cut ms st.2.1 e.2.1, cut vs st.2.2 e.2.2)) E8 rfl (.inr rfl) t8 (s7 _ _ p4) (p5.mono (Kp.of s7)) (g_tup t8 (ga_cons (sl (k := 0) (c := 0) rfl T1 rfl rfl) (ga_cons (sl (k := 1) (c := 1) rfl T2 rfl rfl) (ga_cons (sl (k := 2) (c := 2) rfl T3 rfl rfl) ga_nil))) (by simp)) (by rw [List.length_map, List.length_take]; omega) fun H9 ys9 h9 x9 E9 t9 k9 => ?_
      have pl : ∀ {c : Int} {a : Nat}, atI (itemsD (trD e)) c = some (.int (a : Nat)) → G X' (tOp rAddA (tOp (rIx K) (tVar 10) (tC (.int c))) (tC (.int 1))) _ H9 (.int ((a + 1 : Nat) : Int)) := fun {c a} h => g_is (g_addI t9 (g_ix t9 (g_var (i := 10) (d := trD e) E9 rfl) rfl g_int h) g_int) (by congr 1)
      refine k_set1 ((show G X' _ _ H9 (trD (e.1 + 1, e.2.1 + 1, e.2.2 + 1)) from g_tup t9 (ga_cons (pl (c := 0) rfl) (ga_cons (pl (c := 1) rfl) (ga_cons (pl (c := 2) rfl) ga_nil))) (by simp)) H9 (Same.refl _) _ fun v10 H10 s10 r10 => ?_)
      have kx : Kp X' H'' H9 := fun a o n z => k9 a o (fun y => n (.inr y)) z
      have k10 : Kp X' H' H10 := ((Kp.of s7).trans kx).trans (Kp.of s10)
      refine ⟨p1.trans k10, t9.mono s10, fun a o z => ?_, ys9, s10 _ _ h9, ?_, ?_⟩
      · have n1 : a ≠ Fo := fun y => by rw [y, hF] at z; cases z
        exact s10 _ _ (k9 a o n1 (s7 a o (p3 a o z)))
      · have ga := gap_at ws ms vs es (0, 0, 0) i e he
        rw [hst] at ga
        rw [List.take_add_one, ga, Option.toList_some, List.map_append]
        exact x9.mono (Kp.of s10)
      · rw [stA_next es (0, 0, 0) i e he]
        exact envUn' ((E9.same s10).set (i := 9) r10) 10
    · rintro Hb σ' H' sb ⟨p1, p2, p3, ys, p4, p5, E7⟩
      rw [List.length_map, ← lg, List.take_length] at p5
      have E8 := EnvOk.give (i := 8) E7 rfl nX p4 p5
      have t8 : Trk X H' := fun a h => p2 a (.inl h)
      refine s_ret (X := X) (D := { nx := fun _ H' => Q .non H', rt := Q }) (d := .tuple [gsD (gapsS ws ms vs l r), wsD (heldS ws l r)]) (g_tup t8 (ga_cons (g_var (i := 8) E8 rfl) (ga_cons (g_is (g_lc1 (ds := (ends l r).map trD) (Γ2 := fun z => [.dat d1, .dat d2, .dat d3, .un, .un, .un, .un, .dat (.list ((ends l r).map trD)), .dat (gsD (gapsS ws ms vs l r)), .dat (trD (stA (0, 0, 0) es ((es.map trD).length))), .un, .un, .dat (it z 0), .dat (it z 2)]) (fun z => .str (wAt ws (nzD (it z 0)))) t8 (gi_list (g_var (i := 7) (d := .list ((ends l r).map trD)) E8 rfl)) (by rw [List.length_map]; omega) (fun H3 s3 z hz => ?_) (fun X2 H3 σ2 z hz t3 E3 => ?_)) ?_) ga_nil)) (by simp)) fun w H9 s9 dw => q w H9 ((s4.trans p3).trans s9) dw
      · obtain ⟨e, he, rfl⟩ := List.mem_map.mp hz
        exact tgt_triple (E8.same s3)
      · obtain ⟨e, he, rfl⟩ := List.mem_map.mp hz
        have e0 : nzD (it (trD e) 0) = e.1 := by show ((e.1 : Nat) : Int).toNat = e.1; omega
        rw [e0]
        have hb := Yl.bd _ ((ends_mem Yl.inc Yr.inc).mp he).1
        exact g_ix t3 (g_var (i := 0) (d := d1) E3 rfl) T1.seq (g_var (i := 12) (d := .int (e.1 : Nat)) E3 rfl) (atI_nat (by rw [T1.its, List.getElem?_map, List.getElem?_eq_getElem hb.1]; unfold wAt; rw [List.getD_eq_getElem?_getD, List.getElem?_eq_getElem hb.1]; rfl))
      · show PyData.list (((ends l r).map trD).map _) = PyData.list ((heldS ws l r).map PyData.str)
        unfold heldS
        rw [List.map_map, List.map_map]
        rfl
end K56

/-! What is given in a gap; what is merged. -/
namespace K56
open PySem PySem.Spec PyProof.Rows L2 KD KL
-- RAISES check_texts is_common_row common_row check_rows gaps merged
-- HINT merged_between zip RZ.pi_zipA
-- HINT merged_between slice (sl_lstK (K := K) rfl)
-- HINT merged_between ix (ix_seqK (K := K) rfl)
variable {P : Program} {w : World} {K : PySem.W.Frag} {mg : Str → Option Value} {base : Heap}
theorem sl_lstK {X : Cx} (h : X.K = K) : SlR X (rSlL K) := h ▸ sl_list
section
variable {X : Addr → Prop} {σ : L2.St} {H : Hp} {te : TE}
theorem g_any {bs : List Bool} (t : Trk X H) (h : G X te σ H (.list (bs.map PyData.bool))) : G X (tCB (rAny K) (tCons te tNil)) σ H (.bool (bs.any id)) := fun H1 s Q q =>
  h H1 s _ fun v H2 s2 rv => by
    obtain ⟨p, xs, rfl, n, e, rx⟩ := rv.lst_inv
    have ex : xs = bs.map V.bl := by
      clear q e rv h
      induction bs generalizing xs with
      | nil => cases rx; rfl
      | cons b bs ih =>
        cases rx with
        | cons h1 h2 => rw [h1.bl_inv, ih _ h2]; rfl
    exact ⟨p, bs, rfl, SqL.of (ex ▸ e), q _ H2 s2 (.bl _)⟩
end
abbrev Gp := List Str × List Str × List Str
def mgD : Option (List Str) → PyData
  | some l => wsD l
  | none => .none
def Sok (l : List Str) : Prop := l.length ≤ 60 ∧ ∀ s ∈ l, PyData.strOk s = true
def GpOk (g : Gp) : Prop := Sok g.1 ∧ Sok g.2.1 ∧ Sok g.2.2
theorem Sok.cut {l : List Str} (h : Sok l) (a b : Nat) : Sok (cut l a b) := by
  unfold KL.cut
  refine ⟨?_, fun s hs => h.2 s (List.mem_of_mem_drop (List.mem_of_mem_take hs))⟩
  rw [List.length_take, List.length_drop]
  have := h.1
  omega
theorem gapsS_ok {ws us vs : List Str} {l r : List Pr} (h1 : Sok ws) (h2 : Sok us) (h3 : Sok vs) : ∀ g ∈ gapsS ws us vs l r, GpOk g := gap_all (I := fun _ => True) (fun s e _ _ => ⟨h1.cut _ _, h2.cut _ _, h3.cut _ _⟩) (fun _ _ => trivial) _ _ trivial fun _ _ => trivial
theorem given_ok {g : Gp} {l : List Str} (h : GpOk g) (e : givenS g = some l) : Sok l := by
  unfold givenS at e
  split at e
  · cases e; exact h.2.2
  · split at e
    · cases e; exact h.2.1
    · cases e
theorem ws_eqv (ws vs : List Str) : PyData.eqv (wsD ws) (wsD vs) = decide (ws = vs) := eqv_strs ws vs
theorem gt_ws {X : Addr → Prop} {σ : L2.St} {H : Hp} {ta tb : TE} {a b : List Str} (t : Trk X H) (ha : G X ta σ H (wsD a)) (hb : G X tb σ H (wsD b)) (sa : Sok a) (sb : Sok b) : GT (tTest (tOp (rEqD K) ta tb)) σ H (decide (a = b)) :=
  gt_is (gt_eqD t ha hb (noDict_strs a) (noDict_strs b) (shaped_strs sa.2) (shaped_strs sb.2)) (ws_eqv a b)
def spGiven : Sp := fun us H Q _ => ∃ (X : Addr → Prop) (v : V) (g : Gp), us = [v] ∧ Trk X H ∧ DX X H v (gD g) ∧ GpOk g ∧ ∀ w H', Same H H' → DX X H' w (mgD (givenS g)) → Q w H'
theorem g_given {X : Addr → Prop} {σ : L2.St} {H : Hp} {te : TE} {E : XK} {g : Gp} (t : Trk X H) (h : G X te σ H (gD g)) (ok : GpOk g) : G X (tCall spGiven [] E (tCons te tNil)) σ H (mgD (givenS g)) := fun H1 s Q q =>
  h H1 s _ fun v H2 s2 rv => ⟨X, v, g, rfl, (t.mono s).mono s2, rv, ok, fun w H' s' dw => q w H' (s2.trans s') dw⟩
abbrev s_given : Stmt := topS 25
abbrev n_given : List Str := ["gap", "base", "one", "other"]
theorem sc_given : FnScope n_given ["gap"] (defScope s_given) := ⟨rfl, rfl, rfl, by decide +kernel, rfl, by decide +kernel, by decide +kernel⟩
theorem ok_given {f : Addr} {fd : FuncData} (F : Fun K "given" "given" s_given f fd) (T : Bl mg) : FnOk P w K mg base CX0 1 f fd ["gap"] spGiven := by
  refine F.ok sc_given (fun vs H Q E h => ?_) (fun cdv A outer s H us Q E hr h => ?_)
  · obtain ⟨X, v, g, rfl, _⟩ := h
    rfl
  · obtain ⟨X, v, ⟨a, b, c⟩, rfl, t, x, ⟨oa, ob, oc⟩, q⟩ := h
    refine ⟨_, (pss_cons (ps_asg (pv 0) (pg_tup (n := 3) rfl (pgs_cons (pg_name (i := 1) sc_given.nd rfl (by first | exact Or.inl rfl | exact Or.inr rfl)) (pgs_cons (pg_name (i := 2) sc_given.nd rfl (by first | exact Or.inl rfl | exact Or.inr rfl)) (pgs_cons (pg_name (i := 3) sc_given.nd rfl (by first | exact Or.inl rfl | exact Or.inr rfl)) pgs_nil)))))
    (pss_cons (ps_if (pt_cmpR (op_eqD hr.units) (pv 2) (pv 1) (nomark _))
    (pss_one (ps_ret (pv 3))) pss_nil)
    (pss_cons (ps_if (PW.pt (pw_or (pt_cmpR (op_eqD hr.units) (pv 3) (pv 1) (nomark _)) (pw_or1 (pt_cmpR (op_eqD hr.units) (pv 3) (pv 2) (nomark _)))))
    (pss_one (ps_ret (pv 2))) pss_nil)
    (pss_one (ps_ret pe_non))))), ?_⟩
    have En : EnvOk X H (L2.start n_given [v]) [.dat (gD (a, b, c)), .un, .un, .un] := env1 (N := n_given) x (by decide)
    refine k_asg (g_var (i := 0) (d := gD (a, b, c)) En rfl H (Same.refl _) _ fun v1 H1 s1 r1 => ?_)
    refine g_triple (d := wsD a) (e := wsD b) (f := wsD c) r1 fun u w z h1 h2 h3 => ?_
    have E1 : EnvOk X H1 _ [.dat (gD (a, b, c)), .dat (wsD a), .dat (wsD b), .dat (wsD c)] := (((En.same s1).set (i := 1) h1).set (i := 2) h2).set (i := 3) h3
    have t1 := t.mono s1
    refine q_if (b := decide (b = a)) (gt_ws t1 (g_var (i := 2) (d := wsD b) E1 rfl) (g_var (i := 1) (d := wsD a) E1 rfl) ob oa) (fun hb H2 s2 => ?_) fun hb H2 s2 => ?_
    · rw [decide_eq_true_iff] at hb
      have e : givenS (a, b, c) = some c := if_pos hb
      rw [e] at q
      exact s_ret (X := X) (d := wsD c) (g_var (i := 3) (d := wsD c) (E1.same s2) rfl) fun w H3 s3 dw => q w H3 ((s1.trans s2).trans s3) dw
    rw [decide_eq_false_iff_not] at hb
    have E2 := E1.same s2
    have t2 := t1.mono s2
    refine q_if (b := decide (c = a) || decide (c = b)) (gt_or (gt_ws t2 (g_var (i := 3) (d := wsD c) E2 rfl) (g_var (i := 1) (d := wsD a) E2 rfl) oc oa) fun _ => gt_ws t2 (g_var (i := 3) (d := wsD c) E2 rfl) (g_var (i := 2) (d := wsD b) E2 rfl) oc ob) (fun hc H3 s3 => ?_) fun hc H3 s3 => ?_
    · rw [Bool.or_eq_true, decide_eq_true_iff, decide_eq_true_iff] at hc
      have e : givenS (a, b, c) = some b := (if_neg hb).trans (if_pos hc)
      rw [e] at q
      exact s_ret (X := X) (d := wsD b) (g_var (i := 2) (d := wsD b) (E2.same s3) rfl) fun w H4 s4 dw => q w H4 (((s1.trans s2).trans s3).trans s4) dw
    · have hc' : ¬ (c = a ∨ c = b) := fun z => by
        have : (decide (c = a) || decide (c = b)) = true := by rw [Bool.or_eq_true, decide_eq_true_iff, decide_eq_true_iff]; exact z
        rw [this] at hc
        cases hc
      have e : givenS (a, b, c) = none := (if_neg hb).trans (if_neg hc')
      rw [e] at q
      exact s_ret (X := X) (d := .none) g_non fun w H4 s4 dw => q w H4 (((s1.trans s2).trans s3).trans s4) dw
/-! ### the whole -/
def gOf (d : PyData) : Gp := (wsOf (it d 0), wsOf (it d 1), wsOf (it d 2))
theorem gOf_gD (g : Gp) : gOf (gD g) = g := by
  show (wsOf (wsD g.1), wsOf (wsD g.2.1), wsOf (wsD g.2.2)) = g
  rw [wsOf_wsD, wsOf_wsD, wsOf_wsD]
theorem cut_tail (x : PyData) (xs : List PyData) : cutPD (x :: xs) (some 1) none = xs := by
  show ((x :: xs).drop (HT.sIx (x :: xs).length 0 (some 1))).take (HT.sIx (x :: xs).length (x :: xs).length none - HT.sIx (x :: xs).length 0 (some 1)) = xs
  rw [sIx_nn (by decide)]
  show ((x :: xs).drop (min 1 (xs.length + 1))).take (xs.length + 1 - min 1 (xs.length + 1)) = xs
  rw [Nat.min_eq_left (by omega)]
  show xs.take _ = xs
  exact List.take_of_length_le (by omega)
theorem inter_zip : ∀ (ps : List (List Str)) (p : List Str) (hs : List Str), hs.length = ps.length → inter (p :: ps) hs = p ++ (hs.zip ps).flatMap fun x => x.1 :: x.2
  | [], p, [], _ => by simp [inter]
  | q :: ps, p, h :: hs, e => by
    show p ++ h :: inter (q :: ps) hs = _
    rw [inter_zip ps q hs (by simpa using e)]
    rfl
  | [], _, _ :: _, e => by simp at e
  | _ :: _, _, [], e => by simp at e
theorem zipD_at {hs : List Str} {ps : List (List Str)} {i : Nat} {d : PyData} (h : (zipD (hs.map PyData.str) (ps.map wsD))[i]? = some d) : ∃ w p, (hs.zip ps)[i]? = some (w, p) ∧ d = .tuple [.str w, wsD p] := by
  unfold zipD at h
  rw [List.getElem?_zipWith] at h
  rw [List.getElem?_map, List.getElem?_map] at h
  cases h1 : hs[i]? with
  | none => rw [h1] at h; cases h
  | some w =>
    cases h2 : ps[i]? with
    | none => rw [h1, h2] at h; cases h
    | some p =>
      rw [h1, h2] at h
      cases h
      exact ⟨w, p, by rw [List.zip, List.getElem?_zipWith, h1, h2], rfl⟩
theorem flat_len {l : List (Str × List Str)} (h : ∀ x ∈ l, x.2.length ≤ 60) : (l.flatMap fun x => x.1 :: x.2).length ≤ 61 * l.length := by
  induction l with
  | nil => simp
  | cons x r ih =>
    rw [List.flatMap_cons, List.length_append, List.length_cons, List.length_cons]
    have := h x List.mem_cons_self
    have := ih fun z hz => h z (List.mem_cons_of_mem _ hz)
    omega
def spMgB : Sp := fun us H Q _ => ∃ (X : Addr → Prop) (v1 v2 v3 v4 v5 : V) (d1 d2 d3 dl dr : PyData) (ws ms vs : List Str) (l r : List Pr), us = [v1, v2, v3, v4, v5] ∧ Trk X H ∧ DX X H v1 d1 ∧ DX X H v2 d2 ∧ DX X H v3 d3 ∧ DX X H v4 dl ∧ DX X H v5 dr ∧ Txt d1 ws ∧ Txt d2 ms ∧ Txt d3 vs ∧ Rw dl l ∧ Rw dr r ∧ RowOf ws ms l ∧ RowOf ws vs r ∧
  ∀ w H', Same H H' → DX X H' w (mgD (mergeS (gapsS ws ms vs l r) (heldS ws l r))) → Q w H'
abbrev s_merged_between : Stmt := topS 26
abbrev n_merged_between : List Str := ["base", "one", "other", "left", "right", "told", "held", "lines", "text", "words", "part", "gap"]
theorem sc_merged_between : FnScope n_merged_between ["base", "one", "other", "left", "right"] (defScope s_merged_between) := ⟨rfl, rfl, rfl, by decide +kernel, rfl, by decide +kernel, by decide +kernel⟩
theorem ok_merged_between {f : Addr} {fd : FuncData} (F : Fun K "merged_between" "merged_between" s_merged_between f fd) (T : Bl mg) (b_any : mg "any" = none) (O_gaps_between : Own P w K mg base CX0 1 "gaps_between" ["base", "one", "other", "left", "right"] spGaps) (O_given : Own P w K mg base CX0 1 "given" ["gap"] spGiven) : FnOk P w K mg base CX0 2 f fd ["base", "one", "other", "left", "right"] spMgB := by
  refine F.ok sc_merged_between (fun vs H Q E h => ?_) (fun cdv A outer s H us Q E hr h => ?_)
  · obtain ⟨X, v1, v2, v3, v4, v5, d1, d2, d3, dl, dr, ws, ms, vs, l, r, rfl, _⟩ := h
    rfl
  · obtain ⟨X, v1, v2, v3, v4, v5, d1, d2, d3, dl, dr, ws, ms, vs, l, r, rfl, t, x1, x2, x3, x4, x5, T1, T2, T3, Rl, Rr, Yl, Yr, q⟩ := h
    refine ⟨_, (pss_cons (ps_asg (pe_own O_gaps_between hr (by decide) (by rfl) (pa_cons (pv 0) (pa_cons (pv 1) (pa_cons (pv 2) (pa_cons (pv 3) (pa_cons (pv 4) pa_nil)))))) (pg_tup (n := 2) rfl (pgs_cons (pg_name (i := 5) sc_merged_between.nd rfl (by first | exact Or.inl rfl | exact Or.inr rfl)) (pgs_cons (pg_name (i := 6) sc_merged_between.nd rfl (by first | exact Or.inl rfl | exact Or.inr rfl)) pgs_nil))))
    (pss_cons (ps_setLc (i := 7) (own := [("gap", 11)]) (g := (gName 11)) (tt := tYes) rfl sc_merged_between.nd rfl rfl (sw_true rfl rfl rfl (by decide +kernel)) (pi_list (pv 5)) (blkOk_by (N := n_merged_between) (sc := defScope s_merged_between) (by decide +kernel)) (fun _ _ _ _ _ => (pg_name (i := 11) sc_merged_between.nd rfl (by first | exact Or.inl rfl | exact Or.inr rfl))) (fun _ _ _ _ _ => pts_nil) (fun _ _ _ _ _ => (pe_own O_given hr (by decide) (by rfl) (pa_cons (pv 11) pa_nil))))
    (pss_cons (ps_if (pt_val (pe_callB (cr_any rfl) (by rfl) b_any boot_any (pa_cons (pe_lc (own := [("part", 10)]) (g := (gName 10)) (tt := tYes) rfl sc_merged_between.nd (pi_list (pv 7)) (blkOk_by (N := n_merged_between) (sc := defScope s_merged_between) (by decide +kernel)) (fun _ _ _ _ _ => (pg_name (i := 10) sc_merged_between.nd rfl (by first | exact Or.inl rfl | exact Or.inr rfl))) (fun _ _ _ _ _ => pts_nil) (fun _ _ _ _ _ => (pe_cmpR op_isN (pv 10) pe_non (nomark _)))) pa_nil)))
    (pss_one (ps_ret pe_non)) pss_nil)
    (pss_cons (ps_set (i := 8) sc_merged_between.nd rfl (by first | exact Or.inl rfl | exact Or.inr rfl) (pe_callTy call_list_of (by rfl) T.b_list boot_list (pa_cons (pe_ix (ix_seqK (K := K) rfl) (pv 7) pe_int (fun _ _ => rfl)) pa_nil)))
    (pss_cons (ps_for PassesOwn.never rfl (RZ.pi_zipA (by rfl) T.b_zip (pa_cons (pv 6) (pa_cons (pe_slice (sl_lstK (K := K) rfl) (pv 7) (po_some pe_int) po_none) pa_nil))) (pg_tup (n := 2) rfl (pgs_cons (pg_name (i := 9) sc_merged_between.nd rfl (by first | exact Or.inl rfl | exact Or.inr rfl)) (pgs_cons (pg_name (i := 10) sc_merged_between.nd rfl (by first | exact Or.inl rfl | exact Or.inr rfl)) pgs_nil)))
    (pss_one (ps_expr (pe_bm PySem.F.plainAttrs_list PySem.F.slot_list_extend PySem.F.type_list_extend mt_extend (pv 8) (pa_cons (pe_op op_addA (pe_lst (pa_cons (pv 9) pa_nil)) (pv 10)) pa_nil)))))
    (pss_one (ps_ret (pv 8)))))))), ?_⟩
    have En : EnvOk X H (L2.start n_merged_between [v1, v2, v3, v4, v5]) [.dat d1, .dat d2, .dat d3, .dat dl, .dat dr, .un, .un, .un, .un, .un, .un, .un] := ⟨rfl, fun i s e => by
      match i, e with
      | 0, e => cases e; exact ⟨_, rfl, x1⟩
      | 1, e => cases e; exact ⟨_, rfl, x2⟩
      | 2, e => cases e; exact ⟨_, rfl, x3⟩
      | 3, e => cases e; exact ⟨_, rfl, x4⟩
      | 4, e => cases e; exact ⟨_, rfl, x5⟩
      | 5, e => cases e; trivial
      | 6, e => cases e; trivial
      | 7, e => cases e; trivial
      | 8, e => cases e; trivial
      | 9, e => cases e; trivial
      | 10, e => cases e; trivial
      | 11, e => cases e; trivial
      | _ + 12, e => cases e⟩
    have ok := gapsS_ok (l := l) (r := r) (ws := ws) (us := ms) (vs := vs) ⟨T1.few, T1.ok⟩ ⟨T2.few, T2.ok⟩ ⟨T3.few, T3.ok⟩
    have fe : (ends l r).length ≤ 60 := by
      have := ends_few (l := l) (r := r)
      have := Yl.few
      have := T1.few
      omega
    have lg : (gapsS ws ms vs l r).length = (heldS ws l r).length + 1 := by
      unfold gapsS heldS endsN
      rw [gap_len, List.length_append, List.length_map]
      rfl
    have lh : (heldS ws l r).length ≤ 60 := by
      unfold heldS
      rw [List.length_map]
      exact fe
    refine k_asg (k_cons (g_var (i := 0) (d := d1) En rfl H (Same.refl _) _ fun w1 Ha sa r1 => k_cons (g_var (i := 1) (d := d2) (En.same sa) rfl Ha (Same.refl _) _ fun w2 Hb sb r2 => k_cons (g_var (i := 2) (d := d3) ((En.same sa).same sb) rfl Hb (Same.refl _) _ fun w3 Hc sc r3 => k_cons (g_var (i := 3) (d := dl) (((En.same sa).same sb).same sc) rfl Hc (Same.refl _) _ fun w4 Hd sd r4 => k_cons (g_var (i := 4) (d := dr) ((((En.same sa).same sb).same sc).same sd) rfl Hd (Same.refl _) _ fun w5 He se r5 => ?_))))))
    have s0 : Same H He := (((sa.trans sb).trans sc).trans sd).trans se
    refine k_nil ⟨X, w1, w2, w3, w4, w5, d1, d2, d3, dl, dr, ws, ms, vs, l, r, rfl, t.mono s0, r1.mono (Kp.of (((sb.trans sc).trans sd).trans se)), r2.mono (Kp.of ((sc.trans sd).trans se)), r3.mono (Kp.of (sd.trans se)), r4.mono (Kp.of se), r5, T1, T2, T3, Rl, Rr, Yl, Yr, fun w6 H1 s1 r6 => ?_⟩
    generalize gapsS ws ms vs l r = gs at *
    generalize heldS ws l r = hs at *
    refine g_pair (d := gsD gs) (e := wsD hs) r6 fun u v h5 h6 => ?_
    have t1 := (t.mono s0).mono s1
    have s01 := s0.trans s1
    let Γ (x7 x8 x9 x10 : Sv) : List Sv := [.un, .un, .un, .un, .un, .dat (gsD gs), .dat (wsD hs), x7, x8, x9, x10, .un]
    have E1 : EnvOk X H1 _ (Γ .un .un .un .un) := envUn' (envUn' (envUn' (envUn' (envUn' ((((En.same s0).same s1).set (i := 5) h5).set (i := 6) h6) 0) 1) 2) 3) 4
    clear r6 r1 r2 r3 r4 r5 x1 x2 x3 x4 x5
    refine k_set ((show G X _ _ H1 (.list (gs.map fun g => mgD (givenS g))) from g_is (g_lc1 (ds := gs.map gD) (Γ2 := fun z => (Γ .un .un .un .un).set 11 (.dat z)) (fun z => mgD (givenS (gOf z))) t1 (gi_list (g_var (i := 5) (d := gsD gs) E1 rfl)) (by rw [List.length_map]; omega) (fun H3 s3 z hz => tgt_name (E1.same s3)) (fun X2 H3 σ2 z hz t3 E3 => ?_)) ?_) H1 (Same.refl _) _ fun v7 H2 s2 r7 => ?_)
    · obtain ⟨g, hg, rfl⟩ := List.mem_map.mp hz
      exact g_is (g_given t3 (g_var (i := 11) (d := gD g) E3 rfl) (ok g hg)) (by rw [gOf_gD])
    · rw [List.map_map]
      congr 1
      exact List.map_congr_left fun g _ => by show mgD (givenS (gOf (gD g))) = _; rw [gOf_gD]
    have E2 : EnvOk X H2 _ (Γ (.dat (.list (gs.map fun g => mgD (givenS g)))) .un .un .un) := (E1.same s2).set (i := 7) r7
    have t2 := t1.mono s2
    have s02 := s01.trans s2
    clear E1 r7
    refine q_if (b := !gs.all fun g => (givenS g).isSome) (gt_is (gt_B (g_any (bs := gs.map fun g => !(givenS g).isSome) t2 (g_is (g_lc1 (ds := gs.map fun g => mgD (givenS g)) (Γ2 := fun z => (Γ (.dat (.list (gs.map fun g => mgD (givenS g)))) .un .un .un).set 10 (.dat z)) (fun z => .bool (isNone z)) t2 (gi_list (g_var (i := 7) (d := .list (gs.map fun g => mgD (givenS g))) E2 rfl)) (by rw [List.length_map]; omega) (fun H3 s3 z hz => tgt_name (E2.same s3)) (fun X2 H3 σ2 z hz t3 E3 => g_op t3 (g_var (i := 10) (d := z) E3 rfl) g_non (RB.rd rb_isN))) ?_))) ?_) (fun hb H3 s3 => ?_) fun hb H3 s3 => ?_
    · rw [List.map_map, List.map_map]
      congr 1
      refine List.map_congr_left fun g _ => ?_
      show PyData.bool (isNone (mgD (givenS g))) = PyData.bool (!(givenS g).isSome)
      cases givenS g <;> rfl
    · rw [List.any_map, List.all_eq_not_any_not, Bool.not_not]
      rfl
    · rw [Bool.not_eq_true'] at hb
      have e : mergeS gs hs = none := if_neg (by rw [hb]; simp)
      rw [e] at q
      exact s_ret (X := X) (d := .none) g_non fun w H4 s4 dw => q w H4 ((s02.trans s3).trans s4) dw
    rw [Bool.not_eq_false', List.all_eq_true] at hb
    have eps : (gs.map fun g => mgD (givenS g)) = (gs.map fun g => (givenS g).getD []).map wsD := by
      rw [List.map_map]
      refine List.map_congr_left fun g hg => ?_
      obtain ⟨y, hy⟩ := Option.isSome_iff_exists.mp (hb g hg)
      show mgD (givenS g) = wsD ((givenS g).getD [])
      rw [hy]
      rfl
    have okp : ∀ p ∈ gs.map (fun g => (givenS g).getD []), Sok p := fun p hp => by
      obtain ⟨g, hg, rfl⟩ := List.mem_map.mp hp
      obtain ⟨y, hy⟩ := Option.isSome_iff_exists.mp (hb g hg)
      rw [hy]
      exact given_ok (ok g hg) hy
    have eM : mergeS gs hs = some (inter (gs.map fun g => (givenS g).getD []) hs) := if_pos (List.all_eq_true.mpr hb)
    rw [eM] at q
    have E3 := E2.same s3
    have t3 := t2.mono s3
    have s03 := s02.trans s3
    rw [eps] at E3
    have lps : (gs.map fun g => (givenS g).getD []).length = hs.length + 1 := by rw [List.length_map]; exact lg
    generalize gs.map (fun g => (givenS g).getD []) = pp at *
    clear eM eps E2 hb
    obtain ⟨p, ps, rfl⟩ : ∃ p ps, pp = p :: ps := by
      cases pp with
      | nil => simp at lps
      | cons p ps => exact ⟨p, ps, rfl⟩
    have lps : hs.length = ps.length := by simpa using lps.symm
    rw [inter_zip ps p hs lps] at q
    refine k_own (i := 8) E3 t3 (gn_listOf t3 (d := wsD p) (g_ixL t3 (g_var (i := 7) (d := .list ((p :: ps).map wsD)) E3 rfl) (g_int (i := 0)) (atI_nat (j := 0) rfl)) rfl) fun Fo H4 xs4 hF s4 h4 x4 E4 t4 => ?_
    have nX : ¬ X Fo := t3.new hF
    let X' : Addr → Prop := fun b => X b ∨ b = Fo
    let Δ (x8 x9 x10 : Sv) : List Sv := Γ (.dat (.list ((p :: ps).map wsD))) x8 x9 x10
    have E4 : EnvOk X' H4 _ (Δ (.val (.ref Fo)) .un .un) := E4
    have gz : GI X' _ _ H4 (zipD (hs.map PyData.str) (ps.map wsD)) := gi_zipL (K := K) (g_var (i := 6) (d := wsD hs) E4 rfl) (g_is (g_sl (K := K) t4 (g_var (i := 7) (d := .list ((p :: ps).map wsD)) E4 rfl) (go_some (X := X') (g_int (i := 1))) go_none) (congrArg PyData.list (cut_tail _ _)))
    have lz : (zipD (hs.map PyData.str) (ps.map wsD)).length = (hs.zip ps).length := by
      unfold zipD
      rw [List.length_zipWith, List.length_zip, List.length_map, List.length_map]
    have lz2 : (hs.zip ps).length ≤ 60 := by rw [List.length_zip]; omega
    have fz : ∀ x ∈ hs.zip ps, x.2.length ≤ 60 := fun x hx => (okp x.2 (List.mem_cons_of_mem _ (List.of_mem_zip hx).2)).1
    let acc (i : Nat) : List Str := p ++ ((hs.zip ps).take i).flatMap fun x => x.1 :: x.2
    refine s_forD (X := X') gz (fun Hb i σ' H' => Kp X' Hb H' ∧ Trk X' H' ∧ Same H3 H' ∧ ∃ ys, H' Fo = some (.lst ys) ∧ DXs X' H' ys ((acc i).map PyData.str) ∧ EnvOk X' H' σ' (Δ (.val (.ref Fo)) .un .un)) ?_ ?_ ?_ ?_
    · intro Hb sb
      have x4 : DXs X' H4 xs4 (p.map PyData.str) := x4
      exact ⟨Kp.refl, t4.mono sb, s4.trans sb, xs4, sb _ _ h4, by show DXs X' Hb xs4 ((p ++ []).map PyData.str); rw [List.append_nil]; exact x4.mono (Kp.of sb), E4.same sb⟩
    · rintro Hb i σ' H' ⟨p1, p2, _⟩
      exact ⟨p1, p2⟩
    · rintro Hb i x d σ' H' H'' sb hd ⟨p1, p2, p3, ys, p4, p5, E7⟩ s7 dx
      obtain ⟨wd, pt, hz, rfl⟩ := zipD_at hd
      have hi := (List.getElem?_eq_some_iff.mp hz).1
      refine g_pair (i := 9) (j := 10) (d := .str wd) (e := wsD pt) dx fun u v r9 r10 => ?_
      have t8 := p2.mono s7
      have E8 : EnvOk X' H'' _ (Δ (.val (.ref Fo)) (.dat (.str wd)) (.dat (wsD pt))) := ((E7.same s7).set (i := 9) r9).set (i := 10) r10
      have lpt : pt.length ≤ 60 := fz _ (List.mem_of_getElem? hz)
      have la : (acc i).length ≤ 60 + 61 * 60 := by
        show (p ++ ((hs.zip ps).take i).flatMap fun x => x.1 :: x.2).length ≤ _
        have h1 := flat_len (l := (hs.zip ps).take i) fun x hx => fz x (List.mem_of_mem_take hx)
        have h2 : ((hs.zip ps).take i).length ≤ 60 := by rw [List.length_take]; omega
        have h3 := (okp p List.mem_cons_self).1
        rw [List.length_append]
        omega
      refine k_drop1 (q_extend (i := 8) (L := Fo) (es := .str wd :: pt.map PyData.str) (tz := tNext) E8 rfl (.inr rfl) t8 (s7 _ _ p4) (p5.mono (Kp.of s7)) (g_is (g_cat t8 (g_lst t8 (ga_cons (g_var (i := 9) (d := .str wd) E8 rfl) ga_nil) (by simp)) (g_var (i := 10) (d := wsD pt) E8 rfl) (by simp; omega)) rfl) (by rw [List.length_map, List.length_cons, List.length_map]; omega) fun H9 ys9 h9 x9 E9 t9 k9 => ?_)
      have kx : Kp X' H'' H9 := fun a o n z => k9 a o (fun y => n (.inr y)) z
      refine ⟨(p1.trans (Kp.of s7)).trans kx, t9, fun a o z => ?_, ys9, h9, ?_, envUn' (envUn' E9 9) 10⟩
      · have n1 : a ≠ Fo := fun y => by rw [y, hF] at z; cases z
        exact k9 a o n1 (s7 a o (p3 a o z))
      · have e : acc (i + 1) = acc i ++ wd :: pt := by
          show p ++ ((hs.zip ps).take (i + 1)).flatMap _ = (p ++ ((hs.zip ps).take i).flatMap _) ++ wd :: pt
          rw [List.take_add_one, hz, Option.toList_some, List.flatMap_append, List.append_assoc]
          congr 2
          simp
        rw [e, List.map_append]
        exact x9
    · rintro Hb σ' H' sb ⟨p1, p2, p3, ys, p4, p5, E7⟩
      rw [lz] at p5
      have e : acc (hs.zip ps).length = p ++ (hs.zip ps).flatMap fun x => x.1 :: x.2 := by
        show p ++ ((hs.zip ps).take (hs.zip ps).length).flatMap _ = _
        rw [List.take_length]
      rw [e] at p5
      have E8 := EnvOk.give (i := 8) E7 rfl nX p4 p5
      exact s_ret (X := X) (D := { nx := fun _ H' => Q .non H', rt := Q }) (d := wsD (p ++ (hs.zip ps).flatMap fun x => x.1 :: x.2)) (g_var (i := 8) E8 rfl) fun w H9 s9 dw => q w H9 ((s03.trans p3).trans s9) dw
end K56

/-! Promises of defs of some parameters that may raise. -/
namespace K56
open PySem PySem.Spec PyProof.Rows L2 KD KL
variable {P : Program} {w : World} {K : PySem.W.Frag} {mg : Str → Option Value} {base : Heap}
/-! ### promises of defs of some parameters that may raise -/
def spXn (n : Nat) (pre : List PyData → Prop) (f : List PyData → Out) : Sp := fun vs H Q E => ∃ (X : Addr → Prop) (ds : List PyData), vs.length = n ∧ Trk X H ∧ DXs X H vs ds ∧ pre ds ∧ EndQ X H (f ds) Q E
theorem envN {N : List Str} {X : Addr → Prop} {H : Hp} {vs : List V} {ds : List PyData} (r : DXs X H vs ds) (hN : vs.length ≤ N.length) : EnvOk X H (L2.start N vs) (pad N (ds.map Sv.dat)) := by
  have h := envOk_start (N := N) (ss := ds.map Sv.dat) (by rw [List.length_map]; exact r.length) (fun i s e v hv => by
    rw [List.getElem?_map] at e
    obtain ⟨d, hd, rfl⟩ := Option.map_eq_some_iff.mp e
    obtain ⟨v', h1, h2⟩ := r.get hd
    rw [h1] at hv
    cases hv
    exact ⟨_, rfl, h2⟩) hN
  unfold pad
  rw [List.length_map, ← r.length]
  exact h
section
variable {x qual : Str} {st : Stmt} {f : Addr} {fd : FuncData} {N ps : List Str} {k n : Nat}
theorem okXn {pre : List PyData → Prop} {g : List PyData → Out} (F : Fun K x qual st f fd) (S : FnScope N ps (defScope st)) (hn : ps.length = n) (hN : n ≤ N.length)
    (hbody : ∀ (cdv : Value) (A : Around) (outer : List Env) (s : Shared) (H : Hp) (E : XK) (X : Addr → Prop) (ds : List PyData) (Q : VK), Room k (A.deeper (envOfC qual (defScope st) s.heap.objs.size f cdv)) → Trk X H → ds.length = n → pre ds → EndQ X H (g ds) Q E →
      ∃ t, PSs (cxOf (L2.CX P w) P w K mg base N qual (defScope st) f cdv A outer s H E) (defBody st) t ∧ ∀ σ, EnvOk X H σ (pad N (ds.map Sv.dat)) → t { nx := fun _ H' => Q .non H', rt := Q } σ H) : FnOk P w K mg base (L2.CX P w) (k + 1) f fd ps (spXn n pre g) := by
  refine F.okX S (fun vs H Q E h => ?_) (fun cdv A outer s H vs Q E hr h => ?_)
  · obtain ⟨X, ds, hl, _⟩ := h
    rw [hl, hn]
  · obtain ⟨X, ds, hl, t, r, hp, q⟩ := h
    obtain ⟨tt, h1, h2⟩ := hbody cdv A outer s H E X ds Q hr t (by rw [← r.length, hl]) hp q
    exact ⟨tt, h1, h2 _ (envN r (by omega))⟩
end
section
variable {X : Addr → Prop} {σ : L2.St} {H : Hp} {ta : TA} {te : TE} {E : XK} {ds : List PyData} {n : Nat} {D : Ends} {tz : TS}
theorem c_Xn {pre : List PyData → Prop} {f : List PyData → Out} {Q : VK} (t : Trk X H) (h : GA X ta σ H ds) (hl : ds.length = n) (hp : pre ds) (q : EndQ X H (f ds) Q E) : tCall (spXn n pre f) [] E ta σ H Q :=
  h H (Same.refl H) _ fun vs H1 s r => by
    rw [List.append_nil]
    exact ⟨X, ds, by rw [r.length, hl], t.mono s, r, hp, q.mono s⟩
theorem c_XnD {pre : List PyData → Prop} {f : List PyData → Out} {Q : VK} (t : Trk X H) (h : GA X ta σ H ds) (hl : ds.length + 1 = n) (hp : pre (ds ++ [.int 0])) (q : EndQ X H (f (ds ++ [.int 0])) Q E) : tCall (spXn n pre f) [.int 0] E ta σ H Q :=
  h H (Same.refl H) _ fun vs H1 s r => ⟨X, ds ++ [.int 0], by rw [List.length_append, r.length]; exact hl, t.mono s, r.append (.cons (.int 0) .nil), hp, q.mono s⟩
/-- a call that is refused, or goes on -/
theorem EndQ.err {o : Out} {Q Q2 : VK} {C : Addr} {fl : Str} {r : PyData} {o2 : Out} (q : EndQ X H o2 Q2 E) (e : o = .err C fl r) (e2 : o2 = .err C fl r) : EndQ X H o Q E := ⟨fun r' e' => (by rw [e] at e'; cases e'), fun C' fl' r' e' => by
  rw [e] at e'
  cases e'
  exact q.2 _ _ _ e2⟩
end
def at_ (ds : List PyData) (i : Nat) : PyData := ds.getD i .none
section
variable {X : Addr → Prop} {σ : L2.St} {H : Hp} {ta : TA} {te : TE} {E : XK} {ds : List PyData} {n : Nat} {D : Ends} {tz : TS} {C : Addr} {fl : Str} {r : PyData} {Q : VK}
theorem endE {o : Out} (he : o = .err C fl r) (k : ∀ a w H', Same H H' → H' a = some (.xd [(fl, w)]) → DX X H' w r → E (.ref C) (some a) H') : EndQ X H o Q E := ⟨fun r' e' => (by rw [he] at e'; cases e'), fun C' fl' r' e' a w H' s ea dv => by
  rw [he] at e'
  cases e'
  exact k a w H' s ea dv⟩
theorem c_err {pre : List PyData → Prop} {f : List PyData → Out} (t : Trk X H) (h : GA X ta σ H ds) (hl : ds.length = n) (hp : pre ds) (he : f ds = .err C fl r) (k : ∀ a w H', Same H H' → H' a = some (.xd [(fl, w)]) → DX X H' w r → E (.ref C) (some a) H') : tCall (spXn n pre f) [] E ta σ H Q := c_Xn t h hl hp (endE he k)
end
/-- a def held by a name -/
structure HeldX (P : Program) (w : World) (K : PySem.W.Frag) (mg : Str → Option Value) (base : Heap) (k : Nat) (f : Addr) (dvs : List V) (sp : Sp) : Prop where
  ex : ∃ (fd : FuncData) (ps : List Str) (ds : List Value), FnOk P w K mg base (L2.CX P w) k f fd ps sp ∧ PySem.W.keepIn K (.ref f) = true ∧ Vals dvs ds ∧ Binds K fd ps ds
section
variable {X : Cx} {k j i : Nat} {x : Str} {ps : List Str} {sp : Sp} {e : Expr} {es : List Expr} {p pos : Pos} {ta : TA} {E : XK}
/-- the i-th slot holds a def of S -/
def tCallV (i : Nat) (S : Addr → List V → Sp → Prop) (E : XK) (t : TA) : TE := fun σ H Q => ∃ f dvs sp, σ[i]? = some (some (.ref f)) ∧ S f dvs sp ∧ t σ H fun vs H1 => sp (vs ++ dvs) H1 Q E
theorem pe_callV {S : Addr → List V → Sp → Prop} (A : ∀ f dvs sp, S f dvs sp → HeldX X.prog X.w X.K X.mg X.base k f dvs sp) (hk : k ≤ j) (hr : Room j X.A) (tk : Takes X (fun cls d _ H => E cls d H)) (hN : X.N[i]? = some x) (hv : Vis X.env.scope x) (ha : PA X (e :: es) ta)
    (hdb : (x == ("__debug__" : Str)) = false := by decide) (hcd : (x == ("__classdict__" : Str)) = false := by decide)
    (he : starEach (e :: es) X.env = (false, eval e X.env) :: starEach es X.env := by rfl) (hpl : (backTo pos (starEach es X.env)).any (·.1) = false := by rfl) : PE X (.Call (.Name x p) (e :: es) [] pos) (tCallV i S E ta) := by
  refine ⟨fun pins s σ H Q I h => ?_⟩
  obtain ⟨f, dvs, sp, hs, hS, ht⟩ := h
  obtain ⟨fd, ps, ds, F, hkp, hd, hb⟩ := (A f dvs sp hS).ex
  refine wpAny_Call_Name_kw (thn ((pe_var (pos := p) hN hv hdb hcd).run pins s σ H (fun v H1 => v = .ref f ∧ H1 = H) I ⟨.ref f, hs, rfl, rfl⟩) fun u s1 ⟨v, H1, I1, r1, q1⟩ => ?_)
  obtain ⟨rfl, rfl⟩ := q1
  cases r1
  refine PySem.W.callWith_K (h₀ := X.base) I.ok.mod.kin hkp (thn (ha.run pos pins s1 σ _ _ I1 ht) fun us s2 ⟨vs, H2, I2, r, q⟩ => ⟨I2.kIn, ?_⟩) he hpl
  exact run_fn F (hr.mono hk) hb hd (passes_call tk fun _ _ _ _ h => h) I2 r q
end
end K56

/-! Rows, looked at; gaps and what is merged, refused and told. -/
namespace K56
open PySem PySem.Spec PyProof.Rows L2 KD KL
-- RAISES check_texts is_common_row common_row check_rows gaps merged
-- HINT gaps ix (ix_seqK (K := K) rfl)
variable {P : Program} {w : World} {K : PySem.W.Frag} {mg : Str → Option Value} {base : Heap}
/-! ### rows as they are told -/
theorem rw_pair {d z : PyData} {l : List Pr} (R : Rw d l) {i : Nat} (h : (itemsD d)[i]? = some z) : ∃ p, l[i]? = some p ∧ isSeq z = true ∧ itemsD z = [.int (p.1 : Nat), .int (p.2 : Nat)] := by
  have lt := (List.getElem?_eq_some_iff.mp h).1
  rw [R.len] at lt
  have e : l[i]? = some l[i] := List.getElem?_eq_getElem lt
  exact ⟨l[i], e, R.its i z _ h e⟩
theorem row_of {ws vs : List Str} {d : PyData} {r : List Pr} (R : Rw d r) (Y : RowOf ws vs r) (hm : ∀ p ∈ r, Mw ws vs p.1 p.2 = true) : isRowD ws vs d = true := by
  unfold isRowD areD
  rw [Bool.and_eq_true, Bool.and_eq_true]
  refine ⟨⟨R.seq, ?_⟩, ?_⟩
  · rw [List.all_eq_true]
    intro z hz
    obtain ⟨i, hi⟩ := List.mem_iff_getElem?.mp hz
    obtain ⟨p, hp, hs, he⟩ := rw_pair R hi
    have hp := List.mem_of_getElem? hp
    have b := Y.bd p hp
    have e0 : it z 0 = .int (p.1 : Nat) := by unfold it; rw [he]; rfl
    have e1 : it z 1 = .int (p.2 : Nat) := by unfold it; rw [he]; rfl
    unfold isMatchD
    rw [e0, e1, lenD_seq hs, he, hs]
    show ((true && decide (2 = 2)) && (decide (0 ≤ ((p.1 : Nat) : Int)) && decide (0 ≤ ((p.2 : Nat) : Int))) && (decide (((p.1 : Nat) : Int) < (ws.length : Int)) && (decide (((p.2 : Nat) : Int) < (vs.length : Int)) && Mw ws vs ((p.1 : Nat) : Int).toNat ((p.2 : Nat) : Int).toNat))) = true
    rw [show ((p.1 : Nat) : Int).toNat = p.1 by omega, show ((p.2 : Nat) : Int).toNat = p.2 by omega, hm p hp, decide_eq_true (show ((p.1 : Nat) : Int) < (ws.length : Int) by omega), decide_eq_true (show ((p.2 : Nat) : Int) < (vs.length : Int) by omega), decide_eq_true (show (0 : Int) ≤ ((p.1 : Nat) : Int) by omega), decide_eq_true (show (0 : Int) ≤ ((p.2 : Nat) : Int) by omega)]
    rfl
  · rw [steps_iff]
    intro j a b ha hb
    obtain ⟨p, hp, _, ep⟩ := rw_pair R ha
    obtain ⟨q, hq, _, eq⟩ := rw_pair R hb
    obtain ⟨l1, e1⟩ := List.getElem?_eq_some_iff.mp hp
    obtain ⟨l2, e2⟩ := List.getElem?_eq_some_iff.mp hq
    have h := List.pairwise_iff_getElem.mp Y.inc j (j + 1) l1 l2 (by omega)
    rw [e1, e2] at h
    have h : p.1 < q.1 ∧ p.2 < q.2 := h
    unfold behD it
    rw [ep, eq]
    show (decide (((p.1 : Nat) : Int) < ((q.1 : Nat) : Int)) && decide (((p.2 : Nat) : Int) < ((q.2 : Nat) : Int))) = true
    rw [decide_eq_true (show ((p.1 : Nat) : Int) < ((q.1 : Nat) : Int) by omega), decide_eq_true (show ((p.2 : Nat) : Int) < ((q.2 : Nat) : Int) by omega)]
    rfl
def FewR (d : PyData) : Prop := isSeq d = true → (itemsD d).length ≤ 1000
theorem fewR_of {ws vs : List Str} {d : PyData} {r : List Pr} (R : Rw d r) (Y : RowOf ws vs r) (h : ws.length ≤ 60) : FewR d := fun _ => by
  rw [R.len]
  have := Y.few
  omega
theorem outN_val {C : Addr} : ∀ {ds : List PyData} {r : PyData}, textsOutN C ds = .val r → r = .none ∧ ∀ d ∈ ds, isNone (wrongD d) = true
  | [], r, e => by
    cases e
    exact ⟨rfl, fun d hd => by cases hd⟩
  | d :: ds, r, e => by
    unfold textsOutN at e
    split at e
    · rename_i h
      obtain ⟨h1, h2⟩ := outN_val e
      refine ⟨h1, fun z hz => ?_⟩
      rcases List.mem_cons.mp hz with rfl | hz
      · exact h
      · exact h2 z hz
    · cases e
/-! ### three texts and two rows -/
def txs (ds : List PyData) : List PyData := [at_ ds 0, at_ ds 1, at_ ds 2]
def rowsOut (C1 C2 : Addr) (ds : List PyData) : Out := match textsOutN C1 (txs ds) with
  | .err C fl r => .err C fl r
  | .val _ => if isRowD (wsOf (at_ ds 0)) (wsOf (at_ ds 1)) (at_ ds 3) = false then .err C2 "thing" (at_ ds 3) else if isRowD (wsOf (at_ ds 0)) (wsOf (at_ ds 2)) (at_ ds 4) = false then .err C2 "thing" (at_ ds 4) else .val .none
def crPre (C1 : Addr) (ds : List PyData) : Prop := (∀ d ∈ txs ds, wordsAll d) ∧ (textsOutN C1 (txs ds) = .val .none → (∀ d ∈ txs ds, ∃ ws, Txt d ws) ∧ FewR (at_ ds 3) ∧ FewR (at_ ds 4))
theorem g_rowX {X : Addr → Prop} {σ : L2.St} {H : Hp} {ta tb tc : TE} {E : XK} {ws vs : List Str} {d1 d2 d : PyData} (t : Trk X H) (T1 : Txt d1 ws) (T2 : Txt d2 vs) (g1 : Good d1) (g2 : Good d2) (h1 : G X ta σ H d1) (h2 : G X tb σ H d2) (h3 : G X tc σ H d) (hf : FewR d) : G X (tCall spRow [] E (tCons ta (tCons tb (tCons tc tNil)))) σ H (.bool (isRowD ws vs d)) := fun H1 s Q q =>
  h1 H1 s _ fun v1 H2 s2 r1 => h2 H2 (s.trans s2) _ fun v2 H3 s3 r2 => h3 H3 ((s.trans s2).trans s3) _ fun v3 H4 s4 r3 => ⟨X, v1, v2, v3, d1, d2, d, ws, vs, rfl, (((t.mono s).mono s2).mono s3).mono s4, (r1.mono (Kp.of s3)).mono (Kp.of s4), r2.mono (Kp.of s4), r3, T1, T2, g1, g2, hf, fun w H' s' dw => q w H' (((s2.trans s3).trans s4).trans s') dw⟩
abbrev s_check_rows : Stmt := topS 27
abbrev n_check_rows : List Str := ["base", "one", "other", "left", "right"]
theorem sc_check_rows : FnScope n_check_rows ["base", "one", "other", "left", "right"] (defScope s_check_rows) := ⟨rfl, rfl, rfl, by decide +kernel, rfl, by decide +kernel, by decide +kernel⟩
theorem ok_check_rows {f C1 C2 : Addr} {fd : FuncData} (F : Fun K "check_rows" "check_rows" s_check_rows f fd) (T : Bl mg) (O_check_texts : Own P w K mg base (L2.CX P w) 3 "check_texts" ["texts"] (spX1 (fun D => ∃ ds, D = .list ds ∧ ∀ d ∈ ds, wordsAll d) fun D => textsOutN C1 (itemsD D)))
    (O_is_common_row : Own P w K mg base (L2.CX P w) 5 "is_common_row" ["one", "other", "thing"] spRow) (E_NoRow : Ec P w K mg base "NoRow" "thing" C2) :
    FnOk P w K mg base (L2.CX P w) 6 f fd ["base", "one", "other", "left", "right"] (spXn 5 (crPre C1) (rowsOut C1 C2)) := by
  refine okXn F sc_check_rows rfl (by decide) fun cdv A outer s H E X ds Q hr t hl hp q => ⟨_, (pss_cons (ps_expr (pe_ownX O_check_texts hr (by decide) (takes_of rfl rfl rfl rfl) (by rfl) (pa_cons (pe_lst (pa_cons (pv 0) (pa_cons (pv 1) (pa_cons (pv 2) pa_nil)))) pa_nil)))
    (pss_cons (ps_if (pt_not (pt_val (pe_ownX O_is_common_row hr (by decide) (takes_of rfl rfl rfl rfl) (by rfl) (pa_cons (pv 0) (pa_cons (pv 1) (pa_cons (pv 3) pa_nil))))))
    (pss_one (ps_err rfl E_NoRow hr (by decide) (takes_of rfl rfl rfl rfl) (by rfl) (pa_cons (pv 3) pa_nil))) pss_nil)
    (pss_one (ps_if (pt_not (pt_val (pe_ownX O_is_common_row hr (by decide) (takes_of rfl rfl rfl rfl) (by rfl) (pa_cons (pv 0) (pa_cons (pv 2) (pa_cons (pv 4) pa_nil))))))
    (pss_one (ps_err rfl E_NoRow hr (by decide) (takes_of rfl rfl rfl rfl) (by rfl) (pa_cons (pv 4) pa_nil))) pss_nil)))), fun σ En => ?_⟩
  obtain ⟨d1, d2, d3, dl, dr, rfl⟩ : ∃ d1 d2 d3 dl dr, ds = [d1, d2, d3, dl, dr] := by
    match ds, hl with
    | [a, b, c, d, e], _ => exact ⟨a, b, c, d, e, rfl⟩
  have En : EnvOk X H σ [.dat d1, .dat d2, .dat d3, .dat dl, .dat dr] := En
  obtain ⟨hw, hk⟩ := hp
  have hw : ∀ d ∈ [d1, d2, d3], wordsAll d := hw
  refine k_drop (c_X1 (d := .list [d1, d2, d3]) t (g_lst t (ga_cons (g_var (i := 0) (d := d1) En rfl) (ga_cons (g_var (i := 1) (d := d2) En rfl) (ga_cons (g_var (i := 2) (d := d3) En rfl) ga_nil))) (by simp)) ⟨[d1, d2, d3], rfl, hw⟩ ⟨fun r e w0 H1 s1 dw _ => ?_, fun C' fl r e a v H1 s1 ea dv => ?_⟩)
  rotate_left
  · have e : textsOutN C1 (txs [d1, d2, d3, dl, dr]) = .err C' fl r := e
    exact q.2 C' fl r (by unfold rowsOut; rw [e]) a v H1 s1 ea dv
  have e : textsOutN C1 (txs [d1, d2, d3, dl, dr]) = .val r := e
  obtain ⟨rfl, hn⟩ := outN_val e
  obtain ⟨ht, fl, fr⟩ := hk e
  have q : EndQ X H (if isRowD (wsOf d1) (wsOf d2) dl = false then .err C2 "thing" dl else if isRowD (wsOf d1) (wsOf d3) dr = false then .err C2 "thing" dr else .val .none) Q E := by
    unfold rowsOut at q
    rw [e] at q
    exact q
  obtain ⟨ws, T1⟩ := ht d1 (by simp [txs, at_])
  obtain ⟨us, T2⟩ := ht d2 (by simp [txs, at_])
  obtain ⟨vs, T3⟩ := ht d3 (by simp [txs, at_])
  have G1 : Good d1 := ⟨hn d1 (by simp [txs, at_]), hw d1 (by simp)⟩
  have G2 : Good d2 := ⟨hn d2 (by simp [txs, at_]), hw d2 (by simp)⟩
  have G3 : Good d3 := ⟨hn d3 (by simp [txs, at_]), hw d3 (by simp)⟩
  have E1 := En.same s1
  have t1 := t.mono s1
  refine q_if (b := !isRowD (wsOf d1) (wsOf d2) dl) (gt_not (gt_B (g_rowX t1 (T1.of ▸ T1) (T2.of ▸ T2) G1 G2 (g_var (i := 0) (d := d1) E1 rfl) (g_var (i := 1) (d := d2) E1 rfl) (g_var (i := 3) (d := dl) E1 rfl) fl))) (fun hb H2 s2 => ?_) fun hb H2 s2 => ?_
  · rw [Bool.not_eq_true'] at hb
    refine mk_err (X := X) (g_var (i := 3) (d := dl) (E1.same s2) rfl) fun a v H3 s3 e3 dv => q.2 C2 "thing" dl (by rw [if_pos hb]) a v H3 ((s1.trans s2).trans s3) e3 dv
  rw [Bool.not_eq_false'] at hb
  rw [if_neg (by rw [hb]; simp)] at q
  have E2 := E1.same s2
  have t2 := t1.mono s2
  refine s_if (b := !isRowD (wsOf d1) (wsOf d3) dr) (gt_not (gt_B (g_rowX t2 (T1.of ▸ T1) (T3.of ▸ T3) G1 G3 (g_var (i := 0) (d := d1) E2 rfl) (g_var (i := 2) (d := d3) E2 rfl) (g_var (i := 4) (d := dr) E2 rfl) fr))) (fun hb H3 s3 => ?_) fun hb H3 s3 => ?_
  · rw [Bool.not_eq_true'] at hb
    refine mk_err (X := X) (g_var (i := 4) (d := dr) (E2.same s3) rfl) fun a v H4 s4 e4 dv => q.2 C2 "thing" dr (by rw [if_pos hb]) a v H4 (((s1.trans s2).trans s3).trans s4) e4 dv
  · rw [Bool.not_eq_false'] at hb
    exact q.1 .none (by rw [if_neg (by rw [hb]; simp)]) .non H3 ((s1.trans s2).trans s3) .non fun a z => by cases z
def isErr (o : Out) : Prop := ∃ C fl r, o = .err C fl r
def erPre (C1 C2 : Addr) (ds : List PyData) : Prop := crPre C1 ds ∧ isErr (rowsOut C1 C2 ds)
/-- three texts and their rows, as handed -/
structure Five_ (d1 d2 d3 dl dr : PyData) (ws us vs : List Str) (l r : List Pr) : Prop where
  t1 : Txt d1 ws
  t2 : Txt d2 us
  t3 : Txt d3 vs
  g1 : Good d1
  g2 : Good d2
  g3 : Good d3
  rl : Rw dl l
  rr : Rw dr r
  yl : RowOf ws us l
  yr : RowOf ws vs r
  ml : ∀ p ∈ l, Mw ws us p.1 p.2 = true
  mr : ∀ p ∈ r, Mw ws vs p.1 p.2 = true
theorem Five_.txs {d1 d2 d3 dl dr : PyData} {ws us vs : List Str} {l r : List Pr} (F : Five_ d1 d2 d3 dl dr ws us vs l r) : textsOutN C [d1, d2, d3] = .val .none := textsN_ok (by simp; exact ⟨F.g1.1, F.g2.1, F.g3.1⟩)
theorem Five_.pre {d1 d2 d3 dl dr : PyData} {ws us vs : List Str} {l r : List Pr} {C : Addr} (F : Five_ d1 d2 d3 dl dr ws us vs l r) : crPre C [d1, d2, d3, dl, dr] :=
  ⟨by show ∀ d ∈ [d1, d2, d3], wordsAll d; simp; exact ⟨F.g1.2, F.g2.2, F.g3.2⟩, fun _ => ⟨by show ∀ d ∈ [d1, d2, d3], ∃ ws, Txt d ws; simp; exact ⟨⟨_, F.t1⟩, ⟨_, F.t2⟩, _, F.t3⟩, fewR_of F.rl F.yl F.t1.few, fewR_of F.rr F.yr F.t1.few⟩⟩
theorem Five_.out {d1 d2 d3 dl dr : PyData} {ws us vs : List Str} {l r : List Pr} {C1 C2 : Addr} (F : Five_ d1 d2 d3 dl dr ws us vs l r) : rowsOut C1 C2 [d1, d2, d3, dl, dr] = .val .none := by
  unfold rowsOut
  rw [show textsOutN C1 (K56.txs [d1, d2, d3, dl, dr]) = .val .none from F.txs]
  show (if isRowD (wsOf d1) (wsOf d2) dl = false then Out.err C2 "thing" dl else if isRowD (wsOf d1) (wsOf d3) dr = false then .err C2 "thing" dr else .val .none) = .val .none
  rw [F.t1.of, F.t2.of, F.t3.of, row_of F.rl F.yl F.ml, row_of F.rr F.yr F.mr]
  rfl
def spTold (res : List Str → List Str → List Str → List Pr → List Pr → PyData) : Sp := fun us H Q _ => ∃ (X : Addr → Prop) (d1 d2 d3 dl dr : PyData) (ws ms vs : List Str) (l r : List Pr), Trk X H ∧ DXs X H us [d1, d2, d3, dl, dr] ∧ Five_ d1 d2 d3 dl dr ws ms vs l r ∧ ∀ w H', Same H H' → DX X H' w (res ws ms vs l r) → Q w H'
def gapsR (ws us vs : List Str) (l r : List Pr) : PyData := gsD (gapsS ws us vs l r)
def mergedR (ws us vs : List Str) (l r : List Pr) : PyData := mgD (mergeS (gapsS ws us vs l r) (heldS ws l r))
theorem dxs5 {X : Addr → Prop} {H : Hp} {us : List V} {d1 d2 d3 d4 d5 : PyData} (h : DXs X H us [d1, d2, d3, d4, d5]) : ∃ v1 v2 v3 v4 v5, us = [v1, v2, v3, v4, v5] ∧ DX X H v1 d1 ∧ DX X H v2 d2 ∧ DX X H v3 d3 ∧ DX X H v4 d4 ∧ DX X H v5 d5 := by
  cases h with
  | cons h1 h =>
    cases h with
    | cons h2 h =>
      cases h with
      | cons h3 h =>
        cases h with
        | cons h4 h =>
          cases h with
          | cons h5 h =>
            cases h
            exact ⟨_, _, _, _, _, rfl, h1, h2, h3, h4, h5⟩
section
variable {X : Addr → Prop} {σ : L2.St} {H : Hp} {ta : TA} {E : XK} {d1 d2 d3 dl dr : PyData} {ws ms vs : List Str} {l r : List Pr}
theorem g_gapsB (t : Trk X H) (F : Five_ d1 d2 d3 dl dr ws ms vs l r) (h : GA X ta σ H [d1, d2, d3, dl, dr]) : G X (tCall spGaps [] E ta) σ H (.tuple [gsD (gapsS ws ms vs l r), wsD (heldS ws l r)]) := g_call h fun us H1 s rs Q q => by
  obtain ⟨v1, v2, v3, v4, v5, rfl, x1, x2, x3, x4, x5⟩ := dxs5 rs
  exact ⟨X, v1, v2, v3, v4, v5, d1, d2, d3, dl, dr, ws, ms, vs, l, r, rfl, t.mono s, x1, x2, x3, x4, x5, F.t1, F.t2, F.t3, F.rl, F.rr, F.yl, F.yr, fun w H' s' dw => q w H' s' dw⟩
theorem g_mgB (t : Trk X H) (F : Five_ d1 d2 d3 dl dr ws ms vs l r) (h : GA X ta σ H [d1, d2, d3, dl, dr]) : G X (tCall spMgB [] E ta) σ H (mergedR ws ms vs l r) := g_call h fun us H1 s rs Q q => by
  obtain ⟨v1, v2, v3, v4, v5, rfl, x1, x2, x3, x4, x5⟩ := dxs5 rs
  exact ⟨X, v1, v2, v3, v4, v5, d1, d2, d3, dl, dr, ws, ms, vs, l, r, rfl, t.mono s, x1, x2, x3, x4, x5, F.t1, F.t2, F.t3, F.rl, F.rr, F.yl, F.yr, fun w H' s' dw => q w H' s' dw⟩
theorem g_told {res : List Str → List Str → List Str → List Pr → List Pr → PyData} (t : Trk X H) (F : Five_ d1 d2 d3 dl dr ws ms vs l r) (h : GA X ta σ H [d1, d2, d3, dl, dr]) : G X (tCall (spTold res) [] E ta) σ H (res ws ms vs l r) := g_call h fun us H1 s rs Q q =>
  ⟨X, d1, d2, d3, dl, dr, ws, ms, vs, l, r, t.mono s, rs, F, fun w H' s' dw => q w H' s' dw⟩
end
section
variable {C1 C2 : Addr}
abbrev s_gaps : Stmt := topS 28
abbrev n_gaps : List Str := ["base", "one", "other", "left", "right"]
theorem sc_gaps : FnScope n_gaps ["base", "one", "other", "left", "right"] (defScope s_gaps) := ⟨rfl, rfl, rfl, by decide +kernel, rfl, by decide +kernel, by decide +kernel⟩
theorem ok_gapsE {f : Addr} {fd : FuncData} (F : Fun K "gaps" "gaps" s_gaps f fd) (T : Bl mg) (O_check_rows : Own P w K mg base (L2.CX P w) 6 "check_rows" ["base", "one", "other", "left", "right"] (spXn 5 (crPre C1) (rowsOut C1 C2))) (O_gaps_between : Own P w K mg base CX0 1 "gaps_between" ["base", "one", "other", "left", "right"] spGaps) :
    FnOk P w K mg base (L2.CX P w) 7 f fd ["base", "one", "other", "left", "right"] (spXn 5 (erPre C1 C2) (rowsOut C1 C2)) := by
  refine okXn F sc_gaps rfl (by decide) fun cdv A outer s H E X ds Q hr t hl hp q => ⟨_, (pss_cons (ps_expr (pe_ownX O_check_rows hr (by decide) (takes_of rfl rfl rfl rfl) (by rfl) (pa_cons (pv 0) (pa_cons (pv 1) (pa_cons (pv 2) (pa_cons (pv 3) (pa_cons (pv 4) pa_nil)))))))
    (pss_one (ps_ret (pe_ix (ix_seqK (K := K) rfl) (pe_own O_gaps_between hr (by decide) (by rfl) (pa_cons (pv 0) (pa_cons (pv 1) (pa_cons (pv 2) (pa_cons (pv 3) (pa_cons (pv 4) pa_nil)))))) pe_int (fun _ _ => rfl))))), fun σ En => ?_⟩
  obtain ⟨d1, d2, d3, dl, dr, rfl⟩ : ∃ d1 d2 d3 dl dr, ds = [d1, d2, d3, dl, dr] := by
    match ds, hl with
    | [a, b, c, d, e], _ => exact ⟨a, b, c, d, e, rfl⟩
  have En : EnvOk X H σ [.dat d1, .dat d2, .dat d3, .dat dl, .dat dr] := En
  obtain ⟨hp, C, fl, r, he⟩ := hp
  exact k_drop (c_Xn (ds := [d1, d2, d3, dl, dr]) t (ga_cons (g_var (i := 0) (d := d1) En rfl) (ga_cons (g_var (i := 1) (d := d2) En rfl) (ga_cons (g_var (i := 2) (d := d3) En rfl) (ga_cons (g_var (i := 3) (d := dl) En rfl) (ga_cons (g_var (i := 4) (d := dr) En rfl) ga_nil))))) rfl hp (EndQ.err q he he))
theorem ok_gapsT {f : Addr} {fd : FuncData} (F : Fun K "gaps" "gaps" s_gaps f fd) (T : Bl mg) (O_check_rows : Own P w K mg base (L2.CX P w) 6 "check_rows" ["base", "one", "other", "left", "right"] (spXn 5 (crPre C1) (rowsOut C1 C2))) (O_gaps_between : Own P w K mg base CX0 1 "gaps_between" ["base", "one", "other", "left", "right"] spGaps) :
    FnOk P w K mg base (L2.CX P w) 7 f fd ["base", "one", "other", "left", "right"] (spTold gapsR) := by
  refine F.okX sc_gaps (fun vs H Q E h => ?_) (fun cdv A outer s H us Q E hr h => ?_)
  · obtain ⟨X, d1, d2, d3, dl, dr, ws, ms, vs', l, r, t, dx, _⟩ := h
    exact dx.length
  · obtain ⟨X, d1, d2, d3, dl, dr, ws, ms, vs, l, r, t, dx, V5, q⟩ := h
    refine ⟨_, (pss_cons (ps_expr (pe_ownX O_check_rows hr (by decide) (takes_of rfl rfl rfl rfl) (by rfl) (pa_cons (pv 0) (pa_cons (pv 1) (pa_cons (pv 2) (pa_cons (pv 3) (pa_cons (pv 4) pa_nil)))))))
    (pss_one (ps_ret (pe_ix (ix_seqK (K := K) rfl) (pe_own O_gaps_between hr (by decide) (by rfl) (pa_cons (pv 0) (pa_cons (pv 1) (pa_cons (pv 2) (pa_cons (pv 3) (pa_cons (pv 4) pa_nil)))))) pe_int (fun _ _ => rfl))))), ?_⟩
    have En : EnvOk X H (L2.start n_gaps us) [.dat d1, .dat d2, .dat d3, .dat dl, .dat dr] := envN (N := n_gaps) dx (by rw [dx.length]; exact Nat.le_refl 5)
    refine k_drop (c_Xn (ds := [d1, d2, d3, dl, dr]) t (ga_cons (g_var (i := 0) (d := d1) En rfl) (ga_cons (g_var (i := 1) (d := d2) En rfl) (ga_cons (g_var (i := 2) (d := d3) En rfl) (ga_cons (g_var (i := 3) (d := dl) En rfl) (ga_cons (g_var (i := 4) (d := dr) En rfl) ga_nil))))) rfl V5.pre ⟨fun r' e w0 H1 s1 dw _ => ?_, fun C' fl r' e a v H1 s1 ea dv => by rw [V5.out] at e; cases e⟩)
    have E1 := En.same s1
    exact s_ret (X := X) (d := gsD (gapsS ws ms vs l r)) (g_ix (t.mono s1) (g_gapsB (t.mono s1) V5 (ga_cons (g_var (i := 0) (d := d1) E1 rfl) (ga_cons (g_var (i := 1) (d := d2) E1 rfl) (ga_cons (g_var (i := 2) (d := d3) E1 rfl) (ga_cons (g_var (i := 3) (d := dl) E1 rfl) (ga_cons (g_var (i := 4) (d := dr) E1 rfl) ga_nil)))))) rfl g_int rfl) fun w H2 s2 dw => q w H2 (s1.trans s2) dw
abbrev s_merged : Stmt := topS 29
abbrev n_merged : List Str := ["base", "one", "other", "left", "right"]
theorem sc_merged : FnScope n_merged ["base", "one", "other", "left", "right"] (defScope s_merged) := ⟨rfl, rfl, rfl, by decide +kernel, rfl, by decide +kernel, by decide +kernel⟩
theorem ok_mergedE {f : Addr} {fd : FuncData} (F : Fun K "merged" "merged" s_merged f fd) (T : Bl mg) (O_check_rows : Own P w K mg base (L2.CX P w) 6 "check_rows" ["base", "one", "other", "left", "right"] (spXn 5 (crPre C1) (rowsOut C1 C2))) (O_merged_between : Own P w K mg base CX0 2 "merged_between" ["base", "one", "other", "left", "right"] spMgB) :
    FnOk P w K mg base (L2.CX P w) 7 f fd ["base", "one", "other", "left", "right"] (spXn 5 (erPre C1 C2) (rowsOut C1 C2)) := by
  refine okXn F sc_merged rfl (by decide) fun cdv A outer s H E X ds Q hr t hl hp q => ⟨_, (pss_cons (ps_expr (pe_ownX O_check_rows hr (by decide) (takes_of rfl rfl rfl rfl) (by rfl) (pa_cons (pv 0) (pa_cons (pv 1) (pa_cons (pv 2) (pa_cons (pv 3) (pa_cons (pv 4) pa_nil)))))))
    (pss_one (ps_ret (pe_own O_merged_between hr (by decide) (by rfl) (pa_cons (pv 0) (pa_cons (pv 1) (pa_cons (pv 2) (pa_cons (pv 3) (pa_cons (pv 4) pa_nil))))))))), fun σ En => ?_⟩
  obtain ⟨d1, d2, d3, dl, dr, rfl⟩ : ∃ d1 d2 d3 dl dr, ds = [d1, d2, d3, dl, dr] := by
    match ds, hl with
    | [a, b, c, d, e], _ => exact ⟨a, b, c, d, e, rfl⟩
  have En : EnvOk X H σ [.dat d1, .dat d2, .dat d3, .dat dl, .dat dr] := En
  obtain ⟨hp, C, fl, r, he⟩ := hp
  exact k_drop (c_Xn (ds := [d1, d2, d3, dl, dr]) t (ga_cons (g_var (i := 0) (d := d1) En rfl) (ga_cons (g_var (i := 1) (d := d2) En rfl) (ga_cons (g_var (i := 2) (d := d3) En rfl) (ga_cons (g_var (i := 3) (d := dl) En rfl) (ga_cons (g_var (i := 4) (d := dr) En rfl) ga_nil))))) rfl hp (EndQ.err q he he))
theorem ok_mergedT {f : Addr} {fd : FuncData} (F : Fun K "merged" "merged" s_merged f fd) (T : Bl mg) (O_check_rows : Own P w K mg base (L2.CX P w) 6 "check_rows" ["base", "one", "other", "left", "right"] (spXn 5 (crPre C1) (rowsOut C1 C2))) (O_merged_between : Own P w K mg base CX0 2 "merged_between" ["base", "one", "other", "left", "right"] spMgB) :
    FnOk P w K mg base (L2.CX P w) 7 f fd ["base", "one", "other", "left", "right"] (spTold mergedR) := by
  refine F.okX sc_merged (fun vs H Q E h => ?_) (fun cdv A outer s H us Q E hr h => ?_)
  · obtain ⟨X, d1, d2, d3, dl, dr, ws, ms, vs', l, r, t, dx, _⟩ := h
    exact dx.length
  · obtain ⟨X, d1, d2, d3, dl, dr, ws, ms, vs, l, r, t, dx, V5, q⟩ := h
    refine ⟨_, (pss_cons (ps_expr (pe_ownX O_check_rows hr (by decide) (takes_of rfl rfl rfl rfl) (by rfl) (pa_cons (pv 0) (pa_cons (pv 1) (pa_cons (pv 2) (pa_cons (pv 3) (pa_cons (pv 4) pa_nil)))))))
    (pss_one (ps_ret (pe_own O_merged_between hr (by decide) (by rfl) (pa_cons (pv 0) (pa_cons (pv 1) (pa_cons (pv 2) (pa_cons (pv 3) (pa_cons (pv 4) pa_nil))))))))), ?_⟩
    have En : EnvOk X H (L2.start n_merged us) [.dat d1, .dat d2, .dat d3, .dat dl, .dat dr] := envN (N := n_merged) dx (by rw [dx.length]; exact Nat.le_refl 5)
    refine k_drop (c_Xn (ds := [d1, d2, d3, dl, dr]) t (ga_cons (g_var (i := 0) (d := d1) En rfl) (ga_cons (g_var (i := 1) (d := d2) En rfl) (ga_cons (g_var (i := 2) (d := d3) En rfl) (ga_cons (g_var (i := 3) (d := dl) En rfl) (ga_cons (g_var (i := 4) (d := dr) En rfl) ga_nil))))) rfl V5.pre ⟨fun r' e w0 H1 s1 dw _ => ?_, fun C' fl r' e a v H1 s1 ea dv => by rw [V5.out] at e; cases e⟩)
    have E1 := En.same s1
    exact s_ret (X := X) (d := mergedR ws ms vs l r) (g_mgB (t.mono s1) V5 (ga_cons (g_var (i := 0) (d := d1) E1 rfl) (ga_cons (g_var (i := 1) (d := d2) E1 rfl) (ga_cons (g_var (i := 2) (d := d3) E1 rfl) (ga_cons (g_var (i := 3) (d := dl) E1 rfl) (ga_cons (g_var (i := 4) (d := dr) E1 rfl) ga_nil)))))) fun w H2 s2 dw => q w H2 (s1.trans s2) dw
end
end K56

/-! Gaps, and what is merged, as the law reads them. -/
namespace K56
open PySem PySem.Spec PyProof.Rows L2 KD KL
-- RAISES check_texts is_common_row common_row check_rows gaps merged
-- HINT _law_m_gaps it#3 pi_keys
-- HINT _law_m_gaps lock#3 yes
-- HINT _law_m_gaps in dict
-- HINT _law_m_gaps dgetn _law_mine,_law_theirs
-- HINT _law_m_gaps slice (sl_lstK (K := K) rfl)
-- HINT _law_m_gaps lcte#1 (tCB (fun xs H Q => ∃ p ys, xs = [V.ref p] ∧ ((SqL K H p ys ∧ ∀ l, H l = none → Q (.ref l) (upd H l (.tup ys))) ∨ (SqT K H p ys ∧ Q (.ref p) H))) (tCons (tVar 12) tNil))
-- HINT _law_m_gaps lcte#2 (tCB (fun xs H Q => ∃ p ys, xs = [V.ref p] ∧ ((SqL K H p ys ∧ ∀ l, H l = none → Q (.ref l) (upd H l (.tup ys))) ∨ (SqT K H p ys ∧ Q (.ref p) H))) (tCons (tVar 12) tNil))
-- HINT _law_m_gaps ix (ix_seqK (K := K) rfl)
variable {P : Program} {w : World} {K : PySem.W.Frag} {mg : Str → Option Value} {base : Heap}
section
variable {X : Addr → Prop} {σ : L2.St} {H : Hp} {ta tb tc te : TE} {tl : TA} {Q : VK}
theorem k_tup (h : tl σ H fun vs H1 => vs.length ≤ sizeLine ∧ ∀ p, H1 p = none → Q (.ref p) (upd H1 p (.tup vs))) : tTup tl σ H Q := h
theorem k_par3 {i j l : Nat} {tz : TS} {D : Ends} (h : ta σ H fun x H1 => tb σ H1 fun y H2 => tc σ H2 fun z H3 => ∃ u v w, [x, y, z] = [u, v, w] ∧ tz D (((σ.set i (some u)).set j (some v)).set l (some w)) H3) : tSeq (tPar3 i j l (tCons ta (tCons tb (tCons tc tNil)))) tz D σ H := h
theorem prs_paired {H : Hp} : ∀ {l : List Pr} {xs : List V}, DXs X H xs (l.map prD) → ∃ ps, xs = ps.map V.ref ∧ Paired (fun p (kv : Key × V) => SqT K H p [kV kv.1, kv.2]) ps (KD.kvsOf l)
  | [], _, .nil => ⟨[], rfl, .nil⟩
  | p :: l, _, .cons h r => by
    obtain ⟨ps, rfl, hp⟩ := prs_paired r
    obtain ⟨a, ys, rfl, _, ea, ry⟩ := DX.tup_inv (ds := [.int (p.1 : Nat), .int (p.2 : Nat)]) h
    cases ry with
    | cons h1 ry =>
      cases ry with
      | cons h2 ry =>
        cases ry
        rw [h1.int_inv, h2.int_inv] at ea
        exact ⟨a :: ps, rfl, .cons (SqT.of ea) hp⟩
theorem merge_all {l : List Pr} (h : Inc l) : mergeK [] (KD.kvsOf l) = KD.kvsOf l := by
  have : mergeK (KD.kvsOf []) (KD.kvsOf l) = KD.kvsOf ([] ++ l) := merge_row l [] (by simpa using h)
  exact this
theorem k_dictP {l : List Pr} (h : G X te σ H (rowD l)) (inc : Inc l) (q : ∀ D H', H D = none → Same H H' → H' D = some (.dK (KD.kvsOf l)) → Q (.ref D) H') :
    tCB (fun xs H Q => ∃ (a : Addr) (ps : List Addr) (kvs : List (Key × V)), xs = [.ref a] ∧ SqL K H a (ps.map V.ref) ∧ Paired (fun p kv => SqT K H p [kV kv.1, kv.2]) ps kvs ∧ ∀ p, H p = none → Q (.ref p) (upd H p (.dK (mergeK [] kvs)))) (tCons te tNil) σ H Q :=
  h H (Same.refl H) _ fun v H1 s1 r => by
    obtain ⟨a, xs, rfl, _, ea, rx⟩ := DX.lst_inv (ds := l.map prD) r
    obtain ⟨ps, rfl, hp⟩ := prs_paired (K := K) rx
    exact ⟨a, ps, KD.kvsOf l, rfl, SqL.of ea, hp, fun p hp' => by rw [merge_all inc]; exact q p _ (by cases e : H p with | none => rfl | some o => rw [s1 p o e] at hp'; cases hp') (s1.trans (Same.upd hp')) upd_same⟩
end
def spMG : Sp := fun us H Q _ => ∃ (X : Addr → Prop) (ws ms vs : List Str) (l r : List Pr), Trk X H ∧ DXs X H us [wsD ws, wsD ms, wsD vs, rowD l, rowD r] ∧ Sok ws ∧ Sok ms ∧ Sok vs ∧ RowOf ws ms l ∧ RowOf ws vs r ∧
  ∀ w H', Same H H' → DX X H' w (.tuple [gsD (gapsS ws ms vs l r), .list ((ends l r).map fun e => .int (e.1 : Nat))]) → Q w H'
theorem rw_row (l : List Pr) : Rw (rowD l) l := ⟨rfl, by show (l.map prD).length = _; rw [List.length_map], fun i z p h1 h2 => by
  have h1 : (l.map prD)[i]? = some z := h1
  rw [List.getElem?_map, h2] at h1
  cases h1
  exact ⟨rfl, rfl⟩⟩
theorem keys_filt {l r : List Pr} (hl : Inc l) : ((l.map fun p => PyData.int (p.1 : Nat)).filter fun z => (look r (nzD z)).isSome).map (fun z => z) = (ends l r).map fun e => PyData.int (e.1 : Nat) := by
  unfold ends
  rw [List.map_id', List.filter_map, List.map_filterMap]
  have e : ∀ m : List Pr, ((m.filter ((fun z => (look r (nzD z)).isSome) ∘ fun p : Pr => PyData.int (p.1 : Nat))).map fun p => PyData.int (p.1 : Nat)) = m.filterMap fun x => ((look r x.1).map fun q => (x.1, x.2, q)).map fun e => PyData.int (e.1 : Nat) := by
    intro m
    induction m with
    | nil => rfl
    | cons p m ih =>
      have e0 : nzD (.int (p.1 : Nat)) = p.1 := by show ((p.1 : Nat) : Int).toNat = p.1; omega
      rw [List.filter_cons, List.filterMap_cons]
      show (if (look r (nzD (.int (p.1 : Nat)))).isSome = true then _ else _ : List Pr).map _ = _
      rw [e0]
      cases look r p.1 with
      | none => exact ih
      | some q => exact congrArg (PyData.int (p.1 : Nat) :: ·) ih
  exact e l
abbrev s__law_m_gaps : Stmt := topS 37
abbrev n__law_m_gaps : List Str := ["_law_base", "_law_one", "_law_other", "_law_left", "_law_right", "_law_mine", "_law_theirs", "_law_held", "_law_found", "_law_far", "_law_at", "_law_here", "_law_pair"]
theorem sc__law_m_gaps : FnScope n__law_m_gaps ["_law_base", "_law_one", "_law_other", "_law_left", "_law_right"] (defScope s__law_m_gaps) := ⟨rfl, rfl, rfl, by decide +kernel, rfl, by decide +kernel, by decide +kernel⟩
theorem ok_m_gaps {f : Addr} {fd : FuncData} (F : Fun K "_law_m_gaps" "_law_m_gaps" s__law_m_gaps f fd) (T : Bl mg) : FnOk P w K mg base CX0 1 f fd ["_law_base", "_law_one", "_law_other", "_law_left", "_law_right"] spMG := by
  refine F.ok sc__law_m_gaps (fun vs H Q E h => ?_) (fun cdv A outer s H us Q E hr h => ?_)
  · obtain ⟨X, ws, ms, vs', l, r, t, dx, _⟩ := h
    exact dx.length
  · obtain ⟨X, ws, ms, vs, l, r, t, dx, O1, O2, O3, Yl, Yr, q⟩ := h
    refine ⟨_, (pss_cons (ps_asg (pe_tup (pa_cons (pe_callTy (call_dictP rfl) (by rfl) T.b_dict boot_dict (pa_cons (pe_lc (own := [("_law_pair", 12)]) (g := (gName 12)) (tt := tYes) (te := (tCB (fun xs H Q => ∃ p ys, xs = [V.ref p] ∧ ((SqL K H p ys ∧ ∀ l, H l = none → Q (.ref l) (upd H l (.tup ys))) ∨ (SqT K H p ys ∧ Q (.ref p) H))) (tCons (tVar 12) tNil))) rfl sc__law_m_gaps.nd (pi_list (pv 3)) (blkOk_by (N := n__law_m_gaps) (sc := defScope s__law_m_gaps) (by decide +kernel)) (fun _ _ _ _ _ => (pg_name (i := 12) sc__law_m_gaps.nd rfl (by first | exact Or.inl rfl | exact Or.inr rfl))) (fun _ _ _ _ _ => pts_nil) (fun _ _ _ _ _ => (pe_callTy call_tuple_of (by rfl) T.b_tuple boot_tuple (pa_cons (pv 12) pa_nil)))) pa_nil)) (pa_cons (pe_callTy (call_dictP rfl) (by rfl) T.b_dict boot_dict (pa_cons (pe_lc (own := [("_law_pair", 12)]) (g := (gName 12)) (tt := tYes) (te := (tCB (fun xs H Q => ∃ p ys, xs = [V.ref p] ∧ ((SqL K H p ys ∧ ∀ l, H l = none → Q (.ref l) (upd H l (.tup ys))) ∨ (SqT K H p ys ∧ Q (.ref p) H))) (tCons (tVar 12) tNil))) rfl sc__law_m_gaps.nd (pi_list (pv 4)) (blkOk_by (N := n__law_m_gaps) (sc := defScope s__law_m_gaps) (by decide +kernel)) (fun _ _ _ _ _ => (pg_name (i := 12) sc__law_m_gaps.nd rfl (by first | exact Or.inl rfl | exact Or.inr rfl))) (fun _ _ _ _ _ => pts_nil) (fun _ _ _ _ _ => (pe_callTy call_tuple_of (by rfl) T.b_tuple boot_tuple (pa_cons (pv 12) pa_nil)))) pa_nil)) pa_nil))) (pg_tup (n := 2) rfl (pgs_cons (pg_name (i := 5) sc__law_m_gaps.nd rfl (by first | exact Or.inl rfl | exact Or.inr rfl)) (pgs_cons (pg_name (i := 6) sc__law_m_gaps.nd rfl (by first | exact Or.inl rfl | exact Or.inr rfl)) pgs_nil))))
    (pss_cons (ps_par3 (i := 7) (j := 8) (l := 9) (by rfl) sc__law_m_gaps.nd rfl rfl rfl (by decide) (by decide) (by decide) rfl rfl rfl (pa_cons (pe_lock (pe_lc (own := [("_law_at", 10)]) (g := (gName 10)) rfl sc__law_m_gaps.nd (pi_keys (pv 5)) (blkOk_by (N := n__law_m_gaps) (sc := defScope s__law_m_gaps) (by decide +kernel)) (fun _ _ _ _ _ => (pg_name (i := 10) sc__law_m_gaps.nd rfl (by first | exact Or.inl rfl | exact Or.inr rfl))) (fun _ _ _ _ _ => (pts_one (pt_cmp (pc_din (hu_of hr) (pv 10) (pv 6)) (by rfl)))) (fun _ _ _ _ _ => (pv 10)))) (pa_cons (pe_lst pa_nil) (pa_cons (pe_tup (pa_cons pe_int (pa_cons pe_int (pa_cons pe_int pa_nil)))) pa_nil))) (by rfl))
    (pss_cons (ps_for PassesOwn.never rfl (pi_list (pe_op op_addA (pv 7) (pe_lst (pa_cons (pe_callB call_len (by rfl) T.b_len boot_len (pa_cons (pv 0) pa_nil)) pa_nil)))) (pg_name (i := 10) sc__law_m_gaps.nd rfl (by first | exact Or.inl rfl | exact Or.inr rfl))
    (pss_cons (ps_set (i := 11) sc__law_m_gaps.nd rfl (by first | exact Or.inl rfl | exact Or.inr rfl) (pe_ifExp (pt_cmpR op_lt (pv 10) (pe_callB call_len (by rfl) T.b_len boot_len (pa_cons (pv 0) pa_nil)) (nomark _)) (pe_tup (pa_cons (pv 10) (pa_cons (pe_dget (hu_of hr) (pv 5) (pv 10) (fun _ _ => rfl)) (pa_cons (pe_dget (hu_of hr) (pv 6) (pv 10) (fun _ _ => rfl)) pa_nil)))) (pe_tup (pa_cons (pe_callB call_len (by rfl) T.b_len boot_len (pa_cons (pv 0) pa_nil)) (pa_cons (pe_callB call_len (by rfl) T.b_len boot_len (pa_cons (pv 1) pa_nil)) (pa_cons (pe_callB call_len (by rfl) T.b_len boot_len (pa_cons (pv 2) pa_nil)) pa_nil))))))
    (pss_cons (ps_expr (pe_bm PySem.F.plainAttrs_list PySem.F.slot_list_append PySem.F.type_list_append mt_append (pv 8) (pa_cons (pe_tup (pa_cons (pe_slice (sl_lstK (K := K) rfl) (pv 0) (po_some (pe_ix (ix_seqK (K := K) rfl) (pv 9) pe_int (fun _ _ => rfl))) (po_some (pe_ix (ix_seqK (K := K) rfl) (pv 11) pe_int (fun _ _ => rfl)))) (pa_cons (pe_slice (sl_lstK (K := K) rfl) (pv 1) (po_some (pe_ix (ix_seqK (K := K) rfl) (pv 9) pe_int (fun _ _ => rfl))) (po_some (pe_ix (ix_seqK (K := K) rfl) (pv 11) pe_int (fun _ _ => rfl)))) (pa_cons (pe_slice (sl_lstK (K := K) rfl) (pv 2) (po_some (pe_ix (ix_seqK (K := K) rfl) (pv 9) pe_int (fun _ _ => rfl))) (po_some (pe_ix (ix_seqK (K := K) rfl) (pv 11) pe_int (fun _ _ => rfl)))) pa_nil)))) pa_nil)))
    (pss_one (ps_set (i := 9) sc__law_m_gaps.nd rfl (by first | exact Or.inl rfl | exact Or.inr rfl) (pe_tup (pa_cons (pe_op op_addA (pe_ix (ix_seqK (K := K) rfl) (pv 11) pe_int (fun _ _ => rfl)) pe_int) (pa_cons (pe_op op_addA (pe_ix (ix_seqK (K := K) rfl) (pv 11) pe_int (fun _ _ => rfl)) pe_int) (pa_cons (pe_op op_addA (pe_ix (ix_seqK (K := K) rfl) (pv 11) pe_int (fun _ _ => rfl)) pe_int) pa_nil)))))))))
    (pss_one (ps_ret (pe_tup (pa_cons (pv 8) (pa_cons (pv 7) pa_nil)))))))), ?_⟩
    have En : EnvOk X H (L2.start n__law_m_gaps us) [.dat (wsD ws), .dat (wsD ms), .dat (wsD vs), .dat (rowD l), .dat (rowD r), .un, .un, .un, .un, .un, .un, .un, .un] := envN (N := n__law_m_gaps) dx (by rw [dx.length]; exact (by decide : 5 ≤ n__law_m_gaps.length))
    have fl := Yl.few
    have fr := Yr.few
    have f1 := O1.1
    have rows : ∀ {H1 : Hp} {σ1 : L2.St} {Γ1 : List Sv} {i : Nat} {m : List Pr}, Trk X H1 → EnvOk X H1 σ1 Γ1 → Γ1[i]? = some (.dat (rowD m)) → 12 < Γ1.length → m.length ≤ 60 → G X (tLc (iList K (tVar i)) (gName 12) tYes (tCB (fun xs H Q => ∃ p ys, xs = [V.ref p] ∧ ((SqL K H p ys ∧ ∀ l, H l = none → Q (.ref l) (upd H l (.tup ys))) ∨ (SqT K H p ys ∧ Q (.ref p) H))) (tCons (tVar 12) tNil)) [12]) σ1 H1 (rowD m) := fun {H1 σ1 Γ1 i m} t1 E1 h1 h12 hl => by
      refine g_is (g_lc1 (ds := m.map prD) (Γ2 := fun z => (Γ1.set 12 .un).set 12 (.dat z)) (fun z => .tuple (itemsD z)) t1 (gi_list (g_var (i := i) (d := rowD m) E1 h1)) (by rw [List.length_map]; omega) (fun H3 s3 z hz => tgt_name (E1.same s3)) (fun X2 H3 σ2 z hz t3 E3 => ?_)) ?_
      · obtain ⟨p, hp, rfl⟩ := List.mem_map.mp hz
        exact g_cb t3 (ga_cons (g_var (i := 12) (d := prD p) E3 (by rw [List.getElem?_set_self (by rw [List.length_set]; exact h12)])) ga_nil) (rf_tuple (K := K) (d := prD p) rfl)
      · rw [List.map_map]
        rfl
    refine k_asg (k_tup (k_cons (k_dictP (rows t En rfl (by show 12 < 13; omega) (by omega)) Yl.inc fun A1 H1 hA1 s1 eA1 => k_cons (k_dictP (rows (t.mono s1) (En.same s1) rfl (by show 12 < 13; omega) (by omega)) Yr.inc fun A2 H2 hA2 s2 eA2 => k_nil ⟨by show 2 ≤ sizeLine; decide, fun pp hpp => ?_⟩))))
    refine ⟨pp, [.ref A1, .ref A2], rfl, SqT.of upd_same, rfl, _, _, rfl, _, _, rfl, rfl, ?_⟩
    have s3 : Same H2 (upd H2 pp (.tup [.ref A1, .ref A2])) := Same.upd hpp
    have nA1 : ¬ X A1 := t.new hA1
    have nA2 : ¬ X A2 := (t.mono s1).new hA2
    have n12 : A2 ≠ A1 := fun z => by rw [z, eA1] at hA2; cases hA2
    have eA1 := s3 _ _ (s2 _ _ eA1)
    have eA2 := s3 _ _ eA2
    have s02 := (s1.trans s2).trans s3
    have t2 := t.mono s02
    let Γ (x7 x8 x9 x10 x11 : Sv) : List Sv := [.dat (wsD ws), .dat (wsD ms), .dat (wsD vs), .un, .un, .val (.ref A1), .val (.ref A2), x7, x8, x9, x10, x11, .un]
    have E2 : EnvOk X (upd H2 pp (.tup [.ref A1, .ref A2])) _ (Γ .un .un .un .un .un) := envUn' (envUn' (((En.same s02).setV (i := 5) (v := .ref A1)).setV (i := 6) (v := .ref A2)) 3) 4
    generalize upd H2 pp (.tup [.ref A1, .ref A2]) = H2 at *
    clear s1 s2 s3 hpp hA2
    refine k_par3 (k_lock ⟨A1, _, eA1, trivial, fun od => ?_⟩)
    have EL := E2.lock (o := .frz od (.dK (KD.kvsOf l))) eA1 fun d hd => by
      simp only [Γ, List.mem_cons, Sv.dat.injEq, reduceCtorEq, List.not_mem_nil, or_false, false_or] at hd
      rcases hd with rfl | rfl | rfl
      · exact noDict_strs ws
      · exact noDict_strs ms
      · exact noDict_strs vs
    have hL : upd H2 A1 (.frz od (.dK (KD.kvsOf l))) A1 = some (.frz od (.dK (KD.kvsOf l))) := upd_same
    have hL2 : upd H2 A1 (.frz od (.dK (KD.kvsOf l))) A2 = some (.dK (KD.kvsOf r)) := by rw [upd_ne n12]; exact eA2
    have tL : Trk X (upd H2 A1 (.frz od (.dK (KD.kvsOf l)))) := t2.put
    have kL : ∀ b o, H b = some o → upd H2 A1 (.frz od (.dK (KD.kvsOf l))) b = some o := fun b o e => by
      have : b ≠ A1 := fun z => by rw [z, hA1] at e; cases e
      rw [upd_ne this]
      exact s02 _ _ e
    generalize upd H2 A1 (.frz od (.dK (KD.kvsOf l))) = HL at *
    refine (show G X _ _ HL (.list ((ends l r).map fun e => .int (e.1 : Nat))) from g_is (g_lcS (ds := l.map fun p => .int (p.1 : Nat)) (Γ2 := fun z => (Γ .un .un .un .un .un).set 10 (.dat z)) (fun z => (look r (nzD z)).isSome) (fun z => z) tL (gi_keys EL rfl hL nA1) (by rw [List.length_map]; omega) (fun H3 s3 z hz => tgt_name (EL.same s3)) (fun X2 H3 σ2 z hz s3 t3 E3 => ?_) (fun X2 H3 σ2 z hz hf s3 t3 E3 => g_var (i := 10) (d := z) E3 rfl)) ?_) HL (Same.refl _) _ fun v7 H3 s3 r7 => ?_
    · obtain ⟨p, hp, rfl⟩ := List.mem_map.mp hz
      have e0 : nzD (.int (p.1 : Nat)) = p.1 := by show ((p.1 : Nat) : Int).toNat = p.1; omega
      rw [e0]
      exact gt_dinI E3 rfl (.inl (s3 _ _ hL2)) (g_var (i := 10) (d := .int (p.1 : Nat)) E3 rfl)
    · rw [keys_filt Yl.inc]
    have hL3 := s3 _ _ hL
    refine ⟨hL3, ?_⟩
    have E3 := (EL.same s3).unlock (o := .dK (KD.kvsOf l)) hL3
    have r7 := DX.unlock (o := .dK (KD.kvsOf l)) hL3 r7
    have eB1 : upd H3 A1 (.dK (KD.kvsOf l)) A1 = some (.dK (KD.kvsOf l)) := upd_same
    have eB2 : upd H3 A1 (.dK (KD.kvsOf l)) A2 = some (.dK (KD.kvsOf r)) := by rw [upd_ne n12]; exact s3 _ _ hL2
    have s4 : Same H (upd H3 A1 (.dK (KD.kvsOf l))) := fun b o e => by
      have : b ≠ A1 := fun z => by rw [z, hA1] at e; cases e
      rw [upd_ne this]
      exact s3 _ _ (kL _ _ e)
    have t4 := t.mono s4
    generalize upd H3 A1 (.dK (KD.kvsOf l)) = H4 at *
    clear EL hL hL2 tL kL hL3 E2 eA1 eA2 s3
    refine k_lst (k_nil ⟨by show 0 ≤ sizeLine; decide, fun Fo hF => ?_⟩)
    have sF : Same H4 (upd H4 Fo (.lst [])) := Same.upd hF
    have h5 : upd H4 Fo (.lst []) Fo = some (.lst []) := upd_same
    have nX : ¬ X Fo := t4.new hF
    let X' : Addr → Prop := fun b => X b ∨ b = Fo
    have t5 : Trk X' (upd H4 Fo (.lst [])) := fun a e => e.elim (fun z => t4.mono sF a z) fun z => ⟨.lst [], by rw [z]; exact h5⟩
    have E5 := (E3.more (More.one hF)).same sF
    have r7 := (r7.more (More.one hF)).mono (Kp.of sF)
    generalize upd H4 Fo (.lst []) = H5 at *
    refine (show G X' _ _ H5 (trD (0, 0, 0)) from g_tup t5 (ga_cons g_int (ga_cons g_int (ga_cons g_int ga_nil))) (by simp)) H5 (Same.refl _) _ fun v6 H6 s6 r6 => ⟨_, _, _, rfl, ?_⟩
    have eB1 := s6 _ _ (sF _ _ eB1)
    have eB2 := s6 _ _ (sF _ _ eB2)
    have nB1 : ¬ X' A1 := fun z => z.elim nA1 fun z => by rw [z] at eB1; rw [s6 _ _ h5] at eB1; cases eB1
    have nB2 : ¬ X' A2 := fun z => z.elim nA2 fun z => by rw [z] at eB2; rw [s6 _ _ h5] at eB2; cases eB2
    let Δ (x8 x9 x10 x11 : Sv) : List Sv := Γ (.dat (.list ((ends l r).map fun e => .int (e.1 : Nat)))) x8 x9 x10 x11
    have E6 : EnvOk X' H6 _ (Δ (.val (.ref Fo)) (.dat (trD (0, 0, 0))) .un .un) := (((E5.same s6).set (i := 7) (r7.mono (Kp.of s6))).setV (i := 8) (v := .ref Fo)).set (i := 9) r6
    have t6 := t5.mono s6
    have fe : (ends l r).length ≤ 60 := by have := ends_few (l := l) (r := r); omega
    let es := endsN ws ms vs l r
    have les : es.length ≤ 61 := by show ((ends l r) ++ [_]).length ≤ 61; rw [List.length_append]; simp; omega
    have lw : ∀ {X2 : Addr → Prop} {H' : Hp} {σ' : L2.St} {i : Nat} {ts : List Str} {Γ' : List Sv}, Trk X2 H' → EnvOk X2 H' σ' Γ' → Γ'[i]? = some (.dat (wsD ts)) → G X2 (tCB (fun xs H Q => ∃ x n, xs = [x] ∧ LenV K x H n ∧ Q (V.int n) H) (tCons (tVar i) tNil)) σ' H' (.int (ts.length : Nat)) := fun {X2 H' σ' i ts Γ'} t E h => g_is (g_len t (g_var (d := wsD ts) E h) rfl) (by show PyData.int ((ts.map PyData.str).length : Nat) = _; rw [List.length_map])
    have ges : G X' _ _ H6 (.list (es.map fun e => .int (e.1 : Nat))) := g_is (g_cat t6 (g_var (i := 7) (d := .list ((ends l r).map fun e => .int (e.1 : Nat))) E6 rfl) (g_lst t6 (ga_cons (lw t6 E6 (i := 0) (ts := ws) rfl) ga_nil) (by simp)) (by rw [List.length_map]; simp; omega)) (by show PyData.list (((ends l r).map fun e => PyData.int (e.1 : Nat)) ++ [.int (ws.length : Nat)]) = .list ((ends l r ++ [(ws.length, ms.length, vs.length)]).map fun e => .int (e.1 : Nat)); rw [List.map_append]; rfl)
    have lg : (gapL ws ms vs (0, 0, 0) es).length = es.length := gap_len ws ms vs es (0, 0, 0)
    refine s_forD (X := X') (gi_list ges) (fun Hb i σ' H' => Kp X' Hb H' ∧ Trk X' H' ∧ Same H4 H' ∧ H' A1 = some (.dK (KD.kvsOf l)) ∧ H' A2 = some (.dK (KD.kvsOf r)) ∧ ∃ ys, H' Fo = some (.lst ys) ∧ DXs X' H' ys (((gapL ws ms vs (0, 0, 0) es).take i).map gD) ∧ EnvOk X' H' σ' (Δ (.val (.ref Fo)) (.dat (trD (stA (0, 0, 0) es i))) .un .un)) ?_ ?_ ?_ ?_
    · intro Hb sb
      exact ⟨Kp.refl, t6.mono sb, (sF.trans s6).trans sb, sb _ _ eB1, sb _ _ eB2, [], sb _ _ (s6 _ _ h5), .nil, by rw [stA_zero]; exact E6.same sb⟩
    · rintro Hb i σ' H' ⟨p1, p2, _⟩
      exact ⟨p1, p2⟩
    · rintro Hb i x d σ' H' H'' sb hd ⟨p1, p2, p3, q1, q2, ys, p4, p5, E7⟩ s7 dx
      rw [List.getElem?_map] at hd
      obtain ⟨e, he, rfl⟩ := Option.map_eq_some_iff.mp hd
      have hi := (List.getElem?_eq_some_iff.mp he).1
      refine k_name ?_
      have t8 := p2.mono s7
      have E8 := (E7.same s7).set (i := 10) dx
      generalize hst : stA (0, 0, 0) es i = st at *
      have q1 := s7 _ _ q1
      have q2 := s7 _ _ q2
      have gat : ∀ {H' : Hp} {σ'' : L2.St} {x11 : Sv}, EnvOk X' H' σ'' (Δ (.val (.ref Fo)) (.dat (trD st)) (.dat (.int (e.1 : Nat))) x11) → G X' (tVar 10) σ'' H' (.int (e.1 : Nat)) := fun E => g_var (i := 10) (d := .int (e.1 : Nat)) E rfl
      refine q_set (i := 11) (d := trD e) E8 (g_if (b := decide ((e.1 : Int) < (ws.length : Int))) (gt_cmpI t8 (g := fun i j => decide (i < j)) (gat E8) (lw t8 E8 (i := 0) (ts := ws) rfl)) (fun hb => ?_) (fun hb => ?_)) fun H9 v11 s9 E9 => ?_
      · rw [decide_eq_true_iff] at hb
        have hm : e ∈ ends l r := by
          have := List.mem_of_getElem? he
          rcases List.mem_append.mp (show e ∈ ends l r ++ [(ws.length, ms.length, vs.length)] from this) with h | h
          · exact h
          · rw [List.mem_singleton.mp h] at hb
            exact absurd hb (by omega)
        obtain ⟨m1, m2⟩ := (ends_mem Yl.inc Yr.inc).mp hm
        exact g_tup t8 (ga_cons (gat E8) (ga_cons (g_dgetI E8 rfl (.inl q1) (gat E8) ((look_some Yl.inc).mpr m1)) (ga_cons (g_dgetI E8 rfl (.inl q2) (gat E8) ((look_some Yr.inc).mpr m2)) ga_nil))) (by simp)
      · rw [decide_eq_false_iff_not] at hb
        have hm : e = (ws.length, ms.length, vs.length) := by
          have := List.mem_of_getElem? he
          rcases List.mem_append.mp (show e ∈ ends l r ++ [(ws.length, ms.length, vs.length)] from this) with h | h
          · have := (Yl.bd _ ((ends_mem Yl.inc Yr.inc).mp h).1).1
            exact absurd (show (e.1 : Int) < (ws.length : Int) by omega) hb
          · exact List.mem_singleton.mp h
        exact g_is (g_tup t8 (ga_cons (lw t8 E8 (i := 0) (ts := ws) rfl) (ga_cons (lw t8 E8 (i := 1) (ts := ms) rfl) (ga_cons (lw t8 E8 (i := 2) (ts := vs) rfl) ga_nil))) (by simp)) (by rw [hm]; rfl)
      have E9 : EnvOk X' H9 _ (Δ (.val (.ref Fo)) (.dat (trD st)) (.dat (.int (e.1 : Nat))) (.dat (trD e))) := E9
      have t9 := t8.mono s9
      have sl : ∀ {k : Nat} {c : Int} {a b : Nat} {ts : List Str}, (Δ (.val (.ref Fo)) (.dat (trD st)) (.dat (.int (e.1 : Nat))) (.dat (trD e)))[k]? = some (.dat (wsD ts)) → atI (itemsD (trD st)) c = some (.int (a : Nat)) → atI (itemsD (trD e)) c = some (.int (b : Nat)) → G X' (tSl (rSlL K) (tVar k) (tPart (tOp (rIx K) (tVar 9) (tC (.int c)))) (tPart (tOp (rIx K) (tVar 11) (tC (.int c))))) _ H9 (wsD (cut ts a b)) := fun {k c a b ts} hk h1 h2 =>
        g_is (g_sl (K := K) t9 (g_var (i := k) (d := wsD ts) E9 hk) (go_some (g_ix t9 (g_var (i := 9) (d := trD st) E9 rfl) rfl g_int h1)) (go_some (g_ix t9 (g_var (i := 11) (d := trD e) E9 rfl) rfl g_int h2))) (by rw [cut_data]; rfl)
      refine q_append (i := 8) (L := Fo) (d := gD (cut ws st.1 e.1, cut ms st.2.1 e.2.1, cut vs st.2.2 e.2.2)) E9 rfl (.inr rfl) t9 (s9 _ _ (s7 _ _ p4)) ((p5.mono (Kp.of s7)).mono (Kp.of s9)) (g_tup t9 (ga_cons (sl (k := 0) (c := 0) rfl rfl rfl) (ga_cons (sl (k := 1) (c := 1) rfl rfl rfl) (ga_cons (sl (k := 2) (c := 2) rfl rfl rfl) ga_nil))) (by simp)) (by rw [List.length_map, List.length_take]; omega) fun HA ys9 h9 x9 EA tA k9 => ?_
      have pl : ∀ {c : Int} {a : Nat}, atI (itemsD (trD e)) c = some (.int (a : Nat)) → G X' (tOp rAddA (tOp (rIx K) (tVar 11) (tC (.int c))) (tC (.int 1))) _ HA (.int ((a + 1 : Nat) : Int)) := fun {c a} h => g_is (g_addI tA (g_ix tA (g_var (i := 11) (d := trD e) EA rfl) rfl g_int h) g_int) (by congr 1)
      refine k_set1 ((show G X' _ _ HA (trD (e.1 + 1, e.2.1 + 1, e.2.2 + 1)) from g_tup tA (ga_cons (pl (c := 0) rfl) (ga_cons (pl (c := 1) rfl) (ga_cons (pl (c := 2) rfl) ga_nil))) (by simp)) HA (Same.refl _) _ fun v10 HB s10 r10 => ?_)
      have kx : Kp X' H9 HA := fun a o n z => k9 a o (fun y => n (.inr y)) z
      have k10 : Kp X' H' HB := (((Kp.of s7).trans (Kp.of s9)).trans kx).trans (Kp.of s10)
      refine ⟨p1.trans k10, tA.mono s10, fun a o z => ?_, s10 _ _ (k9 _ _ (fun z => nB1 (.inr z)) (s9 _ _ q1)), s10 _ _ (k9 _ _ (fun z => nB2 (.inr z)) (s9 _ _ q2)), ys9, s10 _ _ h9, ?_, ?_⟩
      · have n1 : a ≠ Fo := fun y => by rw [y, hF] at z; cases z
        exact s10 _ _ (k9 a o n1 (s9 a o (s7 a o (p3 a o z))))
      · have ga := gap_at ws ms vs es (0, 0, 0) i e he
        rw [hst] at ga
        rw [List.take_add_one, ga, Option.toList_some, List.map_append]
        exact x9.mono (Kp.of s10)
      · rw [stA_next es (0, 0, 0) i e he]
        exact envUn' (envUn' ((EA.same s10).set (i := 9) r10) 10) 11
    · rintro Hb σ' H' sb ⟨p1, p2, p3, q1, q2, ys, p4, p5, E7⟩
      rw [List.length_map, ← lg, List.take_length] at p5
      have E8 := EnvOk.give (i := 8) E7 rfl nX p4 p5
      have t8 : Trk X H' := fun a h => p2 a (.inl h)
      exact s_ret (X := X) (D := { nx := fun _ H' => Q .non H', rt := Q }) (d := .tuple [gsD (gapsS ws ms vs l r), .list ((ends l r).map fun e => .int (e.1 : Nat))]) (g_tup t8 (ga_cons (g_var (i := 8) E8 rfl) (ga_cons (g_var (i := 7) (d := .list ((ends l r).map fun e => .int (e.1 : Nat))) E8 rfl) ga_nil)) (by simp)) fun w H9 s9 dw => q w H9 ((s4.trans p3).trans s9) dw
end K56

/-! What is merged, as the law reads it. -/
namespace K56
open PySem PySem.Spec PyProof.Rows L2 KD KL
-- RAISES check_texts is_common_row common_row check_rows gaps merged
-- HINT _law_m_merged slice (sl_lstK (K := K) rfl)
-- HINT _law_m_merged ix (ix_seqK (K := K) rfl)
variable {P : Program} {w : World} {K : PySem.W.Frag} {mg : Str → Option Value} {base : Heap}
def accI (ps : List (List Str)) (hs : List Str) (n : Nat) : List Str := (List.range n).flatMap fun k => ps.getD k [] ++ (hs[k]?).toList
theorem accI_next (ps : List (List Str)) (hs : List Str) (n : Nat) : accI ps hs (n + 1) = accI ps hs n ++ (ps.getD n [] ++ (hs[n]?).toList) := by
  unfold accI
  rw [List.range_succ, List.flatMap_append]
  congr 1
  simp
theorem inter_acc : ∀ (ps : List (List Str)) (hs : List Str), ps.length = hs.length + 1 → inter ps hs = accI ps hs ps.length
  | [], _, h => by simp at h
  | [p], [], _ => by simp [inter, accI]
  | p :: q :: ps, [], h => by simp at h
  | [p], _ :: _, h => by simp at h
  | p :: q :: ps, w :: hs, h => by
    show p ++ w :: inter (q :: ps) hs = _
    rw [inter_acc (q :: ps) hs (by simpa using h)]
    show _ = (List.range ((q :: ps).length + 1)).flatMap _
    rw [List.range_succ_eq_map, List.flatMap_cons, List.flatMap_map]
    show p ++ w :: accI (q :: ps) hs (q :: ps).length = (p ++ [w]) ++ _
    rw [List.append_assoc]
    rfl
theorem cut_at1 (ds : List PyData) (i : Nat) : cutPD ds (some (i : Int)) (some ((i : Int) + 1)) = (ds[i]?).toList := by
  unfold cutPD
  rw [sIx_nn (by omega), sIx_nn (by omega), show ((i : Int)).toNat = i by omega, show ((i : Int) + 1).toNat = i + 1 by omega]
  by_cases h : i < ds.length
  · rw [Nat.min_eq_left (by omega), Nat.min_eq_left (by omega), List.getElem?_eq_getElem h, List.drop_eq_getElem_cons h, show i + 1 - i = 1 by omega]
    rfl
  · rw [List.drop_eq_nil_of_le (show ds.length ≤ min i ds.length by omega), List.take_nil, List.getElem?_eq_none (by omega)]
    rfl
def spMM : Sp := fun us H Q _ => ∃ (X : Addr → Prop) (ws ms vs : List Str) (l r : List Pr), Trk X H ∧ DXs X H us [wsD ws, wsD ms, wsD vs, rowD l, rowD r] ∧ Sok ws ∧ Sok ms ∧ Sok vs ∧ RowOf ws ms l ∧ RowOf ws vs r ∧
  ∀ w H', Same H H' → DX X H' w (mergedR ws ms vs l r) → Q w H'
theorem g_mg {X : Addr → Prop} {σ : L2.St} {H : Hp} {ta : TA} {E : XK} {ws ms vs : List Str} {l r : List Pr} (t : Trk X H) (h : GA X ta σ H [wsD ws, wsD ms, wsD vs, rowD l, rowD r]) (O1 : Sok ws) (O2 : Sok ms) (O3 : Sok vs) (Yl : RowOf ws ms l) (Yr : RowOf ws vs r) : G X (tCall spMG [] E ta) σ H (.tuple [gsD (gapsS ws ms vs l r), .list ((ends l r).map fun e => .int (e.1 : Nat))]) := g_call h fun us H1 s rs Q q =>
  ⟨X, ws, ms, vs, l, r, t.mono s, rs, O1, O2, O3, Yl, Yr, fun w H' s' dw => q w H' s' dw⟩
abbrev s__law_m_merged : Stmt := topS 38
abbrev n__law_m_merged : List Str := ["_law_base", "_law_one", "_law_other", "_law_left", "_law_right", "_law_rows", "_law_held", "_law_found", "_law_at", "_law_old", "_law_mine", "_law_theirs", "_law_place"]
theorem sc__law_m_merged : FnScope n__law_m_merged ["_law_base", "_law_one", "_law_other", "_law_left", "_law_right"] (defScope s__law_m_merged) := ⟨rfl, rfl, rfl, by decide +kernel, rfl, by decide +kernel, by decide +kernel⟩
theorem ok_m_merged {f : Addr} {fd : FuncData} (F : Fun K "_law_m_merged" "_law_m_merged" s__law_m_merged f fd) (T : Bl mg) (O__law_m_gaps : Own P w K mg base CX0 1 "_law_m_gaps" ["_law_base", "_law_one", "_law_other", "_law_left", "_law_right"] spMG) : FnOk P w K mg base CX0 2 f fd ["_law_base", "_law_one", "_law_other", "_law_left", "_law_right"] spMM := by
  refine F.ok sc__law_m_merged (fun vs H Q E h => ?_) (fun cdv A outer s H us Q E hr h => ?_)
  · obtain ⟨X, ws, ms, vs', l, r, t, dx, _⟩ := h
    exact dx.length
  · obtain ⟨X, ws, ms, vs, l, r, t, dx, O1, O2, O3, Yl, Yr, q⟩ := h
    refine ⟨_, (pss_cons (ps_asg (pe_own O__law_m_gaps hr (by decide) (by rfl) (pa_cons (pv 0) (pa_cons (pv 1) (pa_cons (pv 2) (pa_cons (pv 3) (pa_cons (pv 4) pa_nil)))))) (pg_tup (n := 2) rfl (pgs_cons (pg_name (i := 5) sc__law_m_merged.nd rfl (by first | exact Or.inl rfl | exact Or.inr rfl)) (pgs_cons (pg_name (i := 6) sc__law_m_merged.nd rfl (by first | exact Or.inl rfl | exact Or.inr rfl)) pgs_nil))))
    (pss_cons (ps_set (i := 7) sc__law_m_merged.nd rfl (by first | exact Or.inl rfl | exact Or.inr rfl) (pe_lst pa_nil))
    (pss_cons (ps_for PassesOwn.never rfl (pi_enum (by rfl) T.b_enumerate (pa_cons (pv 5) pa_nil)) (pg_tup (n := 2) rfl (pgs_cons (pg_name (i := 8) sc__law_m_merged.nd rfl (by first | exact Or.inl rfl | exact Or.inr rfl)) (pgs_cons (by exact (pg_tup (n := 3) rfl (pgs_cons (pg_name (i := 9) sc__law_m_merged.nd rfl (by first | exact Or.inl rfl | exact Or.inr rfl)) (pgs_cons (pg_name (i := 10) sc__law_m_merged.nd rfl (by first | exact Or.inl rfl | exact Or.inr rfl)) (pgs_cons (pg_name (i := 11) sc__law_m_merged.nd rfl (by first | exact Or.inl rfl | exact Or.inr rfl)) pgs_nil))))) pgs_nil)))
    (pss_cons (ps_if (PW.pt (pw_and (pt_cmpR (op_neD hr.units) (pv 9) (pv 10) (nomark _)) (pw_and (pt_cmpR (op_neD hr.units) (pv 9) (pv 11) (nomark _)) (pw_and1 (pt_cmpR (op_neD hr.units) (pv 10) (pv 11) (nomark _))))))
    (pss_one (ps_ret pe_non)) pss_nil)
    (pss_cons (ps_expr (pe_bm PySem.F.plainAttrs_list PySem.F.slot_list_extend PySem.F.type_list_extend mt_extend (pv 7) (pa_cons (pe_ifExp (pt_cmpR (op_eqD hr.units) (pv 10) (pv 9) (nomark _)) (pv 11) (pv 10)) pa_nil)))
    (pss_one (ps_expr (pe_bm PySem.F.plainAttrs_list PySem.F.slot_list_extend PySem.F.type_list_extend mt_extend (pv 7) (pa_cons (pe_lc (own := [("_law_place", 12)]) (g := (gName 12)) (tt := tYes) rfl sc__law_m_merged.nd (pi_list (pe_slice (sl_lstK (K := K) rfl) (pv 6) (po_some (pv 8)) (po_some (pe_op op_addA (pv 8) pe_int)))) (blkOk_by (N := n__law_m_merged) (sc := defScope s__law_m_merged) (by decide +kernel)) (fun _ _ _ _ _ => (pg_name (i := 12) sc__law_m_merged.nd rfl (by first | exact Or.inl rfl | exact Or.inr rfl))) (fun _ _ _ _ _ => pts_nil) (fun _ _ _ _ _ => (pe_ix (ix_seqK (K := K) rfl) (pv 0) (pv 12) (fun _ _ => rfl)))) pa_nil)))))))
    (pss_one (ps_ret (pv 7)))))), ?_⟩
    have En : EnvOk X H (L2.start n__law_m_merged us) [.dat (wsD ws), .dat (wsD ms), .dat (wsD vs), .dat (rowD l), .dat (rowD r), .un, .un, .un, .un, .un, .un, .un, .un] := envN (N := n__law_m_merged) dx (by rw [dx.length]; exact (by decide : 5 ≤ n__law_m_merged.length))
    have ok := gapsS_ok (l := l) (r := r) (ws := ws) (us := ms) (vs := vs) O1 O2 O3
    have fe : (ends l r).length ≤ 60 := by
      have := ends_few (l := l) (r := r)
      have := Yl.few
      have := O1.1
      omega
    have lg : (gapsS ws ms vs l r).length = (heldS ws l r).length + 1 := by
      unfold gapsS heldS endsN
      rw [gap_len, List.length_append, List.length_map]
      rfl
    have he : ∀ e ∈ ends l r, e.1 < ws.length := fun e h => (Yl.bd _ ((ends_mem Yl.inc Yr.inc).mp h).1).1
    have hh : heldS ws l r = (ends l r).map fun e => wAt ws e.1 := rfl
    refine k_asg (g_mg t (ga_cons (g_var (i := 0) (d := wsD ws) En rfl) (ga_cons (g_var (i := 1) (d := wsD ms) En rfl) (ga_cons (g_var (i := 2) (d := wsD vs) En rfl) (ga_cons (g_var (i := 3) (d := rowD l) En rfl) (ga_cons (g_var (i := 4) (d := rowD r) En rfl) ga_nil))))) O1 O2 O3 Yl Yr H (Same.refl _) _ fun v1 H1 s1 r1 => ?_)
    unfold mergedR at q
    generalize gapsS ws ms vs l r = gs at *
    generalize heldS ws l r = hs at *
    generalize ends l r = es at *
    refine g_pair (i := 5) (j := 6) (d := gsD gs) (e := .list (es.map fun e => .int (e.1 : Nat))) r1 fun u v h5 h6 => ?_
    let Γ (x7 x8 x9 x10 x11 : Sv) : List Sv := [.dat (wsD ws), .un, .un, .un, .un, .dat (gsD gs), .dat (.list (es.map fun e => .int (e.1 : Nat))), x7, x8, x9, x10, x11, .un]
    have E1 : EnvOk X H1 _ (Γ .un .un .un .un .un) := envUn' (envUn' (envUn' (envUn' (((En.same s1).set (i := 5) h5).set (i := 6) h6) 1) 2) 3) 4
    have t1 := t.mono s1
    clear r1
    have lhs : hs.length = es.length := by rw [hh, List.length_map]
    refine k_own (i := 7) E1 t1 (gn_lst t1 ga_nil (by simp)) fun Fo H4 xs4 hF s4 h4 x4 E4 t4 => ?_
    have nX : ¬ X Fo := t1.new hF
    let X' : Addr → Prop := fun b => X b ∨ b = Fo
    have E4 : EnvOk X' H4 _ (Γ (.val (.ref Fo)) .un .un .un .un) := E4
    have lgd : (enumD (gs.map gD)).length = gs.length := by rw [enumD_len, List.length_map]
    have flen : ∀ n, n ≤ gs.length → (∀ g ∈ gs.take n, (givenS g).isSome) → (accI (gs.map fun g => (givenS g).getD []) hs n).length ≤ 61 * n := by
      intro n
      induction n with
      | zero => intro _ _; simp [accI]
      | succ n ih =>
        intro h1 h2
        have i2 := ih (by omega) fun g hg => h2 g (by rw [List.take_add_one]; exact List.mem_append_left _ hg)
        rw [accI_next, List.length_append, List.length_append]
        have e : (gs.map fun g => (givenS g).getD []).getD n [] = (givenS gs[n]).getD [] := by
          rw [List.getD_eq_getElem?_getD, List.getElem?_map, List.getElem?_eq_getElem (by omega)]
          rfl
        have hm : gs[n] ∈ gs := List.getElem_mem _
        obtain ⟨y, hy⟩ := Option.isSome_iff_exists.mp (h2 gs[n] (List.mem_take_iff_getElem.mpr ⟨n, by omega, rfl⟩))
        have := (given_ok (ok _ hm) hy).1
        rw [e, hy]
        have : (hs[n]?).toList.length ≤ 1 := by cases hs[n]? <;> simp
        show _ + (y.length + _) ≤ _
        omega
    refine s_forD (X := X') (gi_enum (g_var (i := 5) (d := gsD gs) E4 rfl)) (fun Hb i σ' H' => Kp X' Hb H' ∧ Trk X' H' ∧ Same H1 H' ∧ (∀ g ∈ gs.take i, (givenS g).isSome) ∧ ∃ ys, H' Fo = some (.lst ys) ∧ DXs X' H' ys ((accI (gs.map fun g => (givenS g).getD []) hs i).map PyData.str) ∧ EnvOk X' H' σ' (Γ (.val (.ref Fo)) .un .un .un .un)) ?_ ?_ ?_ ?_
    · intro Hb sb
      cases x4
      exact ⟨Kp.refl, t4.mono sb, s4.trans sb, fun g hg => by simp at hg, [], sb _ _ h4, .nil, E4.same sb⟩
    · rintro Hb i σ' H' ⟨p1, p2, _⟩
      exact ⟨p1, p2⟩
    · rintro Hb i x d σ' H' H'' sb hd ⟨p1, p2, p3, pg, ys, p4, p5, E7⟩ s7 dx
      have hi := (List.getElem?_eq_some_iff.mp hd).1
      rw [lgd] at hi
      rw [enumD_get (d := gD gs[i]) (by rw [List.getElem?_map, List.getElem?_eq_getElem hi]; rfl)] at hd
      cases hd
      have og := ok gs[i] (List.getElem_mem hi)
      have eg : gs[i]? = some gs[i] := List.getElem?_eq_getElem hi
      obtain ⟨ap, xs, rfl, np, ea, rx⟩ := DX.tup_inv (ds := [.int (i : Int), gD gs[i]]) dx
      cases rx with
      | cons h8 rx =>
        cases rx with
        | cons h9 rx =>
          cases rx
          generalize gs[i] = g at *
          obtain ⟨old, mine, theirs⟩ := g
          obtain ⟨oa, ob, oc⟩ := og
          refine ⟨ap, _, rfl, SqT.of ea, rfl, _, _, rfl, _, _, rfl, g_triple (d := wsD old) (e := wsD mine) (f := wsD theirs) h9 fun u w z r9 r10 r11 => ⟨rfl, ?_⟩⟩
          have t8 := p2.mono s7
          have E8 : EnvOk X' H'' _ (Γ (.val (.ref Fo)) (.dat (.int (i : Int))) (.dat (wsD old)) (.dat (wsD mine)) (.dat (wsD theirs))) := ((((E7.same s7).set (i := 8) h8).set (i := 9) r9).set (i := 10) r10).set (i := 11) r11
          have ga : G X' (tVar 9) _ H'' (wsD old) := g_var (i := 9) E8 rfl
          have gb : G X' (tVar 10) _ H'' (wsD mine) := g_var (i := 10) E8 rfl
          have gc : G X' (tVar 11) _ H'' (wsD theirs) := g_var (i := 11) E8 rfl
          have nw : ∀ {σ2 : L2.St} {a b : List Str} {ta tb : TE}, G X' ta σ2 H'' (wsD a) → G X' tb σ2 H'' (wsD b) → Sok a → Sok b → GT (tTest (tOp (rNeD K) ta tb)) σ2 H'' (!decide (a = b)) := fun {σ2 a b ta tb} ha hb sa sb => gt_is (gt_neD t8 ha hb (noDict_strs a) (noDict_strs b) (shaped_strs sa.2) (shaped_strs sb.2)) (by rw [ws_eqv])
          refine q_if (b := !decide (old = mine) && (!decide (old = theirs) && !decide (mine = theirs))) (gt_and (nw ga gb oa ob) fun _ => gt_and (nw ga gc oa oc) fun _ => nw gb gc ob oc) (fun hb H9 s9 => ?_) fun hb H9 s9 => ?_
          · simp only [Bool.and_eq_true, Bool.not_eq_true', decide_eq_false_iff_not] at hb
            have e1 : givenS (old, mine, theirs) = none := (if_neg (fun z => hb.1 z.symm)).trans (if_neg fun z => z.elim (fun y => hb.2.1 y.symm) fun y => hb.2.2 y.symm)
            have e : mergeS gs hs = none := if_neg fun h => by
              have := List.all_eq_true.mp h _ (List.mem_of_getElem? eg)
              rw [e1] at this
              cases this
            rw [e] at q
            exact s_ret (X := X) (d := .none) g_non fun w HA sA dw => q w HA ((((s1.trans p3).trans s7).trans s9).trans sA) dw
          have hb' : old = mine ∨ old = theirs ∨ mine = theirs := by
            by_cases c1 : old = mine
            · exact .inl c1
            · by_cases c2 : old = theirs
              · exact .inr (.inl c2)
              · by_cases c3 : mine = theirs
                · exact .inr (.inr c3)
                · rw [decide_eq_false c1, decide_eq_false c2, decide_eq_false c3] at hb
                  cases hb
          have e1 : givenS (old, mine, theirs) = some (if mine = old then theirs else mine) := by
            show (if mine = old then some theirs else if theirs = old ∨ theirs = mine then some mine else none) = _
            by_cases c : mine = old
            · rw [if_pos c, if_pos c]
            · rw [if_neg c, if_neg c, if_pos]
              rcases hb' with h | h | h
              · exact absurd h.symm c
              · exact .inl h.symm
              · exact .inr h.symm
          have t9 := t8.mono s9
          have E9 := E8.same s9
          have pg' : ∀ g ∈ gs.take (i + 1), (givenS g).isSome := fun g hg => by
            rw [List.take_add_one, eg] at hg
            rcases List.mem_append.mp hg with hg | hg
            · exact pg g hg
            · rw [List.mem_singleton.mp hg, e1]
              rfl
          have eps : (gs.map fun g => (givenS g).getD []).getD i [] = if mine = old then theirs else mine := by
            rw [List.getD_eq_getElem?_getD, List.getElem?_map, eg]
            show (givenS (old, mine, theirs)).getD [] = _
            rw [e1]
            rfl
          have la := flen i (by omega) pg
          have so : Sok (if mine = old then theirs else mine) := by
            by_cases c : mine = old
            · rw [if_pos c]; exact oc
            · rw [if_neg c]; exact ob
          refine q_extend (i := 7) (L := Fo) (es := (if mine = old then theirs else mine).map PyData.str) E9 rfl (.inr rfl) t9 (s9 _ _ (s7 _ _ p4)) ((p5.mono (Kp.of s7)).mono (Kp.of s9)) (g_if (b := decide (mine = old)) (gt_ws t9 (g_var (i := 10) (d := wsD mine) E9 rfl) (g_var (i := 9) (d := wsD old) E9 rfl) ob oa) (fun c => by
            rw [decide_eq_true_iff] at c
            rw [if_pos c]
            exact g_var (i := 11) (d := wsD theirs) E9 rfl) (fun c => by
            rw [decide_eq_false_iff_not] at c
            rw [if_neg c]
            exact g_var (i := 10) (d := wsD mine) E9 rfl)) (by rw [List.length_map, List.length_map]; have := so.1; omega) fun HA ysA hA xA EA tA kA => ?_
          generalize (if mine = old then theirs else mine) = giv at *
          have kxA : Kp X' H9 HA := fun a o n z => kA a o (fun y => n (.inr y)) z
          have gs2 : G X' (tSl (rSlL K) (tVar 6) (tPart (tVar 8)) (tPart (tOp rAddA (tVar 8) (tC (.int 1))))) _ HA (.list ((es[i]?).toList.map fun e => .int (e.1 : Nat))) := g_is (g_sl (K := K) tA (g_var (i := 6) (d := .list (es.map fun e => .int (e.1 : Nat))) EA rfl) (go_some (g_var (i := 8) (d := .int (i : Int)) EA rfl)) (go_some (g_addI tA (g_var (i := 8) (d := .int (i : Int)) EA rfl) g_int))) (by rw [cut_at1, List.getElem?_map]; cases es[i]? <;> rfl)
          refine k_drop1 (q_extend (i := 7) (L := Fo) (es := (hs[i]?).toList.map PyData.str) (tz := tNext) EA rfl (.inr rfl) tA hA xA (g_is (g_lc1 (ds := (es[i]?).toList.map fun e => .int (e.1 : Nat)) (Γ2 := fun z => (Γ (.val (.ref Fo)) (.dat (.int (i : Int))) (.dat (wsD old)) (.dat (wsD mine)) (.dat (wsD theirs))).set 12 (.dat z)) (fun z => .str (wAt ws (nzD z))) tA (gi_list gs2) (by rw [List.length_map]; cases es[i]? <;> simp) (fun H3 s3 z hz => tgt_name (EA.same s3)) (fun X2 H3 σ2 z hz t3 E3 => ?_)) ?_) (by have h1 : (hs[i]?).toList.length ≤ 1 := (by cases hs[i]? <;> simp); have h2 := so.1; rw [List.length_append, List.length_map, List.length_map, List.length_map]; omega) fun HC ysC hC xC EC tC kC => ?_)
          · obtain ⟨e, hm, rfl⟩ := List.mem_map.mp hz
            have e0 : nzD (.int (e.1 : Nat)) = e.1 := by show ((e.1 : Nat) : Int).toNat = e.1; omega
            rw [e0]
            have hb := he e (by
              rw [Option.mem_toList] at hm
              exact List.mem_of_getElem? hm)
            exact g_ix t3 (g_var (i := 0) (d := wsD ws) E3 rfl) rfl (g_var (i := 12) (d := .int (e.1 : Nat)) E3 rfl) (atI_nat (by show (ws.map PyData.str)[e.1]? = _; rw [List.getElem?_map, List.getElem?_eq_getElem hb]; unfold wAt; rw [List.getD_eq_getElem?_getD, List.getElem?_eq_getElem hb]; rfl))
          · rw [hh, List.getElem?_map, List.map_map]
            cases es[i]? with
            | none => rfl
            | some e =>
              show PyData.list [PyData.str (wAt ws ((e.1 : Nat) : Int).toNat)] = .list [.str (wAt ws e.1)]
              rw [show ((e.1 : Nat) : Int).toNat = e.1 by omega]
          have kxC : Kp X' HA HC := fun a o n z => kC a o (fun y => n (.inr y)) z
          refine ⟨(((p1.trans (Kp.of s7)).trans (Kp.of s9)).trans kxA).trans kxC, tC, fun a o z => ?_, pg', ysC, hC, ?_, envUn' (envUn' (envUn' (envUn' EC 8) 9) 10) 11⟩
          · have n1 : a ≠ Fo := fun y => by rw [y, hF] at z; cases z
            exact kC a o n1 (kA a o n1 (s9 a o (s7 a o (p3 a o z))))
          · rw [accI_next, eps, List.map_append, List.map_append, ← List.append_assoc]
            exact xC
    · rintro Hb σ' H' sb ⟨p1, p2, p3, pg, ys, p4, p5, E7⟩
      rw [lgd] at p5 pg
      rw [List.take_length] at pg
      have e : mergeS gs hs = some (accI (gs.map fun g => (givenS g).getD []) hs gs.length) := by
        refine (if_pos (List.all_eq_true.mpr pg)).trans ?_
        rw [inter_acc _ _ (by rw [List.length_map]; exact lg), List.length_map]
      rw [e] at q
      have E8 := EnvOk.give (i := 7) E7 rfl nX p4 p5
      exact s_ret (X := X) (D := { nx := fun _ H' => Q .non H', rt := Q }) (d := wsD (accI (gs.map fun g => (givenS g).getD []) hs gs.length)) (g_var (i := 7) E8 rfl) fun w H9 s9 dw => q w H9 ((s1.trans p3).trans s9) dw
end K56

/-! A comprehension whose test draws. -/
namespace K56
open PySem PySem.Spec PyProof.Rows L2 KD
variable {K : PySem.W.Frag}
section
variable {X : Addr → Prop} {H : Hp} {σ : L2.St} {Γ : List Sv} {st cl : Addr} {n : Nat} {ta tb tc te : TE} {E : XK} {d : PyData} {Q : VK} {tz tu : TS} {D : Ends} {tt : TT}
theorem walkD_list {a : Addr} {ds : List PyData} (hd : DX X H (.ref a) (.list ds)) : WalkD X (Itl K a) H ds := by
  obtain ⟨a', xs, ea, n, e, rx⟩ := hd.lst_inv
  cases ea
  refine ⟨_, _, by rw [← rx.length]; exact walk_list, fun X' m H3 k t => ?_⟩
  have n' : ¬ X' a := fun z => (m a z).elim n fun q => by rw [e] at q; cases q
  refine ⟨SqL.of (k a _ n' e), fun i x H4 y => ?_⟩
  obtain ⟨rfl, hx⟩ := y
  obtain ⟨d, h1, h2⟩ := rx.getV hx
  exact ⟨Same.refl _, d, h1, (h2.grow m).mono k⟩
theorem k_lcL {g : TG} {us : List Nat} (h : te σ H fun v H1 => ∃ a, v = .ref a ∧ (∃ zs, SqL K H1 a zs) ∧ tLc (fun _ H2 R => R (Itl K a) H2) g tt tb us σ H1 Q) : tLc (iList K te) g tt tb us σ H Q := h
theorem lc_drawsF {i c : Nat} {a : Addr} {ds : List PyData} (S : Sg X st cl n H) (En : EnvOk X H σ Γ) (hd : DX X H (.ref a) (.list ds)) (hl : ds.length ≤ 1000) (hi : i < Γ.length)
    (ht : ∀ X' H1 σ2 k d Q1, ds[k]? = some d → EnvOk X' H1 σ2 ((Γ.set i .un).set i (.dat d)) → Sg X' st cl (n + c * k) H1 → (∀ b H', Sg X' st cl (n + c * k + c) H' → KpS st cl H1 H' → Q1 b H') → tt σ2 H1 Q1)
    (q : ∀ w es H', es.Sublist ds → Sg X st cl (n + c * ds.length) H' → KpS st cl H H' → DX X H' w (.list es) → Nw H w → Q w H') : tLc (fun _ H2 R => R (Itl K a) H2) (gName i) tt (tVar i) [i] σ H Q := by
  intro D hD
  have m2 : More X (fun a => X a ∨ a = D) H := More.one hD
  have d1 := S.ne1 hD
  have d2 := S.ne2 hD
  obtain ⟨Gd, Y, w1, w2⟩ := walkD_list (K := K) hd
  let I : Nat → Hp → Prop := fun k H3 => KpS st cl H H3 ∧ Sg (fun a => X a ∨ a = D) st cl (n + c * k) H3 ∧ ∃ acc es, H3 D = some (.lst acc) ∧ DXs (fun a => X a ∨ a = D) H3 acc es ∧ es.Sublist (ds.take k)
  have ik : ∀ {k H3}, I k H3 → Kp (fun a => X a ∨ a = D) H H3 ∧ Trk (fun a => X a ∨ a = D) H3 := fun {k H3} p => ⟨p.1.kp (.inl S.x1) (.inl S.x2), p.2.1.t⟩
  refine lc_it w1 I ?_ (fun i H3 _ p => (w2 _ m2.2 H3 (ik p).1 (ik p).2).1) ?_ ?_
  · exact ⟨KpS.of (Same.upd hD), ⟨(S.ok).same (Same.upd hD), .inl S.x1, .inl S.x2, S.t.one hD⟩, [], [], upd_same, .nil, List.nil_sublist _⟩
  · rintro k x H3 H4 hk p y
    obtain ⟨s4, d, hdk, dx⟩ := (w2 _ m2.2 H3 (ik p).1 (ik p).2).2 k x H4 y
    obtain ⟨p1, p2, acc, es, p3, p4, p5⟩ := p
    have S4 := p2.same s4
    have k4 : Kp (fun a => X a ∨ a = D) H H4 := (p1.kp (.inl S.x1) (.inl S.x2)).trans (Kp.of s4)
    refine tgt_name (X := X) (i := i) En _ H4 m2 k4 S4.t x dx _ fun σ2 E2 hw => ⟨hw, ?_⟩
    have etake : ds.take (k + 1) = ds.take k ++ [d] := by rw [List.take_succ, hdk]; rfl
    refine ht _ H4 σ2 k d _ hdk E2 S4 fun b H5 S5 k5 => ?_
    have k35 : KpS st cl H3 H5 := (KpS.of s4).trans k5
    have p15 : KpS st cl H H5 := p1.trans k35
    have p35 : H5 D = some (.lst acc) := k35 D _ d1 d2 p3
    have p45 := p4.mono (p2.kp k35)
    have lacc : acc.length ≤ 1000 := by
      rw [p4.length]
      exact Nat.le_trans p5.length_le (by rw [List.length_take]; omega)
    cases b with
    | true =>
      refine iteT ?_
      have E5 := E2.kps S4 k5
      have he : ((Γ.set i .un).set i (.dat d))[i]? = some (.dat d) := by rw [List.getElem?_set_self (by rw [List.length_set]; exact hi)]
      refine g_var (i := i) E5 he H5 (Same.refl _) _ fun v H6 s6 r6 => ?_
      refine ⟨acc, s6 D _ p35, by rw [sizeLine_eq]; omega, ?_, ?_, acc ++ [v], es ++ [d], upd_same, ?_, ?_⟩
      · exact fun a o n1 n2 e => by
          have := s6 a _ (p15 a o n1 n2 e)
          rw [upd_ne (ne_of_none e hD)]
          exact this
      · rw [Nat.mul_succ, ← Nat.add_assoc]
        exact (S5.same s6).put d1 d2
      · exact ((p45.mono (Kp.of s6)).snoc r6).mono (Kp.put (.inr rfl))
      · rw [etake]
        exact List.Sublist.append p5 (List.Sublist.refl _)
    | false =>
      refine iteF ?_
      refine ⟨p15, by rw [Nat.mul_succ, ← Nat.add_assoc]; exact S5, acc, es, p35, p45, ?_⟩
      rw [etake]
      exact p5.trans (List.sublist_append_left _ _)
  · rintro H3 ⟨p1, p2, acc, es, p3, p4, p5⟩
    rw [List.take_length] at p5
    have nXD : ¬ X D := S.t.new hD
    exact q (.ref D) es H3 p5 ⟨p2.ok, S.x1, S.x2, fun a h => p2.t a (.inl h)⟩ p1 (.lst nXD p3 (p4.less fun a => .inl)) (Nw.of hD)
end
end K56

/-! Texts turned round, texts of one word. -/
namespace K56
open PySem PySem.Spec PyProof.Rows L2 KD KL
-- RAISES check_texts is_common_row common_row _law_turned_right
variable {P : Program} {w : World} {K : PySem.W.Frag} {mg : Str → Option Value} {base : Heap}
/-! ### words -/
def Wd (s : Str) : Prop := isWordsD (.str s) = true ∧ PyData.strOk s = true
theorem Wd.pre {s : Str} (h : Wd s) : wordsPre (.str s) := by
  have h := h.1
  simp only [isWordsD, Bool.and_eq_true, decide_eq_true_eq] at h
  show s.length ≤ 1000000
  omega
theorem ff_all : ∀ {ds : List PyData} {i : Nat}, (∀ z ∈ ds, isWordsD z = true) → ffD i (ds.map fun z => .bool (isWordsD z)) = .none
  | [], _, _ => rfl
  | d :: r, i, h => by
    rw [List.map_cons, h d List.mem_cons_self, ff_true]
    exact ff_all fun z hz => h z (List.mem_cons_of_mem _ hz)
theorem wrong_none {d : PyData} {ws : List Str} (hs : isSeq d = true) (hi : itemsD d = ws.map PyData.str) (h : ∀ s ∈ ws, Wd s) : isNone (wrongD d) = true := by
  unfold wrongD
  rw [if_pos hs, hi, ff_all fun z hz => by
    obtain ⟨s, hs, rfl⟩ := List.mem_map.mp hz
    exact (h s hs).1]
  rfl
theorem words_all {d : PyData} {ws : List Str} (hi : itemsD d = ws.map PyData.str) (h : ∀ s ∈ ws, Wd s) (hl : ws.length ≤ 100000) : wordsAll d := fun _ => ⟨by rw [hi, List.length_map]; exact hl, fun z hz => by
  rw [hi] at hz
  obtain ⟨s, hs, rfl⟩ := List.mem_map.mp hz
  exact (h s hs).pre⟩
structure Tx (ws : List Str) : Prop where
  few : ws.length ≤ 60
  wd : ∀ s ∈ ws, Wd s
theorem Tx.txt {ws : List Str} (h : Tx ws) : Txt (wsD ws) ws := ⟨rfl, rfl, h.few, fun z hz => (h.wd z hz).2⟩
theorem Tx.txtT {ws : List Str} (h : Tx ws) : Txt (.tuple (ws.map PyData.str)) ws := ⟨rfl, rfl, h.few, fun z hz => (h.wd z hz).2⟩
theorem Tx.good {ws : List Str} {d : PyData} (h : Tx ws) (T : Txt d ws) : Good d := ⟨wrong_none T.seq T.its h.wd, words_all T.its h.wd (by have := h.few; omega)⟩
theorem Tx.ok {ws : List Str} (h : Tx ws) : WsOk ws := ⟨by have := h.few; omega, fun z hz => (h.wd z hz).2⟩
/-! ### a common row, read -/
def comR (ws vs : List Str) : List Pr := rowG (Mw ws vs) ws.length vs.length (L (Mw ws vs) ws.length vs.length)
theorem comR_is (ws vs : List Str) : Gone (Mw ws vs) ws.length vs.length (L (Mw ws vs) ws.length vs.length) (comR ws vs) := gone_row _ (Nat.le_refl _)
theorem gn_common {X : Addr → Prop} {σ : L2.St} {H : Hp} {ta tb : TE} {E : XK} {d1 d2 : PyData} {ws vs : List Str} (t : Trk X H) (n : NoT X H) (x1 : Tx ws) (x2 : Tx vs) (T1 : Txt d1 ws) (T2 : Txt d2 vs) (h1 : G X ta σ H d1) (h2 : G X tb σ H d2) : GN X (tCall spCommon [] E (tCons ta (tCons tb tNil))) σ H (rowD (comR ws vs)) := fun H1 s Q q =>
  h1 H1 s _ fun v H2 s2 r1 => h2 H2 (s.trans s2) _ fun v2 H3 s3 r2 => ⟨X, v, v2, d1, d2, ws, vs, rfl, ((t.mono s).mono s2).mono s3, n.mono t ((s.trans s2).trans s3), r1.mono (Kp.of s3), r2, T1, T2, x1.good T1, x2.good T2, fun w H' s' dw nw => q w H' ((s2.trans s3).trans s') dw (nw.back (s2.trans s3))⟩
theorem NoT.kps {X : Addr → Prop} {st cl : Addr} {n m : Nat} {H H' : Hp} (nt : NoT X H) (S : Sg X st cl n H) (S' : Sg X st cl m H') (k : KpS st cl H H') : NoT X H' := fun a ha xs e => by
  obtain ⟨ms, x, y, z, SS, _⟩ := S'.ok
  by_cases h1 : a = st
  · rw [h1, SS.hs] at e
    cases e
  by_cases h2 : a = cl
  · rw [h2, SS.hc] at e
    cases e
  obtain ⟨o, ho⟩ := S.t a ha
  have := k a o h1 h2 ho
  rw [e] at this
  cases this
  exact nt a ha xs ho
theorem g_ofN {X : Addr → Prop} {te : TE} {σ : L2.St} {H : Hp} {d : PyData} (h : GN X te σ H d) : G X te σ H d := h.g
/-! ### words that are numbered -/
def tS (i : Nat) : Str := (toString ((i : Nat) : Int) : String)
def ww (i : Nat) : Str := ("w" : Str) ++ tS i
theorem ww_wd : ∀ i, i < 61 → isWordsD (.str (ww i)) = true ∧ PyData.strOk (ww i) = true := by decide +kernel
theorem ww_ne : ∀ i, i < 61 → ∀ j, j < 61 → ww i = ww j → i = j := by decide +kernel
theorem tS_short : ∀ i, i < 61 → (tS i).length ≤ 3 ∧ ((i : Nat) : Int).natAbs.log2 < 1920 := by decide +kernel
def one (n : Nat) : List Str := (List.range n).map ww
theorem one_len (n : Nat) : (one n).length = n := by unfold one; rw [List.length_map, List.length_range]
theorem one_at {n i : Nat} (h : i < n) : (one n)[i]? = some (ww i) := by
  unfold one
  rw [List.getElem?_map, List.getElem?_range h]
  rfl
theorem tx_one {n : Nat} (h : n ≤ 60) : Tx (one n) := ⟨by rw [one_len]; exact h, fun s hs => by
  unfold one at hs
  obtain ⟨i, hi, rfl⟩ := List.mem_map.mp hs
  have := List.mem_range.mp hi
  exact ww_wd i (by omega)⟩
def two (n a : Nat) : List Str := (one n).drop a ++ (one n).take a
theorem two_len {n a : Nat} (h : a ≤ n) : (two n a).length = n := by
  unfold two
  rw [List.length_append, List.length_drop, List.length_take, one_len]
  omega
theorem two_at {n a j : Nat} (h : a ≤ n) (hj : j < n) : (two n a)[j]? = some (ww (if j < n - a then j + a else j - (n - a))) := by
  unfold two
  by_cases h1 : j < n - a
  · rw [if_pos h1, List.getElem?_append_left (by rw [List.length_drop, one_len]; exact h1), List.getElem?_drop, one_at (by omega), Nat.add_comm]
  · rw [if_neg h1, List.getElem?_append_right (by rw [List.length_drop, one_len]; omega), List.length_drop, one_len, List.getElem?_take, if_pos (by omega), one_at (by omega)]
theorem tx_two {n a : Nat} (h : n ≤ 60) (ha : a ≤ n) : Tx (two n a) := ⟨by rw [two_len ha]; exact h, fun s hs => by
  unfold two at hs
  rcases List.mem_append.mp hs with hs | hs
  · exact (tx_one h).wd s (List.mem_of_mem_drop hs)
  · exact (tx_one h).wd s (List.mem_of_mem_take hs)⟩
theorem wAt_at {ws : List Str} {i : Nat} {s : Str} (h : ws[i]? = some s) : wAt ws i = s := by
  unfold wAt
  rw [List.getD_eq_getElem?_getD, h]
  rfl
theorem L_two {n a : Nat} (h : n ≤ 60) (ha : a ≤ n) : L (Mw (one n) (two n a)) n n = max (n - a) a := L_turned ha fun i j hi hj => by
  unfold Mw
  rw [wAt_at (one_at hi), wAt_at (two_at ha hj), decide_eq_true_iff]
  constructor
  · intro e
    have : (if j < n - a then j + a else j - (n - a)) < 61 := by split <;> omega
    exact (ww_ne _ this i (by omega) e).symm
  · intro e
    rw [← e]
def xs (n : Nat) : List Str := List.replicate n ("x" : Str)
theorem xs_len (n : Nat) : (xs n).length = n := List.length_replicate
theorem wd_x : Wd ("x" : Str) := by
  constructor <;> decide +kernel
theorem tx_xs {n : Nat} (h : n ≤ 60) : Tx (xs n) := ⟨by rw [xs_len]; exact h, fun s hs => by rw [(List.mem_replicate.mp hs).2]; exact wd_x⟩
theorem L_xs (n m : Nat) : L (Mw (xs n) (xs m)) n m = min n m := L_all fun i j hi hj => by
  unfold Mw xs
  rw [wAt_at (s := "x") (by rw [List.getElem?_replicate, if_pos hj]), wAt_at (s := "x") (by rw [List.getElem?_replicate, if_pos hi])]
  exact decide_eq_true rfl
section
variable {X : Addr → Prop} {σ : L2.St} {H : Hp} {te ta tb : TE}
theorem g_xs {n : Nat} (t : Trk X H) (hn : n ≤ 1000) (h : G X tb σ H (.int (n : Int))) : G X (tOp rMulA (tLst (tCons (tC (.str "x")) tNil)) tb) σ H (wsD (xs n)) := by
  refine g_is (g_op t (g_lst t (ga_cons g_str ga_nil) (by simp)) h (RD.or2 (rd_rep (by omega) (by omega) (by simp; omega)))) ?_
  show PyData.list (List.replicate ((n : Int)).toNat [PyData.str "x"]).flatten = PyData.list ((List.replicate n ("x" : Str)).map PyData.str)
  rw [show ((n : Int)).toNat = n by omega, List.map_replicate]
  congr 1
  clear h hn t
  induction n with
  | zero => rfl
  | succ n ih =>
    rw [List.replicate_succ, List.flatten_cons, ih, List.replicate_succ]
    rfl
theorem g_strI {i : Nat} (hi : i < 61) (h : G X te σ H (.int (i : Int))) : G X (tCB (fun xs H Q => ∃ i, xs = [V.int i] ∧ i.natAbs.log2 < 1920 ∧ Q (.str (toString i : String)) H) (tCons te tNil)) σ H (.str (tS i)) := fun H1 s Q q =>
  h H1 s _ fun v H2 s2 r => ⟨(i : Int), by rw [r.int_inv], (tS_short i hi).2, q _ H2 s2 (.str _)⟩
theorem g_addS {a b : Str} (t : Trk X H) (ha : G X ta σ H (.str a)) (hb : G X tb σ H (.str b)) (hl : a.length + b.length ≤ 1000000) : G X (tOp rAddA ta tb) σ H (.str (a ++ b)) := g_op t ha hb (RD.or2 (RD.or2 (rd_addS hl)))
theorem cut_frm (ws : List PyData) {a : Nat} : cutPD ws (some (a : Int)) none = ws.drop a := by
  show (ws.drop (HT.sIx ws.length 0 (some (a : Int)))).take (HT.sIx ws.length ws.length none - HT.sIx ws.length 0 (some (a : Int))) = _
  rw [sIx_nn (by omega)]
  show (ws.drop (min ((a : Int)).toNat ws.length)).take (ws.length - min ((a : Int)).toNat ws.length) = ws.drop a
  rw [show ((a : Int)).toNat = a by omega, List.take_of_length_le (by rw [List.length_drop]; exact Nat.le_refl _)]
  by_cases h : a ≤ ws.length
  · rw [Nat.min_eq_left h]
  · rw [Nat.min_eq_right (by omega), List.drop_length, List.drop_eq_nil_of_le (by omega)]
theorem g_max2 {i j : Int} (t : Trk X H) (ha : G X ta σ H (.int i)) (hb : G X tb σ H (.int j)) : G X (tCB (fun xs H Q => ∃ i j, xs = [V.int i, V.int j] ∧ Q (.int (if j > i then j else i)) H) (tCons ta (tCons tb tNil))) σ H (.int (if j > i then j else i)) := fun H1 s Q q =>
  ha H1 s _ fun v H2 s2 r => hb H2 (s.trans s2) _ fun v2 H3 s3 r2 => ⟨i, j, by rw [r.int_inv, r2.int_inv], q _ H3 (s2.trans s3) (.int _)⟩
theorem g_rowLen {r : List Pr} (t : Trk X H) (h : G X te σ H (rowD r)) : G X (tCB (fun xs H Q => ∃ x n, xs = [x] ∧ LenV K x H n ∧ Q (V.int n) H) (tCons te tNil)) σ H (.int (r.length : Int)) := g_is (g_len t h rfl) (by show PyData.int ((r.map prD).length : Int) = _; rw [List.length_map])
end
def spTR : Sp := fun us H Q _ => ∃ (X : Addr → Prop) (st cl : Addr) (n : Nat), us = [.ref st] ∧ Sg X st cl n H ∧ NoT X H ∧ n + 1000 ≤ 1000000000 ∧ ∀ H', Sg X st cl (n + 3) H' → KpS st cl H H' → Q (.bl true) H'
end K56

/-! Rows that are drawn. -/
namespace K56
open PySem PySem.Spec PyProof.Rows L2 KD KL
-- RAISES check_texts is_common_row common_row check_rows gaps merged
variable {P : Program} {w : World} {K : PySem.W.Frag} {mg : Str → Option Value} {base : Heap}
theorem row_all {ws vs : List Str} {r : List Pr} : r ∈ longestL ws vs ↔ Ch (Mw ws vs) r ∧ Bd ws.length vs.length r ∧ r.length = L (Mw ws vs) ws.length vs.length := by
  have hps : ∀ p : Pr, p ∈ matchL ws vs ↔ (p.1 < ws.length ∧ p.2 < vs.length ∧ Mw ws vs p.1 p.2 = true) := psL_mem
  exact ⟨fun h => rows_sound hps _ _ h, fun h => rows_full hps _ _ h.1 h.2.1 h.2.2⟩
theorem com_mem (ws vs : List Str) : comR ws vs ∈ longestL ws vs := row_all.mpr ⟨(comR_is ws vs).ch, (comR_is ws vs).bd, (comR_is ws vs).len⟩
theorem rows_most {ws vs : List Str} (h1 : ws.length ≤ 7) (h2 : vs.length ≤ 7) : (longestL ws vs).length ≤ 3432 := by
  have h := rows_many (M := Mw ws vs) (n := ws.length) (m := vs.length) (L (Mw ws vs) ws.length vs.length)
  have h3 := S_left ws.length vs.length 7 7 h1 h2
  rw [S_seven] at h3
  show (rowsOf (psL (Mw ws vs) ws.length vs.length) _).length ≤ 3432
  omega
section
variable {σ : L2.St} {H : Hp} {tz tu : TS} {D : Ends} {te : TE} {tt : TT}
theorem k_test {Q' : Bool → Hp → Prop} (h : te σ H fun v H1 => ∃ k, v = .bl k ∧ Q' k H1) : tTest te σ H Q' := h
theorem k_ifT {tt : TT} (h : tt σ H fun b H1 => if b = true then tu { D with nx := tz D } σ H1 else tz D σ H1) : tSeq (tIfS tt tu tNext) tz D σ H := h
end
/-- a row of two texts -/
structure Rox (ws vs : List Str) (r : List Pr) : Prop where
  ro : RowOf ws vs r
  ms : ∀ p ∈ r, Mw ws vs p.1 p.2 = true
theorem Rox.of {ws vs : List Str} {r : List Pr} (h : r ∈ longestL ws vs) : Rox ws vs r := by
  obtain ⟨h1, h2, h3⟩ := row_all.mp h
  exact ⟨⟨h1.1, fun p hp => h2 p hp⟩, fun p hp => h1.2 p hp⟩
theorem Rox.sub {ws vs : List Str} {r m : List Pr} (h : Rox ws vs m) (s : r.Sublist m) : Rox ws vs r := ⟨⟨h.ro.inc.sublist s, fun p hp => h.ro.bd p (s.subset hp)⟩, fun p hp => h.ms p (s.subset hp)⟩
theorem sub_row : ∀ {es : List PyData} {m : List Pr}, es.Sublist (m.map prD) → ∃ r : List Pr, es = r.map prD ∧ r.Sublist m := fun {es m} h => by
  obtain ⟨r, h1, h2⟩ := List.sublist_map_iff.mp h
  exact ⟨r, h2, h1⟩
def spSomeRow : Sp := fun us H Q _ => ∃ (X : Addr → Prop) (st cl : Addr) (n : Nat) (v1 v2 : V) (ws vs : List Str), us = [.ref st, v1, v2] ∧ Sg X st cl n H ∧ n + 100 ≤ 1000000000 ∧ DX X H v1 (wsD ws) ∧ DX X H v2 (wsD vs) ∧ ws.length ≤ 7 ∧ vs.length ≤ 7 ∧ WsOk ws ∧ WsOk vs ∧
  ∀ w r H', Rox ws vs r → Sg X st cl (n + 10) H' → KpS st cl H H' → DX X H' w (rowD r) → Q w H'
abbrev s__law_some_row : Stmt := topS 44
abbrev n__law_some_row : List Str := ["_law_stream", "_law_one", "_law_other", "_law_row", "_law_pair"]
theorem sc__law_some_row : FnScope n__law_some_row ["_law_stream", "_law_one", "_law_other"] (defScope s__law_some_row) := ⟨rfl, rfl, rfl, by decide +kernel, rfl, by decide +kernel, by decide +kernel⟩
theorem ok_some_row {f : Addr} {fd : FuncData} (F : Fun K "_law_some_row" "_law_some_row" s__law_some_row f fd) (T : Bl mg) (O__law_draw : Own P w K mg base CX0 1 "_law_draw" ["_law_stream", "_law_many"] spDraw) (O__law_pick : Own P w K mg base CX0 2 "_law_pick" ["_law_stream", "_law_some"] spPick)
    (O__law_m_longest : Own P w K mg base CX0 2 "_law_m_longest" ["_law_one", "_law_other"] (sp2 ws7 fun a b => rowsD (longestL (wsOf a) (wsOf b)))) : FnOk P w K mg base CX0 3 f fd ["_law_stream", "_law_one", "_law_other"] spSomeRow := by
  refine F.ok sc__law_some_row (fun vs H Q E h => ?_) (fun cdv A outer s H us Q E hr h => ?_)
  · obtain ⟨X, st, cl, n, v1, v2, ws, vs', rfl, _⟩ := h
    rfl
  · obtain ⟨X, st, cl, n, v1, v2, ws, vs, rfl, S, hn, d1, d2, l1, l2, k1, k2, k⟩ := h
    refine ⟨_, (pss_cons (ps_set (i := 3) sc__law_some_row.nd rfl (by first | exact Or.inl rfl | exact Or.inr rfl) (pe_own O__law_pick hr (by decide) (by rfl) (pa_cons (pv 0) (pa_cons (pe_own O__law_m_longest hr (by decide) (by rfl) (pa_cons (pv 1) (pa_cons (pv 2) pa_nil))) pa_nil))))
    (pss_cons (ps_if (pt_cmpR (op_eqD hr.units) (pe_own O__law_draw hr (by decide) (by rfl) (pa_cons (pv 0) (pa_cons pe_int pa_nil))) pe_int (nomark _))
    (pss_one (ps_setLc (i := 3) (own := [("_law_pair", 4)]) (g := (gName 4)) rfl sc__law_some_row.nd rfl rfl (sw_true rfl rfl rfl (by decide +kernel)) (pi_list (pv 3)) (blkOk_by (N := n__law_some_row) (sc := defScope s__law_some_row) (by decide +kernel)) (fun _ _ _ _ _ => (pg_name (i := 4) sc__law_some_row.nd rfl (by first | exact Or.inl rfl | exact Or.inr rfl))) (fun _ _ _ _ _ => (pts_one (pt_cmpR op_gt (pe_own O__law_draw hr (by decide) (by rfl) (pa_cons (pv 0) (pa_cons pe_int pa_nil))) pe_int (nomark _)))) (fun _ _ _ _ _ => (pv 4)))) pss_nil)
    (pss_one (ps_ret (pv 3))))), ?_⟩
    have En : EnvOk X H (L2.start n__law_some_row [.ref st, v1, v2]) [.val (.ref st), .dat (wsD ws), .dat (wsD vs), .un, .un] := ⟨rfl, fun i s e => by
      match i, e with
      | 0, e => cases e; rfl
      | 1, e => cases e; exact ⟨_, rfl, d1⟩
      | 2, e => cases e; exact ⟨_, rfl, d2⟩
      | 3, e => cases e; trivial
      | 4, e => cases e; trivial
      | _ + 5, e => cases e⟩
    have gl : G X (tCall (sp2 ws7 fun a b => rowsD (longestL (wsOf a) (wsOf b))) [] E0 (tCons (tVar 1) (tCons (tVar 2) tNil))) (L2.start n__law_some_row [.ref st, v1, v2]) H (.list ((longestL ws vs).map rowD)) := g_is (g_call2 S.t (g_var (i := 1) (d := wsD ws) En rfl) (g_var (i := 2) (d := wsD vs) En rfl) ⟨ws, vs, rfl, rfl, l1, l2, k1, k2⟩) (by rw [wsOf_wsD, wsOf_wsD]; rfl)
    have most := rows_most l1 l2
    refine k_set (c_pick (ds := (longestL ws vs).map rowD) S (gv_var (i := 0) En rfl) gl (by omega) (by rw [List.length_map]; exact List.length_pos_of_mem (com_mem ws vs)) (by rw [List.length_map]; omega) fun w3 d H1 hd S1 kk1 r3 => ?_)
    obtain ⟨m, hm, rfl⟩ := List.mem_map.mp hd
    have R := Rox.of hm
    have fm : m.length ≤ 7 := Nat.le_trans R.ro.few l1
    let Γ (r : List Pr) : List Sv := [.val (.ref st), .dat (wsD ws), .dat (wsD vs), .dat (rowD r), .un]
    have E1 : EnvOk X H1 _ (Γ m) := (En.kps S kk1).set (i := 3) r3
    refine k_ifT (k_test (k_op (c_draw (m := 3) S1 (gv_var (i := 0) E1 rfl) g_int (by omega) (by decide) (by decide) fun j H2 j0 j1 S2 kk2 => ?_)))
    have E2 := E1.kps S1 kk2
    refine g_int (X := X) (i := 0) H2 (Same.refl _) _ fun v4 H3 s3 r4 => ?_
    have r4' := r4.int_inv
    subst r4'
    have S3 := S2.same s3
    have E3 := E2.same s3
    have k3 := (kk1.trans kk2).trans (KpS.of s3)
    refine rb_eqD (X := X) (x := .int j) (y := .int 0) rfl rfl (shaped_int _) (shaped_int _) H3 _ _ S3.t (.int _) (.int _) _ ⟨_, rfl, ?_⟩
    have done : ∀ {H' : Hp} {r : List Pr} {v : V} {σ' : L2.St} {nn : Nat} {D : Ends}, D.rt = Q → Rox ws vs r → EnvOk X H' σ' (Γ r) → Sg X st cl nn H' → nn ≤ n + 10 → KpS st cl H H' → tRet (tVar 3) D σ' H' := fun {H' r v σ' nn D} hD hR hE hS hle hk => by
      refine k_ret (g_var (i := 3) (d := rowD r) hE rfl H' (Same.refl _) _ fun w H'' s dw => ?_)
      rw [hD]
      exact k w r H'' hR ((hS.same s).le hle) (hk.trans (KpS.of s)) dw
    by_cases hj : PyData.eqv (.int j) (.int 0) = true
    · rw [if_pos hj]
      obtain ⟨ac, uc, ea, nc, ec, rc⟩ := (r3.mono (S1.kp (kk2.trans (KpS.of s3)))).lst_inv (ds := m.map prD)
      subst ea
      have dC : DX X H3 (.ref ac) (.list (m.map prD)) := .lst nc ec rc
      refine k_set1 (k_lcL ⟨.ref ac, rfl, ac, rfl, ⟨_, SqL.of ec⟩, ?_⟩)
      refine lc_drawsF (c := 1) S3 E3 dC (by rw [List.length_map]; omega) (by show 4 < 5; decide) (fun X' H4 σ2 kk d Q1 hd E S q1 => ?_) fun w2 es HD hs SD kD dD _ => ?_
      · have hk7 := (List.getElem?_eq_some_iff.mp hd).1
        rw [List.length_map] at hk7
        refine k_test (k_op (c_draw (m := 3) S (gv_var (i := 0) E rfl) g_int (by omega) (by decide) (by decide) fun jj H5 z0 z1 S5 k5 => ?_))
        refine g_int (X := X') (i := 0) H5 (Same.refl _) _ fun v6 H6 s6 r6 => ?_
        have r6' := r6.int_inv
        subst r6'
        exact ⟨jj, 0, rfl, rfl, _, rfl, q1 _ H6 (S5.same s6) (k5.trans (KpS.of s6))⟩
      · obtain ⟨r, rfl, hr⟩ := sub_row hs
        rw [List.length_map] at SD
        refine done (v := w2) rfl (R.sub hr) ((E3.kps S3 kD).set (i := 3) dD) SD (by omega) (k3.trans kD)
    · rw [if_neg hj]
      exact done (v := w3) rfl R E3 S3 (by omega) k3
end K56

/-! The end of a law whose def is known for the caller of claims alone (its guards are empty). -/
namespace KD
open PySem PySem.Spec PyProof.Rows L2 LamX
/-- a def's promise, called from A -/
def FnAt (P : Program) (w : World) (K : PySem.W.Frag) (mg : Str → Option Value) (base : Heap) (CX : CXT) (A : Around) (f : Addr) (fd : FuncData) (x : Str) (sp : Sp) : Prop :=
  ∀ (s : Shared) (H : Hp) (u : Value) (v : V) (Q : VK) (E : XK), Env0 P w K mg base A [] s H → BindsTo s fd ⟨[u], []⟩ [(x, u)] → RelV v u → sp [v] H Q E → codeAny (model P w) A (.call (.ref f) ⟨[u], []⟩) (CR CX [] P w H s Q E) s
/-- where the law begins: the script as it is passed, tables without code -/
def beginH (K : PySem.W.Frag) (T : List Addr) (a : Addr) (o : Obj) (ns : List Int) : Hp := fun b => if b ∈ T then some (.tbl #[]) else if b = a ∧ K.lookup a = none then some (.frz o (.lst (ns.map V.int))) else none
section
variable {K : PySem.W.Frag} {T : List Addr} {a b : Addr} {o : Obj} {ns : List Int}
theorem beginH_tab (h : b ∈ T) : beginH K T a o ns b = some (.tbl #[]) := if_pos h
theorem beginH_arg (h : a ∉ T) (k : K.lookup a = none) : beginH K T a o ns a = some (.frz o (.lst (ns.map V.int))) := (if_neg h).trans (if_pos ⟨rfl, k⟩)
theorem beginH_none (h : b ∉ T) (k : b = a → K.lookup a ≠ none) : beginH K T a o ns b = none := (if_neg h).trans (if_neg fun z => k z.1 z.2)
theorem beginH_some {u : HO} (h : beginH K T a o ns b = some u) : (b ∈ T ∧ u = .tbl #[]) ∨ (b ∉ T ∧ b = a ∧ K.lookup a = none ∧ u = .frz o (.lst (ns.map V.int))) := by
  unfold beginH at h
  by_cases h1 : b ∈ T
  · rw [if_pos h1] at h
    exact .inl ⟨h1, (Option.some.inj h).symm⟩
  · rw [if_neg h1] at h
    by_cases h2 : b = a ∧ K.lookup a = none
    · rw [if_pos h2] at h
      exact .inr ⟨h1, h2.1, h2.2, (Option.some.inj h).symm⟩
    · rw [if_neg h2] at h
      cases h
end
theorem law_callG {P : Program} {w : World} {K : PySem.W.Frag} {mg mb : Str → Option Value} {CX : CXT} {fa a : Addr} {cs : List (Addr × Addr)} {fd : FuncData} {x : Str} {sp : Sp} {s : Shared} {vs : List Value} {ns : List Int}
    (kin : K.In s.heap) (glob : s.heap.Ns mainGlobals mg) (blt : s.heap.Ns builtinsNs mb) (boot : ∀ y : Str, y ≠ "__name__" → mb y = bootBuiltins y) (nolim : s.heap.NoLimit) (gens : s.gens = #[])
    (tabs : ∀ p ∈ cs, s.heap.get? p.2 = some { cls := .none, data := .fields #[] }) (tabK : ∀ p ∈ cs, K.lookup p.2 = none) (codes : ∀ p ∈ cs, PySem.W.CodeHd s.heap p.1 p.2)
    (bmod : ∃ bm ob, mg "__builtins__" = some (.ref bm) ∧ bm ≠ builtinsNs ∧ s.heap.get? bm = some ob ∧ ob.cls = .type "module" ∧ ob.dict = some builtinsNs ∧ ob.data = .plain)
    (arg : s.heap.get? a = some { cls := .type "list", data := .seq vs.toArray }) (intsA : IntsAre vs ns) (few : ns.length ≤ sizeLine)
    (F : ∀ base : Heap, K.In base → base.Ns mainGlobals mg → (∀ p ∈ cs, TabB base mg p.1 p.2) → FnAt P w K mg base CX callerA fa fd x sp) (bind : ∀ (s : Shared) (u : Value), BindsTo s fd ⟨[u], []⟩ [(x, u)])
    (begin_ : ∀ H : Hp, (∀ p ∈ cs, H p.2 = some (.tbl #[])) → SqL K H a (ns.map V.int) → sp [.ref a] H (fun v _ => v = .bl true) fun _ _ _ => False) (noerr : ∀ H e s', CX [] H s (fun _ _ _ => False) e s' → False) :
    codeAny (model P w) callerA (.call (.ref fa) ⟨[.ref a], []⟩) (fun r s' => r = .ok (.ret (.bool true)) ∧ OldK s.heap s'.heap ∧ s'.os = s.os ∧ AllBare s'.gens) s := by
  have vals := vals_ints intsA
  have many := intsA.length
  let T : List Addr := cs.map (·.2)
  let ao : Obj := { cls := .type "list", data := .seq vs.toArray }
  let H : Hp := beginH K T a ao ns
  have inT : ∀ {b : Addr}, b ∈ T → ∃ p ∈ cs, p.2 = b := fun hb => List.mem_map.mp hb
  have emp : ∀ {b : Addr}, b ∈ T → s.heap.get? b = some { cls := .none, data := .fields #[] } := fun hb => by
    obtain ⟨p, hp, rfl⟩ := inT hb
    exact tabs p hp
  have toT : ∀ {p : Addr × Addr}, p ∈ cs → p.2 ∈ T := fun hp => List.mem_map.mpr ⟨_, hp, rfl⟩
  have aT : a ∉ T := fun hb => by
    have e := (emp hb).symm.trans arg
    cases e
  have HT : ∀ p ∈ cs, H p.2 = some (.tbl #[]) := fun p hp => beginH_tab (toT hp)
  have script : SqL K H a (ns.map V.int) := by
    cases k : K.lookup a with
    | none => exact .inl (.inr ⟨ao, beginH_arg aT k⟩)
    | some o =>
      have same := (kin a o k).symm.trans arg
      cases same
      exact .inr ⟨_, vs.toArray, _, k, rfl, rfl, rfl, by rw [List.size_toArray, many]; exact few, by simpa using vals⟩
  have ok : HOk P w H s.heap := fun b u e => by
    rcases beginH_some e with ⟨hb, rfl⟩ | ⟨_, rfl, _, rfl⟩
    · exact emp hb
    · exact ⟨arg, by rw [List.length_map]; exact few, vs, _, vals, arg⟩
  -- what is neither a list nor an empty table is not of H
  have other : ∀ {b : Addr} {o : Obj}, s.heap.get? b = some o → (∀ q n, o.data ≠ .seq q n) → o.data ≠ .fields #[] → H b = none := fun {b o} e h1 h2 => by
    cases q : H b with
    | none => rfl
    | some u =>
      rcases beginH_some q with ⟨hb, _⟩ | ⟨_, rfl, _, _⟩
      · rw [emp hb] at e
        cases e
        exact absurd rfl h2
      · rw [arg] at e
        cases e
        exact absurd rfl (h1 _ _)
  have hid : ∀ {b : Addr} {o : Obj}, s.heap.get? b = some o → (∀ q n, o.data ≠ .seq q n) → o.data ≠ .fields #[] → (hidT s.heap H).get? b = some o := fun e h1 h2 => hidT_get e (other e h1 h2)
  have names : ∀ {b : Addr} {m : Str → Option Value}, s.heap.Ns b m → (hidT s.heap H).Ns b m := fun {b m} z => by
    obtain ⟨o, es, ep, e, hd, r⟩ := z
    refine ⟨o, es, ep, hid e (fun _ _ q => ?_) (fun q => ?_), hd, r⟩ <;> (rw [hd] at q; cases q)
  have kin2 : K.In (hidT s.heap H) := fun b o e => hidT_get (kin b o e) (by
    cases q : H b with
    | none => rfl
    | some u =>
      rcases beginH_some q with ⟨hb, _⟩ | ⟨_, rfl, k, _⟩
      · obtain ⟨p, hp, rfl⟩ := inT hb
        rw [tabK p hp] at e
        cases e
      · rw [k] at e
        cases e)
  have glob2 := names glob
  have notGlob : ∀ {b : Addr} {o : Obj}, s.heap.get? b = some o → (∀ es ep, o.data ≠ .dict es ep) → b ≠ mainGlobals := fun {b o} e h q => by
    obtain ⟨o2, es, ep, e2, hd, _⟩ := glob
    rw [q, e2] at e
    cases e
    exact h _ _ hd
  have tabB : ∀ p ∈ cs, TabB (hidT s.heap H) mg p.1 p.2 := fun p hp => by
    refine ⟨?_, ?_, fun q => notGlob (tabs p hp) (fun _ _ z => by cases z) q.symm⟩
    · obtain ⟨o, us, file, tf, flags, tg, inF, text, tt, e1, r1, r2, r3, r4, r5, r6, r7, r8, r9⟩ := codes p hp
      refine ⟨o, us, file, tf, flags, tg, inF, text, tt, hid e1 (fun _ _ q => ?_) (fun q => ?_), r1, r2, r3, r4, r5, r6, r7, r8, r9⟩
      · rw [r2] at q
        cases q
      · rw [r2] at q
        cases q
        simp at r3
    · obtain ⟨bm, ob, b1, b2, b3, b4, b5, b6⟩ := bmod
      have n1 : bm ≠ mainGlobals := notGlob b3 fun _ _ q => by rw [b6] at q; cases q
      have n2 : bm ≠ p.2 := fun q => by
        rw [q, tabs p hp] at b3
        cases b3
        cases b6
      refine ⟨bm, ob, b1, b2, n1, n2, hid b3 (fun _ _ q => ?_) (fun q => ?_), b4, b5, b6⟩ <;> (rw [b6] at q; cases q)
  have md : L2.Mod K mg (hidT s.heap H) := by
    obtain ⟨mc, h1, h2⟩ := nolim
    exact ⟨kin2, glob2, ⟨mb, names blt, boot⟩, ⟨mc, names h1, h2⟩⟩
  have env : Env0 P w K mg (hidT s.heap H) callerA [] s H := ⟨rfl, md, fun _ _ e => of_hidT e, Nat.le_of_eq (hidT_size _ _), trivial, fun _ hb => (nomatch hb), ok, .of_eq gens⟩
  have run := F _ kin2 glob2 tabB s H (.ref a) (.ref a) _ _ env (bind s (.ref a)) rfl (begin_ H HT script)
  refine codeAny_mono run fun r s' hr => ?_
  match r, hr with
  | .error e, hr => exact (noerr H e s' hr).elim
  | .ok .next, hr => exact hr.elim
  | .ok .brk, hr => exact hr.elim
  | .ok .cont, hr => exact hr.elim
  | .ok (.ret u), hr =>
    obtain ⟨v, H2, os, bare, un, ok2, rel, hv⟩ := hr
    have hv : v = V.bl true := hv
    subst hv
    obtain rfl : u = Value.bool true := rel
    have still : ∀ {b : Addr} {o : Obj}, b ∉ T → s.heap.get? b = some o → s'.heap.get? b = some o := fun {b o} nb e => by
      cases q : H b with
      | none => exact un.keep b o e q (by intro z; exact (nomatch (show b ∈ ([] : List Addr) from z))) (by simp)
      | some u =>
        rcases beginH_some q with ⟨hb, _⟩ | ⟨_, rfl, k, rfl⟩
        · exact absurd hb nb
        · have q2 := un.frzs b _ _ q
          have e2 : s'.heap.get? b = some ao := (ok2 b _ q2).1
          rw [arg] at e
          cases e
          exact e2
    have more : ∀ {b : Addr}, b ∈ T → ∃ m : Array Value, s'.heap.get? b = some { cls := .none, data := .fields m } := fun {b} hb => by
      obtain ⟨m, z⟩ := un.tbls b #[] (beginH_tab hb)
      exact ⟨_, ok2 b _ z⟩
    refine ⟨rfl, ⟨fun b o e => ?_, fun b o e => ?_⟩, os, bare⟩
    · by_cases hb : b ∈ T
      · obtain ⟨m, hm⟩ := more hb
        obtain ⟨p, hp, rfl⟩ := inT hb
        rw [tabs p hp] at e
        cases e
        exact .inr (.inl ⟨((codes p hp).tab (tabs p hp)).isCodeTable, rfl, #[], m, rfl, by rw [Array.empty_append]; exact hm⟩)
      · exact .inl (still hb e)
    · by_cases hb : b ∈ T
      · obtain ⟨m, hm⟩ := more hb
        exact ⟨_, hm⟩
      · exact ⟨o, still hb e⟩
/-- what is known of the law at the head's heap -/
def LawG (l : PySem.W.OpenLaw) (w : World) (K : PySem.W.Frag) (CX : CXT) (n : Nat) (x : Str) (mg : Str → Option Value) (fa : Addr) (h : Heap) : Prop :=
  ∃ (fd : FuncData) (cs : List (Addr × Addr)) (sp : Sp), (∀ p ∈ cs, h.get? p.2 = some { cls := .none, data := .fields #[] }) ∧ (∀ p ∈ cs, K.lookup p.2 = none) ∧ (∀ p ∈ cs, PySem.W.CodeHd h p.1 p.2) ∧ (∀ s u, BindsTo s fd ⟨[u], []⟩ [(x, u)]) ∧
    (∀ (H : Hp) (a : Addr) (ns : List Int), ns.length ≤ n → (∀ z ∈ ns, Builtin.Int.intBits z ≤ 1048576) → (∀ p ∈ cs, H p.2 = some (.tbl #[])) → SqL K H a (ns.map V.int) → sp [.ref a] H (fun v _ => v = .bl true) fun _ _ _ => False) ∧
    ∀ base : Heap, K.In base → base.Ns mainGlobals mg → (∀ p ∈ cs, TabB base mg p.1 p.2) → FnAt l.prog w K mg base CX callerA fa fd x sp
theorem walk_ofG {l : PySem.W.OpenLaw} {n : Nat} {q : Program} {loose : List Str} {XP : (Str → Option Value) → Heap → Prop} {YP : World → Heap → Prop} {d : DefRec} {K : Params → PySem.W.Frag} {CX : World → CXT} {x : Str}
    (hn : l.most = some n) (few : n ≤ sizeLine) (nodef : d.params.defaults = []) (kin : ∀ w h, YP w h → (K w.params).In h)
    (F : ∀ w mg fa h, YP w h → (K w.params).In h → h.Ns mainGlobals mg → mg d.name = some (.ref fa) → LawG l w (K w.params) (CX w) n x mg fa h) (noerr : ∀ w H s e s', CX w [] H s (fun _ _ _ => False) e s' → False) :
    PySem.W.WalkO q loose XP YP l.row.toRowW d [] (fun f vs => PySem.call f vs) :=
  Att.attach_callB hn nodef fun w s0 s1 mg mb fa o pm cd doc a vs ns G Y _ _ _ hmg hobj hints hlen hbits hg => by
    obtain ⟨fd, cs, sp, h1, h2, h3, h4, h5, h6⟩ := F w mg fa _ Y (kin w _ Y) G.T.g hmg
    exact law_callG (kin w _ Y) G.T.g G.T.b G.T.builtins G.T.nolimit hg h1 h2 h3 G.T.bmain hobj hints (Nat.le_trans hlen few) h6 h4 (fun H a1 a2 => h5 H a ns hlen hbits a1 a2) fun H e s' => noerr w H s1 e s'
end KD

/-! What a law's frame keeps. -/
namespace K56
open PySem PySem.Spec PyProof.Rows L2 KD LamX
/-- all that is no table and not of X stays -/
def Kq (X : Addr → Prop) (H H' : Hp) : Prop := ∀ a o, ¬ X a → (∀ ps, o ≠ .tbl ps) → H a = some o → H' a = some o
section
variable {X X' : Addr → Prop} {H H' H1 H2 : Hp} {σ : L2.St} {Γ : List Sv} {T : List (Addr × Str)} {st cl L : Addr} {n m : Nat}
theorem Kq.of (h : Kp X H H') : Kq X H H' := fun a o n _ e => h a o n e
theorem Kq.same (h : Same H H') : Kq X H H' := fun a o _ _ e => h a o e
theorem Kq.refl : Kq X H H := fun _ _ _ _ e => e
theorem Kq.trans (h : Kq X H H1) (k : Kq X H1 H2) : Kq X H H2 := fun a o n t e => k a o n t (h a o n t e)
theorem Kq.ext (h : ExtN H H') : Kq X H H' := fun a o _ t e => h a o e t
mutual
theorem DX.kq (k : Kq X H H') : ∀ {v : V} {d : PyData}, DX X H v d → DX X H' v d
  | _, _, .non => .non
  | _, _, .bl b => .bl b
  | _, _, .int i => .int i
  | _, _, .str x => .str x
  | _, _, .lst n h r => .lst n (k _ _ n (fun _ e => by cases e) h) (DXs.kq k r)
  | _, _, .tup n h r => .tup n (k _ _ n (fun _ e => by cases e) h) (DXs.kq k r)
  | _, _, .dic n h r => .dic n (k _ _ n (fun _ e => by cases e) h) (DXk.kq k r)
theorem DXs.kq (k : Kq X H H') : ∀ {vs : List V} {ds : List PyData}, DXs X H vs ds → DXs X H' vs ds
  | _, _, .nil => .nil
  | _, _, .cons h r => .cons (DX.kq k h) (DXs.kq k r)
theorem DXk.kq (k : Kq X H H') : ∀ {vs : List (Key × V)} {ds : List (PyData × PyData)}, DXk X H vs ds → DXk X H' vs ds
  | _, _, .nil => .nil
  | _, _, .cons h r => .cons (DX.kq k h) (DXk.kq k r)
end
theorem _root_.KD.EnvOk.kq (k : Kq X H H') (E : EnvOk X H σ Γ) : EnvOk X H' σ Γ := ⟨E.len, fun i s e => by
  have h := E.get i s e
  cases s with
  | dat d =>
    obtain ⟨v, e1, r⟩ := h
    exact ⟨v, e1, DX.kq k r⟩
  | val v => exact h
  | un => trivial⟩
/-- less is known of the slots -/
theorem _root_.KD.EnvOk.weak {Δ : List Sv} (E : EnvOk X H σ Γ) (hl : Γ.length = Δ.length) (h : ∀ (i : Nat) (s : Sv), Δ[i]? = some s → s = .un ∨ Γ[i]? = some s) : EnvOk X H σ Δ := ⟨E.len.trans hl, fun i s e => by
  rcases h i s e with rfl | q
  · trivial
  · exact E.get i s q⟩
/-- the spring, the tables; X are lists -/
structure Zt (X : Addr → Prop) (st cl : Addr) (n : Nat) (T : List (Addr × Str)) (H : Hp) : Prop where
  sg : Sg X st cl n H
  tabs : Tabs T H
  lst : ∀ a, X a → ∃ xs, H a = some (.lst xs)
theorem tabs_lst (t : Tabs T H) (k : ∀ b o, H b = some o → (∀ xs, o ≠ .lst xs) → H' b = some o) : Tabs T H' := fun p hp => by
  obtain ⟨ps, h1, h2, h3⟩ := t p hp
  refine ⟨ps, k _ _ h1 (fun _ e => by cases e), h2, fun pos cv hc => ?_⟩
  obtain ⟨c, e1, e2⟩ := h3 pos cv hc
  exact ⟨c, e1, k _ _ e2 fun _ e => by unfold CodeO at e; cases e⟩
theorem Zt.same (Z : Zt X st cl n T H) (s : Same H H') : Zt X st cl n T H' := ⟨Z.sg.same s, Z.tabs.ext s, fun a x => let ⟨xs, e⟩ := Z.lst a x; ⟨xs, s _ _ e⟩⟩
theorem Zt.draw (Z : Zt X st cl n T H) (S : Sg X st cl m H') (k : KpS st cl H H') : Zt X st cl m T H' := by
  obtain ⟨xs1, e1⟩ := Z.lst st Z.sg.x1
  obtain ⟨xs2, e2⟩ := Z.lst cl Z.sg.x2
  refine ⟨S, tabs_lst Z.tabs fun b o e hn => k b o (fun q => ?_) (fun q => ?_) e, fun a x => ?_⟩
  · rw [q, e1] at e
    exact hn xs1 (Option.some.inj e).symm
  · rw [q, e2] at e
    exact hn xs2 (Option.some.inj e).symm
  · obtain ⟨ms, a', b, c, S', _⟩ := S.ok
    by_cases q1 : a = st
    · exact ⟨_, q1 ▸ S'.hs⟩
    · by_cases q2 : a = cl
      · exact ⟨_, q2 ▸ S'.hc⟩
      · obtain ⟨xs, e⟩ := Z.lst a x
        exact ⟨xs, k a _ q1 q2 e⟩
theorem Zt.lam (Z : Zt X st cl n T H) (e : ExtN H H') (t : Tabs T H') : Zt X st cl n T H' := by
  have keep : ∀ a, X a → ∃ xs, H a = some (.lst xs) ∧ H' a = some (.lst xs) := fun a x => by
    obtain ⟨xs, q⟩ := Z.lst a x
    exact ⟨xs, q, e a _ q fun _ z => by cases z⟩
  obtain ⟨ms, a, b, c, S, hb⟩ := Z.sg.ok
  exact ⟨⟨⟨ms, a, b, c, ⟨e _ _ S.hs (fun _ z => by cases z), e _ _ S.hc (fun _ z => by cases z), S.ne, S.a0, S.b0, S.c0, S.c1, S.ml⟩, hb⟩, Z.sg.x1, Z.sg.x2, fun a x => let ⟨xs, _, q⟩ := keep a x; ⟨_, q⟩⟩, t, fun a x => let ⟨xs, _, q⟩ := keep a x; ⟨xs, q⟩⟩
theorem Zt.le (Z : Zt X st cl n T H) (h : n ≤ m) : Zt X st cl m T H := ⟨Z.sg.le h, Z.tabs, Z.lst⟩
/-- one more list of one's own -/
theorem Zt.more {xs : List V} (Z : Zt X st cl n T H) (h : H L = some (.lst xs)) : Zt (fun b => X b ∨ b = L) st cl n T H :=
  ⟨⟨Z.sg.ok, .inl Z.sg.x1, .inl Z.sg.x2, fun a e => e.elim (Z.sg.t a) fun q => ⟨_, q ▸ h⟩⟩, Z.tabs, fun a e => e.elim (Z.lst a) fun q => ⟨_, q ▸ h⟩⟩
theorem Zt.less (m : ∀ a, X a → X' a) (x1 : X st) (x2 : X cl) (Z : Zt X' st cl n T H) : Zt X st cl n T H := ⟨⟨Z.sg.ok, x1, x2, fun a e => Z.sg.t a (m a e)⟩, Z.tabs, fun a e => Z.lst a (m a e)⟩
/-- a list of one's own is changed -/
theorem Zt.put {xs : List V} (Z : Zt X st cl n T H) (k : KpL L H H') (h : H' L = some (.lst xs)) (x : X L) (n1 : L ≠ st) (n2 : L ≠ cl) : Zt X st cl n T H' := by
  obtain ⟨ys, eL⟩ := Z.lst L x
  obtain ⟨ms, a, b, c, S, hb⟩ := Z.sg.ok
  refine ⟨⟨⟨ms, a, b, c, ⟨k _ _ (Ne.symm n1) S.hs, k _ _ (Ne.symm n2) S.hc, S.ne, S.a0, S.b0, S.c0, S.c1, S.ml⟩, hb⟩, Z.sg.x1, Z.sg.x2, fun a e => ?_⟩, tabs_lst Z.tabs fun b o e hn => k b o (fun q => ?_) e, fun a e => ?_⟩
  · by_cases q : a = L
    · exact ⟨_, q ▸ h⟩
    · obtain ⟨xs, z⟩ := Z.lst a e
      exact ⟨_, k a _ q z⟩
  · rw [q, eL] at e
    exact hn ys (Option.some.inj e).symm
  · by_cases q : a = L
    · exact ⟨_, q ▸ h⟩
    · obtain ⟨xs, z⟩ := Z.lst a e
      exact ⟨_, k a _ q z⟩
theorem Kq.put (k : KpL L H H') (x : X L) : Kq X H H' := fun a o n _ e => k a o (fun q => n (q ▸ x)) e
end
/-! ### calls -/
section
variable {X : Addr → Prop} {H : Hp} {σ : L2.St} {Γ : List Sv} {T : List (Addr × Str)} {st cl : Addr} {n : Nat} {ta tb : TE} {E : XK} {d d1 d2 r : PyData} {Q : VK} {C C1 C2 C3 : Addr} {f1 f2 f3 t1 t2 t3 fl tag : Str}
theorem g_same {m : Nat} (t : Trk X H) (h1 : G X ta σ H d) (h2 : G X tb σ H d) (hs : sm m d) : G X (tCall (spSame m) [] E (tCons ta (tCons tb tNil))) σ H (.bool true) := fun H1 s Q q =>
  h1 H1 s _ fun v H2 s2 r1 => h2 H2 (s.trans s2) _ fun v2 H3 s3 r2 => ⟨X, v, v2, d, rfl, ((t.mono s).mono s2).mono s3, r1.mono (Kp.of s3), r2, hs, fun H' s4 => q _ H' ((s2.trans s3).trans s4) (.bl true)⟩
theorem gt_neS {a b : Str} (h1 : G X ta σ H (.str a)) (h2 : G X tb σ H (.str b)) : GT (tTest (tOp rNe ta tb)) σ H (!decide (a = b)) := fun H1 s Q q =>
  h1 H1 s _ fun u H2 s2 r => h2 H2 (s.trans s2) _ fun v H3 s3 r2 => by
    rw [r.str_inv, r2.str_inv]
    refine ⟨rfl, _, rfl, ?_⟩
    have e : decide (V.str a = V.str b) = decide (a = b) := by
      by_cases z : a = b
      · rw [z]
        simp
      · rw [decide_eq_false z, decide_eq_false fun q => z (by cases q; rfl)]
    rw [e]
    exact q H3 (s2.trans s3)
end
section
variable {σ : L2.St} {H : Hp} {te ta tb : TE} {D : Ends} {r : R2} {Q : VK} {g : TG} {tz tu tw : TS} {tt tv : TT} {tl : TA} {K : PySem.W.Frag} {to th : TO} {Qb : Bool → Hp → Prop} {rs : V → Option Int → Option Int → Hp → VK → Prop}
theorem k_if (h : tt σ H fun b H1 => if b = true then tu { D with nx := tz D } σ H1 else tz D σ H1) : tSeq (tIfS tt tu tNext) tz D σ H := h
theorem k_or (h : GT tt σ H false) (k : ∀ H1, Same H H1 → tv σ H1 Qb) : tOr tt tv σ H Qb := h H (Same.refl H) _ fun H1 s => k H1 s
end
end K56

/-! try with several clauses, each «except C as n». -/
namespace KD
open PySem PySem.Spec PyProof.Rows L2
structure Cl where
  c : Value
  i : Nat
  ts : Addr → Value → Option Addr → TS
def away (D : Ends) (i : Nat) : Ends := ⟨fun z Z => D.nx (z.set i none) Z, D.rt, fun z Z => D.bk (z.set i none) Z, fun z Z => D.ct (z.set i none) Z⟩
def wCl (K : PySem.W.Frag) (W0 : WX) (D : Ends) : List Cl → WX
  | [] => W0
  | x :: r => fun cl d z Z => ∃ b, PySem.W.exmOne K cl x.c = some b ∧ (b = true → ∀ a, Z a = none → x.ts a cl d (away D x.i) (z.set x.i (some (.ref a))) Z) ∧ (b = false → wCl K W0 D r cl d z Z)
inductive ClOk (X : Cx) : List ExceptHandler → List Cl → Prop
  | nil : ClOk X [] []
  | cons {x n : Str} {cl : Cl} {s0 : Stmt} {ss : List Stmt} {p q : Pos} {hh : List ExceptHandler} {ll : List Cl} (nm : Names X x cl.c) (sl : X.N[cl.i]? = some n) (lo : X.env.kindOf n = some .local)
      (su : ∀ a ob k d pn, Zc k d ob → (∃ vs, ob.data = .fields vs) → PSs (X.suite a ((a, ob) :: pn)) (s0 :: ss) (cl.ts a k d)) (more : ClOk X hh ll) : ClOk X (.ExceptHandler (some (.Name x p)) (some n) (s0 :: ss) q :: hh) (cl :: ll)
theorem ps_tryA {X : Cx} {bd : List Stmt} {h0 : ExceptHandler} {hh : List ExceptHandler} {ll : List Cl} {ps : Pos} {tb : WX → TS} {W0 : WX} (st : X.stack = X.env :: X.outer) (fr : X.env.frame = some X.env.locals) (nd : X.N.Nodup) (tk : Takes X W0)
    (hb : ∀ W pn xe, Takes (X.tr pn xe) W → PassesOwn (model X.prog X.w) X.A X.env xe → PSs (X.tr pn xe) bd (tb W)) (ok : ClOk X (h0 :: hh) ll) :
    PS X (.Try bd (h0 :: hh) [] [] ps) (fun D z Z => tb (wCl X.K W0 D ll) D z Z) := by
  refine ⟨fun pins s z Z D I goal => ?_⟩
  have OK := I.ok
  have fA : X.A.frames = some (X.env :: X.outer) := OK.frames.trans (by rw [st])
  apply wpAny_Try_except
  have caught : Takes (X.tr (X.pn ++ pins) fun e u => wpAny (model X.prog X.w) X.A (noteFrame e X.env)
      (fun _ u => wpAny (model X.prog X.w) X.A (setFlight e none)
        (fun _ u => wpAny (model X.prog X.w) X.A (handleBy e X.env (h0 :: hh)) (SP X pins D) X.xe u) X.xe u) X.xe u) (wCl X.K W0 D ll) := by
    intro e u hx
    obtain ⟨a, B, sI, pins2, z1, Z1, cls, d, rfl, J0, nb, up, sk, na, os, ag, wish⟩ := hx
    have J := J0.ofTry OK
    rw [st] at sk
    refine Sky.land Zc.steady fA fr sk fun h3 f3 u3 => ?_
    have J3 : Inv X pins z1 Z1 { u with heap := h3 } := J.landed nb f3.1 (up.trans u3) os ag
    obtain ⟨ob, vs, eob, zob, dob⟩ := f3.there
    have apart : a ∉ frs (X.env :: X.outer) := by
      intro hm
      obtain ⟨_, ob', e', no⟩ := f3.2.2.1.mem hm
      have same : ob' = ob := Option.some.inj (e'.symm.trans eob)
      subst same
      exact no _ dob
    have inFr : ∀ {E : Env} {l : Addr}, E ∈ X.env :: X.outer → E.frame = some l → l ∈ frs (X.env :: X.outer) := fun hE e => List.mem_filterMap.mpr ⟨_, hE, e⟩
    have nL : a ≠ X.env.locals := fun e => apart (e ▸ inFr List.mem_cons_self fr)
    have nF : a ∉ X.fs := by
      intro hm
      obtain ⟨E, hE, e⟩ := List.mem_filterMap.mp hm
      exact apart (inFr (List.mem_cons_of_mem _ hE) e)
    suffices go : ∀ {hs : List ExceptHandler} {ls : List Cl}, ClOk X hs ls → wCl X.K W0 D ls cls d z1 Z1 → wpAny (model X.prog X.w) X.A (handleBy (.ref a) X.env hs) (SP X pins D) X.xe { u with heap := h3 } from go ok wish
    intro hs ls hk
    induction hk with
    | nil =>
      intro wi
      apply wpAny_handleBy_nil
      have land := f3
      obtain ⟨_, _, _, o5, v5, T, oT, ts5, g1, g2, g3, g4, g5⟩ := land
      unfold PySem.passOn
      refine wpAny_bind (wpAny_field g1 g3 g4 ?_)
      have nn : ¬ ((Value.ref T == Value.none) = true) := by simp
      rw [if_neg nn]
      have thrown : wpAny (model X.prog X.w) X.A (setFlight (.ref a) X.env.frame)
          (fun _ y => wpAny (model X.prog X.w) X.A (throw (.ref a) : Sem Flow) (SP X pins D) X.xe y) X.xe { u with heap := h3 } := by
        rw [fr]
        refine HandSPX.setFlight_upZ f3 fun h4 k4 u4 => wpAny_throw (tk _ _ ?_)
        refine ⟨a, B, sI, pins, z1, Z1, cls, d, rfl, J, nb, (up.trans u3).trans u4, .inr (.inr ?_), na, os, ag, wi⟩
        rw [st]
        exact k4
      first
        | exact wpAny_bind thrown
        | exact wpAny_bind (wpAny_pure (wpAny_bind thrown))
    | @cons x n cl s0 ss p q hs2 ls2 nm sl lo su more ih =>
      rintro ⟨b, hm, yes, no⟩
      refine wpAny_handleBy_cons (codeAny_handlers_test ?_) (fun e => by cases e)
      have lk : PySem.W.Looks (model X.prog X.w) h3 (typeOf (.ref a)) cls := fun A Q E s k q => wpAny_typeOf_ref (k _ _ eob) (zob.1.symm ▸ q)
      have S3 := J3.suite eob dob na nL nF
      have asked : ∀ {Q E : Value → Shared → Prop}, Q cl.c { u with heap := h3 } → wpAny (model X.prog X.w) (X.A.mark (some (.ref a))) (eval (.Name x p) X.env) Q E { u with heap := h3 } := by
        intro Q E hQ
        obtain ⟨g, db, m⟩ := nm
        cases m with
        | inl m => exact ld_glob (X := X.suite a ((a, ob) :: (X.pn ++ pins))) S3 g m hQ db
        | inr m => exact ld_blt (X := X.suite a ((a, ob) :: (X.pn ++ pins))) S3 g m.1 m.2.1 hQ m.2.2 db
      refine asked ((PySem.W.exm_one (M := model X.prog X.w) J3.kIn lk hm).here ?_)
      cases b with
      | false => exact ih (no rfl)
      | true =>
        refine codeAny_handlers_suite_as (HandSPX.lands_againZ f3 fun h4 f4 u4 => ?_)
        have J4 : Inv X pins z1 Z1 { u with heap := h4 } := J.landed nb f4.1 ((up.trans u3).trans u4) os ag
        obtain ⟨o4, v4, e4, z4, d4⟩ := f4.there
        refine store_ok (X := X.suite a ((a, o4) :: (X.pn ++ pins))) (v := .ref a) (J4.suite e4 d4 na nL nF) nd sl (.inl lo) rfl (fun s5 S5 => ?_) (.inr lo)
        refine wpAny_mono ((su a o4 cls d (X.pn ++ pins) z4 ⟨v4, d4⟩).run [] s5 _ Z1 _ S5 (yes rfl a na)) (fun fl s6 h6 => ?_) (fun _ _ e => e.elim)
        have gone : ∀ {z6 : L2.St} {Z6 : Hp} {Q : Shared → Prop}, Inv (X.suite a ((a, o4) :: (X.pn ++ pins))) [] z6 Z6 s6 → (∀ s7, Inv X pins (z6.set cl.i none) Z6 s7 → Q s7) → wpAny (model X.prog X.w) X.A (do bindName X.env n .none; unbindBehindTheSuite X.env n q) (fun _ s7 => Q s7) X.xe s6 :=
          fun S6 hq => gone_ok (S6.unsuite OK) nd sl lo hq
        cases fl with
        | next =>
          obtain ⟨_, _, S6, q6⟩ := h6
          exact gone S6 fun _ J7 => ⟨_, _, J7, q6⟩
        | brk =>
          obtain ⟨_, _, S6, q6⟩ := h6
          exact gone S6 fun _ J7 => ⟨_, _, J7, q6⟩
        | cont =>
          obtain ⟨_, _, S6, q6⟩ := h6
          exact gone S6 fun _ J7 => ⟨_, _, J7, q6⟩
        | ret y =>
          obtain ⟨_, _, _, S6, r6, q6⟩ := h6
          exact gone S6 fun _ J7 => ⟨_, _, _, J7, r6, q6⟩
  have whole := (hb _ _ _ caught PassesOwn.looking).run [] s z Z D (I.toTry _) goal
  refine wpAny_mono whole (fun fl u hf => ?_) (fun _ _ y => y)
  cases fl with
  | next =>
    obtain ⟨z1, Z1, J, q⟩ := hf
    exact wpAny_execs_nil ⟨_, _, J.ofTry OK, q⟩
  | brk =>
    obtain ⟨z1, Z1, J, q⟩ := hf
    exact ⟨_, _, J.ofTry OK, q⟩
  | cont =>
    obtain ⟨z1, Z1, J, q⟩ := hf
    exact ⟨_, _, J.ofTry OK, q⟩
  | ret y =>
    obtain ⟨x, z1, Z1, J, r, q⟩ := hf
    exact ⟨_, _, _, J.ofTry OK, r, q⟩
end KD

/-! repr of data over the abstract heap. -/
namespace KD
open PySem PySem.Spec PyProof.Rows L2
mutual
/-- shown in short: its ints are small, its dicts are empty -/
def shw : PyData → Bool
  | .int i => decide (i.natAbs.log2 < 1920)
  | .list ds => shws ds
  | .tuple ds => shws ds
  | .dict ks => ks.isEmpty
  | _ => true
def shws : List PyData → Bool
  | [] => true
  | d :: ds => shw d && shws ds
end
section
variable {X : Cx} {pins : List (Addr × Obj)} {σ : L2.St} {H : Hp} {s : Shared} {X0 : Addr → Prop}
/-- addresses of data that are so deep at most -/
def Low (X0 : Addr → Prop) (H : Hp) (n : Nat) (bs : List Addr) : Prop := ∀ b ∈ bs, ∃ d, DX X0 H (.ref b) d ∧ d.depth ≤ n
theorem Low.mono {n m : Nat} {bs : List Addr} (h : Low X0 H n bs) (k : n ≤ m) : Low X0 H m bs := fun b hb => by
  obtain ⟨d, r, e⟩ := h b hb
  exact ⟨d, r, Nat.le_trans e k⟩
theorem Low.app {n : Nat} {bs cs : List Addr} (h : Low X0 H n bs) (k : Low X0 H n cs) : Low X0 H n (bs ++ cs) := fun b hb => (List.mem_append.mp hb).elim (h b) (k b)
theorem Low.not {n : Nat} {bs : List Addr} {a : Addr} {d : PyData} (h : Low X0 H n bs) (r : DX X0 H (.ref a) d) (k : n < d.depth) : a ∉ bs := fun hm => by
  obtain ⟨e, r2, q⟩ := h a hm
  rw [← r.fn r2] at q
  omega
theorem Low.cons {n : Nat} {bs : List Addr} {a : Addr} {d : PyData} (h : Low X0 H n bs) (r : DX X0 H (.ref a) d) (k : n ≤ d.depth) : Low X0 H d.depth (a :: bs) := fun b hb => by
  rcases List.mem_cons.mp hb with rfl | hb
  · exact ⟨d, r, Nat.le_refl _⟩
  · exact h.mono k b hb
mutual
theorem reprK_dx (I : L2.Inv X pins σ H s) : ∀ {v : V} {d : PyData} {u : Value}, DX X0 H v d → RelV v u → shw d = true → d.shown.length ≤ sizeLine → ∃ bs, Low X0 H d.depth bs ∧ ReprK X.prog X.w bs s.heap d.depth u d.shown
  | _, _, _, .non, r, _, _ => by
    cases r
    exact ⟨[], (fun _ h => by cases h), by simp only [PyData.shown]; exact .of_is ReprIs.none _ _ _⟩
  | _, _, _, .bl b, r, _, _ => by
    cases r
    exact ⟨[], (fun _ h => by cases h), by simp only [PyData.shown]; exact .of_is (ReprIs.bool b) _ _ _⟩
  | _, _, _, .int i, r, h, _ => by
    obtain ⟨t, rfl⟩ := r
    exact ⟨[], (fun _ h => by cases h), by simp only [PyData.shown]; exact .of_is (ReprIs.int t (by simpa [shw] using h)) _ _ _⟩
  | _, _, _, .str x, r, _, hz => by
    obtain ⟨t, rfl⟩ := r
    exact ⟨[], (fun _ h => by cases h), by simp only [PyData.shown]; exact .of_is (ReprIs.str x t (by simpa only [PyData.shown] using hz)) _ _ _⟩
  | _, _, _, .lst (a := a) (xs := xs) (ds := ds) n e r, ru, h, hz => by
    cases ru
    obtain ⟨its, rv, ⟨o, k, ho, hc, _, hd⟩, _⟩ := I.list (SqL.of e)
    have long : (listText (PyData.shownAll ds)).length ≤ sizeLine := by simpa only [PyData.shown] using hz
    obtain ⟨bs, low, all⟩ := reprAll_dx I r rv (by simpa [shw] using h) fun t ht => Nat.le_trans (listText_mem_le ht) long
    have whole : DX X0 H (.ref a) (.list ds) := .lst n e r
    have fresh : a ∉ bs := low.not whole (by simp only [PyData.depth]; omega)
    refine ⟨a :: bs, low.cons whole (by simp only [PyData.depth]; omega), ?_⟩
    simp only [PyData.depth, PyData.shown]
    cases its with
    | nil =>
      cases ds with
      | nil =>
        simp only [PyData.shownAll, listText_nil]
        exact ReprK.listEmpty ho hc hd
      | cons d ds => cases r; cases rv
    | cons y its => exact ReprK.list ho hc hd fresh (by simpa using all.length_eq) fun i z q => all.item i z (by simpa using q)
  | _, _, _, .tup (a := a) (xs := xs) (ds := ds) n e r, ru, h, hz => by
    cases ru
    obtain ⟨its, rv, ⟨o, ho, hc, k, hd⟩, _⟩ := I.tuple (SqT.of e)
    have long : (tupleText (PyData.shownAll ds)).length ≤ sizeLine := by simpa only [PyData.shown] using hz
    obtain ⟨bs, low, all⟩ := reprAll_dx I r rv (by simpa [shw] using h) fun t ht => Nat.le_trans (tupleText_mem_le ht) long
    have whole : DX X0 H (.ref a) (.tuple ds) := .tup n e r
    have fresh : a ∉ bs := low.not whole (by simp only [PyData.depth]; omega)
    refine ⟨a :: bs, low.cons whole (by simp only [PyData.depth]; omega), ?_⟩
    simp only [PyData.depth, PyData.shown]
    exact ReprK.tuple ho hc hd fresh all
  | _, _, _, .dic (a := a) (kvs := kvs) (ks := ks) n e r, ru, h, hz => by
    cases ru
    have e0 : ks = [] := by simpa [shw] using h
    subst e0
    cases r
    obtain ⟨_, hsys, vs, kv, o, es, ep, ho, ex, hd, _, pr, _⟩ := I.hok a _ e
    cases kv
    have whole : DX X0 H (.ref a) (.dict []) := .dic n e .nil
    refine ⟨a :: [], Low.cons (n := 0) (fun _ h => by cases h) whole (Nat.zero_le _), ?_⟩
    have he : es.toList = [] := by
      generalize es.toList = l at pr
      cases pr
      rfl
    have R : ReprEntriesK X.prog X.w [] s.heap 0 es.toList [] := by
      rw [he]
      exact .nil
    have := ReprK.dict ho ex.1 hd hsys (as := []) (by simp) R
    simpa [PyData.depth, PyData.depthKv, PyData.shown, PyData.shownKv] using this
theorem reprAll_dx (I : L2.Inv X pins σ H s) : ∀ {vs : List V} {ds : List PyData} {us : List Value}, DXs X0 H vs ds → Vals vs us → shws ds = true → (∀ t ∈ PyData.shownAll ds, t.length ≤ sizeLine) → ∃ bs, Low X0 H (PyData.depthAll ds) bs ∧ ReprAllK X.prog X.w bs s.heap (PyData.depthAll ds) us (PyData.shownAll ds)
  | _, _, _, .nil, r, _, _ => by
    cases r
    exact ⟨[], (fun _ h => by cases h), by simp only [PyData.shownAll]; exact .nil⟩
  | _, _, _, .cons (d := d) (ds := ds) h rs, r, hs, hz => by
    cases r with
    | cons r1 r2 =>
      have hs' : shw d = true ∧ shws ds = true := by simpa [shws] using hs
      obtain ⟨b1, l1, k1⟩ := reprK_dx I h r1 hs'.1 (hz _ (by simp only [PyData.shownAll]; exact List.mem_cons_self))
      obtain ⟨b2, l2, k2⟩ := reprAll_dx I rs r2 hs'.2 fun t ht => hz t (by simp only [PyData.shownAll]; exact List.mem_cons_of_mem _ ht)
      refine ⟨b1 ++ b2, ?_, ?_⟩
      · simp only [PyData.depthAll]
        exact (l1.mono (Nat.le_max_left _ _)).app (l2.mono (Nat.le_max_right _ _))
      · simp only [PyData.depthAll, PyData.shownAll]
        exact .cons ((k1.more fun b hb => List.mem_append_left _ hb).level_le (Nat.le_max_left _ _)) (k2.more_le (fun b hb => List.mem_append_right _ hb) (Nat.le_max_right _ _))
end
end
/-- repr of a list of data -/
def rReprL : List V → Hp → VK → Prop := fun xs H Q => ∃ (X0 : Addr → Prop) (v : V) (ds : List PyData), xs = [v] ∧ DX X0 H v (.list ds) ∧ ds ≠ [] ∧ shws ds = true ∧ PyData.depthAll ds ≤ 40 ∧ (PyData.shown (.list ds)).length ≤ sizeLine ∧ Q (.str (PyData.shown (.list ds))) H
theorem call_reprL {X : Cx} (hg : X.A.guards = some []) (hu : X.A.units + 64 < cLine) : CallR X (.builtin "repr") rReprL := by
  intro pins s σ H xs us Q I r h
  obtain ⟨X0, v, ds, rfl, hd, hne, hs, hdp, hz, q⟩ := h
  cases r with
  | cons ru rn =>
    cases rn
    cases hd with
    | @lst a xs _ n e rx =>
      cases ru
      obtain ⟨its, rv, ⟨o, k, ho, hc, _, hd⟩, _⟩ := I.list (SqL.of e)
      have long : (listText (PyData.shownAll ds)).length ≤ sizeLine := by simpa only [PyData.shown] using hz
      obtain ⟨bs, low, all⟩ := reprAll_dx I rx rv hs fun t ht => Nat.le_trans (listText_mem_le ht) long
      have whole : DX X0 H (.ref a) (.list ds) := .lst n e rx
      have fresh : a ∉ bs := low.not whole (by simp only [PyData.depth]; omega)
      cases its with
      | nil =>
        cases rv
        cases rx
        exact absurd rfl hne
      | cons y its =>
        refine call_repr_slot (T := "list") (idr := "list.__repr__") (by omega) ⟨o, ho, hc⟩ F.slot_list_repr.toG ?_
        refine call_list_reprK ho hc hd fresh (by simpa using all.length_eq) (fun i z q => all.item i z (by simpa using q)) hg (fun b _ => Clear.nil b) (by show X.A.units + 1 + (PyData.depthAll ds + 1) < cLine; omega) (fun _ _ z => z) (fun h' t tk hk => ?_) long
        refine ⟨_, _, rfl, .str (PyData.shown (.list ds)), H, I.kept hk, ⟨t, ?_⟩, q⟩
        simp only [PyData.shown]
end KD

/-! How a call is refused. -/
namespace K56
open PySem PySem.Spec PyProof.Rows L2 KD LamX KL
abbrev s__law_met : Stmt := topS 45
abbrev n__law_met : List Str := ["_law_ask", "e"]
theorem sc__law_met : FnScope n__law_met ["_law_ask"] (defScope s__law_met) := ⟨rfl, rfl, rfl, by decide +kernel, rfl, by decide +kernel, by decide +kernel⟩
abbrev Cla := Addr × Str × Str
def Met (cs : List Cla) (Q : VK) : XK := fun cls d H => ∃ (dd C : Addr) (fl tag : Str) (v : V), (C, fl, tag) ∈ cs ∧ cls = .ref C ∧ d = some dd ∧ H dd = some (.xd [(fl, v)]) ∧ ∀ p, H p = none → Q (.ref p) (upd H p (.tup [.str tag, v]))
def TMet (cs : List Cla) : (XK → Hp → VK → Prop) → Hp → VK → Prop := fun tl H Q =>
  tl (Met cs Q) H fun _ H' => 2 ≤ sizeLine ∧ ∀ p, H' p = none → Q (.ref p) (upd H' p (.tup [.str "told", .non]))
theorem takes_len {X : Cx} {W : WX} (tk : Takes X W) : Takes X fun cls d σ H => σ.length = X.N.length → W cls d σ H := fun e s' hx => by
  obtain ⟨a, B, sI, pins2, z1, Z1, cls, d, e1, J0, nb, up, sk, na, os, ag, wish⟩ := hx
  exact tk e s' ⟨a, B, sI, pins2, z1, Z1, cls, d, e1, J0, nb, up, sk, na, os, ag, wish J0.len⟩
/-- NoText and NoRow are two -/
structure Two (K : PySem.W.Frag) (C1 C2 : Addr) : Prop where
  e11 : PySem.W.exmOne K (.ref C2) (.ref C2) = some true
  e21 : PySem.W.exmOne K (.ref C1) (.ref C2) = some false
  e22 : PySem.W.exmOne K (.ref C1) (.ref C1) = some true
def csOf (C1 C2 : Addr) : List Cla := [(C2, "thing", "row"), (C1, "index", "text")]
theorem met_gives {X : Cx} {C1 C2 g : Addr} {cdg : Value} {q : Str} (E1 : Ec X.prog X.w X.K X.mg X.base "NoText" "index" C1) (E2 : Ec X.prog X.w X.K X.mg X.base "NoRow" "thing" C2) (T2 : Two X.K C1 C2) :
    GivesTo X n__law_met "_law_met" (defScope s__law_met) g cdg (defBody s__law_met) "_law_ask" q (TMet (csOf C1 C2)) := by
  intro f c' s H Q tl act hc h
  let Y : Cx := (cxOf C8.CX0 X.prog X.w X.K X.mg X.base n__law_met "_law_met" (defScope s__law_met) g cdg X.A X.stack s H C8.E0).nox
  let cl1 : Cl := ⟨.ref C2, 1, fun a cls d => tRet (tTup (tCons (tC (.str "row")) (tCons (tXf a cls d C2 "thing" (tVar 1)) tNil)))⟩
  let cl2 : Cl := ⟨.ref C1, 1, fun a cls d => tRet (tTup (tCons (tC (.str "text")) (tCons (tXf a cls d C1 "index" (tVar 1)) tNil)))⟩
  refine ⟨_, pss_cons (ps_tryA (X := Y) (W0 := fun _ _ _ _ => False) (ll := [cl1, cl2]) (tb := fun W D σ H => ∃ Ech : XK, (∀ cls d σ' H', Ech cls d H' → σ'.length = 2 → W cls d σ' H') ∧ σ[0]? = some (some (.ref f)) ∧ H c' = some (CodeO c' q) ∧ tl Ech H fun _ H' => D.nx σ H')
    rfl rfl sc__law_met.nd LamX.takes0 (fun W pn xe tk _ => ?_) ?_) (pss_one (ps_ret (pe_tup (pa_cons pe_str (pa_cons pe_non pa_nil))))), ?_⟩
  · refine ⟨fun pins s' σ H' D I h' => ?_⟩
    obtain ⟨Ech, hW, h1, h2, h3⟩ := h'
    have hp := fun p1 p2 => act _ pn xe Ech p1 p2 (takes_len tk) (fun cls d σ' H'' he hl => hW cls d σ' H'' he hl)
    exact (pss_one (ps_expr (hp _ _))).run pins s' σ H' D I ⟨h1, h2, h3⟩
  · exact (.cons (cl := cl1) ⟨rfl, by decide, .inl E2.gC⟩ rfl rfl (fun a ob k d pn hz hf => pss_one (ps_ret (pe_tup (pa_cons pe_str (pa_cons (pe_xf (X := Y) E2.xf E2.noF hz hf (pv 1)) pa_nil))))) (.cons (cl := cl2) ⟨rfl, by decide, .inl E1.gC⟩ rfl rfl (fun a ob k d pn hz hf => pss_one (ps_ret (pe_tup (pa_cons pe_str (pa_cons (pe_xf (X := Y) E1.xf E1.noF hz hf (pv 1)) pa_nil))))) .nil))
  · have rd : ∀ (a C : Addr) (fl tag : Str) (v : V) (dd : Addr) (z : L2.St) (Z : Hp) (D : Ends), z.length = 2 → Z dd = some (.xd [(fl, v)]) → (∀ p, Z p = none → D.rt (.ref p) (upd Z p (.tup [.str tag, v]))) →
        tRet (tTup (tCons (tC (.str tag)) (tCons (tXf a (.ref C) (some dd) C fl (tVar 1)) tNil))) D (z.set 1 (some (.ref a))) Z := fun a C fl tag v dd z Z D hl hd hq =>
      ⟨.ref a, by rw [List.getElem?_set_self (by omega)], rfl, rfl, dd, _, v, rfl, hd, by simp [List.lookup], (show 2 ≤ sizeLine by decide), hq⟩
    refine ⟨Met (csOf C1 C2) Q, ?_, rfl, hc, ?_⟩
    · rintro cls d z Z ⟨dd, C, fl, tag, v, hm, rfl, rfl, hd, hq⟩ hl
      simp only [csOf, List.mem_cons, List.not_mem_nil, or_false, Prod.mk.injEq] at hm
      rcases hm with ⟨rfl, rfl, rfl⟩ | ⟨rfl, rfl, rfl⟩
      · exact ⟨true, T2.e11, fun _ a _ => rd a _ _ _ v dd z Z _ hl hd hq, fun e => by cases e⟩
      · exact ⟨false, T2.e21, fun e => (by cases e), fun _ => ⟨true, T2.e22, fun _ a _ => rd a _ _ _ v dd z Z _ hl hd hq, fun e => by cases e⟩⟩
    · exact h
end K56

/-! Calls that are refused, told. -/
namespace K56
open PySem PySem.Spec PyProof.Rows L2 KD LamX
/-- what a call of _law_met with a lambda leans on -/
structure TrB (X : Cx) (T : List (Addr × Str)) (TT : (XK → Hp → VK → Prop) → Hp → VK → Prop) : Prop where
  ex : ∃ (g c Pt : Addr) (dV kV doc pm cdv ct oc : Value) (an od : Option Addr) (osl : Array (Option Value)), X.mg "_law_met" = some (.ref g) ∧ PySem.W.keepIn X.K (.ref g) = true ∧
    X.K.lookup g = some ⟨oc, od, .func (PySem.W.fnOf "_law_met" "_law_met" (defArgs s__law_met) (defBody s__law_met) (defScope s__law_met) dV kV doc pm an cdv ct), osl⟩ ∧ PySem.W.codeIn X.K cdv "_law_met" = true ∧
    L2.Binds X.K (PySem.W.fnOf "_law_met" "_law_met" (defArgs s__law_met) (defBody s__law_met) (defScope s__law_met) dV kV doc pm an cdv ct) ["_law_ask"] [] ∧ GivesTo X n__law_met "_law_met" (defScope s__law_met) g cdv (defBody s__law_met) "_law_ask" (X.env.qual ++ "<lambda>") TT ∧
    TabB X.base X.mg c Pt ∧ X.env.code = .ref c ∧ (Pt, X.env.qual ++ "<lambda>") ∈ T ∧ ∀ p ∈ T, p.1 = Pt → p.2 = X.env.qual ++ "<lambda>"
  room : Room 9 X.A
theorem pe_met {X : Cx} {T : List (Addr × Str)} {TT : (XK → Hp → VK → Prop) → Hp → VK → Prop} {params : Arguments} {body : Expr} {scope : Scope} {t : XK → TE} {p lpos pos : Pos} (B : TrB X T TT) (L : LamS X.env.scope scope) (hdef : defaultsOf params X.env = ([], []))
    (hbind : ∀ (q : Str) (cl : List (Str × Addr)) (pm cv ctv : Value), bindArgs (PySem.W.kla_fn "<lambda>" q params body scope cl pm cv ctv) ⟨[], []⟩ = pure [])
    (hbody : ∀ (A : Around) (outer : List Env) (s : Shared) (H : Hp) (E : XK) (f c' : Addr), Room 7 (A.deeper (lamEnv X scope s.heap.objs.size f c')) → PE (lamCx X A outer s H E scope f c') body (t E)) (hg : Gl X "_law_met" := by rfl) :
    PE X (.Call (.Name "_law_met" p) [.Lambda params body scope lpos] [] pos) (tLam T TT t) := by
  obtain ⟨g, c, Pt, dV, kV, doc, pm, cdv, ct, oc, an, od, osl, h1, h2, h3, h4, h5, h6, h7, h8, h9, h10⟩ := B.ex
  exact pe_lamcall hg h1 h2 h3 h4 h5 sc__law_met rfl (.inl rfl) h6 h7 h8 h9 h10 B.room L hdef hbind hbody
section
variable {X : Addr → Prop} {H : Hp} {σ : L2.St} {Γ : List Sv} {T : List (Addr × Str)} {st cl F : Addr} {n : Nat} {E : XK} {r : PyData} {Q : VK} {C : Addr} {K : PySem.W.Frag} {tz : TS} {D : Ends} {fl tag : Str} {cs : List Cla} {te : XK → TE}
/-- what is refused so, at each heap behind -/
def Ref (X : Addr → Prop) (te : XK → TE) (σ : L2.St) (Γ : List Sv) (C : Addr) (fl : Str) (r : PyData) : Prop := ∀ (H1 : Hp) (E : XK) (Q : VK), Trk X H1 → EnvOk X H1 σ Γ → (∀ a w H', Same H1 H' → H' a = some (.xd [(fl, w)]) → DX X H' w r → E (.ref C) (some a) H') → te E σ H1 Q
theorem c_met (Z : Zt X st cl n T H) (En : EnvOk X H σ Γ) (h : Ref X te σ Γ C fl r) (hc : (C, fl, tag) ∈ cs) (k : ∀ w H', Zt X st cl n T H' → ExtN H H' → DX X H' w (.tuple [.str tag, r]) → Q w H') : tLam T (TMet cs) te σ H Q := ⟨Z.tabs, fun H1 ex T1 => by
  have Z1 := Z.lam ex T1
  have E1 := En.kq (Kq.ext (X := X) ex)
  refine h H1 _ _ Z1.sg.t E1 fun a w H' s ea dw => ?_
  refine ⟨a, C, fl, tag, w, hc, rfl, rfl, ea, fun p hp => ?_⟩
  have s2 : Same H1 (upd H' p (.tup [.str tag, w])) := s.trans (Same.upd hp)
  exact k _ _ (Z1.same s2) (ExtN.trans ex fun b o e _ => s2 b o e) (DX.newT (Z1.sg.t.mono s) (.cons (.str _) (.cons dw .nil)) hp)⟩
/-- a new list with one that is told -/
theorem q_own {i : Nat} (Z : Zt X st cl n T H) (En : EnvOk X H σ Γ) (h : Ref X te σ Γ C fl r) (hc : (C, fl, tag) ∈ cs)
    (k : ∀ F H2 xs, (∀ o, (∀ ps, o ≠ .tbl ps) → H F ≠ some o) → F ≠ st → F ≠ cl → ¬ X F → Zt (fun b => X b ∨ b = F) st cl n T H2 → EnvOk (fun b => X b ∨ b = F) H2 (σ.set i (some (.ref F))) (Γ.set i (.val (.ref F))) → H2 F = some (.lst xs) → DXs (fun b => X b ∨ b = F) H2 xs [.tuple [.str tag, r]] → ExtN H H2 → tz D (σ.set i (some (.ref F))) H2) :
    tSeq (tAsg (tLst (tCons (tLam T (TMet cs) te) tNil)) (gName i)) tz D σ H := by
  refine k_set (k_lst (k_cons (c_met Z En h hc fun w H1 Z1 x1 d1 => k_nil ⟨by show 1 ≤ sizeLine; decide, fun F hF => ?_⟩)))
  have s2 : Same H1 (upd H1 F (.lst [w])) := Same.upd hF
  have E2 := (((En.kq (Kq.ext (X := X) x1)).more (More.one hF)).same s2).setV (i := i) (v := .ref F)
  refine k F _ [w] (fun o hn e => by have := x1 F o e hn; rw [hF] at this; cases this) (Z1.sg.ne1 hF) (Z1.sg.ne2 hF) (Z1.sg.t.new hF) ((Z1.same s2).more upd_same) E2 upd_same (.cons ((d1.more (More.one hF)).mono (Kp.of s2)) .nil) (ExtN.trans x1 fun b o e _ => s2 b o e)
theorem q_met {i : Nat} {xs : List V} {ds : List PyData} (Z : Zt (fun b => X b ∨ b = F) st cl n T H) (En : EnvOk (fun b => X b ∨ b = F) H σ Γ) (hi : Γ[i]? = some (.val (.ref F))) (hF : H F = some (.lst xs)) (hx : DXs (fun b => X b ∨ b = F) H xs ds) (n1 : F ≠ st) (n2 : F ≠ cl) (hl : ds.length < 1000)
    (h : Ref (fun b => X b ∨ b = F) te σ Γ C fl r) (hc : (C, fl, tag) ∈ cs)
    (k : ∀ H2 ys, Zt (fun b => X b ∨ b = F) st cl n T H2 → EnvOk (fun b => X b ∨ b = F) H2 σ Γ → H2 F = some (.lst ys) → DXs (fun b => X b ∨ b = F) H2 ys (ds ++ [.tuple [.str tag, r]]) → Kq (fun b => b = F) H H2 → tz D σ H2) :
    tSeq (tDrop (tBM K "list" rAppend (tVar i) (tCons (tLam T (TMet cs) te) tNil))) tz D σ H := by
  refine ⟨.ref F, En.get i _ hi, .inl ⟨rfl, _, SqL.of hF⟩, ?_⟩
  refine k_cons (c_met Z En h hc fun w H' Z' x' d' => ?_)
  have hF' := x' F _ hF (fun _ e => by cases e)
  have l1 : xs.length = ds.length := hx.length
  refine ⟨F, xs, w, rfl, rfl, hF', by rw [sizeLine_eq]; omega, ?_⟩
  have kF : Kp (fun b => X b ∨ b = F) H' (upd H' F (.lst (xs ++ [w]))) := Kp.put (.inr rfl)
  exact k _ _ (Z'.put (L := F) KpL.put upd_same (.inr rfl) n1 n2) ((En.kq (Kq.ext x')).mono kF) upd_same ((DXs.kq (Kq.ext x') hx).mono kF |>.append (.cons (d'.mono kF) .nil)) ((Kq.ext x').trans (Kq.of (Kp.put rfl)))
end
end K56

/-! Defs of the law that show things: nothing is being shown where they are called. -/
namespace KD
open PySem PySem.Spec PyProof.Rows L2
structure FnOkG (P : Program) (w : World) (K : PySem.W.Frag) (mg : Str → Option Value) (base : Heap) (CX : CXT) (k : Nat) (f : Addr) (fd : FuncData) (ps : List Str) (sp : Sp) : Prop where
  len : ∀ vs H Q E, sp vs H Q E → vs.length = ps.length
  run : ∀ (A : Around) (outer : List Env) (s : Shared) (H : Hp) (args : Args) (us : List Value) (vs : List V) (Q : VK) (E : XK), A.guards = some [] → Room k A → Env0 P w K mg base A outer s H → BindsTo s fd args (ps.zip us) → Vals vs us → sp vs H Q E →
    codeAny (model P w) A (.call (.ref f) args) (CR CX outer P w H s Q E) s
structure OwnG (P : Program) (w : World) (K : PySem.W.Frag) (mg : Str → Option Value) (base : Heap) (CX : CXT) (k : Nat) (x : Str) (ps : List Str) (sp : Sp) : Prop where
  ex : ∃ (f : Addr) (fd : FuncData), mg x = some (.ref f) ∧ PySem.W.keepIn K (.ref f) = true ∧ Binds K fd ps [] ∧ FnOkG P w K mg base CX k f fd ps sp
section
variable {X : Cx} {CX : CXT} {k j : Nat} {f : Addr} {fd : FuncData} {x : Str} {ps : List Str} {sp : Sp} {e : Expr} {es : List Expr} {p pos : Pos} {ta : TA} {E : XK}
theorem run_fnG {pins : List (Addr × Obj)} {σ : L2.St} {H : Hp} {s : Shared} {Q : VK} {us : List Value} {vs : List V} (F : FnOkG X.prog X.w X.K X.mg X.base CX k f fd ps sp) (hG : X.A.guards = some []) (hr : Room k X.A) (hb : Binds X.K fd ps []) (hx : Passes CX X E)
    (I : Inv X pins σ H s) (r : Vals vs us) (h : sp vs H Q E) : wpAny (model X.prog X.w) X.A (call (.ref f) us) (EP X pins σ Q) X.xe s := by
  have hl : us.length = ps.length := by rw [← r.length]; exact F.len _ _ _ _ h
  refine wpAny_call (codeAny_mono (F.run X.A X.stack s H ⟨us, []⟩ us vs Q E hG hr I.env0 (by have := hb s us I.kIn (by rw [List.append_nil]; exact hl); rw [List.append_nil] at this; exact this) r h) fun r s' hq => ?_)
  cases r with
  | error e => exact hx pins σ H s e s' I hq
  | ok fl =>
    cases fl with
    | ret u => exact I.after hq
    | next => exact False.elim hq
    | brk => exact False.elim hq
    | cont => exact False.elim hq
theorem pe_ownG (O : OwnG X.prog X.w X.K X.mg X.base CX0 k x ps sp) (hG : X.A.guards = some []) (hr : Room j X.A) (hk : k ≤ j) (hg : Gl X x) (ha : PA X (e :: es) ta) (hdb : (x == ("__debug__" : Str)) = false := by decide)
    (he : starEach (e :: es) X.env = (false, eval e X.env) :: starEach es X.env := by rfl) (hpl : (backTo pos (starEach es X.env)).any (·.1) = false := by rfl) : PE X (.Call (.Name x p) (e :: es) [] pos) (tCall sp [] E0 ta) := by
  obtain ⟨f, fd, h1, h2, h3, h4⟩ := O.ex
  refine ⟨fun pins s σ H Q I h => ?_⟩
  refine wpAny_Call_Name_kw (ld_glob I hg h1 ?_ hdb)
  refine PySem.W.callWith_K (h₀ := X.base) I.ok.mod.kin h2 (thn (ha.run pos pins s σ H _ I h) fun us s1 ⟨vs, H1, I1, r, q⟩ => ⟨I1.kIn, ?_⟩) he hpl
  have q : sp (vs ++ []) H1 Q E0 := q
  rw [List.append_nil] at q
  exact run_fnG h4 hG (hr.mono hk) h3 pass0 I1 r q
end
/-- a def of a code of its own, whose body may show things -/
theorem okCG {P : Program} {w : World} {K : PySem.W.Frag} {mg : Str → Option Value} {base : Heap} {x qual : Str} {st : Stmt} {N ps : List Str} {k : Nat} {sp : Sp} {f c : Addr} {oc kV doc pm ct : Value} {an od : Option Addr} {osl : Array (Option Value)} (l : K.lookup f = some ⟨oc, od, .func (PySem.W.fnOf x qual (defArgs st) (defBody st) (defScope st) .none kV doc pm an (.ref c) ct), osl⟩) (hcd : PySem.W.codeIn K (.ref c) qual = true)
    (S : FnScope N ps (defScope st)) (len : ∀ vs H Q E, sp vs H Q E → vs.length = ps.length)
    (hbody : ∀ (A : Around) (outer : List Env) (s : Shared) (H : Hp) (vs : List V) (Q : VK) (E : XK), A.guards = some [] → Room k (A.deeper (envOfC qual (defScope st) s.heap.objs.size f (.ref c))) → sp vs H Q E →
      ∃ t, PSs (cxOf CX0 P w K mg base N qual (defScope st) f (.ref c) A outer s H E).nox (defBody st) t ∧ t { nx := fun _ H' => Q .non H', rt := Q } (start N vs) H) : FnOkG P w K mg base CX0 (k + 1) f (PySem.W.fnOf x qual (defArgs st) (defBody st) (defScope st) .none kV doc pm an (.ref c) ct) ps sp :=
  ⟨len, fun A outer s H args us vs Q E hG hr e0 hb r hsp => LamX.run_ofS l hcd S hr e0 hb r (len _ _ _ _ hsp) fun hr' => by
    obtain ⟨t, h, q⟩ := hbody A outer s H vs Q E hG hr' hsp
    exact ⟨t, h.nox, q⟩⟩
end KD

/-! What is refused. -/
namespace K56
open PySem PySem.Spec PyProof.Rows L2 KD KL LamX
-- RAISES check_texts is_common_row common_row check_rows gaps merged
-- HINT _law_refused_right callv pe_callV A_ask (by decide : 7 ≤ 7)
-- HINT _law_refused_right repr call_reprG hG
variable {P : Program} {w : World} {K : PySem.W.Frag} {mg : Str → Option Value} {base : Heap}
theorem call_reprG {X : Cx} (hg : X.A.guards = some []) (_ : (0 : Nat) = 0) (hu : X.A.units + 64 < cLine) : CallR X (.builtin "repr") rReprL := call_reprL hg hu
section
variable {X : Addr → Prop} {σ : L2.St} {H : Hp} {te : TE} {tl : TA} {Q : VK} {tz tu : TS} {D : Ends}
theorem k_c {v : V} (h : Q v H) : tC v σ H Q := h
theorem g_reprL {ds : List PyData} (h : G X te σ H (.list ds)) (h0 : ds ≠ []) (h1 : shws ds = true) (h2 : PyData.depthAll ds ≤ 40) (h3 : (PyData.shown (.list ds)).length ≤ 1000000) : G X (tCB rReprL (tCons te tNil)) σ H (.str (PyData.shown (.list ds))) := fun H1 s Q q =>
  h H1 s _ fun v H2 s2 r => ⟨X, v, ds, rfl, r, h0, h1, h2, by rw [sizeLine_eq]; omega, q _ H2 s2 (.str _)⟩
/-- a for over a tuple that is new -/
def ForT (K : PySem.W.Frag) (g : TG) (tb : TS) (D : Ends) (σ : L2.St) (v : V) (H1 : Hp) : Prop := ∃ a, v = .ref a ∧ (∃ xs, SqT K H1 a xs) ∧ tFor (fun _ H R => R (Itt K a) H) g tb D σ H1
theorem k_forTQ {g : TG} {tu : TS} (h : te σ H fun v H1 => ForT K g tu { D with nx := tz D } σ v H1) : tSeq (tFor (iTup K te) g tu) tz D σ H := h
theorem forT_it {g : TG} {tu : TS} {a : Addr} {xs : List V} (Pv : Nat → L2.St → Hp → Prop) (hH : H a = some (.tup xs)) (h0 : Pv 0 σ H) (hG : ∀ i σ' H', Pv i σ' H' → H' a = some (.tup xs))
    (hs : ∀ i x σ' H', xs[i]? = some x → Pv i σ' H' → g x σ' H' fun σ2 H2 => tu { D with nx := Pv (i + 1), ct := Pv (i + 1), bk := D.nx } σ2 H2) (hd : ∀ σ' H', Pv xs.length σ' H' → D.nx σ' H') : ForT K g tu D σ (.ref a) H := by
  refine ⟨a, rfl, ⟨xs, SqT.of hH⟩, ?_⟩
  refine for_it walk_tup Pv h0 (fun i σ' H' _ p => SqT.of (hG i σ' H' p)) (fun i x σ' H' H'' _ p y => ?_) hd
  obtain ⟨rfl, hx⟩ := y
  exact hs i x σ' _ hx p
end
/-! ### odd rows -/
structure Odd (ws us vs : List Str) (d : PyData) : Prop where
  n1 : isRowD ws us d = false
  n2 : isRowD ws vs d = false
  few : FewR d
  sh : shw d = true
  dp : d.depth ≤ 5
  ln : (PyData.shown d).length ≤ 5000
def oddL (l : List Pr) : PyData := .list (l.map prD ++ [.tuple [.int 0, .int (-1)]])
def oddsD (l : List Pr) : List PyData := [.none, .int 5, .str "ab", .dict [], .list [.none], .list [.tuple [.int 0]], .list [.tuple [.int 99, .int 0]], oddL l, .list [.tuple [.bool true, .int 0]]]
theorem row_no {ws us : List Str} {d : PyData} (h : isSeq d = false ∨ ∃ z ∈ itemsD d, isMatchD ws us z = false) : isRowD ws us d = false := by
  unfold isRowD areD
  rcases h with h | ⟨z, hz, h⟩
  · rw [h]
    rfl
  · have : (itemsD d).all (isMatchD ws us) = false := by
      rw [Bool.eq_false_iff]
      intro e
      have := List.all_eq_true.mp e z hz
      rw [h] at this
      cases this
    rw [this, Bool.and_false, Bool.false_and]
theorem odd_row {ws us : List Str} {l : List Pr} (hw : ws.length ≤ 60) : ∀ d ∈ oddsD l, isRowD ws us d = false := by
  intro d hd
  simp only [oddsD, List.mem_cons, List.not_mem_nil, or_false] at hd
  rcases hd with rfl | rfl | rfl | rfl | rfl | rfl | rfl | rfl | rfl
  · exact row_no (.inl rfl)
  · exact row_no (.inl rfl)
  · exact row_no (.inl rfl)
  · exact row_no (.inl rfl)
  · exact row_no (.inr ⟨.none, List.mem_singleton.mpr rfl, rfl⟩)
  · exact row_no (.inr ⟨.tuple [.int 0], List.mem_singleton.mpr rfl, rfl⟩)
  · refine row_no (.inr ⟨.tuple [.int 99, .int 0], List.mem_singleton.mpr rfl, ?_⟩)
    show (true && (decide ((99 : Int) < (ws.length : Int)) && _)) = false
    rw [decide_eq_false (show ¬ ((99 : Int) < (ws.length : Int)) by omega)]
    rfl
  · exact row_no (.inr ⟨.tuple [.int 0, .int (-1)], by show _ ∈ l.map prD ++ _; simp, rfl⟩)
  · exact row_no (.inr ⟨.tuple [.bool true, .int 0], List.mem_singleton.mpr rfl, rfl⟩)
theorem int_len : ∀ n < 61, (PyData.shown (.int ((n : Nat) : Int))).length ≤ 3 := by decide +kernel
theorem pr_len {p : Pr} (h1 : p.1 < 61) (h2 : p.2 < 61) : (PyData.shown (prD p)).length ≤ 20 := by
  have e : PyData.shown (prD p) = tupleText [PyData.shown (.int (p.1 : Nat)), PyData.shown (.int (p.2 : Nat))] := by
    show PyData.shown (.tuple [.int (p.1 : Nat), .int (p.2 : Nat)]) = _
    simp only [PyData.shown, PyData.shownAll]
  have h := tupleText_len_le [PyData.shown (.int (p.1 : Nat)), PyData.shown (.int (p.2 : Nat))]
  have a := int_len _ h1
  have b := int_len _ h2
  rw [e]
  simp only [List.map_cons, List.map_nil, List.sum_cons, List.sum_nil, List.length_cons, List.length_nil] at h
  omega
theorem shownAll_map (ds : List PyData) : PyData.shownAll ds = ds.map PyData.shown := by
  induction ds with
  | nil => simp [PyData.shownAll]
  | cons d r ih => simp [PyData.shownAll, ih]
theorem sum_le {ts : List Nat} {k : Nat} (h : ∀ t ∈ ts, t ≤ k) : ts.sum ≤ k * ts.length := by
  induction ts with
  | nil => simp
  | cons t r ih =>
    have a := h t List.mem_cons_self
    have b := ih fun z hz => h z (List.mem_cons_of_mem _ hz)
    rw [List.sum_cons, List.length_cons, Nat.mul_add]
    omega
theorem list_len {ds : List PyData} {k : Nat} (h : ∀ d ∈ ds, (PyData.shown d).length ≤ k) : (PyData.shown (.list ds)).length ≤ (k + 2) * ds.length + 3 := by
  have e : PyData.shown (.list ds) = listText (ds.map PyData.shown) := by
    rw [← shownAll_map]
    simp only [PyData.shown]
  have a := listText_len_le (ds.map PyData.shown)
  have b : ((ds.map PyData.shown).map (·.length)).sum ≤ k * ds.length := by
    have := sum_le (ts := (ds.map PyData.shown).map (·.length)) (k := k) fun t ht => by
      obtain ⟨s, hs, rfl⟩ := List.mem_map.mp ht
      obtain ⟨d, hd, rfl⟩ := List.mem_map.mp hs
      exact h d hd
    simpa using this
  rw [e]
  rw [List.length_map] at a
  rw [Nat.add_mul]
  omega
theorem shws_app {xs ys : List PyData} (h : shws xs = true) (k : shws ys = true) : shws (xs ++ ys) = true := by
  induction xs with
  | nil => exact k
  | cons x r ih =>
    simp only [List.cons_append, shws, Bool.and_eq_true] at h ⊢
    exact ⟨h.1, ih h.2⟩
theorem shws_prs {l : List Pr} (h : ∀ p ∈ l, p.1 < 61 ∧ p.2 < 61) : shws (l.map prD) = true := by
  induction l with
  | nil => rfl
  | cons p r ih =>
    have a := h p List.mem_cons_self
    have li : ∀ n < 61, shw (.int ((n : Nat) : Int)) = true := by decide +kernel
    rw [List.map_cons, shws, ih fun z hz => h z (List.mem_cons_of_mem _ hz), Bool.and_true]
    show (shw (.int (p.1 : Nat)) && (shw (.int (p.2 : Nat)) && true)) = true
    rw [li _ a.1, li _ a.2]
    rfl
theorem dep_prs (l : List Pr) (ds : List PyData) (h : PyData.depthAll ds ≤ 4) : PyData.depthAll (l.map prD ++ ds) ≤ 4 := by
  induction l with
  | nil => exact h
  | cons p r ih =>
    rw [List.map_cons, List.cons_append, PyData.depthAll]
    have : (prD p).depth ≤ 4 := by
      show PyData.depth (.tuple [.int _, .int _]) ≤ 4
      simp [PyData.depth, PyData.depthAll]
    omega
theorem odd_ok {ws us vs : List Str} {l : List Pr} (hw : ws.length ≤ 60) (hu : us.length ≤ 60) (Y : RowOf ws us l) : ∀ d ∈ oddsD l, Odd ws us vs d := by
  intro d hd
  have n1 := odd_row (us := us) (l := l) hw d hd
  have n2 := odd_row (us := vs) (l := l) hw d hd
  simp only [oddsD, List.mem_cons, List.not_mem_nil, or_false] at hd
  rcases hd with rfl | rfl | rfl | rfl | rfl | rfl | rfl | rfl | rfl
  · exact ⟨n1, n2, (fun h => by cases h), by decide +kernel, by decide +kernel, by decide +kernel⟩
  · exact ⟨n1, n2, (fun h => by cases h), by decide +kernel, by decide +kernel, by decide +kernel⟩
  · exact ⟨n1, n2, (fun h => by cases h), by decide +kernel, by decide +kernel, by decide +kernel⟩
  · exact ⟨n1, n2, (fun h => by cases h), by decide +kernel, by decide +kernel, by decide +kernel⟩
  · exact ⟨n1, n2, (fun h => (by decide : 1 ≤ 1000)), by decide +kernel, by decide +kernel, by decide +kernel⟩
  · exact ⟨n1, n2, (fun h => (by decide : 1 ≤ 1000)), by decide +kernel, by decide +kernel, by decide +kernel⟩
  · exact ⟨n1, n2, (fun h => (by decide : 1 ≤ 1000)), by decide +kernel, by decide +kernel, by decide +kernel⟩
  · have fl := Y.few
    have hb : ∀ p ∈ l, p.1 < 61 ∧ p.2 < 61 := fun p hp => by have := Y.bd p hp; omega
    refine ⟨n1, n2, fun h => ?_, ?_, ?_, ?_⟩
    · show (l.map prD ++ [PyData.tuple [.int 0, .int (-1)]]).length ≤ 1000
      rw [List.length_append, List.length_map]
      simp
      omega
    · exact shws_app (shws_prs hb) (by decide +kernel)
    · have := dep_prs l [PyData.tuple [.int 0, .int (-1)]] (by simp [PyData.depth, PyData.depthAll])
      show PyData.depth (.list _) ≤ 5
      simp only [PyData.depth]
      omega
    · have := list_len (ds := l.map prD ++ [PyData.tuple [.int 0, .int (-1)]]) (k := 20) fun d hd => by
        rcases List.mem_append.mp hd with hd | hd
        · obtain ⟨p, hp, rfl⟩ := List.mem_map.mp hd
          exact pr_len (hb p hp).1 (hb p hp).2
        · rw [List.mem_singleton.mp hd]
          decide +kernel
      rw [List.length_append, List.length_map] at this
      simp only [List.length_singleton] at this
      show (PyData.shown (.list _)).length ≤ 5000
      omega
  · exact ⟨n1, n2, (fun h => (by decide : 1 ≤ 1000)), by decide +kernel, by decide +kernel, by decide +kernel⟩
/-! ### odd texts -/
theorem ff_stop {x : PyData} (hx : isWordsD x = false) : ∀ (ws : List Str) (i : Nat), (∀ s ∈ ws, Wd s) → ffD i ((ws.map PyData.str ++ [x]).map fun z => .bool (isWordsD z)) = .int ((i + ws.length : Nat) : Int)
  | [], i, _ => by
    show ffD i [.bool (isWordsD x)] = _
    rw [hx]
    simp [ffD]
  | s :: r, i, h => by
    rw [List.map_cons, List.cons_append, List.map_cons, (h s List.mem_cons_self).1, ff_true, ff_stop hx r (i + 1) fun z hz => h z (List.mem_cons_of_mem _ hz), List.length_cons]
    congr 1
    omega
theorem wrong_stop {x : PyData} {ws : List Str} (hx : isWordsD x = false) (h : ∀ s ∈ ws, Wd s) : wrongD (.list (ws.map PyData.str ++ [x])) = .int (ws.length : Int) := by
  unfold wrongD
  rw [if_pos (show isSeq (PyData.list (ws.map PyData.str ++ [x])) = true from rfl)]
  show ffD 0 ((ws.map PyData.str ++ [x]).map _) = _
  rw [ff_stop hx ws 0 h, Nat.zero_add]
theorem wAll_stop {x : PyData} {ws : List Str} (hx : wordsPre x) (h : ∀ s ∈ ws, Wd s) (hl : ws.length ≤ 60) : wordsAll (.list (ws.map PyData.str ++ [x])) := fun _ => ⟨by show (ws.map PyData.str ++ [x]).length ≤ _; rw [List.length_append, List.length_map]; simp; omega, fun z hz => by
  rcases List.mem_append.mp (show z ∈ ws.map PyData.str ++ [x] from hz) with hz | hz
  · obtain ⟨s, hs, rfl⟩ := List.mem_map.mp hz
    exact (h s hs).pre
  · rw [List.mem_singleton.mp hz]
    exact hx⟩
def fiveD (n m : Nat) (d : PyData) : List PyData := [.tuple [.str "row", d], .tuple [.str "row", d], .tuple [.str "text", .int (n : Nat)], .tuple [.str "text", .int 0], .tuple [.str "text", .int (m : Nat)]]
theorem five_ok {n m : Nat} {d : PyData} (hn : n ≤ 60) (hm : m ≤ 60) (h1 : shw d = true) (h2 : d.depth ≤ 5) (h3 : (PyData.shown d).length ≤ 5000) : shws (fiveD n m d) = true ∧ PyData.depthAll (fiveD n m d) ≤ 40 ∧ (PyData.shown (.list (fiveD n m d))).length ≤ 1000000 := by
  have li : ∀ n < 61, shw (.int ((n : Nat) : Int)) = true := by decide +kernel
  refine ⟨?_, ?_, ?_⟩
  · have a := li n (by omega)
    have b := li m (by omega)
    simp only [shw] at a b
    simp only [fiveD, shws, shw, h1, a, b, Bool.and_true, Bool.true_and]
    decide +kernel
  · simp only [fiveD, PyData.depthAll, PyData.depth]
    omega
  · have tl : ∀ (s : Str) (z : PyData), (PyData.shown (.str s)).length ≤ 10 → (PyData.shown z).length ≤ 5000 → (PyData.shown (.tuple [.str s, z])).length ≤ 5020 := fun s z hs hz => by
      have e : PyData.shown (.tuple [.str s, z]) = tupleText [PyData.shown (.str s), PyData.shown z] := by
        simp only [PyData.shown, PyData.shownAll]
      have h := tupleText_len_le [PyData.shown (.str s), PyData.shown z]
      rw [e]
      simp only [List.map_cons, List.map_nil, List.sum_cons, List.sum_nil, List.length_cons, List.length_nil] at h
      omega
    have il : ∀ k < 61, (PyData.shown (.int ((k : Nat) : Int))).length ≤ 5000 := fun k hk => Nat.le_trans (int_len k hk) (by omega)
    have sr : (PyData.shown (.str "row")).length ≤ 10 := by decide +kernel
    have st : (PyData.shown (.str "text")).length ≤ 10 := by decide +kernel
    have := list_len (ds := fiveD n m d) (k := 5020) fun z hz => by
      simp only [fiveD, List.mem_cons, List.not_mem_nil, or_false] at hz
      rcases hz with rfl | rfl | rfl | rfl | rfl
      · exact tl _ _ sr h3
      · exact tl _ _ sr h3
      · exact tl _ _ st (il n (by omega))
      · exact tl _ _ st (il 0 (by omega))
      · exact tl _ _ st (il m (by omega))
    have e5 : (fiveD n m d).length = 5 := rfl
    rw [e5] at this
    omega
theorem all3 {a b c : PyData} (h1 : wordsAll a) (h2 : wordsAll b) (h3 : wordsAll c) : ∀ d ∈ [a, b, c], wordsAll d := fun d hd => by
  simp only [List.mem_cons, List.not_mem_nil, or_false] at hd
  rcases hd with rfl | rfl | rfl
  · exact h1
  · exact h2
  · exact h3
def SA (Fg Fm C1 C2 : Addr) : Addr → List V → Sp → Prop := fun f dvs sp => (f = Fg ∨ f = Fm) ∧ dvs = [] ∧ sp = spXn 5 (erPre C1 C2) (rowsOut C1 C2)
def spRR (T : List (Addr × Str)) : Sp := fun us H Q _ => ∃ (X : Addr → Prop) (st cl : Addr) (n : Nat) (rest : List V) (ws ms vs : List Str) (l r : List Pr), us = .ref st :: rest ∧ Zt X st cl n T H ∧ n + 100 ≤ 1000000000 ∧ DXs X H rest [wsD ws, wsD ms, wsD vs, rowD l, rowD r] ∧ Tx ws ∧ Tx ms ∧ Tx vs ∧ Rox ws ms l ∧ Rox ws vs r ∧
  ∀ H', Zt X st cl (n + 1) T H' → (∀ a o, a ≠ st → a ≠ cl → H a = some o → (∀ ps, o ≠ .tbl ps) → H' a = some o) → Q (.bl true) H'
theorem g_cat1 {X : Addr → Prop} {σ : L2.St} {H : Hp} {ta tb : TE} {xs : List PyData} {y : PyData} (t : Trk X H) (h : G X ta σ H (.list xs)) (k : G X tb σ H y) (hl : xs.length ≤ 1000) : G X (tOp rAddA ta (tLst (tCons tb tNil))) σ H (.list (xs ++ [y])) := g_cat t h (g_lst t (ga_cons k ga_nil) (by simp)) (by simp; omega)
abbrev s__law_refused_right : Stmt := topS 46
abbrev n__law_refused_right : List Str := ["_law_stream", "_law_base", "_law_one", "_law_other", "_law_left", "_law_right", "_law_odd", "_law_ask", "_law_found", "_law_due"]
theorem sc__law_refused_right : FnScope n__law_refused_right ["_law_stream", "_law_base", "_law_one", "_law_other", "_law_left", "_law_right"] (defScope s__law_refused_right) := ⟨rfl, rfl, rfl, by decide +kernel, rfl, by decide +kernel, by decide +kernel⟩
theorem ok_refused {f c C1 C2 F_gaps F_merged : Addr} {oc kV doc pm ct : Value} {an od : Option Addr} {osl : Array (Option Value)} {TT : List (Addr × Str)} (l : K.lookup f = some ⟨oc, od, .func (PySem.W.fnOf "_law_refused_right" "_law_refused_right" (defArgs s__law_refused_right) (defBody s__law_refused_right) (defScope s__law_refused_right) .none kV doc pm an (.ref c) ct), osl⟩) (hcd : PySem.W.codeIn K (.ref c) "_law_refused_right" = true) (Tb : Bl mg)
    (O__law_pick : Own P w K mg base CX0 2 "_law_pick" ["_law_stream", "_law_some"] spPick) (A_ask : ∀ f dvs sp, SA F_gaps F_merged C1 C2 f dvs sp → HeldX P w K mg base 7 f dvs sp) (g_gaps : mg "gaps" = some (.ref F_gaps)) (g_merged : mg "merged" = some (.ref F_merged))
    (B0 : ∀ (A : Around) (outer : List Env) (s : Shared) (H : Hp) (E : XK), Room 9 (A.deeper (envOfC "_law_refused_right" (defScope s__law_refused_right) s.heap.objs.size f (.ref c))) → TrB (cxOf CX0 P w K mg base n__law_refused_right "_law_refused_right" (defScope s__law_refused_right) f (.ref c) A outer s H E).nox TT (TMet (csOf C1 C2))) :
    FnOkG P w K mg base CX0 10 f (PySem.W.fnOf "_law_refused_right" "_law_refused_right" (defArgs s__law_refused_right) (defBody s__law_refused_right) (defScope s__law_refused_right) .none kV doc pm an (.ref c) ct) ["_law_stream", "_law_base", "_law_one", "_law_other", "_law_left", "_law_right"] (spRR TT) := by
  have T := Tb
  refine okCG l hcd sc__law_refused_right (fun vs H Q E h => ?_) (fun A outer s H us Q E hG hr h => ?_)
  · obtain ⟨X, st, cl, n, rest, ws, ms, vs', l, r, rfl, _, _, dx, _⟩ := h
    show rest.length + 1 = 6
    rw [dx.length]
    rfl
  · obtain ⟨X, st, cl, n, rest, ws, ms, vs, l, r, rfl, Z, hn, dx, x1, x2, x3, Rl, Rr, q⟩ := h
    have B := B0 A outer s H E hr
    refine ⟨_, (pss_cons (ps_set (i := 6) sc__law_refused_right.nd rfl (by first | exact Or.inl rfl | exact Or.inr rfl) (pe_own O__law_pick hr (by decide) (by rfl) (pa_cons (pv 0) (pa_cons (pe_lst (pa_cons pe_non (pa_cons pe_int (pa_cons pe_str (pa_cons pe_dnewK (pa_cons (pe_lst (pa_cons pe_non pa_nil)) (pa_cons (pe_lst (pa_cons (pe_tup (pa_cons pe_int pa_nil)) pa_nil)) (pa_cons (pe_lst (pa_cons (pe_tup (pa_cons pe_int (pa_cons pe_int pa_nil))) pa_nil)) (pa_cons (pe_op op_addA (pv 4) (pe_lst (pa_cons (pe_tup (pa_cons pe_int (pa_cons (pe_un un_neg pe_int) pa_nil))) pa_nil))) (pa_cons (pe_lst (pa_cons (pe_tup (pa_cons pe_bl (pa_cons pe_int pa_nil))) pa_nil)) pa_nil)))))))))) pa_nil))))
    (pss_cons (ps_for PassesOwn.never rfl (pi_tup (pe_tup (pa_cons (pe_glob (v := .ref F_gaps) (by rfl) g_gaps rfl) (pa_cons (pe_glob (v := .ref F_merged) (by rfl) g_merged rfl) pa_nil)))) (pg_name (i := 7) sc__law_refused_right.nd rfl (by first | exact Or.inl rfl | exact Or.inr rfl))
    (pss_cons (ps_set (i := 8) sc__law_refused_right.nd rfl (by first | exact Or.inl rfl | exact Or.inr rfl) (pe_lst (pa_cons (pe_met B (lamS_by (sc := defScope s__law_refused_right) (by decide +kernel)) rfl (fun _ _ _ _ _ => rfl) (fun _ _ _ _ _ _ _ hr => (pe_callV A_ask (by decide : 7 ≤ 7) (i := 7) hr (takes_of rfl rfl rfl rfl) rfl (by first | exact Or.inl rfl | exact Or.inr (Or.inl rfl) | exact Or.inr (Or.inr rfl)) (pa_cons (pv 1) (pa_cons (pv 2) (pa_cons (pv 3) (pa_cons (pv 6) (pa_cons pe_non pa_nil)))))))) pa_nil)))
    (pss_cons (ps_expr (pe_bm PySem.F.plainAttrs_list PySem.F.slot_list_append PySem.F.type_list_append mt_append (pv 8) (pa_cons (pe_met B (lamS_by (sc := defScope s__law_refused_right) (by decide +kernel)) rfl (fun _ _ _ _ _ => rfl) (fun _ _ _ _ _ _ _ hr => (pe_callV A_ask (by decide : 7 ≤ 7) (i := 7) hr (takes_of rfl rfl rfl rfl) rfl (by first | exact Or.inl rfl | exact Or.inr (Or.inl rfl) | exact Or.inr (Or.inr rfl)) (pa_cons (pv 1) (pa_cons (pv 2) (pa_cons (pv 3) (pa_cons (pv 4) (pa_cons (pv 6) pa_nil)))))))) pa_nil)))
    (pss_cons (ps_expr (pe_bm PySem.F.plainAttrs_list PySem.F.slot_list_append PySem.F.type_list_append mt_append (pv 8) (pa_cons (pe_met B (lamS_by (sc := defScope s__law_refused_right) (by decide +kernel)) rfl (fun _ _ _ _ _ => rfl) (fun _ _ _ _ _ _ _ hr => (pe_callV A_ask (by decide : 7 ≤ 7) (i := 7) hr (takes_of rfl rfl rfl rfl) rfl (by first | exact Or.inl rfl | exact Or.inr (Or.inl rfl) | exact Or.inr (Or.inr rfl)) (pa_cons (pe_op op_addA (pv 1) (pe_lst (pa_cons pe_non pa_nil))) (pa_cons pe_int (pa_cons (pv 3) (pa_cons (pv 6) (pa_cons (pv 6) pa_nil)))))))) pa_nil)))
    (pss_cons (ps_expr (pe_bm PySem.F.plainAttrs_list PySem.F.slot_list_append PySem.F.type_list_append mt_append (pv 8) (pa_cons (pe_met B (lamS_by (sc := defScope s__law_refused_right) (by decide +kernel)) rfl (fun _ _ _ _ _ => rfl) (fun _ _ _ _ _ _ _ hr => (pe_callV A_ask (by decide : 7 ≤ 7) (i := 7) hr (takes_of rfl rfl rfl rfl) rfl (by first | exact Or.inl rfl | exact Or.inr (Or.inl rfl) | exact Or.inr (Or.inr rfl)) (pa_cons (pv 1) (pa_cons pe_int (pa_cons (pe_lst (pa_cons pe_non pa_nil)) (pa_cons (pv 6) (pa_cons (pv 6) pa_nil)))))))) pa_nil)))
    (pss_cons (ps_expr (pe_bm PySem.F.plainAttrs_list PySem.F.slot_list_append PySem.F.type_list_append mt_append (pv 8) (pa_cons (pe_met B (lamS_by (sc := defScope s__law_refused_right) (by decide +kernel)) rfl (fun _ _ _ _ _ => rfl) (fun _ _ _ _ _ _ _ hr => (pe_callV A_ask (by decide : 7 ≤ 7) (i := 7) hr (takes_of rfl rfl rfl rfl) rfl (by first | exact Or.inl rfl | exact Or.inr (Or.inl rfl) | exact Or.inr (Or.inr rfl)) (pa_cons (pv 1) (pa_cons (pv 2) (pa_cons (pe_op op_addA (pv 3) (pe_lst (pa_cons pe_str pa_nil))) (pa_cons (pv 6) (pa_cons (pv 6) pa_nil)))))))) pa_nil)))
    (pss_cons (ps_set (i := 9) sc__law_refused_right.nd rfl (by first | exact Or.inl rfl | exact Or.inr rfl) (pe_op op_addA (pe_op op_mulA (pe_lst (pa_cons (pe_tup (pa_cons pe_str (pa_cons (pv 6) pa_nil))) pa_nil)) pe_int) (pe_lst (pa_cons (pe_tup (pa_cons pe_str (pa_cons (pe_callB call_len (by rfl) T.b_len boot_len (pa_cons (pv 1) pa_nil)) pa_nil))) (pa_cons (pe_tup (pa_cons pe_str (pa_cons pe_int pa_nil))) (pa_cons (pe_tup (pa_cons pe_str (pa_cons (pe_callB call_len (by rfl) T.b_len boot_len (pa_cons (pv 3) pa_nil)) pa_nil))) pa_nil))))))
    (pss_one (ps_if (pt_cmpR op_ne (pe_callB (call_reprG hG rfl hr.units) (by rfl) T.b_repr boot_repr (pa_cons (pv 8) pa_nil)) (pe_callB (call_reprG hG rfl hr.units) (by rfl) T.b_repr boot_repr (pa_cons (pv 9) pa_nil)) (nomark _))
    (pss_one (ps_ret pe_bl)) pss_nil)))))))))
    (pss_one (ps_ret pe_bl)))), ?_⟩
    let Γ (x6 x7 x8 x9 : Sv) : List Sv := [.val (.ref st), .dat (wsD ws), .dat (wsD ms), .dat (wsD vs), .dat (rowD l), .dat (rowD r), x6, x7, x8, x9]
    have En : EnvOk X H (L2.start n__law_refused_right (.ref st :: rest)) (Γ .un .un .un .un) := by
      obtain ⟨v1, v2, v3, v4, v5, rfl, h1, h2, h3, h4, h5⟩ := dxs5 dx
      exact ⟨rfl, fun i s e => by
        match i, e with
        | 0, e => cases e; rfl
        | 1, e => cases e; exact ⟨_, rfl, h1⟩
        | 2, e => cases e; exact ⟨_, rfl, h2⟩
        | 3, e => cases e; exact ⟨_, rfl, h3⟩
        | 4, e => cases e; exact ⟨_, rfl, h4⟩
        | 5, e => cases e; exact ⟨_, rfl, h5⟩
        | 6, e => cases e; trivial
        | 7, e => cases e; trivial
        | 8, e => cases e; trivial
        | 9, e => cases e; trivial
        | _ + 10, e => cases e⟩
    have fl : l.length ≤ 60 := Nat.le_trans Rl.ro.few x1.few
    have gL : G X (tOp rAddA (tVar 4) (tLst (tCons (tTup (tCons (tC (.int 0)) (tCons (tUn (rU fun i => .int (-i)) (tC (.int 1))) tNil))) tNil))) _ H (oddL l) := g_cat1 (xs := l.map prD) (y := .tuple [.int 0, .int (-1)]) Z.sg.t (g_var (i := 4) (d := rowD l) En rfl) (g_tup Z.sg.t (ga_cons g_int (ga_cons g_neg1 ga_nil)) (by simp)) (by rw [List.length_map]; omega)
    refine k_set (c_pick (ds := oddsD l) Z.sg (gv_var (i := 0) En rfl) (g_lst Z.sg.t (ga_cons g_non (ga_cons g_int (ga_cons g_str (ga_cons (g_dict Z.sg.t) (ga_cons (g_lst Z.sg.t (ga_cons g_non ga_nil) (by simp)) (ga_cons (g_lst Z.sg.t (ga_cons (g_tup Z.sg.t (ga_cons g_int ga_nil) (by simp)) ga_nil) (by simp)) (ga_cons (g_lst Z.sg.t (ga_cons (g_tup Z.sg.t (ga_cons g_int (ga_cons g_int ga_nil)) (by simp)) ga_nil) (by simp)) (ga_cons gL (ga_cons (g_lst Z.sg.t (ga_cons (g_tup Z.sg.t (ga_cons g_bl (ga_cons g_int ga_nil)) (by simp)) ga_nil) (by simp)) ga_nil))))))))) (by simp [oddsD])) (by omega) (by simp [oddsD]) (by simp [oddsD]) fun v6 odd H1 hd S1 k1 r6 => ?_)
    have OK := odd_ok (vs := vs) x1.few x2.few Rl.ro odd hd
    have Z1 := Z.draw S1 k1
    have E1 : EnvOk X H1 _ (Γ (.dat odd) .un .un .un) := (En.kps Z.sg k1).set (i := 6) r6
    have frame1 : ∀ a o, a ≠ st → a ≠ cl → H a = some o → H1 a = some o := k1
    clear En hd
    have c2m : (C2, ("thing" : Str), ("row" : Str)) ∈ csOf C1 C2 := by simp [csOf]
    have c1m : (C1, ("index" : Str), ("text" : Str)) ∈ csOf C1 C2 := by simp [csOf]
    have t12 : textsOutN C1 [wsD ws, wsD ms, wsD vs] = .val .none := textsN_ok (by simp; exact ⟨(x1.good x1.txt).1, (x2.good x2.txt).1, (x3.good x3.txt).1⟩)
    have iN : isNone (wrongD (wsD ws)) = true := (x1.good x1.txt).1
    have iM : isNone (wrongD (wsD ms)) = true := (x2.good x2.txt).1
    have w1 : wrongD (.list (ws.map PyData.str ++ [.none])) = .int (ws.length : Int) := wrong_stop rfl x1.wd
    have w2 : wrongD (.list (vs.map PyData.str ++ [.str "a\nb"])) = .int (vs.length : Int) := wrong_stop (by decide +kernel) x3.wd
    have al1 : ∀ d ∈ [wsD ws, wsD ms, wsD vs], wordsAll d := by simp; exact ⟨(x1.good x1.txt).2, (x2.good x2.txt).2, (x3.good x3.txt).2⟩
    have tx1 : ∀ d ∈ [wsD ws, wsD ms, wsD vs], ∃ ws, Txt d ws := by simp; exact ⟨⟨_, x1.txt⟩, ⟨_, x2.txt⟩, _, x3.txt⟩
    have fewl : FewR (rowD l) := fewR_of (rw_row l) Rl.ro x1.few
    have o1 : rowsOut C1 C2 [wsD ws, wsD ms, wsD vs, odd, .none] = .err C2 "thing" odd := by
      unfold rowsOut
      rw [show textsOutN C1 (txs [wsD ws, wsD ms, wsD vs, odd, .none]) = .val .none from t12]
      show (if isRowD (wsOf (wsD ws)) (wsOf (wsD ms)) odd = false then Out.err C2 "thing" odd else _) = _
      rw [wsOf_wsD, wsOf_wsD, if_pos OK.n1]
    have o2 : rowsOut C1 C2 [wsD ws, wsD ms, wsD vs, rowD l, odd] = .err C2 "thing" odd := by
      unfold rowsOut
      rw [show textsOutN C1 (txs [wsD ws, wsD ms, wsD vs, rowD l, odd]) = .val .none from t12]
      show (if isRowD (wsOf (wsD ws)) (wsOf (wsD ms)) (rowD l) = false then _ else if isRowD (wsOf (wsD ws)) (wsOf (wsD vs)) odd = false then Out.err C2 "thing" odd else _) = _
      rw [wsOf_wsD, wsOf_wsD, wsOf_wsD, row_of (rw_row l) Rl.ro Rl.ms, if_neg (by simp), if_pos OK.n2]
    have e3 : textsOutN C1 (txs [.list (ws.map PyData.str ++ [.none]), .int 5, wsD vs, odd, odd]) = .err C1 "index" (.int (ws.length : Int)) := by
      show textsOutN C1 [.list (ws.map PyData.str ++ [.none]), .int 5, wsD vs] = _
      rw [textsOutN, w1]
      rfl
    have e4 : textsOutN C1 (txs [wsD ws, .int 5, .list [.none], odd, odd]) = .err C1 "index" (.int 0) := by
      show textsOutN C1 [wsD ws, .int 5, .list [.none]] = _
      rw [textsOutN, if_pos iN]
      rfl
    have e5 : textsOutN C1 (txs [wsD ws, wsD ms, .list (vs.map PyData.str ++ [.str "a\nb"]), odd, odd]) = .err C1 "index" (.int (vs.length : Int)) := by
      show textsOutN C1 [wsD ws, wsD ms, .list (vs.map PyData.str ++ [.str "a\nb"])] = _
      rw [textsOutN, if_pos iN, textsOutN, if_pos iM, textsOutN, w2]
      rfl
    have er : ∀ {ds : List PyData} {C : Addr} {fl : Str} {r : PyData}, textsOutN C1 (txs ds) = .err C fl r → rowsOut C1 C2 ds = .err C fl r := fun {ds C fl r} e => by
      unfold rowsOut
      rw [e]
    have ep : ∀ {ds : List PyData} {C : Addr} {fl : Str} {r : PyData}, (∀ d ∈ txs ds, wordsAll d) → textsOutN C1 (txs ds) = .err C fl r → erPre C1 C2 ds := fun {ds C fl r} h e => ⟨⟨h, fun e' => by rw [e] at e'; cases e'⟩, C, fl, r, er e⟩
    have w5 : wordsAll (.int 5) := fun h => by cases h
    have wN : wordsAll (.list [.none]) := fun _ => ⟨(by decide : 1 ≤ 100000), fun z hz => by rw [List.mem_singleton.mp hz]; trivial⟩
    have p1 : erPre C1 C2 [wsD ws, wsD ms, wsD vs, odd, .none] := ⟨⟨al1, fun _ => ⟨tx1, OK.few, fun h => by cases h⟩⟩, _, _, _, o1⟩
    have p2 : erPre C1 C2 [wsD ws, wsD ms, wsD vs, rowD l, odd] := ⟨⟨al1, fun _ => ⟨tx1, fewl, OK.few⟩⟩, _, _, _, o2⟩
    have p3 : erPre C1 C2 [.list (ws.map PyData.str ++ [.none]), .int 5, wsD vs, odd, odd] := ep (all3 (a := PyData.list (ws.map PyData.str ++ [PyData.none])) (b := .int 5) (c := wsD vs) (wAll_stop (x := PyData.none) (show wordsPre PyData.none from trivial) x1.wd x1.few) (w5) ((x3.good x3.txt).2)) e3
    have p4 : erPre C1 C2 [wsD ws, .int 5, .list [.none], odd, odd] := ep (all3 (a := wsD ws) ((x1.good x1.txt).2) (w5) (wN)) e4
    have p5 : erPre C1 C2 [wsD ws, wsD ms, .list (vs.map PyData.str ++ [.str "a\nb"]), odd, odd] := ep (all3 (a := wsD ws) ((x1.good x1.txt).2) ((x2.good x2.txt).2) (wAll_stop (show (("a\nb" : Str)).length ≤ 1000000 by decide +kernel) x3.wd x3.few)) e5
    refine k_forTQ (k_tup (k_cons (k_c (k_cons (k_c (k_nil ⟨by show 2 ≤ sizeLine; decide, fun p25 hp25 => ?_⟩))))))
    have s25 : Same H1 (upd H1 p25 (.tup [.ref F_gaps, .ref F_merged])) := Same.upd hp25
    have h25 : upd H1 p25 (.tup [.ref F_gaps, .ref F_merged]) p25 = some (.tup [.ref F_gaps, .ref F_merged]) := upd_same
    have Z25 := Z1.same s25
    have E25 := E1.same s25
    have fr25 : ∀ a o, a ≠ st → a ≠ cl → H a = some o → (∀ ps, o ≠ .tbl ps) → upd H1 p25 (.tup [.ref F_gaps, .ref F_merged]) a = some o := fun a o n1 n2 e _ => s25 _ _ (frame1 a o n1 n2 e)
    generalize upd H1 p25 (.tup [.ref F_gaps, .ref F_merged]) = H25 at *
    refine forT_it (Pv := fun j σ' H' => Zt X st cl (n + 1) TT H' ∧ EnvOk X H' σ' (Γ (.dat odd) .un .un .un) ∧ H' p25 = some (.tup [.ref F_gaps, .ref F_merged]) ∧ ∀ a o, a ≠ st → a ≠ cl → H a = some o → (∀ ps, o ≠ .tbl ps) → H' a = some o) h25 ⟨Z25, E25, h25, fr25⟩ (fun j σ' H' p => p.2.2.1) (fun j x σ' H' hx p => ?_) (fun σ26 H26 p => ?_)
    · obtain ⟨q1, q2, q3, q4⟩ := p
      obtain ⟨fa, rfl, hfa⟩ : ∃ fa, x = .ref fa ∧ (fa = F_gaps ∨ fa = F_merged) := by
        have := List.mem_of_getElem? hx
        rcases List.mem_cons.mp this with rfl | this
        · exact ⟨_, rfl, .inl rfl⟩
        · rw [List.mem_singleton.mp this]
          exact ⟨_, rfl, .inr rfl⟩
      refine k_name ?_
      have E26 : EnvOk X H' _ (Γ (.dat odd) (.val (.ref fa)) .un .un) := q2.setV (i := 7) (v := .ref fa)
      have rf : ∀ {X' : Addr → Prop} {σ2 : L2.St} {ta : TA} {ds : List PyData} {C : Addr} {fl : Str} {r : PyData} {x8 : Sv}, (∀ H2, Trk X' H2 → EnvOk X' H2 σ2 (Γ (.dat odd) (.val (.ref fa)) x8 .un) → GA X' ta σ2 H2 ds) → ds.length = 5 → erPre C1 C2 ds → rowsOut C1 C2 ds = .err C fl r → Ref X' (fun E => tCallV 7 (SA F_gaps F_merged C1 C2) E ta) σ2 (Γ (.dat odd) (.val (.ref fa)) x8 .un) C fl r := fun {X' σ2 ta ds C fl r x8} ga hl hp he H2 E' Q' t' E1 k' =>
        ⟨fa, [], _, E1.get 7 _ rfl, ⟨hfa, rfl, rfl⟩, ga H2 t' E1 H2 (Same.refl _) _ fun vs H3 s3 rs => ⟨_, ds, by rw [List.append_nil, rs.length]; exact hl, t'.mono s3, by rw [List.append_nil]; exact rs, hp, endE he fun a w H4 s4 ea dv => k' a w H4 (s3.trans s4) ea dv⟩⟩
      have v1 : ∀ {X' : Addr → Prop} {σ2 : L2.St} {H2 : Hp} {x8 : Sv}, EnvOk X' H2 σ2 (Γ (.dat odd) (.val (.ref fa)) x8 .un) → G X' (tVar 1) σ2 H2 (wsD ws) := fun E => g_var (i := 1) E rfl
      have v2 : ∀ {X' : Addr → Prop} {σ2 : L2.St} {H2 : Hp} {x8 : Sv}, EnvOk X' H2 σ2 (Γ (.dat odd) (.val (.ref fa)) x8 .un) → G X' (tVar 2) σ2 H2 (wsD ms) := fun E => g_var (i := 2) E rfl
      have v3 : ∀ {X' : Addr → Prop} {σ2 : L2.St} {H2 : Hp} {x8 : Sv}, EnvOk X' H2 σ2 (Γ (.dat odd) (.val (.ref fa)) x8 .un) → G X' (tVar 3) σ2 H2 (wsD vs) := fun E => g_var (i := 3) E rfl
      have v4 : ∀ {X' : Addr → Prop} {σ2 : L2.St} {H2 : Hp} {x8 : Sv}, EnvOk X' H2 σ2 (Γ (.dat odd) (.val (.ref fa)) x8 .un) → G X' (tVar 4) σ2 H2 (rowD l) := fun E => g_var (i := 4) E rfl
      have v6 : ∀ {X' : Addr → Prop} {σ2 : L2.St} {H2 : Hp} {x8 : Sv}, EnvOk X' H2 σ2 (Γ (.dat odd) (.val (.ref fa)) x8 .un) → G X' (tVar 6) σ2 H2 odd := fun E => g_var (i := 6) E rfl
      refine q_own (i := 8) q1 E26 (rf (fun H2 t2 E2 => ga_cons (v1 E2) (ga_cons (v2 E2) (ga_cons (v3 E2) (ga_cons (v6 E2) (ga_cons g_non ga_nil))))) rfl p1 o1) c2m fun F H27 xs27 nF n1 n2 nX Z27 E27 h27 x27 e27 => ?_
      have E27 : EnvOk (fun b => X b ∨ b = F) H27 _ (Γ (.dat odd) (.val (.ref fa)) (.val (.ref F)) .un) := E27
      refine q_met (i := 8) Z27 E27 rfl h27 x27 n1 n2 (by simp) (rf (fun H2 t2 E2 => ga_cons (v1 E2) (ga_cons (v2 E2) (ga_cons (v3 E2) (ga_cons (v4 E2) (ga_cons (v6 E2) ga_nil))))) rfl p2 o2) c2m fun H28 xs28 Z28 E28 h28 x28 k28 => ?_
      refine q_met (i := 8) Z28 E28 rfl h28 x28 n1 n2 (by simp) (rf (fun H2 t2 E2 => ga_cons (g_cat1 t2 (v1 E2) g_non (by rw [List.length_map]; have := x1.few; omega)) (ga_cons g_int (ga_cons (v3 E2) (ga_cons (v6 E2) (ga_cons (v6 E2) ga_nil))))) rfl p3 (er e3)) c1m fun H29 xs29 Z29 E29 h29 x29 k29 => ?_
      refine q_met (i := 8) Z29 E29 rfl h29 x29 n1 n2 (by simp) (rf (fun H2 t2 E2 => ga_cons (v1 E2) (ga_cons g_int (ga_cons (g_lst t2 (ga_cons g_non ga_nil) (by simp)) (ga_cons (v6 E2) (ga_cons (v6 E2) ga_nil))))) rfl p4 (er e4)) c1m fun H30 xs30 Z30 E30 h30 x30 k30 => ?_
      refine q_met (i := 8) Z30 E30 rfl h30 x30 n1 n2 (by simp) (rf (fun H2 t2 E2 => ga_cons (v1 E2) (ga_cons (v2 E2) (ga_cons (g_cat1 t2 (v3 E2) g_str (by rw [List.length_map]; have := x3.few; omega)) (ga_cons (v6 E2) (ga_cons (v6 E2) ga_nil))))) rfl p5 (er e5)) c1m fun H31 xs31 Z31 E31 h31 x31 k31 => ?_
      have E32 : EnvOk X H31 _ (Γ (.dat odd) (.val (.ref fa)) (.dat (.list (fiveD ws.length vs.length odd))) .un) := EnvOk.give (i := 8) E31 rfl nX h31 x31
      have Z32 := Zt.less (fun _ => .inl) Z.sg.x1 Z.sg.x2 Z31
      have kA : Kq (fun b => b = F) H27 H31 := ((k28.trans k29).trans k30).trans k31
      have fr : ∀ a o, (∀ ps, o ≠ .tbl ps) → H' a = some o → H31 a = some o := fun a o hn e => kA a o (fun z => nF o hn (z ▸ e)) hn (e27 a o e hn)
      have t32 := Z32.sg.t
      have lw : ∀ {i : Nat} {ts : List Str}, (Γ (.dat odd) (.val (.ref fa)) (.dat (.list (fiveD ws.length vs.length odd))) .un)[i]? = some (.dat (wsD ts)) → G X (tCB (fun xs H Q => ∃ x n, xs = [x] ∧ LenV K x H n ∧ Q (V.int n) H) (tCons (tVar i) tNil)) _ H31 (.int (ts.length : Nat)) := fun {i ts} h => g_is (g_len t32 (g_var (d := wsD ts) E32 h) rfl) (by show PyData.int ((ts.map PyData.str).length : Nat) = _; rw [List.length_map])
      refine q_set (i := 9) (d := .list (fiveD ws.length vs.length odd)) E32 (g_is (g_cat t32 (g_op t32 (g_lst t32 (ga_cons (g_tup t32 (ga_cons g_str (ga_cons (g_var (i := 6) (d := odd) E32 rfl) ga_nil)) (by simp)) ga_nil) (by simp)) g_int (RD.or2 (rd_rep (k := 2) (by omega) (by omega) (by simp)))) (g_lst t32 (ga_cons (g_tup t32 (ga_cons g_str (ga_cons (lw (i := 1) (ts := ws) rfl) ga_nil)) (by simp)) (ga_cons (g_tup t32 (ga_cons g_str (ga_cons g_int ga_nil)) (by simp)) (ga_cons (g_tup t32 (ga_cons g_str (ga_cons (lw (i := 3) (ts := vs) rfl) ga_nil)) (by simp)) ga_nil))) (by simp)) (by simp)) rfl) fun H33 v33 s33 E33 => ?_
      have fv := five_ok (n := ws.length) (m := vs.length) (d := odd) x1.few x3.few OK.sh OK.dp OK.ln
      have ne : fiveD ws.length vs.length odd ≠ [] := by simp [fiveD]
      refine s_if (b := false) (gt_is (gt_neS (g_reprL (g_var (i := 8) (d := .list (fiveD ws.length vs.length odd)) E33 rfl) ne fv.1 fv.2.1 fv.2.2) (g_reprL (g_var (i := 9) (d := .list (fiveD ws.length vs.length odd)) E33 rfl) ne fv.1 fv.2.1 fv.2.2)) (by simp)) (fun h => by cases h) fun _ H34 s34 => ?_
      exact ⟨(Z32.same s33).same s34, envUn' (envUn' (envUn' (E33.same s34) 7) 8) 9, s34 _ _ (s33 _ _ (fr _ _ (fun _ z => by cases z) q3)), fun a o n1 n2 e hn => s34 _ _ (s33 _ _ (fr _ _ hn (q4 a o n1 n2 e hn)))⟩
    · obtain ⟨q1, q2, q3, q4⟩ := p
      exact (show tRet (tC (.bl true)) { nx := fun _ H' => Q .non H', rt := Q } σ26 H26 from q H26 q1 q4)
end K56

/-! The law. -/
namespace K56
open PySem PySem.Spec PyProof.Rows L2 KD KL LamX
-- RAISES check_texts is_common_row common_row check_rows gaps merged
-- HINT law ownG _law_refused_right
-- HINT law lcte#2 (tCB (fun xs H Q => ∃ p ys, xs = [V.ref p] ∧ (SqL K H p ys ∨ SqT K H p ys) ∧ ∀ l, H l = none → Q (V.ref l) (upd H l (.lst ys))) (tCons (tVar 17) tNil))
-- HINT law ix (ix_seqK (K := K) rfl)
variable {P : Program} {w : World} {K : PySem.W.Frag} {mg : Str → Option Value} {base : Heap}
section
variable {X : Addr → Prop} {σ : L2.St} {H : Hp} {Γ : List Sv} {ta tb tc te : TE} {tl : TA} {E : XK} {ws vs us : List Str} {Q : VK} {D : Ends} {st cl : Addr} {n : Nat} {g : TG} {tt : TT} {tu tz : TS}
theorem nW_wd : ∀ s ∈ nW, isWordsD (.str s) = true ∧ PyData.strOk s = true := by decide +kernel
theorem mW_nW : ∀ s ∈ mW, s ∈ nW := by decide +kernel
theorem tx_nW (h : ws.length ≤ 7) (hw : ∀ z ∈ ws, z ∈ nW) : Tx ws := ⟨by omega, fun s hs => nW_wd s (hw s hs)⟩
theorem walkD_tup {a : Addr} {ds : List PyData} (hd : DX X H (.ref a) (.tuple ds)) : WalkD X (Itt K a) H ds := by
  obtain ⟨a', xs, ea, n, e, rx⟩ := hd.tup_inv
  cases ea
  refine ⟨_, _, by rw [← rx.length]; exact walk_tup, fun X' m H3 k t => ?_⟩
  have n' : ¬ X' a := fun z => (m a z).elim n fun q => by rw [e] at q; cases q
  refine ⟨SqT.of (k a _ n' e), fun i x H4 y => ?_⟩
  obtain ⟨rfl, hx⟩ := y
  obtain ⟨d, h1, h2⟩ := rx.getV hx
  exact ⟨Same.refl _, d, h1, (h2.grow m).mono k⟩
theorem k_lcT {us : List Nat} (h : te σ H fun v H1 => ∃ a, v = .ref a ∧ (∃ zs, SqT K H1 a zs) ∧ tLc (fun _ H2 R => R (Itt K a) H2) g tt tb us σ H1 Q) : tLc (iTup K te) g tt tb us σ H Q := h
/-- each thing of a tuple, changed by what draws -/
theorem lc_drawsM {i c : Nat} {a : Addr} {ds : List PyData} (Pr : Nat → PyData → Prop) (S : Sg X st cl n H) (En : EnvOk X H σ Γ) (hd : DX X H (.ref a) (.tuple ds)) (hl : ds.length ≤ 1000) (hi : i < Γ.length)
    (ht : ∀ X' H1 σ2 k d Q1, ds[k]? = some d → EnvOk X' H1 σ2 ((Γ.set i .un).set i (.dat d)) → Sg X' st cl (n + c * k) H1 → (∀ w e H', Pr k e → Sg X' st cl (n + c * k + c) H' → KpS st cl H1 H' → DX X' H' w e → Q1 w H') → te σ2 H1 Q1)
    (q : ∀ w es H', es.length = ds.length → (∀ k e, es[k]? = some e → Pr k e) → Sg X st cl (n + c * ds.length) H' → KpS st cl H H' → DX X H' w (.list es) → Nw H w → Q w H') : tLc (fun _ H2 R => R (Itt K a) H2) (gName i) tYes te [i] σ H Q := by
  intro D hD
  have m2 : More X (fun a => X a ∨ a = D) H := More.one hD
  have d1 := S.ne1 hD
  have d2 := S.ne2 hD
  obtain ⟨Gd, Y, w1, w2⟩ := walkD_tup (K := K) hd
  let I : Nat → Hp → Prop := fun k H3 => KpS st cl H H3 ∧ Sg (fun a => X a ∨ a = D) st cl (n + c * k) H3 ∧ ∃ acc es, H3 D = some (.lst acc) ∧ DXs (fun a => X a ∨ a = D) H3 acc es ∧ es.length = k ∧ ∀ j e, es[j]? = some e → Pr j e
  have ik : ∀ {k H3}, I k H3 → Kp (fun a => X a ∨ a = D) H H3 ∧ Trk (fun a => X a ∨ a = D) H3 := fun {k H3} p => ⟨p.1.kp (.inl S.x1) (.inl S.x2), p.2.1.t⟩
  refine lc_it w1 I ?_ (fun i H3 _ p => (w2 _ m2.2 H3 (ik p).1 (ik p).2).1) ?_ ?_
  · exact ⟨KpS.of (Same.upd hD), ⟨(S.ok).same (Same.upd hD), .inl S.x1, .inl S.x2, S.t.one hD⟩, [], [], upd_same, .nil, rfl, fun j e h => by simp at h⟩
  · rintro k x H3 H4 hk p y
    obtain ⟨s4, d, hdk, dx⟩ := (w2 _ m2.2 H3 (ik p).1 (ik p).2).2 k x H4 y
    obtain ⟨p1, p2, acc, es, p3, p4, p5, p6⟩ := p
    have hkl := (List.getElem?_eq_some_iff.mp hdk).1
    have S4 := p2.same s4
    have k4 : Kp (fun a => X a ∨ a = D) H H4 := (p1.kp (.inl S.x1) (.inl S.x2)).trans (Kp.of s4)
    refine tgt_name (X := X) (i := i) En _ H4 m2 k4 S4.t x dx _ fun σ2 E2 hw => ⟨hw, ?_⟩
    show te σ2 H4 _
    refine ht _ H4 σ2 k d _ hdk E2 S4 fun v e H5 he S5 k5 r5 => ?_
    have k35 : KpS st cl H3 H5 := (KpS.of s4).trans k5
    have p15 : KpS st cl H H5 := p1.trans k35
    have p35 : H5 D = some (.lst acc) := k35 D _ d1 d2 p3
    have p45 := p4.mono (p2.kp k35)
    have lacc : acc.length ≤ 1000 := by
      rw [p4.length, p5]
      omega
    refine ⟨acc, p35, by rw [sizeLine_eq]; omega, ?_, ?_, acc ++ [v], es ++ [e], upd_same, ?_, ?_, ?_⟩
    · exact fun a o n1 n2 e => by
        have := p15 a o n1 n2 e
        rw [upd_ne (ne_of_none e hD)]
        exact this
    · rw [Nat.mul_succ, ← Nat.add_assoc]
      exact S5.put d1 d2
    · exact (p45.snoc r5).mono (Kp.put (.inr rfl))
    · rw [List.length_append, p5]
      rfl
    · intro j z hz
      by_cases hj : j < es.length
      · rw [List.getElem?_append_left hj] at hz
        exact p6 j z hz
      · rw [List.getElem?_append_right (by omega)] at hz
        have hj0 : j - es.length = 0 := by
          have := (List.getElem?_eq_some_iff.mp hz).1
          simp at this
          omega
        rw [hj0] at hz
        cases hz
        have : j = k := by omega
        rw [this]
        exact he
  · rintro H3 ⟨p1, p2, acc, es, p3, p4, p5, p6⟩
    have nXD : ¬ X D := S.t.new hD
    exact q (.ref D) es H3 p5 p6 ⟨p2.ok, S.x1, S.x2, fun a h => p2.t a (.inl h)⟩ p1 (.lst nXD p3 (p4.less fun a => .inl)) (Nw.of hD)
theorem k_nB {Qb : Bool → Hp → Prop} (h : te σ H fun x H1 => ∃ c, x = V.bl c ∧ Qb (!c) H1) : tNot (tB te) σ H Qb := h
theorem k_ifL {tt : TT} (h : tt σ H fun b H1 => if b = true then tu D σ H1 else D.nx σ H1) : tIfS tt tu tNext D σ H := h
end
/-! ### what holds -/
theorem mw_at {ws vs : List Str} {r : List Pr} (R : Rox ws vs r) {p : Pr} (hp : p ∈ r) : vs[p.2]? = some (wAt ws p.1) := by
  have h := R.ms p hp
  have b := (R.ro.bd p hp).2
  have h : wAt vs p.2 = wAt ws p.1 := of_decide_eq_true h
  rw [← h, List.getElem?_eq_getElem b]
  unfold wAt
  rw [List.getD_eq_getElem?_getD, List.getElem?_eq_getElem b]
  rfl
theorem whole_rox (ws : List Str) : Rox ws ws (wholeL ws.length) := ⟨⟨whole_inc, fun p hp => by
  have := whole_mem.mp hp
  omega⟩, fun p hp => by
  have := whole_mem.mp hp
  rw [← this.1]
  exact decide_eq_true rfl⟩
theorem com_rox (ws vs : List Str) : Rox ws vs (comR ws vs) := Rox.of (com_mem ws vs)
theorem gaps_turn {ws us vs : List Str} {l r : List Pr} (hl : Inc l) (hr : Inc r) : gapsS ws vs us r l = (gapsS ws us vs l r).map swG := by
  unfold gapsS endsN
  rw [ends_swap hl hr]
  have e : (ends l r).map swT ++ [(ws.length, vs.length, us.length)] = (ends l r ++ [(ws.length, us.length, vs.length)]).map swT := by rw [List.map_append]; rfl
  rw [e]
  exact gap_swap ws us vs _ (0, 0, 0)
theorem merged_turn {ws us vs : List Str} {l r : List Pr} (hl : Inc l) (hr : Inc r) : mergedR ws vs us r l = mergedR ws us vs l r := congrArg mgD (merged_swap (ws := ws) (us := us) (vs := vs) (w := fun e => wAt ws e.1) (w2 := fun e => wAt ws e.1) hl hr fun e => rfl)
theorem merged_whole {ws vs : List Str} {r : List Pr} (R : Rox ws vs r) : mergedR ws ws vs (wholeL ws.length) r = wsD vs := congrArg mgD (merged_right (ws := ws) (vs := vs) (w := fun e => wAt ws e.1) R.ro.inc fun e he => mw_at R ((ends_mem whole_inc R.ro.inc).mp he).2)
theorem merged_whole2 {ws us : List Str} {l : List Pr} (R : Rox ws us l) : mergedR ws us ws l (wholeL ws.length) = wsD us := congrArg mgD (merged_left (ws := ws) (us := us) (w := fun e => wAt ws e.1) R.ro.inc fun e he => mw_at R ((ends_mem R.ro.inc whole_inc).mp he).1)
theorem merged_same {ws us : List Str} {l : List Pr} (R : Rox ws us l) : mergedR ws us us l l = wsD us := congrArg mgD (merged_alike (ws := ws) (us := us) (w := fun e => wAt ws e.1) R.ro.inc fun e he => mw_at R ((ends_mem R.ro.inc R.ro.inc).mp he).1)
theorem five_of {ws us vs : List Str} {l r : List Pr} {d1 d2 d3 dl dr : PyData} (x1 : Tx ws) (x2 : Tx us) (x3 : Tx vs) (T1 : Txt d1 ws) (T2 : Txt d2 us) (T3 : Txt d3 vs) (Rl : Rw dl l) (Rr : Rw dr r) (L : Rox ws us l) (R : Rox ws vs r) : Five_ d1 d2 d3 dl dr ws us vs l r :=
  ⟨T1, T2, T3, x1.good T1, x2.good T2, x3.good T3, Rl, Rr, L.ro, R.ro, L.ms, R.ms⟩
theorem sm_up {n : Nat} {ws : List Str} (h : ws.length ≤ 100000) (ok : ∀ s ∈ ws, PyData.strOk s = true) : sm (n + 1) (wsD ws) := ⟨by rw [List.length_map]; exact h, fun z hz => by
  obtain ⟨s, hs, rfl⟩ := List.mem_map.mp hz
  have := ok s hs
  cases n <;> simp [sm, leaf, this]⟩
theorem sm_gs {gs : List Gp} (hl : gs.length ≤ 1000) (h : ∀ g ∈ gs, GpOk g) : sm 4 (gsD gs) := ⟨by rw [List.length_map]; omega, fun z hz => by
  obtain ⟨g, hg, rfl⟩ := List.mem_map.mp hz
  obtain ⟨a, b, c⟩ := h g hg
  refine ⟨by show 3 ≤ 100000; omega, fun y hy => ?_⟩
  simp only [gD, List.mem_cons, List.not_mem_nil, or_false] at hy
  rcases hy with rfl | rfl | rfl
  · exact sm_up (by have := a.1; omega) a.2
  · exact sm_up (by have := b.1; omega) b.2
  · exact sm_up (by have := c.1; omega) c.2⟩
theorem ends_left {l r : List Pr} {e : Tr} (h : e ∈ ends l r) : ∃ x ∈ l, x.1 = e.1 ∧ x.2 = e.2.1 := by
  obtain ⟨x, hx, hm⟩ := List.mem_filterMap.mp h
  obtain ⟨q, _, rfl⟩ := Option.map_eq_some_iff.mp hm
  exact ⟨x, hx, rfl, rfl⟩
theorem merged_len {ws us vs : List Str} {l r : List Pr} (h1 : Sok ws) (h2 : Sok us) (h3 : Sok vs) (Y : RowOf ws us l) {m : List Str} (e : mergeS (gapsS ws us vs l r) (heldS ws l r) = some m) : m.length ≤ 61 * 61 ∧ ∀ s ∈ m, PyData.strOk s = true := by
  have ok := gapsS_ok (l := l) (r := r) h1 h2 h3
  have lg : (gapsS ws us vs l r).length = (heldS ws l r).length + 1 := by
    unfold gapsS heldS endsN
    rw [gap_len, List.length_append, List.length_map]
    rfl
  have lh : (heldS ws l r).length ≤ 60 := by
    unfold heldS
    rw [List.length_map]
    have := ends_few (l := l) (r := r)
    have := Y.few
    have := h1.1
    omega
  have oh : ∀ s ∈ heldS ws l r, PyData.strOk s = true := fun s hs => by
    obtain ⟨e, he, rfl⟩ := List.mem_map.mp hs
    obtain ⟨x, hx, e1, e2⟩ := ends_left he
    have hb := (Y.bd x hx).1
    rw [e1] at hb
    refine h1.2 _ ?_
    unfold wAt
    rw [List.getD_eq_getElem?_getD, List.getElem?_eq_getElem hb]
    exact List.getElem_mem hb
  generalize gapsS ws us vs l r = gs at *
  generalize heldS ws l r = hs at *
  unfold mergeS at e
  split at e
  · rename_i hall
    rw [List.all_eq_true] at hall
    cases e
    have okp : ∀ p ∈ gs.map (fun g => (givenS g).getD []), Sok p := fun p hp => by
      obtain ⟨g, hg, rfl⟩ := List.mem_map.mp hp
      obtain ⟨y, hy⟩ := Option.isSome_iff_exists.mp (hall g hg)
      rw [hy]
      exact given_ok (ok g hg) hy
    have lps : (gs.map fun g => (givenS g).getD []).length = hs.length + 1 := by rw [List.length_map]; exact lg
    generalize gs.map (fun g => (givenS g).getD []) = pp at *
    obtain ⟨p, ps, rfl⟩ : ∃ p ps, pp = p :: ps := by
      cases pp with
      | nil => simp at lps
      | cons p ps => exact ⟨p, ps, rfl⟩
    have lps : hs.length = ps.length := by simpa using lps.symm
    rw [inter_zip ps p hs lps]
    refine ⟨?_, fun s hs' => ?_⟩
    · rw [List.length_append]
      have h1 := (okp p List.mem_cons_self).1
      have h2 := flat_len (l := hs.zip ps) fun x hx => (okp x.2 (List.mem_cons_of_mem _ (List.of_mem_zip hx).2)).1
      have h3 : (hs.zip ps).length ≤ 60 := by rw [List.length_zip]; omega
      omega
    · rcases List.mem_append.mp hs' with h | h
      · exact (okp p List.mem_cons_self).2 s h
      · obtain ⟨x, hx, hs2⟩ := List.mem_flatMap.mp h
        rcases List.mem_cons.mp hs2 with rfl | hs2
        · exact oh _ (List.of_mem_zip hx).1
        · exact (okp x.2 (List.mem_cons_of_mem _ (List.of_mem_zip hx).2)).2 s hs2
  · cases e
theorem sm_mg {ws us vs : List Str} {l r : List Pr} {n : Nat} (h1 : Sok ws) (h2 : Sok us) (h3 : Sok vs) (Y : RowOf ws us l) : sm (n + 1) (mergedR ws us vs l r) := by
  unfold mergedR
  cases e : mergeS (gapsS ws us vs l r) (heldS ws l r) with
  | none => rfl
  | some m => exact sm_up (by have := (merged_len h1 h2 h3 Y e).1; omega) (merged_len h1 h2 h3 Y e).2
theorem Tx.sok {ws : List Str} (h : Tx ws) : Sok ws := ⟨h.few, fun s hs => (h.wd s hs).2⟩
def pls (l : List Pr) : PyData := .list (l.map fun p => .list [.int (p.1 : Nat), .int (p.2 : Nat)])
theorem rw_tup (l : List Pr) : Rw (.tuple (l.map prD)) l := ⟨rfl, by show (l.map prD).length = _; rw [List.length_map], fun i z p h1 h2 => by
  have h1 : (l.map prD)[i]? = some z := h1
  rw [List.getElem?_map, h2] at h1
  cases h1
  exact ⟨rfl, rfl⟩⟩
theorem rw_pls (l : List Pr) : Rw (pls l) l := ⟨rfl, by show (l.map _).length = _; rw [List.length_map], fun i z p h1 h2 => by
  have h1 : (l.map fun p : Pr => PyData.list [.int (p.1 : Nat), .int (p.2 : Nat)])[i]? = some z := h1
  rw [List.getElem?_map, h2] at h1
  cases h1
  exact ⟨rfl, rfl⟩⟩
abbrev s_law : Stmt := topS 47
abbrev n_law : List Str := ["_law_script", "_law_stream", "_law_turn", "_law_base", "_law_one", "_law_other", "_law_left", "_law_right", "_law_due", "_law_texts", "_law_handed", "_law_told", "_law_turned", "_law_text", "_law_found", "_law_whole", "_law_k", "_law_pair", "_law_old", "_law_mine", "_law_theirs"]
theorem sc_law : FnScope n_law ["_law_script"] (defScope s_law) := ⟨rfl, rfl, rfl, by decide +kernel, rfl, by decide +kernel, by decide +kernel⟩
/-- what the law's text leans on -/
structure Lib (P : Program) (w : World) (K : PySem.W.Frag) (mg : Str → Option Value) (base : Heap) (Tb : List (Addr × Str)) : Prop where
  T : Bl mg
  start : Own P w K mg base CX0 1 "_law_start" ["_law_script"] (spStart K)
  pick : Own P w K mg base CX0 2 "_law_pick" ["_law_stream", "_law_some"] spPick
  text : Own P w K mg base CX0 3 "_law_m_text" ["_law_stream", "_law_most"] spMText
  near : Own P w K mg base CX0 3 "_law_m_near" ["_law_stream", "_law_text", "_law_most"] spNear
  passed : Own P w K mg base CX0 3 "_law_m_passed" ["_law_stream", "_law_text"] spMPassed
  row : Own P w K mg base CX0 3 "_law_some_row" ["_law_stream", "_law_one", "_law_other"] spSomeRow
  mgaps : Own P w K mg base CX0 1 "_law_m_gaps" ["_law_base", "_law_one", "_law_other", "_law_left", "_law_right"] spMG
  mmerged : Own P w K mg base CX0 2 "_law_m_merged" ["_law_base", "_law_one", "_law_other", "_law_left", "_law_right"] spMM
  same : Own P w K mg base CX0 6 "_law_same" ["_law_found", "_law_due"] (spSame 4)
  gaps : Own P w K mg base (L2.CX P w) 7 "gaps" ["base", "one", "other", "left", "right"] (spTold gapsR)
  merged : Own P w K mg base (L2.CX P w) 7 "merged" ["base", "one", "other", "left", "right"] (spTold mergedR)
  com : Own P w K mg base (L2.CX P w) 4 "common_row" ["one", "other"] spCommon
  refused : OwnG P w K mg base CX0 10 "_law_refused_right" ["_law_stream", "_law_base", "_law_one", "_law_other", "_law_left", "_law_right"] (spRR Tb)
def Gm0 (st : Addr) : List Sv := [.un, .val (.ref st), .un, .un, .un, .un, .un, .un, .un, .un, .un, .un, .un, .un, .un, .un, .un, .un, .un, .un, .un]
theorem law_reads {f a : Addr} {cdv : Value} {s : Shared} {H : Hp} {E : XK} {Tb : List (Addr × Str)} {ns : List Int} (Lb : Lib P w K mg base Tb) (hr : Room 10 (callerA.deeper (envOfC "law" (defScope s_law) s.heap.objs.size f cdv))) (hT : Tabs Tb H) (hS : SqL K H a (ns.map V.int)) (hl : ns.length ≤ 63) :
    ∃ t, PSs (cxOf CX0 P w K mg base n_law "law" (defScope s_law) f cdv callerA [] s H E).nox (defBody s_law) t ∧ t { nx := fun _ _ => V.non = V.bl true, rt := fun v _ => v = V.bl true } (L2.start n_law [.ref a]) H := by
  obtain ⟨T, O__law_start, O__law_pick, O__law_m_text, O__law_m_near, O__law_m_passed, O__law_some_row, O__law_m_gaps, O__law_m_merged, O__law_same, O_gaps, O_merged, O_common_row, O__law_refused_right⟩ := Lb
  refine ⟨_, (pss_cons (ps_set (i := 1) sc_law.nd rfl (by first | exact Or.inl rfl | exact Or.inr rfl) (pe_own O__law_start hr (by decide) (by rfl) (pa_cons (pv 0) pa_nil)))
    (pss_cons (ps_for PassesOwn.never rfl (pi_range1 (by rfl) T.b_range (pa_cons pe_int pa_nil)) (pg_name (i := 2) sc_law.nd rfl (by first | exact Or.inl rfl | exact Or.inr rfl))
    (pss_cons (ps_set (i := 3) sc_law.nd rfl (by first | exact Or.inl rfl | exact Or.inr rfl) (pe_own O__law_m_text hr (by decide) (by rfl) (pa_cons (pv 1) (pa_cons pe_int pa_nil))))
    (pss_cons (ps_par (i := 4) (j := 5) (by rfl) sc_law.nd rfl rfl (by decide) rfl rfl (pa_cons (pe_own O__law_m_near hr (by decide) (by rfl) (pa_cons (pv 1) (pa_cons (pv 3) (pa_cons pe_int pa_nil)))) (pa_cons (pe_own O__law_m_near hr (by decide) (by rfl) (pa_cons (pv 1) (pa_cons (pv 3) (pa_cons pe_int pa_nil)))) pa_nil)) (by rfl))
    (pss_cons (ps_set (i := 5) sc_law.nd rfl (by first | exact Or.inl rfl | exact Or.inr rfl) (pe_own O__law_pick hr (by decide) (by rfl) (pa_cons (pv 1) (pa_cons (pe_lst (pa_cons (pv 5) (pa_cons (pv 5) (pa_cons (pv 4) (pa_cons (pv 3) pa_nil))))) pa_nil))))
    (pss_cons (ps_par (i := 6) (j := 7) (by rfl) sc_law.nd rfl rfl (by decide) rfl rfl (pa_cons (pe_own O__law_some_row hr (by decide) (by rfl) (pa_cons (pv 1) (pa_cons (pv 3) (pa_cons (pv 4) pa_nil)))) (pa_cons (pe_own O__law_some_row hr (by decide) (by rfl) (pa_cons (pv 1) (pa_cons (pv 3) (pa_cons (pv 5) pa_nil)))) pa_nil)) (by rfl))
    (pss_cons (ps_set (i := 8) sc_law.nd rfl (by first | exact Or.inl rfl | exact Or.inr rfl) (pe_ix (ix_seqK (K := K) rfl) (pe_own O__law_m_gaps hr (by decide) (by rfl) (pa_cons (pv 3) (pa_cons (pv 4) (pa_cons (pv 5) (pa_cons (pv 6) (pa_cons (pv 7) pa_nil)))))) pe_int (fun _ _ => rfl)))
    (pss_cons (ps_setLc (i := 9) (own := [("_law_text", 13)]) (g := (gName 13)) (tt := tYes) rfl sc_law.nd rfl rfl (sw_true rfl rfl rfl (by decide +kernel)) (pi_tup (pe_tup (pa_cons (pv 3) (pa_cons (pv 4) (pa_cons (pv 5) pa_nil))))) (blkOk_by (N := n_law) (sc := defScope s_law) (by decide +kernel)) (fun _ _ _ _ _ => (pg_name (i := 13) sc_law.nd rfl (by first | exact Or.inl rfl | exact Or.inr rfl))) (fun _ _ _ _ _ => pts_nil) (fun _ _ _ _ _ => (pe_own O__law_m_passed hr (by decide) (by rfl) (pa_cons (pv 1) (pa_cons (pv 13) pa_nil)))))
    (pss_cons (ps_set (i := 10) sc_law.nd rfl (by first | exact Or.inl rfl | exact Or.inr rfl) (pe_own O__law_pick hr (by decide) (by rfl) (pa_cons (pv 1) (pa_cons (pe_lst (pa_cons (pv 6) (pa_cons (pe_callTy call_tuple_of (by rfl) T.b_tuple boot_tuple (pa_cons (pv 6) pa_nil)) (pa_cons (pe_lc (own := [("_law_pair", 17)]) (g := (gName 17)) (tt := tYes) (te := (tCB (fun xs H Q => ∃ p ys, xs = [V.ref p] ∧ (SqL K H p ys ∨ SqT K H p ys) ∧ ∀ l, H l = none → Q (V.ref l) (upd H l (.lst ys))) (tCons (tVar 17) tNil))) rfl sc_law.nd (pi_list (pv 6)) (blkOk_by (N := n_law) (sc := defScope s_law) (by decide +kernel)) (fun _ _ _ _ _ => (pg_name (i := 17) sc_law.nd rfl (by first | exact Or.inl rfl | exact Or.inr rfl))) (fun _ _ _ _ _ => pts_nil) (fun _ _ _ _ _ => (pe_callTy call_list_of (by rfl) T.b_list boot_list (pa_cons (pv 17) pa_nil)))) pa_nil)))) pa_nil))))
    (pss_cons (ps_set (i := 11) sc_law.nd rfl (by first | exact Or.inl rfl | exact Or.inr rfl) (pe_ownX O_gaps hr (by decide) LamX.takes0 (by rfl) (pa_cons (pe_ix (ix_seqK (K := K) rfl) (pv 9) pe_int (fun _ _ => rfl)) (pa_cons (pe_ix (ix_seqK (K := K) rfl) (pv 9) pe_int (fun _ _ => rfl)) (pa_cons (pe_ix (ix_seqK (K := K) rfl) (pv 9) pe_int (fun _ _ => rfl)) (pa_cons (pv 10) (pa_cons (pv 7) pa_nil)))))))
    (pss_cons (ps_if (pt_not (pt_val (pe_own O__law_same hr (by decide) (by rfl) (pa_cons (pv 11) (pa_cons (pv 8) pa_nil)))))
    (pss_one (ps_ret pe_bl)) pss_nil)
    (pss_cons (ps_set (i := 12) sc_law.nd rfl (by first | exact Or.inl rfl | exact Or.inr rfl) (pe_ownX O_gaps hr (by decide) LamX.takes0 (by rfl) (pa_cons (pv 3) (pa_cons (pv 5) (pa_cons (pv 4) (pa_cons (pv 7) (pa_cons (pv 6) pa_nil)))))))
    (pss_cons (ps_if (pt_not (pt_val (pe_own O__law_same hr (by decide) (by rfl) (pa_cons (pv 12) (pa_cons (pe_lc (own := [("_law_old", 18), ("_law_mine", 19), ("_law_theirs", 20)]) (g := (gTup K 3 (gCons (gName 18) (gCons (gName 19) (gCons (gName 20) gNil))))) (tt := tYes) rfl sc_law.nd (pi_list (pv 8)) (blkOk_by (N := n_law) (sc := defScope s_law) (by decide +kernel)) (fun _ _ _ _ _ => (pg_tup (n := 3) rfl (pgs_cons (pg_name (i := 18) sc_law.nd rfl (by first | exact Or.inl rfl | exact Or.inr rfl)) (pgs_cons (pg_name (i := 19) sc_law.nd rfl (by first | exact Or.inl rfl | exact Or.inr rfl)) (pgs_cons (pg_name (i := 20) sc_law.nd rfl (by first | exact Or.inl rfl | exact Or.inr rfl)) pgs_nil))))) (fun _ _ _ _ _ => pts_nil) (fun _ _ _ _ _ => (pe_tup (pa_cons (pv 18) (pa_cons (pv 20) (pa_cons (pv 19) pa_nil)))))) pa_nil)))))
    (pss_one (ps_ret pe_bl)) pss_nil)
    (pss_cons (ps_set (i := 13) sc_law.nd rfl (by first | exact Or.inl rfl | exact Or.inr rfl) (pe_own O__law_m_merged hr (by decide) (by rfl) (pa_cons (pv 3) (pa_cons (pv 4) (pa_cons (pv 5) (pa_cons (pv 6) (pa_cons (pv 7) pa_nil)))))))
    (pss_cons (ps_set (i := 14) sc_law.nd rfl (by first | exact Or.inl rfl | exact Or.inr rfl) (pe_lst (pa_cons (pe_ownX O_merged hr (by decide) LamX.takes0 (by rfl) (pa_cons (pe_ix (ix_seqK (K := K) rfl) (pv 9) pe_int (fun _ _ => rfl)) (pa_cons (pe_ix (ix_seqK (K := K) rfl) (pv 9) pe_int (fun _ _ => rfl)) (pa_cons (pe_ix (ix_seqK (K := K) rfl) (pv 9) pe_int (fun _ _ => rfl)) (pa_cons (pv 6) (pa_cons (pv 7) pa_nil)))))) (pa_cons (pe_ownX O_merged hr (by decide) LamX.takes0 (by rfl) (pa_cons (pv 3) (pa_cons (pv 5) (pa_cons (pv 4) (pa_cons (pv 7) (pa_cons (pv 6) pa_nil)))))) pa_nil))))
    (pss_cons (ps_if (pt_not (pt_val (pe_own O__law_same hr (by decide) (by rfl) (pa_cons (pv 14) (pa_cons (pe_lst (pa_cons (pv 13) (pa_cons (pv 13) pa_nil))) pa_nil)))))
    (pss_one (ps_ret pe_bl)) pss_nil)
    (pss_cons (ps_setLc (i := 15) (own := [("_law_k", 16)]) (g := (gName 16)) (tt := tYes) rfl sc_law.nd rfl rfl (sw_true rfl rfl rfl (by decide +kernel)) (pi_range1 (by rfl) T.b_range (pa_cons (pe_callB call_len (by rfl) T.b_len boot_len (pa_cons (pv 3) pa_nil)) pa_nil)) (blkOk_by (N := n_law) (sc := defScope s_law) (by decide +kernel)) (fun _ _ _ _ _ => (pg_name (i := 16) sc_law.nd rfl (by first | exact Or.inl rfl | exact Or.inr rfl))) (fun _ _ _ _ _ => pts_nil) (fun _ _ _ _ _ => (pe_tup (pa_cons (pv 16) (pa_cons (pv 16) pa_nil)))))
    (pss_cons (ps_if (PW.pt (pw_or (pt_cmpR (op_neD hr.units) (pe_ownX O_merged hr (by decide) LamX.takes0 (by rfl) (pa_cons (pv 3) (pa_cons (pv 3) (pa_cons (pv 5) (pa_cons (pv 15) (pa_cons (pv 7) pa_nil)))))) (pv 5) (nomark _)) (pw_or1 (pt_cmpR (op_neD hr.units) (pe_ownX O_merged hr (by decide) LamX.takes0 (by rfl) (pa_cons (pv 3) (pa_cons (pv 4) (pa_cons (pv 3) (pa_cons (pv 6) (pa_cons (pv 15) pa_nil)))))) (pv 4) (nomark _)))))
    (pss_one (ps_ret pe_bl)) pss_nil)
    (pss_cons (ps_if (pt_cmpR (op_neD hr.units) (pe_ownX O_merged hr (by decide) LamX.takes0 (by rfl) (pa_cons (pv 3) (pa_cons (pv 4) (pa_cons (pv 4) (pa_cons (pe_ownX O_common_row hr (by decide) LamX.takes0 (by rfl) (pa_cons (pv 3) (pa_cons (pv 4) pa_nil))) (pa_cons (pe_ownX O_common_row hr (by decide) LamX.takes0 (by rfl) (pa_cons (pv 3) (pa_cons (pv 4) pa_nil))) pa_nil)))))) (pv 4) (nomark _))
    (pss_one (ps_ret pe_bl)) pss_nil)
    (pss_one (ps_if (pt_not (pt_val (pe_ownG O__law_refused_right rfl hr (by decide) (by rfl) (pa_cons (pv 1) (pa_cons (pv 3) (pa_cons (pv 4) (pa_cons (pv 5) (pa_cons (pv 6) (pa_cons (pv 7) pa_nil)))))))))
    (pss_one (ps_ret pe_bl)) pss_nil))))))))))))))))))))
    (pss_one (ps_ret pe_bl)))), ?_⟩
  -- the spring
  refine k_set ?_
  refine ⟨.ref a, rfl, a, ns, rfl, hS, hl, fun st cl H1 s1 h1 h2 so => ?_⟩
  have hst : ∃ ms x y z, SpAt st cl ms x y z H1 := by
    obtain ⟨ms, x, y, z, S, _⟩ := so
    exact ⟨ms, x, y, z, S⟩
  let X : Addr → Prop := fun b => b = st ∨ b = cl
  have lst1 : ∀ b, X b → ∃ xs, H1 b = some (.lst xs) := fun b hb => by
    obtain ⟨ms, x, y, z, S⟩ := hst
    rcases hb with rfl | rfl
    · exact ⟨_, S.hs⟩
    · exact ⟨_, S.hc⟩
  have Z1 : Zt X st cl 0 Tb H1 := ⟨⟨so, .inl rfl, .inr rfl, fun b hb => let ⟨xs, e⟩ := lst1 b hb; ⟨_, e⟩⟩, hT.ext s1, lst1⟩
  have E1 : EnvOk X H1 ((L2.start n_law [.ref a]).set 1 (some (.ref st))) (Gm0 st) := ⟨rfl, fun i s e => by
    rcases i with _ | _ | _ | _ | _ | _ | _ | _ | _ | _ | _ | _ | _ | _ | _ | _ | _ | _ | _ | _ | _ | i
    all_goals first | (cases e; first | rfl | trivial) | cases e⟩
  clear hst so lst1 h1 h2
  refine ⟨5, rfl, by decide, by decide, ?_⟩
  refine for_it walk_range (fun i σ H' => Zt X st cl (i * 1000) Tb H' ∧ EnvOk X H' σ (Gm0 st)) ⟨Z1, E1⟩ (fun _ _ _ _ _ => trivial) (fun i x σ H2 H3 hi p y => ?_) (fun σ H2 p => rfl)
  obtain ⟨rfl, rfl⟩ := y
  obtain ⟨Z2, E2⟩ := p
  have hi5 : i < 5 := hi
  clear Z1 E1
  refine k_name ?_
  have E3 := E2.setV (i := 2) (v := .int (0 + (i : Int)))
  -- texts
  refine k_set ?_
  refine ⟨.ref st, E3.get 1 _ rfl, X, st, cl, i * 1000, 7, rfl, Z2.sg, by omega, by decide, fun w3 ws H4 lw hw S4 k4 d4 => ?_⟩
  have Z4 := Z2.draw S4 k4
  have E4 := (E3.kps Z2.sg k4).set (i := 3) d4
  clear E2 E3 Z2 S4 k4 d4
  have hwn : ∀ z ∈ ws, z ∈ nW := fun z hz => mW_nW z (hw z hz)
  have nw7 : Nw7 (ws.map PyData.str) := fun d hd => by
    obtain ⟨s, hs, rfl⟩ := List.mem_map.mp hd
    exact List.mem_map.mpr ⟨s, hwn s hs, rfl⟩
  refine k_par ?_
  refine ⟨.ref st, E4.get 1 _ rfl, ?_⟩
  refine g_var (i := 3) (d := wsD ws) E4 rfl H4 (Same.refl _) _ fun v5 H5 s5 r5 => ?_
  refine ⟨X, st, cl, _, 7, v5, ws.map PyData.str, rfl, (Z4.same s5).sg, by omega, r5, by rw [List.length_map]; omega, nw7, by decide, fun w6 es1 H6 le1 ne1 S6 k6 d6 => ?_⟩
  have Z6 := (Z4.same s5).draw S6 k6
  have E6 := (E4.same s5).kps (Z4.same s5).sg k6
  refine ⟨.ref st, E6.get 1 _ rfl, ?_⟩
  refine g_var (i := 3) (d := wsD ws) E6 rfl H6 (Same.refl _) _ fun v7 H7 s7 r7 => ?_
  refine ⟨X, st, cl, _, 7, v7, ws.map PyData.str, rfl, (Z6.same s7).sg, by omega, r7, by rw [List.length_map]; omega, nw7, by decide, fun w8 es2 H8 le2 ne2 S8 k8 d8 => ⟨_, _, rfl, ?_⟩⟩
  have Z8 := (Z6.same s7).draw S8 k8
  obtain ⟨us, rfl, hu⟩ := strs_of ne1
  obtain ⟨vs0, rfl, hv0⟩ := strs_of ne2
  rw [List.length_map] at le1 le2
  have E8 := (((E6.same s7).kps (Z6.same s7).sg k8).set (i := 4) ((d6.mono (Kp.of s7)).mono ((Z6.same s7).sg.kp k8))).set (i := 5) d8
  have Z8 := Z8.le (m := i * 1000 + 100) (by omega)
  clear E4 Z4 E6 Z6 s5 s7 S6 k6 d6 S8 k8 d8 r5 r7
  refine k_set (c_pick (ds := [wsD vs0, wsD vs0, wsD us, wsD ws]) Z8.sg (gv_var (i := 1) E8 rfl) (g_lst Z8.sg.t (ga_cons (g_var (i := 5) (d := wsD vs0) E8 rfl) (ga_cons (g_var (i := 5) (d := wsD vs0) E8 rfl) (ga_cons (g_var (i := 4) (d := wsD us) E8 rfl) (ga_cons (g_var (i := 3) (d := wsD ws) E8 rfl) ga_nil)))) (by simp)) (by omega) (by simp) (by simp) fun w9 d9 H9 hd9 S9 k9 r9 => ?_)
  obtain ⟨vs, rfl, lv, hv⟩ : ∃ vs : List Str, d9 = wsD vs ∧ vs.length ≤ 7 ∧ ∀ z ∈ vs, z ∈ nW := by
    simp only [List.mem_cons, List.not_mem_nil, or_false] at hd9
    rcases hd9 with rfl | rfl | rfl | rfl
    · exact ⟨vs0, rfl, le2, hv0⟩
    · exact ⟨vs0, rfl, le2, hv0⟩
    · exact ⟨us, rfl, le1, hu⟩
    · exact ⟨ws, rfl, lw, hwn⟩
  have Z9 := Z8.draw S9 k9
  have x1 : Tx ws := tx_nW lw hwn
  have x2 : Tx us := tx_nW le1 hu
  have x3 : Tx vs := tx_nW lv hv
  let Γ (x6 x7 x8 x9 x10 x11 x12 x13 x14 x15 : Sv) : List Sv := [.un, .val (.ref st), .un, .dat (wsD ws), .dat (wsD us), .dat (wsD vs), x6, x7, x8, x9, x10, x11, x12, x13, x14, x15, .un, .un, .un, .un, .un]
  have E9 : EnvOk X H9 _ (Γ .un .un .un .un .un .un .un .un .un .un) := envUn' ((E8.kps Z8.sg k9).set (i := 5) r9) 2
  clear E8 Z8 S9 k9 r9 hd9
  -- rows
  refine k_par ?_
  refine ⟨.ref st, E9.get 1 _ rfl, ?_⟩
  refine g_var (i := 3) (d := wsD ws) E9 rfl H9 (Same.refl _) _ fun u1 Ha sa ra => g_var (i := 4) (d := wsD us) (E9.same sa) rfl Ha (Same.refl _) _ fun u2 Hb sb rb => ?_
  have Zb := (Z9.same sa).same sb
  refine ⟨X, st, cl, _, u1, u2, ws, us, rfl, Zb.sg, by omega, ra.mono (Kp.of sb), rb, lw, le1, x1.ok, x2.ok, fun w10 l H10 L S10 k10 d10 => ?_⟩
  have Z10 := Zb.draw S10 k10
  have E10 := ((E9.same sa).same sb).kps Zb.sg k10
  refine ⟨.ref st, E10.get 1 _ rfl, ?_⟩
  refine g_var (i := 3) (d := wsD ws) E10 rfl H10 (Same.refl _) _ fun u3 Hc sc rc => g_var (i := 5) (d := wsD vs) (E10.same sc) rfl Hc (Same.refl _) _ fun u4 Hd sd rd => ?_
  have Zd := (Z10.same sc).same sd
  refine ⟨X, st, cl, _, u3, u4, ws, vs, rfl, Zd.sg, by omega, rc.mono (Kp.of sd), rd, lw, lv, x1.ok, x3.ok, fun w11 r H11 R S11 k11 d11 => ⟨_, _, rfl, ?_⟩⟩
  have Z11 := (Zd.draw S11 k11).le (m := i * 1000 + 200) (by omega)
  have E11 : EnvOk X H11 _ (Γ (.dat (rowD l)) (.dat (rowD r)) .un .un .un .un .un .un .un .un) := ((((E10.same sc).same sd).kps Zd.sg k11).set (i := 6) (((d10.mono (Kp.of sc)).mono (Kp.of sd)).mono (Zd.sg.kp k11))).set (i := 7) d11
  clear E9 Z9 sa sb ra rb Zb S10 k10 d10 Z10 E10 sc sd rc rd Zd S11 k11 d11
  have fl : l.length ≤ 60 := Nat.le_trans L.ro.few x1.few
  have fr : r.length ≤ 60 := Nat.le_trans R.ro.few x1.few
  have oks := gapsS_ok (l := l) (r := r) x1.sok x2.sok x3.sok
  have lgs : (gapsS ws us vs l r).length ≤ 100 := by
    unfold gapsS endsN
    rw [gap_len, List.length_append]
    have := ends_few (l := l) (r := r)
    simp
    omega
  -- due
  refine q_set (i := 8) (d := gsD (gapsS ws us vs l r)) E11 (g_ix Z11.sg.t (g_mg Z11.sg.t (ga_cons (g_var (i := 3) (d := wsD ws) E11 rfl) (ga_cons (g_var (i := 4) (d := wsD us) E11 rfl) (ga_cons (g_var (i := 5) (d := wsD vs) E11 rfl) (ga_cons (g_var (i := 6) (d := rowD l) E11 rfl) (ga_cons (g_var (i := 7) (d := rowD r) E11 rfl) ga_nil))))) x1.sok x2.sok x3.sok L.ro R.ro) rfl g_int rfl) fun H12 v12 s12 E12 => ?_
  have E12 : EnvOk X H12 _ (Γ (.dat (rowD l)) (.dat (rowD r)) (.dat (gsD (gapsS ws us vs l r))) .un .un .un .un .un .un .un) := E12
  have Z12 := Z11.same s12
  clear E11 Z11
  -- texts, as passed
  refine k_set (k_lcT (g_tup (ds := [wsD ws, wsD us, wsD vs]) Z12.sg.t (ga_cons (g_var (i := 3) (d := wsD ws) E12 rfl) (ga_cons (g_var (i := 4) (d := wsD us) E12 rfl) (ga_cons (g_var (i := 5) (d := wsD vs) E12 rfl) ga_nil))) (by simp) H12 (Same.refl _) _ fun vt Ht st' rt => ?_))
  obtain ⟨at_, xt, rfl, nt, et, rxt⟩ := rt.tup_inv (ds := [wsD ws, wsD us, wsD vs])
  refine ⟨at_, rfl, ⟨_, SqT.of et⟩, ?_⟩
  have Zt_ := Z12.same st'
  have Et := E12.same st'
  refine lc_drawsM (c := 1) (Γ := Γ (.dat (rowD l)) (.dat (rowD r)) (.dat (gsD (gapsS ws us vs l r))) .un .un .un .un .un .un .un) (fun k e => ∀ t : List Str, [ws, us, vs][k]? = some t → Txt e t) Zt_.sg Et rt (by simp) (by show 13 < 21; omega) (fun X' H13 σ2 k d Q1 hk E13 S13 q1 => ?_) fun w13 es13 H13 le13 pe13 S13 k13 d13 _ => ?_
  · have hk3 := (List.getElem?_eq_some_iff.mp hk).1
    have hk3 : k < 3 := hk3
    obtain ⟨t, htk, rfl⟩ : ∃ t : List Str, [ws, us, vs][k]? = some t ∧ d = wsD t := by
      match k, hk with
      | 0, e => cases e; exact ⟨ws, rfl, rfl⟩
      | 1, e => cases e; exact ⟨us, rfl, rfl⟩
      | 2, e => cases e; exact ⟨vs, rfl, rfl⟩
    have xt : Tx t := by
      match k, htk with
      | 0, e => cases e; exact x1
      | 1, e => cases e; exact x2
      | 2, e => cases e; exact x3
    refine ⟨.ref st, E13.get 1 _ rfl, ?_⟩
    refine g_var (i := 13) (d := wsD t) E13 rfl H13 (Same.refl _) _ fun u5 H14 s14 r14 => ?_
    refine ⟨X', st, cl, _, u5, t.map PyData.str, rfl, S13.same s14, by omega, r14, by rw [List.length_map]; have := xt.few; omega, fun w d H15 hd S15 k15 dw => q1 w d H15 (fun t' ht' => ?_) S15 ((KpS.of s14).trans k15) dw⟩
    rw [htk] at ht'
    cases ht'
    rcases hd with rfl | rfl
    · exact xt.txt
    · exact xt.txtT
  obtain ⟨e1, e2, e3, rfl⟩ : ∃ e1 e2 e3, es13 = [e1, e2, e3] := by
    match es13, le13 with
    | [a, b, c], _ => exact ⟨a, b, c, rfl⟩
  have T1 : Txt e1 ws := pe13 0 e1 rfl ws rfl
  have T2 : Txt e2 us := pe13 1 e2 rfl us rfl
  have T3 : Txt e3 vs := pe13 2 e3 rfl vs rfl
  have Z13 := (Zt_.draw S13 k13).le (m := i * 1000 + 210) (by show i * 1000 + 200 + 1 * 3 ≤ _; omega)
  have E13 : EnvOk X H13 _ (Γ (.dat (rowD l)) (.dat (rowD r)) (.dat (gsD (gapsS ws us vs l r))) (.dat (.list [e1, e2, e3])) .un .un .un .un .un .un) := (Et.kps Zt_.sg k13).set (i := 9) d13
  clear Z12 E12 s12 st' rt et rxt Zt_ Et S13 k13 d13 pe13 le13 nt
  -- handed
  refine k_set (c_pick (ds := [rowD l, .tuple (l.map prD), pls l]) Z13.sg (gv_var (i := 1) E13 rfl) (g_lst Z13.sg.t (ga_cons (g_var (i := 6) (d := rowD l) E13 rfl) (ga_cons (g_tupOf Z13.sg.t (g_var (i := 6) (d := rowD l) E13 rfl)) (ga_cons (g_is (g_lc1 (ds := l.map prD) (Γ2 := fun z => (Γ (.dat (rowD l)) (.dat (rowD r)) (.dat (gsD (gapsS ws us vs l r))) (.dat (.list [e1, e2, e3])) .un .un .un .un .un .un).set 17 (.dat z)) (fun z => .list (itemsD z)) Z13.sg.t (gi_list (g_var (i := 6) (d := rowD l) E13 rfl)) (by rw [List.length_map]; omega) (fun H3 s3 z hz => tgt_name (E13.same s3)) (fun X2 H3 σ2 z hz t3 E3 => g_listOf t3 (g_var (i := 17) (d := z) E3 rfl) (by obtain ⟨p, _, rfl⟩ := List.mem_map.mp hz; rfl))) (by rw [List.map_map]; rfl)) ga_nil))) (by simp)) (by omega) (by simp) (by simp) fun w14 dh H14 hd14 S14 k14 r14 => ?_)
  have Rh : Rw dh l := by
    simp only [List.mem_cons, List.not_mem_nil, or_false] at hd14
    rcases hd14 with rfl | rfl | rfl
    · exact rw_row l
    · exact rw_tup l
    · exact rw_pls l
  have Z14 := Z13.draw S14 k14
  have E14 : EnvOk X H14 _ (Γ (.dat (rowD l)) (.dat (rowD r)) (.dat (gsD (gapsS ws us vs l r))) (.dat (.list [e1, e2, e3])) (.dat dh) .un .un .un .un .un) := (E13.kps Z13.sg k14).set (i := 10) r14
  clear Z13 E13 S14 k14 r14 hd14
  -- told
  have t14 := Z14.sg.t
  have gt3 : ∀ {H' : Hp} {σ' : L2.St} {x10 x11 x12 x13 x14 x15 : Sv} (j : Int) (z : PyData), Trk X H' → EnvOk X H' σ' (Γ (.dat (rowD l)) (.dat (rowD r)) (.dat (gsD (gapsS ws us vs l r))) (.dat (.list [e1, e2, e3])) x10 x11 x12 x13 x14 x15) → atI [e1, e2, e3] j = some z → G X (tOp (rIx K) (tVar 9) (tC (.int j))) σ' H' z := fun j z t E h => g_ix t (g_var (i := 9) (d := .list [e1, e2, e3]) E rfl) rfl g_int h
  refine q_set (i := 11) (d := gapsR ws us vs l r) E14 (g_told t14 (five_of x1 x2 x3 T1 T2 T3 Rh (rw_row r) L R) (ga_cons (gt3 0 e1 t14 E14 rfl) (ga_cons (gt3 1 e2 t14 E14 rfl) (ga_cons (gt3 2 e3 t14 E14 rfl) (ga_cons (g_var (i := 10) (d := dh) E14 rfl) (ga_cons (g_var (i := 7) (d := rowD r) E14 rfl) ga_nil)))))) fun H15 v15 s15 E15 => ?_
  have E15 : EnvOk X H15 _ (Γ (.dat (rowD l)) (.dat (rowD r)) (.dat (gsD (gapsS ws us vs l r))) (.dat (.list [e1, e2, e3])) (.dat dh) (.dat (gapsR ws us vs l r)) .un .un .un .un) := E15
  have Z15 := Z14.same s15
  refine q_if (b := !true) (gt_not (gt_B (g_same Z15.sg.t (g_var (i := 11) (d := gapsR ws us vs l r) E15 rfl) (g_var (i := 8) (d := gsD (gapsS ws us vs l r)) E15 rfl) (sm_gs (by omega) oks)))) (fun h => by cases h) fun _ H16 s16 => ?_
  have E16 := E15.same s16
  have Z16 := Z15.same s16
  clear E14 Z14 s15 E15 Z15 s16 t14
  -- turned
  refine q_set (i := 12) (d := gapsR ws vs us r l) E16 (g_told Z16.sg.t (five_of x1 x3 x2 x1.txt x3.txt x2.txt (rw_row r) (rw_row l) R L) (ga_cons (g_var (i := 3) (d := wsD ws) E16 rfl) (ga_cons (g_var (i := 5) (d := wsD vs) E16 rfl) (ga_cons (g_var (i := 4) (d := wsD us) E16 rfl) (ga_cons (g_var (i := 7) (d := rowD r) E16 rfl) (ga_cons (g_var (i := 6) (d := rowD l) E16 rfl) ga_nil)))))) fun H17 v17 s17 E17 => ?_
  have E17 : EnvOk X H17 _ (Γ (.dat (rowD l)) (.dat (rowD r)) (.dat (gsD (gapsS ws us vs l r))) (.dat (.list [e1, e2, e3])) (.dat dh) (.dat (gapsR ws us vs l r)) (.dat (gapsR ws vs us r l)) .un .un .un) := E17
  have Z17 := Z16.same s17
  have eturn : gapsR ws vs us r l = gsD ((gapsS ws us vs l r).map swG) := by
    unfold gapsR
    rw [gaps_turn L.ro.inc R.ro.inc]
  have oks2 : ∀ g ∈ (gapsS ws us vs l r).map swG, GpOk g := fun g hg => by
    obtain ⟨y, hy, rfl⟩ := List.mem_map.mp hg
    have := oks y hy
    exact ⟨this.1, this.2.2, this.2.1⟩
  rw [eturn] at E17
  refine q_if (b := !true) (gt_not (gt_B (g_same Z17.sg.t (g_var (i := 12) (d := gsD ((gapsS ws us vs l r).map swG)) E17 rfl) (g_is (g_lc1 (ds := (gapsS ws us vs l r).map gD) (Γ2 := fun z => (((((Γ (.dat (rowD l)) (.dat (rowD r)) (.dat (gsD (gapsS ws us vs l r))) (.dat (.list [e1, e2, e3])) (.dat dh) (.dat (gapsR ws us vs l r)) (.dat (gsD ((gapsS ws us vs l r).map swG))) .un .un .un).set 18 (.dat (it z 0))).set 19 (.dat (it z 1))).set 20 (.dat (it z 2))))) (fun z => .tuple [it z 0, it z 2, it z 1]) Z17.sg.t (gi_list (g_var (i := 8) (d := gsD (gapsS ws us vs l r)) E17 rfl)) (by rw [List.length_map]; omega) (fun H3 s3 z hz => ?_) (fun X2 H3 σ2 z hz t3 E3 => g_tup t3 (ga_cons (g_var (i := 18) (d := it z 0) E3 rfl) (ga_cons (g_var (i := 20) (d := it z 2) E3 rfl) (ga_cons (g_var (i := 19) (d := it z 1) E3 rfl) ga_nil))) (by simp))) ?_) (sm_gs (by rw [List.length_map]; omega) oks2)))) (fun h => by cases h) fun _ H18 s18 => ?_
  · obtain ⟨g, _, rfl⟩ := List.mem_map.mp hz
    exact tgt_triple (E17.same s3)
  · rw [List.map_map]
    show PyData.list _ = PyData.list (((gapsS ws us vs l r).map swG).map gD)
    rw [List.map_map]
    rfl
  have E18 := E17.same s18
  have Z18 := Z17.same s18
  clear E16 Z16 s17 E17 Z17 s18
  -- merged
  refine q_set (i := 13) (d := mergedR ws us vs l r) E18 (g_call (ga_cons (g_var (i := 3) (d := wsD ws) E18 rfl) (ga_cons (g_var (i := 4) (d := wsD us) E18 rfl) (ga_cons (g_var (i := 5) (d := wsD vs) E18 rfl) (ga_cons (g_var (i := 6) (d := rowD l) E18 rfl) (ga_cons (g_var (i := 7) (d := rowD r) E18 rfl) ga_nil))))) fun vv Hx sx rs Q q => ⟨X, ws, us, vs, l, r, Z18.sg.t.mono sx, rs, x1.sok, x2.sok, x3.sok, L.ro, R.ro, fun w H' s' dw => q w H' s' dw⟩) fun H19 v19 s19 E19 => ?_
  have E19 : EnvOk X H19 _ (Γ (.dat (rowD l)) (.dat (rowD r)) (.dat (gsD (gapsS ws us vs l r))) (.dat (.list [e1, e2, e3])) (.dat dh) (.dat (gapsR ws us vs l r)) (.dat (gsD ((gapsS ws us vs l r).map swG))) (.dat (mergedR ws us vs l r)) .un .un) := E19
  have Z19 := Z18.same s19
  have t19 := Z19.sg.t
  refine q_set (i := 14) (d := .list [mergedR ws us vs l r, mergedR ws us vs l r]) E19 (g_lst t19 (ga_cons (g_told t19 (five_of x1 x2 x3 T1 T2 T3 (rw_row l) (rw_row r) L R) (ga_cons (gt3 0 e1 t19 E19 rfl) (ga_cons (gt3 1 e2 t19 E19 rfl) (ga_cons (gt3 2 e3 t19 E19 rfl) (ga_cons (g_var (i := 6) (d := rowD l) E19 rfl) (ga_cons (g_var (i := 7) (d := rowD r) E19 rfl) ga_nil)))))) (ga_cons (g_is (g_told t19 (five_of x1 x3 x2 x1.txt x3.txt x2.txt (rw_row r) (rw_row l) R L) (ga_cons (g_var (i := 3) (d := wsD ws) E19 rfl) (ga_cons (g_var (i := 5) (d := wsD vs) E19 rfl) (ga_cons (g_var (i := 4) (d := wsD us) E19 rfl) (ga_cons (g_var (i := 7) (d := rowD r) E19 rfl) (ga_cons (g_var (i := 6) (d := rowD l) E19 rfl) ga_nil)))))) (merged_turn L.ro.inc R.ro.inc)) ga_nil)) (by simp)) fun H20 v20 s20 E20 => ?_
  have E20 : EnvOk X H20 _ (Γ (.dat (rowD l)) (.dat (rowD r)) (.dat (gsD (gapsS ws us vs l r))) (.dat (.list [e1, e2, e3])) (.dat dh) (.dat (gapsR ws us vs l r)) (.dat (gsD ((gapsS ws us vs l r).map swG))) (.dat (mergedR ws us vs l r)) (.dat (.list [mergedR ws us vs l r, mergedR ws us vs l r])) .un) := E20
  have Z20 := Z19.same s20
  refine q_if (b := !true) (gt_not (gt_B (g_same Z20.sg.t (g_var (i := 14) (d := .list [mergedR ws us vs l r, mergedR ws us vs l r]) E20 rfl) (g_lst Z20.sg.t (ga_cons (g_var (i := 13) (d := mergedR ws us vs l r) E20 rfl) (ga_cons (g_var (i := 13) (d := mergedR ws us vs l r) E20 rfl) ga_nil)) (by simp)) ?_))) (fun h => by cases h) fun _ H21 s21 => ?_
  · refine ⟨by show 2 ≤ 100000; omega, fun z hz => ?_⟩
    have hz : z = mergedR ws us vs l r := by simpa using hz
    rw [hz]
    exact sm_mg x1.sok x2.sok x3.sok L.ro
  have E21 := E20.same s21
  have Z21 := Z20.same s21
  clear E18 Z18 s19 E19 Z19 t19 s20 E20 Z20 s21
  -- whole
  refine k_set ((show G X _ _ H21 (rowD (wholeL ws.length)) from g_is (g_lc1 (ds := rangeD 0 ws.length) (Γ2 := fun z => (Γ (.dat (rowD l)) (.dat (rowD r)) (.dat (gsD (gapsS ws us vs l r))) (.dat (.list [e1, e2, e3])) (.dat dh) (.dat (gapsR ws us vs l r)) (.dat (gsD ((gapsS ws us vs l r).map swG))) (.dat (mergedR ws us vs l r)) (.dat (.list [mergedR ws us vs l r, mergedR ws us vs l r])) .un).set 16 (.dat z)) (fun z => .tuple [z, z]) Z21.sg.t (gi_range1 (n := (ws.length : Int)) (g_is (g_len Z21.sg.t (g_var (i := 3) (d := wsD ws) E21 rfl) rfl) (by show PyData.int ((ws.map PyData.str).length : Nat) = _; rw [List.length_map])) (by omega) (by omega)) (by rw [rangeD_len]; omega) (fun H3 s3 z hz => tgt_name (E21.same s3)) (fun X2 H3 σ2 z hz t3 E3 => g_tup t3 (ga_cons (g_var (i := 16) (d := z) E3 rfl) (ga_cons (g_var (i := 16) (d := z) E3 rfl) ga_nil)) (by simp))) ?_) H21 (Same.refl _) _ fun v22 H22 s22 r22 => ?_)
  · unfold wholeL rangeD
    rw [List.map_map]
    show PyData.list _ = PyData.list (((List.range ws.length).map fun k => (k, k)).map prD)
    rw [List.map_map]
    congr 1
    refine List.map_congr_left fun k _ => ?_
    show PyData.tuple [.int (0 + (k : Int)), .int (0 + (k : Int))] = .tuple [.int (k : Nat), .int (k : Nat)]
    rw [Int.zero_add]
  have E22 : EnvOk X H22 _ (Γ (.dat (rowD l)) (.dat (rowD r)) (.dat (gsD (gapsS ws us vs l r))) (.dat (.list [e1, e2, e3])) (.dat dh) (.dat (gapsR ws us vs l r)) (.dat (gsD ((gapsS ws us vs l r).map swG))) (.dat (mergedR ws us vs l r)) (.dat (.list [mergedR ws us vs l r, mergedR ws us vs l r])) (.dat (rowD (wholeL ws.length)))) := (E21.same s22).set (i := 15) r22
  have Z22 := Z21.same s22
  have t22 := Z22.sg.t
  have ne : ∀ {σ' : L2.St} {H' : Hp} {t : List Str} {ta tb : TE}, Trk X H' → Tx t → G X ta σ' H' (wsD t) → G X tb σ' H' (wsD t) → GT (tTest (tOp (rNeD K) ta tb)) σ' H' false := fun {σ' H' t ta tb} tr xt ha hb => gt_is (gt_neD tr ha hb (noDict_strs t) (noDict_strs t) (shaped_strs xt.sok.2) (shaped_strs xt.sok.2)) (by rw [ws_eqv, decide_eq_true rfl]; rfl)
  refine q_if (b := false || false) (gt_or (ne t22 x3 (g_is (g_told t22 (five_of x1 x1 x3 x1.txt x1.txt x3.txt (rw_row _) (rw_row r) (whole_rox ws) R) (ga_cons (g_var (i := 3) (d := wsD ws) E22 rfl) (ga_cons (g_var (i := 3) (d := wsD ws) E22 rfl) (ga_cons (g_var (i := 5) (d := wsD vs) E22 rfl) (ga_cons (g_var (i := 15) (d := rowD (wholeL ws.length)) E22 rfl) (ga_cons (g_var (i := 7) (d := rowD r) E22 rfl) ga_nil)))))) (merged_whole R)) (g_var (i := 5) (d := wsD vs) E22 rfl)) fun _ => ne t22 x2 (g_is (g_told t22 (five_of x1 x2 x1 x1.txt x2.txt x1.txt (rw_row l) (rw_row _) L (whole_rox ws)) (ga_cons (g_var (i := 3) (d := wsD ws) E22 rfl) (ga_cons (g_var (i := 4) (d := wsD us) E22 rfl) (ga_cons (g_var (i := 3) (d := wsD ws) E22 rfl) (ga_cons (g_var (i := 6) (d := rowD l) E22 rfl) (ga_cons (g_var (i := 15) (d := rowD (wholeL ws.length)) E22 rfl) ga_nil)))))) (merged_whole2 L)) (g_var (i := 4) (d := wsD us) E22 rfl)) (fun h => by cases h) fun _ H23 s23 => ?_
  have E23 := E22.same s23
  have Z23 := Z22.same s23
  clear E21 Z21 s22 r22 E22 Z22 t22 s23
  have t23 := Z23.sg.t
  have nt : NoT X H23 := fun a ha xs e => by
    obtain ⟨ys, h⟩ := Z23.lst a ha
    rw [h] at e
    cases e
  have gcom : G X (tCall spCommon [] E0 (tCons (tVar 3) (tCons (tVar 4) tNil))) _ H23 (rowD (comR ws us)) := (gn_common (E := E0) t23 nt x1 x2 x1.txt x2.txt (g_var (i := 3) (d := wsD ws) E23 rfl) (g_var (i := 4) (d := wsD us) E23 rfl)).g
  refine q_if (b := false) (ne t23 x2 (g_is (g_told t23 (five_of x1 x2 x2 x1.txt x2.txt x2.txt (rw_row _) (rw_row _) (com_rox ws us) (com_rox ws us)) (ga_cons (g_var (i := 3) (d := wsD ws) E23 rfl) (ga_cons (g_var (i := 4) (d := wsD us) E23 rfl) (ga_cons (g_var (i := 4) (d := wsD us) E23 rfl) (ga_cons gcom (ga_cons gcom ga_nil)))))) (merged_same (com_rox ws us))) (g_var (i := 4) (d := wsD us) E23 rfl)) (fun h => by cases h) fun _ H24 s24 => ?_
  have E24 := E23.same s24
  have Z24 := Z23.same s24
  clear E23 Z23 s24 t23 nt gcom
  -- refused
  refine k_ifL (k_nB ?_)
  refine ⟨.ref st, E24.get 1 _ rfl, ?_⟩
  refine (ga_cons (g_var (i := 3) (d := wsD ws) E24 rfl) (ga_cons (g_var (i := 4) (d := wsD us) E24 rfl) (ga_cons (g_var (i := 5) (d := wsD vs) E24 rfl) (ga_cons (g_var (i := 6) (d := rowD l) E24 rfl) (ga_cons (g_var (i := 7) (d := rowD r) E24 rfl) ga_nil))))) H24 (Same.refl _) _ fun rest H25 s25 rs => ?_
  refine ⟨X, st, cl, _, rest, ws, us, vs, l, r, List.append_nil _, Z24.same s25, by omega, rs, x1, x2, x3, L, R, fun H26 Z26 fr26 => ⟨true, rfl, ?_⟩⟩
  rw [if_neg (by decide)]
  have E26 := (E24.same s25).kq (H' := H26) (fun a o n t e => fr26 a o (fun z => n (.inl z)) (fun z => n (.inr z)) e t)
  exact ⟨Z26.le (by omega), envUn' (envUn' (envUn' (envUn' (envUn' (envUn' (envUn' (envUn' (envUn' (envUn' (envUn' (envUn' (envUn' E26 3) 4) 5) 6) 7) 8) 9) 10) 11) 12) 13) 14) 15⟩
end K56

/-! What the top has written; the law's own head. -/
namespace K56
open PySem PySem.Spec PyProof.Rows L2 KD KL LamX
def inC : Stmt → Stmt
  | .ClassDef _ _ _ b _ _ _ _ _ _ _ => b.getD 0 (.Pass ⟨0, 0, 0, 0⟩)
  | s => s
/-- a def of the text -/
def DefA (K : PySem.W.Frag) (x : Str) (st : Stmt) : Prop := ∃ (f : Addr) (fd : FuncData), PySem.W.nsIn K mainGlobals x = some (some (.ref f)) ∧ PySem.W.keepIn K (.ref f) = true ∧ Fun K x x st f fd
theorem da {K : PySem.W.Frag} {x : Str} {st : Stmt} {f : Addr} {oc kV dc pm cd ct : Value} {od an : Option Addr} {sl : Array (Option Value)} (a : PySem.W.nsIn K mainGlobals x = some (some (.ref f)))
    (l : K.lookup f = some ⟨oc, od, .func (PySem.W.fnOf x x (defArgs st) (defBody st) (defScope st) .none kV dc pm an cd ct), sl⟩) (c : PySem.W.codeIn K cd x = true) (k : PySem.W.keepIn K (.ref f) = true) : DefA K x st := ⟨f, _, a, k, fun_mk l c k⟩
/-- a class of errors of the text -/
structure ClsA (K : PySem.W.Frag) (x qual f : Str) (st : Stmt) (C : Addr) : Prop where
  a : PySem.W.nsIn K mainGlobals x = some (some (.ref C))
  T : OexC K C
  xf : XfC K C
  no : PySem.W.findIn K (.ref C) f = some none
  ini : ∃ (fI : Addr) (fd : FuncData), PySem.W.findIn K (.ref C) "__init__" = some (some (.ref fI)) ∧ PySem.W.typeIn K (.ref fI) = some (.type "function") ∧ Fun K "__init__" qual (inC st) fI fd
theorem ca {K : PySem.W.Frag} {x qual f : Str} {st : Stmt} {C f1 N : Addr} {nm q : Str} {bs bm : List Value} {sn : List Str} {sub : List Value} {ab : Bool} {col : Option Bool} {dd : Option Addr} {m0 m1 m2 m3 m5 : Option Value} {oc kV dc pm cd ct : Value} {od an : Option Addr} {sl : Array (Option Value)}
    (a : PySem.W.nsIn K mainGlobals x = some (some (.ref C))) (xL : K.lookup C = some (excClassObj nm q C N bs bm true sn sub ab col dd m0 m1 m2 m3 m5 "ValueError.__new__")) (rv : PySem.HandSPX.refsVE bm = true)
    (sa : PySem.W.findIn K (.ref C) "__setattr__" = some (some (.builtin "object.__setattr__"))) (ga : PySem.W.findIn K (.ref C) "__getattribute__" = some (some (.builtin "BaseException.__getattribute__"))) (gg : PySem.W.findIn K (.ref C) "__getattr__" = some none)
    (no : PySem.W.findIn K (.ref C) f = some none) (a1 : PySem.W.findIn K (.ref C) "__init__" = some (some (.ref f1))) (t1 : PySem.W.typeIn K (.ref f1) = some (.type "function"))
    (l1 : K.lookup f1 = some ⟨oc, od, .func (PySem.W.fnOf "__init__" qual (defArgs (inC st)) (defBody (inC st)) (defScope (inC st)) .none kV dc pm an cd ct), sl⟩) (c1 : PySem.W.codeIn K cd qual = true) (k1 : PySem.W.keepIn K (.ref f1) = true)
    (kC : PySem.W.keepIn K (.ref C) = true) (eC : PySem.W.subIn K (.ref C) (.type "BaseException") = some true) (tC : PySem.W.typeIn K (.ref C) = some (.type "type")) (hC : PySem.W.hasDictIn K C = true) : ClsA K x qual f st C :=
  ⟨a, ⟨⟨nm, q, N, bs, bm, sn, sub, ab, col, dd, m0, m1, m2, m3, m5, xL, rv⟩, sa, eC, tC, kC⟩, ⟨ga, gg, eC, hC⟩, no, ⟨f1, _, a1, t1, fun_mk l1 c1 k1⟩⟩
theorem exm_of {K : PySem.W.Frag} {A B : Addr} {b : Bool} (h1 : PySem.W.subIn K (.ref B) (.type "BaseException") = some true) (h2 : PySem.W.isClsIn K B = true) (h3 : PySem.W.typeIn K (.ref B) = some (.type "type")) (h4 : PySem.W.subIn K (.ref A) (.ref B) = some b) : PySem.W.exmOne K (.ref A) (.ref B) = some b := by
  have i : (PySem.W.clsIn K B).isSome = true := h2
  show (if (PySem.W.subIn K (.ref B) (.type "BaseException") == some true) = true then (if ((PySem.W.clsIn K B).isSome && PySem.W.typeIn K (.ref B) == some (.type "type")) = true then PySem.W.subIn K (.ref A) (.ref B) else none) else none) = some b
  rw [h1, i, h3, if_pos (by rfl), if_pos (by rfl), h4]
/-- a def with lambdas -/
def DefC (K : PySem.W.Frag) (x : Str) (st : Stmt) (c : Addr) : Prop := ∃ (f : Addr) (oc kV dc pm ct : Value) (od an : Option Addr) (sl : Array (Option Value)), PySem.W.nsIn K mainGlobals x = some (some (.ref f)) ∧ PySem.W.keepIn K (.ref f) = true ∧
  K.lookup f = some ⟨oc, od, .func (PySem.W.fnOf x x (defArgs st) (defBody st) (defScope st) .none kV dc pm an (.ref c) ct), sl⟩ ∧ PySem.W.codeIn K (.ref c) x = true
theorem dc {K : PySem.W.Frag} {x : Str} {st : Stmt} {f c : Addr} {oc kV dc pm ct : Value} {od an : Option Addr} {sl : Array (Option Value)} (a : PySem.W.nsIn K mainGlobals x = some (some (.ref f))) (k : PySem.W.keepIn K (.ref f) = true)
    (l : K.lookup f = some ⟨oc, od, .func (PySem.W.fnOf x x (defArgs st) (defBody st) (defScope st) .none kV dc pm an (.ref c) ct), sl⟩) (cc : PySem.W.codeIn K (.ref c) x = true) : DefC K x st c := ⟨f, oc, kV, dc, pm, ct, od, an, sl, a, k, l, cc⟩
/-- the law's own def -/
def LawA (K : PySem.W.Frag) (c : Addr) : Prop := ∃ (f : Addr) (oc kV dc pm ct : Value) (od an : Option Addr) (sl : Array (Option Value)), PySem.W.nsIn K mainGlobals "law" = some (some (.ref f)) ∧
  K.lookup f = some ⟨oc, od, .func (PySem.W.fnOf "law" "law" (defArgs s_law) (defBody s_law) (defScope s_law) .none kV dc pm an (.ref c) ct), sl⟩ ∧ PySem.W.codeIn K (.ref c) "law" = true
theorem la {K : PySem.W.Frag} {f c : Addr} {oc kV dc pm ct : Value} {od an : Option Addr} {sl : Array (Option Value)} (a : PySem.W.nsIn K mainGlobals "law" = some (some (.ref f)))
    (l : K.lookup f = some ⟨oc, od, .func (PySem.W.fnOf "law" "law" (defArgs s_law) (defBody s_law) (defScope s_law) .none kV dc pm an (.ref c) ct), sl⟩) (cc : PySem.W.codeIn K (.ref c) "law" = true) : LawA K c := ⟨f, oc, kV, dc, pm, ct, od, an, sl, a, l, cc⟩
def spLaw (K : PySem.W.Frag) (Pts : List Addr) : Sp := fun vs H Q _ => ∃ (a : Addr) (ns : List Int), vs = [.ref a] ∧ SqL K H a (ns.map V.int) ∧ ns.length ≤ 63 ∧ (∀ Pt ∈ Pts, H Pt = some (.tbl #[])) ∧ Q = fun v _ => v = V.bl true
section
variable {P : Program} {w : World} {K : PySem.W.Frag} {mg : Str → Option Value} {base h : Heap}
abbrev s_NoRow : Stmt := topS 2
theorem ec_NoRow {C : Addr} (X : K.In h) (G : h.Ns mainGlobals mg) (A : ClsA K "NoRow" "NoRow.__init__" "thing" s_NoRow C) : Ec P w K mg base "NoRow" "thing" C := by
  obtain ⟨fI, fd, h1, h2, F⟩ := A.ini
  have S : FnScope ["self", "thing"] ["self", "thing"] (defScope (inC s_NoRow)) := ⟨rfl, rfl, rfl, by decide +kernel, rfl, by decide +kernel, by decide +kernel⟩
  exact ⟨PySem.W.mg_of X G A.a, A.T, A.xf, A.no, fI, fd, h1, h2, ok_initF F S A.T A.no rfl rfl rfl (by decide) (by decide) (fun _ => rfl), F.binds (ps := ["self", "thing"]) fun _ _ _ _ _ _ us hl => match us, hl with | [_, _], _ => rfl⟩
abbrev s_NoText : Stmt := topS 3
theorem ec_NoText {C : Addr} (X : K.In h) (G : h.Ns mainGlobals mg) (A : ClsA K "NoText" "NoText.__init__" "index" s_NoText C) : Ec P w K mg base "NoText" "index" C := by
  obtain ⟨fI, fd, h1, h2, F⟩ := A.ini
  have S : FnScope ["self", "index"] ["self", "index"] (defScope (inC s_NoText)) := ⟨rfl, rfl, rfl, by decide +kernel, rfl, by decide +kernel, by decide +kernel⟩
  exact ⟨PySem.W.mg_of X G A.a, A.T, A.xf, A.no, fI, fd, h1, h2, ok_initF F S A.T A.no rfl rfl rfl (by decide) (by decide) (fun _ => rfl), F.binds (ps := ["self", "index"]) fun _ _ _ _ _ _ us hl => match us, hl with | [_, _], _ => rfl⟩
theorem own_of {CX : CXT} {k : Nat} {x : Str} {st : Stmt} {ps : List Str} {sp : Sp} (X : K.In h) (G : h.Ns mainGlobals mg) (D : DefA K x st) (b : ∀ (kV doc pm : Value) (an : Option Addr) (cdv ct : Value) (us : List Value), us.length = ps.length → bindArgs (PySem.W.fnOf x x (defArgs st) (defBody st) (defScope st) .none kV doc pm an cdv ct) ⟨us, []⟩ = pure (ps.zip us))
    (F : ∀ f fd, mg x = some (.ref f) → PySem.W.keepIn K (.ref f) = true → Binds K fd ps [] → Fun K x x st f fd → FnOk P w K mg base CX k f fd ps sp) : Own P w K mg base CX k x ps sp := by
  obtain ⟨f, fd, a, kp, Fn⟩ := D
  exact ⟨f, fd, PySem.W.mg_of X G a, kp, Fn.binds b, F f fd (PySem.W.mg_of X G a) kp (Fn.binds b) Fn⟩
end
theorem all_mk {l : PySem.W.OpenLaw} {w : World} {K : PySem.W.Frag} {h : Heap} {mg : Str → Option Value} {fa C1 C2 c P__law_refused_right c__law_refused_right : Addr} (X : K.In h) (G : h.Ns mainGlobals mg) (hfa : mg "law" = some (.ref fa))
    (lw : LawA K c)
    (c1 : ClsA K "NoRow" "NoRow.__init__" "thing" s_NoRow C1)
    (c2 : ClsA K "NoText" "NoText.__init__" "index" s_NoText C2)
    (d_is_list : DefA K "is_list" s_is_list)
    (d_is_integer : DefA K "is_integer" s_is_integer)
    (d_is_number : DefA K "is_number" s_is_number)
    (d_is_pair : DefA K "is_pair" s_is_pair)
    (d_is_words : DefA K "is_words" s_is_words)
    (d_first_false : DefA K "first_false" s_first_false)
    (d_wrong_words : DefA K "wrong_words" s_wrong_words)
    (d_check_texts : DefA K "check_texts" s_check_texts)
    (d_levels_in : DefA K "levels_in" s_levels_in)
    (d_levels_behind : DefA K "levels_behind" s_levels_behind)
    (d_by_level : DefA K "by_level" s_by_level)
    (d_comes_behind : DefA K "comes_behind" s_comes_behind)
    (d_longest_levels : DefA K "longest_levels" s_longest_levels)
    (d_common_row : DefA K "common_row" s_common_row)
    (d_is_match : DefA K "is_match" s_is_match)
    (d_are_matches : DefA K "are_matches" s_are_matches)
    (d_is_common_row : DefA K "is_common_row" s_is_common_row)
    (d_gaps_between : DefA K "gaps_between" s_gaps_between)
    (d_given : DefA K "given" s_given)
    (d_merged_between : DefA K "merged_between" s_merged_between)
    (d_check_rows : DefA K "check_rows" s_check_rows)
    (d_gaps : DefA K "gaps" s_gaps)
    (d_merged : DefA K "merged" s_merged)
    (d__law_m_text : DefA K "_law_m_text" s__law_m_text)
    (d__law_m_near : DefA K "_law_m_near" s__law_m_near)
    (d__law_m_matches : DefA K "_law_m_matches" s__law_m_matches)
    (d__law_m_behind : DefA K "_law_m_behind" s__law_m_behind)
    (d__law_m_longest : DefA K "_law_m_longest" s__law_m_longest)
    (d__law_m_passed : DefA K "_law_m_passed" s__law_m_passed)
    (d__law_m_gaps : DefA K "_law_m_gaps" s__law_m_gaps)
    (d__law_m_merged : DefA K "_law_m_merged" s__law_m_merged)
    (d__law_start : DefA K "_law_start" s__law_start)
    (d__law_draw : DefA K "_law_draw" s__law_draw)
    (d__law_pick : DefA K "_law_pick" s__law_pick)
    (d__law_mixed : DefA K "_law_mixed" s__law_mixed)
    (d__law_same : DefA K "_law_same" s__law_same)
    (d__law_some_row : DefA K "_law_some_row" s__law_some_row)
    (d__law_met : DefA K "_law_met" s__law_met)
    (d__law_refused_right : DefC K "_law_refused_right" s__law_refused_right c__law_refused_right)
    (tab__law_refused_right : h.get? P__law_refused_right = some { cls := .none, data := .fields #[] }) (tabK__law_refused_right : K.lookup P__law_refused_right = none) (hd__law_refused_right : PySem.W.codeHdIn K c__law_refused_right P__law_refused_right = true)
    (i1 : PySem.W.isClsIn K C1 = true)
    (e11 : PySem.W.subIn K (.ref C1) (.ref C1) = some true)
    (i2 : PySem.W.isClsIn K C2 = true)
    (e21 : PySem.W.subIn K (.ref C2) (.ref C1) = some false)
    (e22 : PySem.W.subIn K (.ref C2) (.ref C2) = some true)
    (z_isinstance : PySem.W.nsIn K mainGlobals "isinstance" = some none)
    (z_len : PySem.W.nsIn K mainGlobals "len" = some none)
    (z_list : PySem.W.nsIn K mainGlobals "list" = some none)
    (z_tuple : PySem.W.nsIn K mainGlobals "tuple" = some none)
    (z_dict : PySem.W.nsIn K mainGlobals "dict" = some none)
    (z_int : PySem.W.nsIn K mainGlobals "int" = some none)
    (z_bool : PySem.W.nsIn K mainGlobals "bool" = some none)
    (z_str : PySem.W.nsIn K mainGlobals "str" = some none)
    (z_min : PySem.W.nsIn K mainGlobals "min" = some none)
    (z_all : PySem.W.nsIn K mainGlobals "all" = some none)
    (z_range : PySem.W.nsIn K mainGlobals "range" = some none)
    (z_enumerate : PySem.W.nsIn K mainGlobals "enumerate" = some none)
    (z_zip : PySem.W.nsIn K mainGlobals "zip" = some none)
    (z_repr : PySem.W.nsIn K mainGlobals "repr" = some none)
    (z_max : PySem.W.nsIn K mainGlobals "max" = some none)
    (z_any : PySem.W.nsIn K mainGlobals "any" = some none) :
    LawG l w K CX0 63 "_law_script" mg fa h := by
  obtain ⟨f, oc, kV, dc, pm, ct, od, an, sl, la, ll, lc⟩ := lw
  have e := hfa.symm.trans (PySem.W.mg_of X G la)
  cases e
  have T : Bl mg := ⟨PySem.W.mg_none_of X G z_isinstance, PySem.W.mg_none_of X G z_len, PySem.W.mg_none_of X G z_list, PySem.W.mg_none_of X G z_tuple, PySem.W.mg_none_of X G z_dict, PySem.W.mg_none_of X G z_int, PySem.W.mg_none_of X G z_bool, PySem.W.mg_none_of X G z_str, PySem.W.mg_none_of X G z_min, PySem.W.mg_none_of X G z_all, PySem.W.mg_none_of X G z_range, PySem.W.mg_none_of X G z_enumerate, PySem.W.mg_none_of X G z_zip, PySem.W.mg_none_of X G z_repr⟩
  refine ⟨PySem.W.fnOf "law" "law" (defArgs s_law) (defBody s_law) (defScope s_law) .none kV dc pm an (.ref c) ct, [(c__law_refused_right, P__law_refused_right)], spLaw K [P__law_refused_right], (fun p hp => by
    simp only [List.mem_cons, List.not_mem_nil, or_false] at hp
    rcases hp with rfl
    · exact tab__law_refused_right
    ), (fun p hp => by
    simp only [List.mem_cons, List.not_mem_nil, or_false] at hp
    rcases hp with rfl
    · exact tabK__law_refused_right
    ), (fun p hp => by
    simp only [List.mem_cons, List.not_mem_nil, or_false] at hp
    rcases hp with rfl
    · exact PySem.W.codeHd_of_K X hd__law_refused_right
    ), fun s u => .of_eq rfl, fun H a ns hn _ hT hS => ⟨a, ns, rfl, hS, hn, (fun Pt hp => by
    simp only [List.mem_cons, List.not_mem_nil, or_false] at hp
    rcases hp with rfl
    · exact hT (c__law_refused_right, _) (by simp)
    ), rfl⟩, fun base kin glob tb => ?_⟩
  have b_max : mg "max" = none := PySem.W.mg_none_of X G z_max
  have b_any : mg "any" = none := PySem.W.mg_none_of X G z_any
  have E_NoRow : Ec l.prog w K mg base "NoRow" "thing" C1 := ec_NoRow X G c1
  have E_NoText : Ec l.prog w K mg base "NoText" "index" C2 := ec_NoText X G c2
  have tb__law_refused_right := tb (c__law_refused_right, P__law_refused_right) (by simp)
  obtain ⟨fp, gp⟩ : ∃ fp, mg "gaps" = some (.ref fp) := by
    obtain ⟨f, fd, a, k, F⟩ := d_gaps
    exact ⟨f, PySem.W.mg_of X G a⟩
  obtain ⟨fq, gq⟩ : ∃ fq, mg "merged" = some (.ref fq) := by
    obtain ⟨f, fd, a, k, F⟩ := d_merged
    exact ⟨f, PySem.W.mg_of X G a⟩
  have O_is_list : Own l.prog w K mg base CX0 1 "is_list" ["thing"] (sp1 (fun _ => True) fun d => .bool (isSeq d)) := own_of X G d_is_list (fun _ _ _ _ _ _ us hl => match us, hl with | [_], _ => rfl) fun f fd m k b F => ok_is_list F T
  have O_is_integer : Own l.prog w K mg base CX0 1 "is_integer" ["thing"] (sp1 (fun _ => True) fun d => .bool (isIntD d)) := own_of X G d_is_integer (fun _ _ _ _ _ _ us hl => match us, hl with | [_], _ => rfl) fun f fd m k b F => ok_is_integer F T
  have O_is_number : Own l.prog w K mg base CX0 2 "is_number" ["thing"] (sp1 (fun _ => True) fun d => .bool (isNumD d)) := own_of X G d_is_number (fun _ _ _ _ _ _ us hl => match us, hl with | [_], _ => rfl) fun f fd m k b F => ok_is_number F T O_is_integer
  have O_is_pair : Own l.prog w K mg base CX0 2 "is_pair" ["thing"] (sp1 (fun _ => True) fun d => .bool (isSeq d && decide (lenD d = 2))) := own_of X G d_is_pair (fun _ _ _ _ _ _ us hl => match us, hl with | [_], _ => rfl) fun f fd m k b F => ok_is_pair F T O_is_list
  have O_is_words : Own l.prog w K mg base CX0 1 "is_words" ["thing"] (sp1 wordsPre fun d => .bool (isWordsD d)) := own_of X G d_is_words (fun _ _ _ _ _ _ us hl => match us, hl with | [_], _ => rfl) fun f fd m k b F => ok_is_words F T
  have O_first_false : Own l.prog w K mg base CX0 1 "first_false" ["tests"] (sp1 Bools fun d => ffD 0 (itemsD d)) := own_of X G d_first_false (fun _ _ _ _ _ _ us hl => match us, hl with | [_], _ => rfl) fun f fd m k b F => ok_first_false F T
  have O_wrong_words : Own l.prog w K mg base CX0 2 "wrong_words" ["things"] (sp1 wordsAll wrongD) := own_of X G d_wrong_words (fun _ _ _ _ _ _ us hl => match us, hl with | [_], _ => rfl) fun f fd m k b F => ok_wrong_words F T O_is_list O_is_words O_first_false
  have O_check_texts : Own l.prog w K mg base (L2.CX l.prog w) 3 "check_texts" ["texts"] (spX1 (fun D => ∃ ds, D = .list ds ∧ ∀ d ∈ ds, wordsAll d) fun D => textsOutN C2 (itemsD D)) := own_of X G d_check_texts (fun _ _ _ _ _ _ us hl => match us, hl with | [_], _ => rfl) fun f fd m k b F => ok_check_textsN F T O_wrong_words E_NoText
  have O_levels_in : Own l.prog w K mg base CX0 1 "levels_in" ["one", "other"] spLevels := own_of X G d_levels_in (fun _ _ _ _ _ _ us hl => match us, hl with | [_, _], _ => rfl) fun f fd m k b F => ok_levels_in F T b_max
  have O_levels_behind : Own l.prog w K mg base CX0 2 "levels_behind" ["one", "other"] spBehind := own_of X G d_levels_behind (fun _ _ _ _ _ _ us hl => match us, hl with | [_, _], _ => rfl) fun f fd m k b F => ok_levels_behind F T O_levels_in
  have O_by_level : Own l.prog w K mg base CX0 1 "by_level" ["levels"] spByLevel := own_of X G d_by_level (fun _ _ _ _ _ _ us hl => match us, hl with | [_], _ => rfl) fun f fd m k b F => ok_by_level F T b_max
  have O_comes_behind : Own l.prog w K mg base CX0 1 "comes_behind" ["match", "other"] (sp2 pqPre fun a b => .bool (behD a b)) := own_of X G d_comes_behind (fun _ _ _ _ _ _ us hl => match us, hl with | [_, _], _ => rfl) fun f fd m k b F => ok_comes_behind F T
  have O_longest_levels : Own l.prog w K mg base CX0 3 "longest_levels" ["one", "other"] spLongest := own_of X G d_longest_levels (fun _ _ _ _ _ _ us hl => match us, hl with | [_, _], _ => rfl) fun f fd m k b F => ok_longest_levels F T b_max O_levels_in O_levels_behind O_by_level
  have O_common_row : Own l.prog w K mg base (L2.CX l.prog w) 4 "common_row" ["one", "other"] spCommon := own_of X G d_common_row (fun _ _ _ _ _ _ us hl => match us, hl with | [_, _], _ => rfl) fun f fd m k b F => ok_common_row F T O_check_texts O_longest_levels O_comes_behind
  have O_is_match : Own l.prog w K mg base CX0 3 "is_match" ["one", "other", "thing"] (sp3 (fun a b _ => mtPre a b) fun a b c => .bool (isMatchD (wsOf a) (wsOf b) c)) := own_of X G d_is_match (fun _ _ _ _ _ _ us hl => match us, hl with | [_, _, _], _ => rfl) fun f fd m k b F => ok_is_match F T O_is_pair O_is_number
  have O_are_matches : Own l.prog w K mg base CX0 4 "are_matches" ["one", "other", "thing"] (sp3 (fun a b c => mtPre a b ∧ (isSeq c = true → (itemsD c).length ≤ 100000)) fun a b c => .bool (areD (wsOf a) (wsOf b) c)) := own_of X G d_are_matches (fun _ _ _ _ _ _ us hl => match us, hl with | [_, _, _], _ => rfl) fun f fd m k b F => ok_are_matches F T O_is_list O_is_match
  have O_is_common_row : Own l.prog w K mg base (L2.CX l.prog w) 5 "is_common_row" ["one", "other", "thing"] spRow := own_of X G d_is_common_row (fun _ _ _ _ _ _ us hl => match us, hl with | [_, _, _], _ => rfl) fun f fd m k b F => ok_is_common_row F T O_check_texts O_are_matches O_comes_behind
  have O_gaps_between : Own l.prog w K mg base CX0 1 "gaps_between" ["base", "one", "other", "left", "right"] spGaps := own_of X G d_gaps_between (fun _ _ _ _ _ _ us hl => match us, hl with | [_, _, _, _, _], _ => rfl) fun f fd m k b F => ok_gaps_between F T
  have O_given : Own l.prog w K mg base CX0 1 "given" ["gap"] spGiven := own_of X G d_given (fun _ _ _ _ _ _ us hl => match us, hl with | [_], _ => rfl) fun f fd m k b F => ok_given F T
  have O_merged_between : Own l.prog w K mg base CX0 2 "merged_between" ["base", "one", "other", "left", "right"] spMgB := own_of X G d_merged_between (fun _ _ _ _ _ _ us hl => match us, hl with | [_, _, _, _, _], _ => rfl) fun f fd m k b F => ok_merged_between F T b_any O_gaps_between O_given
  have O_check_rows : Own l.prog w K mg base (L2.CX l.prog w) 6 "check_rows" ["base", "one", "other", "left", "right"] (spXn 5 (crPre C2) (rowsOut C2 C1)) := own_of X G d_check_rows (fun _ _ _ _ _ _ us hl => match us, hl with | [_, _, _, _, _], _ => rfl) fun f fd m k b F => ok_check_rows F T O_check_texts O_is_common_row E_NoRow
  have O_gaps : Own l.prog w K mg base (L2.CX l.prog w) 7 "gaps" ["base", "one", "other", "left", "right"] (spTold gapsR) := own_of X G d_gaps (fun _ _ _ _ _ _ us hl => match us, hl with | [_, _, _, _, _], _ => rfl) fun f fd m k b F => ok_gapsT F T O_check_rows O_gaps_between
  have E_gaps : Own l.prog w K mg base (L2.CX l.prog w) 7 "gaps" ["base", "one", "other", "left", "right"] (spXn 5 (erPre C2 C1) (rowsOut C2 C1)) := own_of X G d_gaps (fun _ _ _ _ _ _ us hl => match us, hl with | [_, _, _, _, _], _ => rfl) fun f fd m k b F => ok_gapsE F T O_check_rows O_gaps_between
  have O_merged : Own l.prog w K mg base (L2.CX l.prog w) 7 "merged" ["base", "one", "other", "left", "right"] (spTold mergedR) := own_of X G d_merged (fun _ _ _ _ _ _ us hl => match us, hl with | [_, _, _, _, _], _ => rfl) fun f fd m k b F => ok_mergedT F T O_check_rows O_merged_between
  have E_merged : Own l.prog w K mg base (L2.CX l.prog w) 7 "merged" ["base", "one", "other", "left", "right"] (spXn 5 (erPre C2 C1) (rowsOut C2 C1)) := own_of X G d_merged (fun _ _ _ _ _ _ us hl => match us, hl with | [_, _, _, _, _], _ => rfl) fun f fd m k b F => ok_mergedE F T O_check_rows O_merged_between
  have O__law_start : Own l.prog w K mg base CX0 1 "_law_start" ["_law_script"] (spStart K) := own_of X G d__law_start (fun _ _ _ _ _ _ us hl => match us, hl with | [_], _ => rfl) fun f fd m k b F => ok_start F T
  have O__law_draw : Own l.prog w K mg base CX0 1 "_law_draw" ["_law_stream", "_law_many"] spDraw := own_of X G d__law_draw (fun _ _ _ _ _ _ us hl => match us, hl with | [_, _], _ => rfl) fun f fd m k b F => ok_draw F T
  have O__law_pick : Own l.prog w K mg base CX0 2 "_law_pick" ["_law_stream", "_law_some"] spPick := own_of X G d__law_pick (fun _ _ _ _ _ _ us hl => match us, hl with | [_, _], _ => rfl) fun f fd m k b F => ok_pick F T O__law_draw
  have O__law_mixed : Own l.prog w K mg base CX0 2 "_law_mixed" ["_law_stream", "_law_some"] spMixed := own_of X G d__law_mixed (fun _ _ _ _ _ _ us hl => match us, hl with | [_, _], _ => rfl) fun f fd m k b F => ok_mixed F T O__law_draw
  have O__law_m_text : Own l.prog w K mg base CX0 3 "_law_m_text" ["_law_stream", "_law_most"] spMText := own_of X G d__law_m_text (fun _ _ _ _ _ _ us hl => match us, hl with | [_, _], _ => rfl) fun f fd m k b F => ok_m_text F T O__law_draw O__law_pick O__law_mixed
  have O__law_m_near : Own l.prog w K mg base CX0 3 "_law_m_near" ["_law_stream", "_law_text", "_law_most"] spNear := own_of X G d__law_m_near (fun _ _ _ _ _ _ us hl => match us, hl with | [_, _, _], _ => rfl) fun f fd m k b F => ok_m_near F T O__law_draw O__law_pick
  have O__law_m_matches : Own l.prog w K mg base CX0 1 "_law_m_matches" ["_law_one", "_law_other"] (sp2 ws2 fun a b => rowD (matchL (wsOf a) (wsOf b))) := own_of X G d__law_m_matches (fun _ _ _ _ _ _ us hl => match us, hl with | [_, _], _ => rfl) fun f fd m k b F => ok_matches F T
  have O__law_m_behind : Own l.prog w K mg base CX0 1 "_law_m_behind" ["_law_pair", "_law_near"] (sp2 pr2 fun a b => .bool (bhB (prOf b) (prOf a))) := own_of X G d__law_m_behind (fun _ _ _ _ _ _ us hl => match us, hl with | [_, _], _ => rfl) fun f fd m k b F => ok_behind F T
  have O__law_m_longest : Own l.prog w K mg base CX0 2 "_law_m_longest" ["_law_one", "_law_other"] (sp2 ws7 fun a b => rowsD (longestL (wsOf a) (wsOf b))) := own_of X G d__law_m_longest (fun _ _ _ _ _ _ us hl => match us, hl with | [_, _], _ => rfl) fun f fd m k b F => ok_longest F T O__law_m_matches O__law_m_behind
  have O__law_m_passed : Own l.prog w K mg base CX0 3 "_law_m_passed" ["_law_stream", "_law_text"] spMPassed := own_of X G d__law_m_passed (fun _ _ _ _ _ _ us hl => match us, hl with | [_, _], _ => rfl) fun f fd m k b F => ok_m_passed F T O__law_pick
  have O__law_m_gaps : Own l.prog w K mg base CX0 1 "_law_m_gaps" ["_law_base", "_law_one", "_law_other", "_law_left", "_law_right"] spMG := own_of X G d__law_m_gaps (fun _ _ _ _ _ _ us hl => match us, hl with | [_, _, _, _, _], _ => rfl) fun f fd m k b F => ok_m_gaps F T
  have O__law_m_merged : Own l.prog w K mg base CX0 2 "_law_m_merged" ["_law_base", "_law_one", "_law_other", "_law_left", "_law_right"] spMM := own_of X G d__law_m_merged (fun _ _ _ _ _ _ us hl => match us, hl with | [_, _, _, _, _], _ => rfl) fun f fd m k b F => ok_m_merged F T O__law_m_gaps
  have O__law_same : Own l.prog w K mg base CX0 6 "_law_same" ["_law_found", "_law_due"] (spSame 4) := own_of X G d__law_same (fun _ _ _ _ _ _ us hl => match us, hl with | [_, _], _ => rfl) fun f fd m k b F => ok_same F T m k b 4
  have O__law_some_row : Own l.prog w K mg base CX0 3 "_law_some_row" ["_law_stream", "_law_one", "_law_other"] spSomeRow := own_of X G d__law_some_row (fun _ _ _ _ _ _ us hl => match us, hl with | [_, _, _], _ => rfl) fun f fd m k b F => ok_some_row F T O__law_draw O__law_pick O__law_m_longest
  have T2 : Two K C2 C1 := ⟨exm_of c1.T.exC i1 c1.T.tyC e11, exm_of c1.T.exC i1 c1.T.tyC e21, exm_of c2.T.exC i2 c2.T.tyC e22⟩
  obtain ⟨ft, fdt, at1, kt, Ft⟩ := d__law_met
  obtain ⟨oct, odt, kVt, dct, pmt, ant, cdt, ctt, slt, rfl, lt, cdIn⟩ := Ft.ex
  have bt := Ft.binds (ps := ["_law_ask"]) fun _ _ _ _ _ _ us hl => match us, hl with | [_], _ => rfl
  let Tb : List (Addr × Str) := [(P__law_refused_right, ("_law_refused_right" : Str) ++ (".<locals>." : Str) ++ "<lambda>")]
  have asks : ∀ f dvs sp, SA fp fq C2 C1 f dvs sp → HeldX l.prog w K mg base 7 f dvs sp := by
    rintro f dvs sp ⟨hf, rfl, rfl⟩
    have hp : ∀ {x : Str} {g : Addr}, mg x = some (.ref g) → Own l.prog w K mg base (L2.CX l.prog w) 7 x ["base", "one", "other", "left", "right"] (spXn 5 (erPre C2 C1) (rowsOut C2 C1)) → HeldX l.prog w K mg base 7 g [] (spXn 5 (erPre C2 C1) (rowsOut C2 C1)) := fun {x g} hg O => by
      obtain ⟨f', fd, h1, h2, h3, h4⟩ := O.ex
      rw [hg] at h1
      cases h1
      exact ⟨fd, _, [], h4, h2, .nil, h3⟩
    rcases hf with rfl | rfl
    · exact hp gp E_gaps
    · exact hp gq E_merged
  obtain ⟨fa2, oc2, kV2, dc2, pm2, ct2, od2, an2, sl2, a2, k2, l2, cc2⟩ := d__law_refused_right
  have B2 : ∀ (A : Around) (outer : List Env) (s : Shared) (H : Hp) (E : XK), Room 9 (A.deeper (envOfC "_law_refused_right" (defScope s__law_refused_right) s.heap.objs.size fa2 (.ref c__law_refused_right))) → TrB (cxOf CX0 l.prog w K mg base n__law_refused_right "_law_refused_right" (defScope s__law_refused_right) fa2 (.ref c__law_refused_right) A outer s H E).nox Tb (TMet (csOf C2 C1)) := fun A outer s H E hr =>
    ⟨⟨ft, c__law_refused_right, P__law_refused_right, _, kVt, dct, pmt, cdt, ctt, oct, ant, odt, slt, PySem.W.mg_of X G at1, kt, lt, cdIn, bt, met_gives E_NoText E_NoRow T2, tb__law_refused_right, rfl, List.mem_cons_self, fun p hp e => by
      rw [List.mem_singleton.mp hp]
      rfl⟩, hr⟩
  have O__law_refused_right : OwnG l.prog w K mg base CX0 10 "_law_refused_right" ["_law_stream", "_law_base", "_law_one", "_law_other", "_law_left", "_law_right"] (spRR Tb) :=
    ⟨fa2, _, PySem.W.mg_of X G a2, k2, .all fun us hl => match us, hl with | [_, _, _, _, _, _], _ => rfl, ok_refused l2 cc2 T O__law_pick asks gp gq B2⟩
  have Lb : Lib l.prog w K mg base Tb := ⟨T, O__law_start, O__law_pick, O__law_m_text, O__law_m_near, O__law_m_passed, O__law_some_row, O__law_m_gaps, O__law_m_merged, O__law_same, O_gaps, O_merged, O_common_row, O__law_refused_right⟩
  intro s H u v Q E env bind rel sp
  obtain ⟨a, ns, hv, hS, hn, hP, rfl⟩ := sp
  refine run_ofS (k := 10) (N := n_law) (ps := ["_law_script"]) (us := [u]) (vs := [v]) ll lc sc_law ⟨rfl, by decide, by decide⟩ env bind (.cons rel .nil) rfl fun hr => ?_
  have hTb : Tabs Tb H := fun p hp => by
    rw [List.mem_singleton.mp hp]
    exact TabS.nil (hP _ (by simp))
  obtain ⟨t, h1, h2⟩ := law_reads Lb hr hTb hS hn
  cases hv
  exact ⟨t, h1.nox, h2⟩
end K56
open PySem PySem.W PyProof.Rows
set_option maxRecDepth 100000 in
set_option maxHeartbeats 0 in
theorem PySem.Challenge.cw_patchlots_k56_whole_three_texts_holds : PySem.Challenge.rw_patchlots_k56_whole_three_texts.Holds := by
  w_on; o_law; k_head; (case hw => w_witness2)
  k_fill
  refine KD.walk_ofG (l := PySem.Challenge.rw_patchlots_k56_whole_three_texts) (n := 63) (x := "_law_script") (CX := fun _ => L2.CX0) rfl (by decide) rfl (fun w h Y => PySem.W.km_in_of Y) ?F (fun _ _ _ _ _ z => z)
  case F =>
    intro w mg fa h Y KX G hmg
    refine' K56.all_mk (P__law_refused_right := 304) KX G hmg ?lw ?c1 ?c2 ?d_is_list ?d_is_integer ?d_is_number ?d_is_pair ?d_is_words ?d_first_false ?d_wrong_words ?d_check_texts ?d_levels_in ?d_levels_behind ?d_by_level ?d_comes_behind ?d_longest_levels ?d_common_row ?d_is_match ?d_are_matches ?d_is_common_row ?d_gaps_between ?d_given ?d_merged_between ?d_check_rows ?d_gaps ?d_merged ?d__law_m_text ?d__law_m_near ?d__law_m_matches ?d__law_m_behind ?d__law_m_longest ?d__law_m_passed ?d__law_m_gaps ?d__law_m_merged ?d__law_start ?d__law_draw ?d__law_pick ?d__law_mixed ?d__law_same ?d__law_some_row ?d__law_met ?d__law_refused_right ?tab__law_refused_right ?tabK__law_refused_right ?hd__law_refused_right ?i1 ?e11 ?i2 ?e21 ?e22 ?z_isinstance ?z_len ?z_list ?z_tuple ?z_dict ?z_int ?z_bool ?z_str ?z_min ?z_all ?z_range ?z_enumerate ?z_zip ?z_repr ?z_max ?z_any
    (case d_is_list => (refine' K56.da ?a ?l ?c ?k; (case a => k_is); (case l => k_is); (case c => k_is); (case k => k_is)))
    (case d_is_integer => (refine' K56.da ?a ?l ?c ?k; (case a => k_is); (case l => k_is); (case c => k_is); (case k => k_is)))
    (case d_is_number => (refine' K56.da ?a ?l ?c ?k; (case a => k_is); (case l => k_is); (case c => k_is); (case k => k_is)))
    (case d_is_pair => (refine' K56.da ?a ?l ?c ?k; (case a => k_is); (case l => k_is); (case c => k_is); (case k => k_is)))
    (case d_is_words => (refine' K56.da ?a ?l ?c ?k; (case a => k_is); (case l => k_is); (case c => k_is); (case k => k_is)))
    (case d_first_false => (refine' K56.da ?a ?l ?c ?k; (case a => k_is); (case l => k_is); (case c => k_is); (case k => k_is)))
    (case d_wrong_words => (refine' K56.da ?a ?l ?c ?k; (case a => k_is); (case l => k_is); (case c => k_is); (case k => k_is)))
    (case d_check_texts => (refine' K56.da ?a ?l ?c ?k; (case a => k_is); (case l => k_is); (case c => k_is); (case k => k_is)))
    (case d_levels_in => (refine' K56.da ?a ?l ?c ?k; (case a => k_is); (case l => k_is); (case c => k_is); (case k => k_is)))
    (case d_levels_behind => (refine' K56.da ?a ?l ?c ?k; (case a => k_is); (case l => k_is); (case c => k_is); (case k => k_is)))
    (case d_by_level => (refine' K56.da ?a ?l ?c ?k; (case a => k_is); (case l => k_is); (case c => k_is); (case k => k_is)))
    (case d_comes_behind => (refine' K56.da ?a ?l ?c ?k; (case a => k_is); (case l => k_is); (case c => k_is); (case k => k_is)))
    (case d_longest_levels => (refine' K56.da ?a ?l ?c ?k; (case a => k_is); (case l => k_is); (case c => k_is); (case k => k_is)))
    (case d_common_row => (refine' K56.da ?a ?l ?c ?k; (case a => k_is); (case l => k_is); (case c => k_is); (case k => k_is)))
    (case d_is_match => (refine' K56.da ?a ?l ?c ?k; (case a => k_is); (case l => k_is); (case c => k_is); (case k => k_is)))
    (case d_are_matches => (refine' K56.da ?a ?l ?c ?k; (case a => k_is); (case l => k_is); (case c => k_is); (case k => k_is)))
    (case d_is_common_row => (refine' K56.da ?a ?l ?c ?k; (case a => k_is); (case l => k_is); (case c => k_is); (case k => k_is)))
    (case d_gaps_between => (refine' K56.da ?a ?l ?c ?k; (case a => k_is); (case l => k_is); (case c => k_is); (case k => k_is)))
    (case d_given => (refine' K56.da ?a ?l ?c ?k; (case a => k_is); (case l => k_is); (case c => k_is); (case k => k_is)))
    (case d_merged_between => (refine' K56.da ?a ?l ?c ?k; (case a => k_is); (case l => k_is); (case c => k_is); (case k => k_is)))
    (case d_check_rows => (refine' K56.da ?a ?l ?c ?k; (case a => k_is); (case l => k_is); (case c => k_is); (case k => k_is)))
    (case d_gaps => (refine' K56.da ?a ?l ?c ?k; (case a => k_is); (case l => k_is); (case c => k_is); (case k => k_is)))
    (case d_merged => (refine' K56.da ?a ?l ?c ?k; (case a => k_is); (case l => k_is); (case c => k_is); (case k => k_is)))
    (case d__law_m_text => (refine' K56.da ?a ?l ?c ?k; (case a => k_is); (case l => k_is); (case c => k_is); (case k => k_is)))
    (case d__law_m_near => (refine' K56.da ?a ?l ?c ?k; (case a => k_is); (case l => k_is); (case c => k_is); (case k => k_is)))
    (case d__law_m_matches => (refine' K56.da ?a ?l ?c ?k; (case a => k_is); (case l => k_is); (case c => k_is); (case k => k_is)))
    (case d__law_m_behind => (refine' K56.da ?a ?l ?c ?k; (case a => k_is); (case l => k_is); (case c => k_is); (case k => k_is)))
    (case d__law_m_longest => (refine' K56.da ?a ?l ?c ?k; (case a => k_is); (case l => k_is); (case c => k_is); (case k => k_is)))
    (case d__law_m_passed => (refine' K56.da ?a ?l ?c ?k; (case a => k_is); (case l => k_is); (case c => k_is); (case k => k_is)))
    (case d__law_m_gaps => (refine' K56.da ?a ?l ?c ?k; (case a => k_is); (case l => k_is); (case c => k_is); (case k => k_is)))
    (case d__law_m_merged => (refine' K56.da ?a ?l ?c ?k; (case a => k_is); (case l => k_is); (case c => k_is); (case k => k_is)))
    (case d__law_start => (refine' K56.da ?a ?l ?c ?k; (case a => k_is); (case l => k_is); (case c => k_is); (case k => k_is)))
    (case d__law_draw => (refine' K56.da ?a ?l ?c ?k; (case a => k_is); (case l => k_is); (case c => k_is); (case k => k_is)))
    (case d__law_pick => (refine' K56.da ?a ?l ?c ?k; (case a => k_is); (case l => k_is); (case c => k_is); (case k => k_is)))
    (case d__law_mixed => (refine' K56.da ?a ?l ?c ?k; (case a => k_is); (case l => k_is); (case c => k_is); (case k => k_is)))
    (case d__law_same => (refine' K56.da ?a ?l ?c ?k; (case a => k_is); (case l => k_is); (case c => k_is); (case k => k_is)))
    (case d__law_some_row => (refine' K56.da ?a ?l ?c ?k; (case a => k_is); (case l => k_is); (case c => k_is); (case k => k_is)))
    (case d__law_met => (refine' K56.da ?a ?l ?c ?k; (case a => k_is); (case l => k_is); (case c => k_is); (case k => k_is)))
    (case d__law_refused_right => (refine' K56.dc ?a ?k ?l ?c; (case a => k_is); (case k => k_is); (case l => k_is); (case c => k_is)))
    (case lw => (refine' K56.la ?a ?l ?c; (case a => k_is); (case l => k_is); (case c => k_is)))
    (case c1 => (refine' K56.ca ?a ?xL ?rv ?sa ?ga ?gg ?no ?a1 ?t1 ?l1 ?c1 ?k1 ?kC ?eC ?tC ?hC; (case a => k_is); (case xL => k_is); (case rv => decide +kernel); (case sa => k_is); (case ga => k_is); (case gg => k_is); (case no => k_is); (case a1 => k_is); (case t1 => k_is); (case l1 => k_is); (case c1 => k_is); (case k1 => k_is); (case kC => k_is); (case eC => k_is); (case tC => k_is); (case hC => k_is)))
    (case c2 => (refine' K56.ca ?a ?xL ?rv ?sa ?ga ?gg ?no ?a1 ?t1 ?l1 ?c1 ?k1 ?kC ?eC ?tC ?hC; (case a => k_is); (case xL => k_is); (case rv => decide +kernel); (case sa => k_is); (case ga => k_is); (case gg => k_is); (case no => k_is); (case a1 => k_is); (case t1 => k_is); (case l1 => k_is); (case c1 => k_is); (case k1 => k_is); (case kC => k_is); (case eC => k_is); (case tC => k_is); (case hC => k_is)))
    (case tab__law_refused_right => exact PySem.W.km_tabs_of Y _ (by decide))
    (case tabK__law_refused_right => first | rfl | decide +kernel)
    (case hd__law_refused_right => first | rfl | decide +kernel | (simp only [PySem.W.codeHdIn]; rfl))
    (case i1 => first | k_is | rfl)
    (case e11 => first | k_is | rfl)
    (case i2 => first | k_is | rfl)
    (case e21 => first | k_is | rfl)
    (case e22 => first | k_is | rfl)
    (case z_isinstance => k_is)
    (case z_len => k_is)
    (case z_list => k_is)
    (case z_tuple => k_is)
    (case z_dict => k_is)
    (case z_int => k_is)
    (case z_bool => k_is)
    (case z_str => k_is)
    (case z_min => k_is)
    (case z_all => k_is)
    (case z_range => k_is)
    (case z_enumerate => k_is)
    (case z_zip => k_is)
    (case z_repr => k_is)
    (case z_max => k_is)
    (case z_any => k_is)

