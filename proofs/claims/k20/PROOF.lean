import PyProof.Rows.All
import Wide.All
import OpenK.AllK
import Wide.FinOn
import HandS.ForMost
import HandS.IsInst
import HandS.Style
import HandS.TupAny
import HandS.Deep
import KE.SortData
import HandS.Walk
import PySem.Challenge.RW_patchlots_k20_whole_fewest_passes
import HandS.ForExc
import HandS.ExcInit
import HandS.ExcField
import HandS.Evl
import HandS.Zip
import HandS.SortInts
import HandS.GenList
import KE.KDictZip
import PyProof.ListNew
import HandS.ExcValue
import HandS.Dict
import HandS.Small
import HandS.DictComp
import KE.KEqDict
import PyProof.ReprReads
import PyProof.ReprRoads
import PyProof.ReprLen
import HandS.EndTab
import HandS.Lambda
import HandS.Text
import HandS.Iter
import HandS.Steps
import HandS.List
import KE.GoesMore
import PyProof.EnumMake
import PyProof.Draws
import HandS.Set
import HandS.Strs
import HandS.DictTup
import HandS.Conv
import KE.KDictCopyH
import HandS.TupSets
import KE.KDictSum
import PyProof.TupleOfSeq
import KE.KDictDisplayH
import HandS.NoneIn
set_option Elab.async false
set_option linter.all false
set_option maxRecDepth 100000
set_option maxHeartbeats 4000000
/-! Data as a whole over the hand layer: DX, what evaluates to what, a def's promise over data. -/
namespace KD
open PySem L2

/-! ### data that stands apart from some addresses -/
def kd : Key → PyData
  | .inl i => .int i
  | .inr x => .str x
mutual
inductive DX (X : Addr → Prop) (H : Hp) : V → PyData → Prop
  | non : DX X H .non .none
  | bl (b : Bool) : DX X H (.bl b) (.bool b)
  | int (i : Int) : DX X H (.int i) (.int i)
  | str (x : Str) : DX X H (.str x) (.str x)
  | lst {a : Addr} {xs : List V} {ds : List PyData} : ¬ X a → H a = some (.lst xs) → DXs X H xs ds → DX X H (.ref a) (.list ds)
  | tup {a : Addr} {xs : List V} {ds : List PyData} : ¬ X a → H a = some (.tup xs) → DXs X H xs ds → DX X H (.ref a) (.tuple ds)
  | dic {a : Addr} {kvs : List (Key × V)} {ks : List (PyData × PyData)} : ¬ X a → H a = some (.dK kvs) → DXk X H kvs ks → DX X H (.ref a) (.dict ks)
inductive DXs (X : Addr → Prop) (H : Hp) : List V → List PyData → Prop
  | nil : DXs X H [] []
  | cons {v : V} {vs : List V} {d : PyData} {ds : List PyData} : DX X H v d → DXs X H vs ds → DXs X H (v :: vs) (d :: ds)
inductive DXk (X : Addr → Prop) (H : Hp) : List (Key × V) → List (PyData × PyData) → Prop
  | nil : DXk X H [] []
  | cons {k : Key} {v : V} {vs : List (Key × V)} {d : PyData} {ds : List (PyData × PyData)} : DX X H v d → DXk X H vs ds → DXk X H ((k, v) :: vs) ((kd k, d) :: ds)
end
/-- what is not of X is kept -/
def Kp (X : Addr → Prop) (H H' : Hp) : Prop := ∀ a o, ¬ X a → H a = some o → H' a = some o
theorem Kp.of {X : Addr → Prop} {H H' : Hp} (h : Same H H') : Kp X H H' := fun a o _ e => h a o e
theorem Kp.refl {X : Addr → Prop} {H : Hp} : Kp X H H := fun _ _ _ e => e
theorem Kp.trans {X : Addr → Prop} {H H1 H2 : Hp} (h : Kp X H H1) (k : Kp X H1 H2) : Kp X H H2 := fun a o n e => k a o n (h a o n e)
section
variable {X : Addr → Prop} {H H' : Hp}
mutual
theorem DX.mono (k : Kp X H H') : ∀ {v : V} {d : PyData}, DX X H v d → DX X H' v d
  | _, _, .non => .non
  | _, _, .bl b => .bl b
  | _, _, .int i => .int i
  | _, _, .str x => .str x
  | _, _, .lst n h r => .lst n (k _ _ n h) (DXs.mono k r)
  | _, _, .tup n h r => .tup n (k _ _ n h) (DXs.mono k r)
  | _, _, .dic n h r => .dic n (k _ _ n h) (DXk.mono k r)
theorem DXs.mono (k : Kp X H H') : ∀ {vs : List V} {ds : List PyData}, DXs X H vs ds → DXs X H' vs ds
  | _, _, .nil => .nil
  | _, _, .cons h r => .cons (DX.mono k h) (DXs.mono k r)
theorem DXk.mono (k : Kp X H H') : ∀ {vs : List (Key × V)} {ds : List (PyData × PyData)}, DXk X H vs ds → DXk X H' vs ds
  | _, _, .nil => .nil
  | _, _, .cons h r => .cons (DX.mono k h) (DXk.mono k r)
end
theorem DXs.length : ∀ {vs : List V} {ds : List PyData}, DXs X H vs ds → vs.length = ds.length
  | _, _, .nil => rfl
  | _, _, .cons _ r => congrArg (· + 1) (DXs.length r)
theorem DXs.get : ∀ {vs : List V} {ds : List PyData} {i : Nat} {d : PyData}, DXs X H vs ds → ds[i]? = some d → ∃ v, vs[i]? = some v ∧ DX X H v d
  | _, _, _, _, .nil, e => by simp at e
  | _, _, 0, _, .cons h _, e => by simp at e; subst e; exact ⟨_, rfl, h⟩
  | _, _, i + 1, d, .cons _ r, e => by
    obtain ⟨v, h1, h2⟩ := DXs.get (i := i) (d := d) r (by simpa using e)
    exact ⟨v, by simpa using h1, h2⟩
theorem DXs.getV : ∀ {vs : List V} {ds : List PyData} {i : Nat} {v : V}, DXs X H vs ds → vs[i]? = some v → ∃ d, ds[i]? = some d ∧ DX X H v d
  | _, _, _, _, .nil, e => by simp at e
  | _, _, 0, _, .cons h _, e => by simp at e; subst e; exact ⟨_, rfl, h⟩
  | _, _, i + 1, d, .cons _ r, e => by
    obtain ⟨v, h1, h2⟩ := DXs.getV (i := i) (v := d) r (by simpa using e)
    exact ⟨v, by simpa using h1, h2⟩
theorem DXs.append : ∀ {vs ws : List V} {ds es : List PyData}, DXs X H vs ds → DXs X H ws es → DXs X H (vs ++ ws) (ds ++ es)
  | _, _, _, _, .nil, s => s
  | _, _, _, _, .cons h r, s => .cons h (DXs.append r s)
theorem DXs.take : ∀ {vs : List V} {ds : List PyData} (n : Nat), DXs X H vs ds → DXs X H (vs.take n) (ds.take n)
  | _, _, 0, _ => .nil
  | _, _, _ + 1, .nil => .nil
  | _, _, n + 1, .cons h r => .cons h (DXs.take n r)
theorem DXs.drop : ∀ {vs : List V} {ds : List PyData} (n : Nat), DXs X H vs ds → DXs X H (vs.drop n) (ds.drop n)
  | _, _, 0, r => r
  | _, _, _ + 1, .nil => .nil
  | _, _, n + 1, .cons _ r => DXs.drop n r
theorem DXs.erase : ∀ {vs : List V} {ds : List PyData} (n : Nat), DXs X H vs ds → DXs X H (vs.eraseIdx n) (ds.eraseIdx n)
  | _, _, _, .nil => .nil
  | _, _, 0, .cons _ r => r
  | _, _, n + 1, .cons h r => .cons h (DXs.erase n r)
theorem DXs.rep {vs : List V} {ds : List PyData} (h : DXs X H vs ds) : ∀ n : Nat, DXs X H (List.replicate n vs).flatten (List.replicate n ds).flatten
  | 0 => .nil
  | n + 1 => by
    rw [List.replicate_succ, List.replicate_succ, List.flatten_cons, List.flatten_cons]
    exact DXs.append h (DXs.rep h n)
theorem DXs.snoc {vs : List V} {ds : List PyData} {v : V} {d : PyData} (h : DXs X H vs ds) (k : DX X H v d) : DXs X H (vs ++ [v]) (ds ++ [d]) := DXs.append h (.cons k .nil)

/-! ### data without dicts is the layer's data -/
mutual
def noDict : PyData → Bool
  | .none => true
  | .bool _ => true
  | .int _ => true
  | .str _ => true
  | .list ds => noDicts ds
  | .tuple ds => noDicts ds
  | .dict _ => false
def noDicts : List PyData → Bool
  | [] => true
  | d :: ds => noDict d && noDicts ds
end
mutual
theorem DX.dp {K : PySem.W.Frag} : ∀ {v : V} {d : PyData}, DX X H v d → noDict d = true → Dp K H v d
  | _, _, .non, _ => .non
  | _, _, .bl b, _ => .bl b
  | _, _, .int i, _ => .int i
  | _, _, .str x, _ => .str x
  | _, _, .lst _ h r, n => .lst (SqL.of h) (DXs.dp r (by simpa [noDict] using n))
  | _, _, .tup _ h r, n => .tup (SqT.of h) (DXs.dp r (by simpa [noDict] using n))
  | _, _, .dic _ _ _, n => by simp [noDict] at n
theorem DXs.dp {K : PySem.W.Frag} : ∀ {vs : List V} {ds : List PyData}, DXs X H vs ds → noDicts ds = true → DpAll K H vs ds
  | _, _, .nil, _ => .nil
  | _, _, .cons (d := d) (ds := ds) h r, n => by
    have n' : noDict d = true ∧ noDicts ds = true := by simpa [noDicts] using n
    exact .cons (DX.dp h n'.1) (DXs.dp r n'.2)
end
end
/-- the addresses of X stand in the heap -/
def Trk (X : Addr → Prop) (H : Hp) : Prop := ∀ a, X a → ∃ o, H a = some o
theorem Trk.mono {X : Addr → Prop} {H H' : Hp} (t : Trk X H) (s : Same H H') : Trk X H' := fun a h => let ⟨o, e⟩ := t a h; ⟨o, s a o e⟩
theorem Trk.new {X : Addr → Prop} {H : Hp} {p : Addr} (t : Trk X H) (h : H p = none) : ¬ X p := fun x => by
  obtain ⟨o, e⟩ := t p x
  rw [h] at e
  cases e
theorem Same.upd {H : Hp} {p : Addr} {o : HO} (h : H p = none) : Same H (upd H p o) := fun b u e => by
  rw [upd_ne (ne_of_none e h)]
  exact e

/-! ### the frame's values as data -/
inductive Sv where
  | dat (d : PyData) | val (v : V) | un
def SvOk (X : Addr → Prop) (H : Hp) : Sv → Option (Option V) → Prop
  | .dat d, o => ∃ v, o = some (some v) ∧ DX X H v d
  | .val v, o => o = some (some v)
  | .un, _ => True
structure EnvOk (X : Addr → Prop) (H : Hp) (σ : St) (Γ : List Sv) : Prop where
  len : σ.length = Γ.length
  get : ∀ (i : Nat) (s : Sv), Γ[i]? = some s → SvOk X H s σ[i]?
section
variable {X : Addr → Prop} {H H' : Hp} {σ : St} {Γ : List Sv}
theorem SvOk.mono (k : Kp X H H') {s : Sv} {o : Option (Option V)} (h : SvOk X H s o) : SvOk X H' s o := by
  cases s with
  | dat d =>
    obtain ⟨v, e, r⟩ := h
    exact ⟨v, e, r.mono k⟩
  | val v => exact h
  | un => trivial
theorem EnvOk.mono (k : Kp X H H') (h : EnvOk X H σ Γ) : EnvOk X H' σ Γ := ⟨h.len, fun i s e => (h.get i s e).mono k⟩
theorem EnvOk.same (k : Same H H') (h : EnvOk X H σ Γ) : EnvOk X H' σ Γ := h.mono (Kp.of k)
theorem EnvOk.put {i : Nat} {v : V} {s : Sv} (h : EnvOk X H σ Γ) (hs : SvOk X H s (some (some v))) : EnvOk X H (σ.set i (some v)) (Γ.set i s) := by
  refine ⟨by rw [List.length_set, List.length_set]; exact h.len, fun j t e => ?_⟩
  by_cases hj : i = j
  · subst hj
    by_cases hl : i < Γ.length
    · rw [List.getElem?_set_self hl] at e
      cases e
      rw [List.getElem?_set_self (by rw [h.len]; exact hl)]
      exact hs
    · rw [List.getElem?_eq_none (by rw [List.length_set]; omega)] at e
      cases e
  · rw [List.getElem?_set_ne hj] at e
    rw [List.getElem?_set_ne hj]
    exact h.get j t e
theorem EnvOk.set {i : Nat} {v : V} {d : PyData} (h : EnvOk X H σ Γ) (hd : DX X H v d) : EnvOk X H (σ.set i (some v)) (Γ.set i (.dat d)) := h.put ⟨v, rfl, hd⟩
theorem EnvOk.setV {i : Nat} {v : V} (h : EnvOk X H σ Γ) : EnvOk X H (σ.set i (some v)) (Γ.set i (.val v)) := h.put rfl
/-- what is not asked any more -/
theorem EnvOk.wipe (h : EnvOk X H σ Γ) : ∀ vs : List Nat, EnvOk X H (wipe σ vs) (vs.foldr (fun v g => g.set v .un) Γ)
  | [] => h
  | v :: vs => by
    have ih := EnvOk.wipe h vs
    show EnvOk X H ((L2.wipe σ vs).set v none) ((vs.foldr (fun v g => g.set v .un) Γ).set v .un)
    refine ⟨by rw [List.length_set, List.length_set]; exact ih.len, fun j t e => ?_⟩
    by_cases hj : v = j
    · subst hj
      by_cases hl : v < (vs.foldr (fun v g => g.set v Sv.un) Γ).length
      · rw [List.getElem?_set_self hl] at e
        cases e
        trivial
      · rw [List.getElem?_eq_none (by rw [List.length_set]; omega)] at e
        cases e
    · rw [List.getElem?_set_ne hj] at e
      rw [List.getElem?_set_ne hj]
      exact ih.get j t e
theorem envOk_start {N : List Str} {vs : List V} {ss : List Sv} (hl : vs.length = ss.length) (hs : ∀ (i : Nat) (s : Sv), ss[i]? = some s → ∀ v, vs[i]? = some v → SvOk X H s (some (some v))) (hN : vs.length ≤ N.length) : EnvOk X H (L2.start N vs) (ss ++ List.replicate (N.length - vs.length) .un) := by
  unfold L2.start
  refine ⟨by simp [hl], fun i s e => ?_⟩
  by_cases hi : i < vs.length
  · rw [List.getElem?_append_left (by omega)] at e
    rw [List.getElem?_append_left (by simpa using hi)]
    rw [List.getElem?_map, List.getElem?_eq_getElem hi]
    exact hs i s e _ (List.getElem?_eq_getElem hi)
  · rw [List.getElem?_append_right (by omega)] at e
    have hu : s = .un := by
      have := List.mem_of_getElem? e
      exact List.eq_of_mem_replicate this
    subst hu
    trivial
end

/-! ### what evaluates to what datum, leaving all as it is -/
def G (X : Addr → Prop) (te : TE) (σ : St) (H : Hp) (d : PyData) : Prop := ∀ H1, Same H H1 → ∀ Q : VK, (∀ v H2, Same H1 H2 → DX X H2 v d → Q v H2) → te σ H1 Q
def GV (te : TE) (σ : St) (H : Hp) (v : V) : Prop := ∀ H1, Same H H1 → ∀ Q : VK, Q v H1 → te σ H1 Q
def GT (tt : TT) (σ : St) (H : Hp) (b : Bool) : Prop := ∀ H1, Same H H1 → ∀ Q : Bool → Hp → Prop, (∀ H2, Same H1 H2 → Q b H2) → tt σ H1 Q
def GA (X : Addr → Prop) (ta : TA) (σ : St) (H : Hp) (ds : List PyData) : Prop := ∀ H1, Same H H1 → ∀ Q : List V → Hp → Prop, (∀ vs H2, Same H1 H2 → DXs X H2 vs ds → Q vs H2) → ta σ H1 Q
def GO (to : TO) (σ : St) (H : Hp) (o : Option Int) : Prop := ∀ H1, Same H H1 → ∀ Q : Option Int → Hp → Prop, (∀ H2, Same H1 H2 → Q o H2) → to σ H1 Q
/-- operations on data -/
def RD (X : Addr → Prop) (r : R2) (x y z : PyData) : Prop := ∀ H u v, Trk X H → DX X H u x → DX X H v y → ∀ Q : VK, (∀ w H2, Same H H2 → DX X H2 w z → Q w H2) → r u v H Q
def RB (X : Addr → Prop) (r : R2) (x y : PyData) (b : Bool) : Prop := ∀ H u v, Trk X H → DX X H u x → DX X H v y → ∀ Q : VK, Q (.bl b) H → r u v H Q
def RF (X : Addr → Prop) (r : List V → Hp → VK → Prop) (xs : List PyData) (z : PyData) : Prop := ∀ H us, Trk X H → DXs X H us xs → ∀ Q : VK, (∀ w H2, Same H H2 → DX X H2 w z → Q w H2) → r us H Q
section
variable {X : Addr → Prop} {σ : St} {H H' : Hp} {te ta tb tc : TE} {tt tu : TT} {x y z d e : PyData} {Γ : List Sv} {K : PySem.W.Frag} {r : R2}
theorem DX.int_inv {v : V} {i : Int} (h : DX X H v (.int i)) : v = .int i := by cases h; rfl
theorem DX.bl_inv {v : V} {b : Bool} (h : DX X H v (.bool b)) : v = .bl b := by cases h; rfl
theorem DX.str_inv {v : V} {s : Str} (h : DX X H v (.str s)) : v = .str s := by cases h; rfl
theorem DX.non_inv {v : V} (h : DX X H v .none) : v = .non := by cases h; rfl
theorem DX.lst_inv {v : V} {ds : List PyData} (h : DX X H v (.list ds)) : ∃ a xs, v = .ref a ∧ ¬ X a ∧ H a = some (.lst xs) ∧ DXs X H xs ds := by
  cases h with | lst n e r => exact ⟨_, _, rfl, n, e, r⟩
theorem DX.tup_inv {v : V} {ds : List PyData} (h : DX X H v (.tuple ds)) : ∃ a xs, v = .ref a ∧ ¬ X a ∧ H a = some (.tup xs) ∧ DXs X H xs ds := by
  cases h with | tup n e r => exact ⟨_, _, rfl, n, e, r⟩
theorem DX.newL {xs : List V} {ds : List PyData} (t : Trk X H) (h : DXs X H xs ds) {p : Addr} (hp : H p = none) : DX X (upd H p (.lst xs)) (.ref p) (.list ds) := .lst (t.new hp) upd_same (h.mono (Kp.of (Same.upd hp)))
theorem DX.newT {xs : List V} {ds : List PyData} (t : Trk X H) (h : DXs X H xs ds) {p : Addr} (hp : H p = none) : DX X (upd H p (.tup xs)) (.ref p) (.tuple ds) := .tup (t.new hp) upd_same (h.mono (Kp.of (Same.upd hp)))
theorem DX.isa_bool {v : V} {b : Bool} (h : DX X H v d) (e : v = .bl b) : d = .bool b := by subst e; cases h; rfl

theorem G.mono (s : Same H H') (h : G X te σ H d) : G X te σ H' d := fun H1 k Q q => h H1 (s.trans k) Q q
theorem GT.mono {b : Bool} (s : Same H H') (h : GT tt σ H b) : GT tt σ H' b := fun H1 k Q q => h H1 (s.trans k) Q q
theorem g_var {i : Nat} (E : EnvOk X H σ Γ) (h : Γ[i]? = some (.dat d)) : G X (tVar i) σ H d := fun H1 s Q q => by
  obtain ⟨v, e, r⟩ := E.get i _ h
  exact ⟨v, e, q v H1 (Same.refl H1) (r.mono (Kp.of s))⟩
theorem gv_var {i : Nat} {v : V} (E : EnvOk X H σ Γ) (h : Γ[i]? = some (.val v)) : GV (tVar i) σ H v := fun H1 s Q q => ⟨v, E.get i _ h, q⟩
theorem g_int {i : Int} : G X (tC (.int i)) σ H (.int i) := fun H1 _ Q q => q _ H1 (Same.refl H1) (.int i)
theorem g_bl {b : Bool} : G X (tC (.bl b)) σ H (.bool b) := fun H1 _ Q q => q _ H1 (Same.refl H1) (.bl b)
theorem g_str {s : Str} : G X (tC (.str s)) σ H (.str s) := fun H1 _ Q q => q _ H1 (Same.refl H1) (.str s)
theorem g_non : G X (tC .non) σ H .none := fun H1 _ Q q => q _ H1 (Same.refl H1) .non
theorem ga_nil : GA X tNil σ H [] := fun H1 _ Q q => q [] H1 (Same.refl H1) .nil
theorem ga_cons {ta : TE} {tr : TA} {ds : List PyData} (h : G X ta σ H d) (k : GA X tr σ H ds) : GA X (tCons ta tr) σ H (d :: ds) := fun H1 s Q q =>
  h H1 s _ fun v H2 s2 r => k H2 (s.trans s2) _ fun vs H3 s3 rs => q _ H3 (s2.trans s3) (.cons (r.mono (Kp.of s3)) rs)
theorem g_lst {ta : TA} {ds : List PyData} (t : Trk X H) (h : GA X ta σ H ds) (hl : ds.length ≤ 1000000) : G X (tLst ta) σ H (.list ds) := fun H1 s Q q =>
  h H1 s _ fun vs H2 s2 rs => ⟨by rw [rs.length, sizeLine_eq]; omega, fun p hp => q _ _ (s2.trans (Same.upd hp)) (DX.newL ((t.mono s).mono s2) rs hp)⟩
theorem g_tup {ta : TA} {ds : List PyData} (t : Trk X H) (h : GA X ta σ H ds) (hl : ds.length ≤ 1000000) : G X (tTup ta) σ H (.tuple ds) := fun H1 s Q q =>
  h H1 s _ fun vs H2 s2 rs => ⟨by rw [rs.length, sizeLine_eq]; omega, fun p hp => q _ _ (s2.trans (Same.upd hp)) (DX.newT ((t.mono s).mono s2) rs hp)⟩
theorem g_op (t : Trk X H) (ha : G X ta σ H x) (hb : G X tb σ H y) (hr : RD X r x y z) : G X (tOp r ta tb) σ H z := fun H1 s Q q =>
  ha H1 s _ fun u H2 s2 ru => hb H2 (s.trans s2) _ fun v H3 s3 rv => hr H3 u v (((t.mono s).mono s2).mono s3) (ru.mono (Kp.of s3)) rv Q fun w H4 s4 rw_ => q w H4 ((s2.trans s3).trans s4) rw_
theorem gt_op {b : Bool} (t : Trk X H) (ha : G X ta σ H x) (hb : G X tb σ H y) (hr : RB X r x y b) : GT (tTest (tOp r ta tb)) σ H b := fun H1 s Q q =>
  ha H1 s _ fun u H2 s2 ru => hb H2 (s.trans s2) _ fun v H3 s3 rv => hr H3 u v (((t.mono s).mono s2).mono s3) (ru.mono (Kp.of s3)) rv _ ⟨b, rfl, q H3 (s2.trans s3)⟩
theorem RB.rd {b : Bool} (h : RB X r x y b) : RD X r x y (.bool b) := fun H u v t ru rv Q q => h H u v t ru rv Q (q _ H (Same.refl H) (.bl b))
theorem RD.or1 {r r' : R2} (h : RD X r x y z) : RD X (fun x y H Q => r x y H Q ∨ r' x y H Q) x y z := fun H u v t ru rv Q q => .inl (h H u v t ru rv Q q)
theorem RD.or2 {r r' : R2} (h : RD X r' x y z) : RD X (fun x y H Q => r x y H Q ∨ r' x y H Q) x y z := fun H u v t ru rv Q q => .inr (h H u v t ru rv Q q)
/-- a test that is a bool's -/
theorem gt_B {b : Bool} (h : G X te σ H (.bool b)) : GT (tB te) σ H b := fun H1 s Q q => h H1 s _ fun v H2 s2 r => ⟨b, r.bl_inv, q H2 s2⟩
theorem gt_test {b : Bool} (h : G X te σ H (.bool b)) : GT (tTest te) σ H b := fun H1 s Q q => h H1 s _ fun v H2 s2 r => ⟨b, r.bl_inv, q H2 s2⟩
theorem gt_not {b : Bool} (h : GT tt σ H b) : GT (tNot tt) σ H (!b) := fun H1 s Q q => h H1 s _ fun H2 s2 => q H2 s2
theorem gt_and {a b : Bool} (h : GT tt σ H a) (k : a = true → GT tu σ H b) : GT (tAnd tt tu) σ H (a && b) := fun H1 s Q q => h H1 s _ fun H2 s2 => by
  cases a with
  | true =>
    show tu σ H2 Q
    exact k rfl H2 (s.trans s2) Q fun H3 s3 => q H3 (s2.trans s3)
  | false =>
    show Q false H2
    exact q H2 s2
theorem gt_or {a b : Bool} (h : GT tt σ H a) (k : a = false → GT tu σ H b) : GT (tOr tt tu) σ H (a || b) := fun H1 s Q q => h H1 s _ fun H2 s2 => by
  cases a with
  | true =>
    show Q true H2
    exact q H2 s2
  | false =>
    show tu σ H2 Q
    exact k rfl H2 (s.trans s2) Q fun H3 s3 => q H3 (s2.trans s3)
theorem gt_is {a b : Bool} (h : GT tt σ H a) (e : a = b) : GT tt σ H b := e ▸ h
theorem g_is (h : G X te σ H d) (e' : d = e) : G X te σ H e := e' ▸ h
theorem g_and {a b : Bool} (h : G X ta σ H (.bool a)) (k : a = true → G X tb σ H (.bool b)) : G X (tAndV ta tb) σ H (.bool (a && b)) := fun H1 s Q q => h H1 s _ fun v H2 s2 r => ⟨a, r.bl_inv, by
  cases a with
  | true =>
    show tb σ H2 Q
    exact k rfl H2 (s.trans s2) Q fun v H3 s3 r3 => q v H3 (s2.trans s3) r3
  | false =>
    show Q (.bl false) H2
    exact q _ H2 s2 (.bl false)⟩
theorem g_or {a b : Bool} (h : G X ta σ H (.bool a)) (k : a = false → G X tb σ H (.bool b)) : G X (tOrV ta tb) σ H (.bool (a || b)) := fun H1 s Q q => h H1 s _ fun v H2 s2 r => ⟨a, r.bl_inv, by
  cases a with
  | true =>
    show Q (.bl true) H2
    exact q _ H2 s2 (.bl true)
  | false =>
    show tb σ H2 Q
    exact k rfl H2 (s.trans s2) Q fun v H3 s3 r3 => q v H3 (s2.trans s3) r3⟩
theorem g_not {a : Bool} (h : G X ta σ H (.bool a)) : G X (tNotV ta) σ H (.bool (!a)) := fun H1 s Q q => h H1 s _ fun v H2 s2 r => ⟨a, r.bl_inv, q _ H2 s2 (.bl _)⟩
theorem g_if {b : Bool} (h : GT tt σ H b) (h1 : b = true → G X ta σ H d) (h2 : b = false → G X tb σ H d) : G X (tIf tt ta tb) σ H d := fun H1 s Q q => h H1 s _ fun H2 s2 => by
  cases b with
  | true =>
    show ta σ H2 Q
    exact h1 rfl H2 (s.trans s2) Q fun v H3 s3 r3 => q v H3 (s2.trans s3) r3
  | false =>
    show tb σ H2 Q
    exact h2 rfl H2 (s.trans s2) Q fun v H3 s3 r3 => q v H3 (s2.trans s3) r3
theorem g_call {sp : Sp} {E : XK} {ta : TA} {ds : List PyData} (h : GA X ta σ H ds) (k : ∀ vs H1, Same H H1 → DXs X H1 vs ds → ∀ Q : VK, (∀ v H2, Same H1 H2 → DX X H2 v d → Q v H2) → sp vs H1 Q E) : G X (tCall sp [] E ta) σ H d := fun H1 s Q q =>
  h H1 s _ fun vs H2 s2 rs => by
    rw [List.append_nil]
    exact k vs H2 (s.trans s2) rs Q fun v H3 s3 r3 => q v H3 (s2.trans s3) r3
theorem g_cb {rr : List V → Hp → VK → Prop} {ta : TA} {ds : List PyData} (t : Trk X H) (h : GA X ta σ H ds) (k : RF X rr ds d) : G X (tCB rr ta) σ H d := fun H1 s Q q =>
  h H1 s _ fun vs H2 s2 rs => k H2 vs ((t.mono s).mono s2) rs Q fun w H3 s3 r3 => q w H3 (s2.trans s3) r3
theorem go_none : GO tNoPart σ H none := fun H1 _ Q q => q H1 (Same.refl H1)
theorem go_some {i : Int} (h : G X te σ H (.int i)) : GO (tPart te) σ H (some i) := fun H1 s Q q => h H1 s _ fun v H2 s2 r => ⟨i, r.int_inv, q H2 s2⟩

/-! ### the operations -/
theorem rd_I0 {g : Int → Int → Int} {i j : Int} : RD X (rI0 fun i j => .int (g i j)) (.int i) (.int j) (.int (g i j)) := fun H u v _ ru rv Q q => ⟨i, j, ru.int_inv, rv.int_inv, q _ H (Same.refl H) (.int _)⟩
theorem rd_I {C : Int → Int → Prop} {g : Int → Int → Int} {i j : Int} (c : C i j) : RD X (rI C fun i j => .int (g i j)) (.int i) (.int j) (.int (g i j)) := fun H u v _ ru rv Q q => ⟨i, j, ru.int_inv, rv.int_inv, c, q _ H (Same.refl H) (.int _)⟩
theorem rb_I0 {g : Int → Int → Bool} {i j : Int} : RB X (rI0 fun i j => .bl (g i j)) (.int i) (.int j) (g i j) := fun H u v _ ru rv Q q => ⟨i, j, ru.int_inv, rv.int_inv, q⟩
theorem rd_cat {xs ys : List PyData} (hl : xs.length + ys.length ≤ 1000000) : RD X rCat (.list xs) (.list ys) (.list (xs ++ ys)) := fun H u v t ru rv Q q => by
  obtain ⟨a, us, rfl, _, ha, rs⟩ := ru.lst_inv
  obtain ⟨b, ws, rfl, _, hb, rt⟩ := rv.lst_inv
  exact ⟨a, b, us, ws, rfl, rfl, ha, hb, by rw [rs.length, rt.length, sizeLine_eq]; omega, fun p hp => q _ _ (Same.upd hp) (DX.newL t (rs.append rt) hp)⟩
theorem rd_rep {xs : List PyData} {k : Int} (h1 : -(2 ^ 63) ≤ k) (h2 : k < 2 ^ 63) (hl : xs.length * k.toNat ≤ 1000000) : RD X rRep (.list xs) (.int k) (.list (List.replicate k.toNat xs).flatten) := fun H u v t ru rv Q q => by
  obtain ⟨a, us, rfl, _, ha, rs⟩ := ru.lst_inv
  exact ⟨a, k, us, rfl, rv.int_inv, ha, h1, h2, by rw [rs.length, sizeLine_eq]; omega, fun p hp => q _ _ (Same.upd hp) (DX.newL t (rs.rep k.toNat) hp)⟩
theorem rd_addS {a b : Str} (hl : a.length + b.length ≤ 1000000) : RD X (fun x y H Q => ∃ i j, x = V.str i ∧ y = V.str j ∧ i.length + j.length ≤ sizeLine ∧ Q (V.str (i ++ j)) H) (.str a) (.str b) (.str (a ++ b)) := fun H u v _ ru rv Q q => ⟨a, b, ru.str_inv, rv.str_inv, by rw [sizeLine_eq]; omega, q _ H (Same.refl H) (.str _)⟩
theorem rb_eqD (hd : noDict x = true) (he : noDict y = true) (hs : SeqAt.shaped x = true) (ht : SeqAt.shaped y = true) : RB X (rEqD K) x y (PyData.eqv x y) := fun H u v _ ru rv Q q => ⟨x, y, ru.dp hd, rv.dp he, hs, ht, q⟩
theorem rb_neD (hd : noDict x = true) (he : noDict y = true) (hs : SeqAt.shaped x = true) (ht : SeqAt.shaped y = true) : RB X (rNeD K) x y (!PyData.eqv x y) := fun H u v _ ru rv Q q => ⟨x, y, ru.dp hd, rv.dp he, hs, ht, q⟩
def isNone : PyData → Bool
  | .none => true
  | _ => false
theorem dx_none {v : V} (h : DX X H v d) : decide (v = .non) = isNone d := by cases h <;> simp [isNone]
theorem rb_isN : RB X (fun x y H Q => y = .non ∧ Q (.bl (decide (x = .non))) H) x .none (isNone x) := fun H u v _ ru rv Q q => ⟨rv.non_inv, by rw [dx_none ru]; exact q⟩
theorem rb_notN : RB X (fun x y H Q => y = .non ∧ Q (.bl (!decide (x = .non))) H) x .none (!isNone x) := fun H u v _ ru rv Q q => ⟨rv.non_inv, by rw [dx_none ru]; exact q⟩
theorem rb_isB {a b : Bool} : RB X rIsB (.bool a) (.bool b) (decide (a = b)) := fun H u v _ ru rv Q q => ⟨a, b, ru.bl_inv, rv.bl_inv, q⟩
theorem rb_notB {a b : Bool} : RB X rNotB (.bool a) (.bool b) (!decide (a = b)) := fun H u v _ ru rv Q q => ⟨a, b, ru.bl_inv, rv.bl_inv, q⟩
/-- an item -/
theorem rd_ixL {ds : List PyData} {i : Int} (h : atI ds i = some z) : RD X (rIx K) (.list ds) (.int i) z := fun H u v _ ru rv Q q => by
  obtain ⟨a, us, rfl, _, ha, rs⟩ := ru.lst_inv
  unfold atI at h
  cases hx : ixN ds.length i with
  | none => rw [hx] at h; cases h
  | some j =>
    rw [hx] at h
    obtain ⟨w, hw, rz⟩ := rs.get (i := j) (show ds[j]? = some z from h)
    exact .inl ⟨a, us, i, w, rfl, rv.int_inv, SqL.of ha, by unfold atI; rw [rs.length, hx]; exact hw, q w H (Same.refl H) rz⟩
theorem rd_ixT {ds : List PyData} {i : Int} (h : atI ds i = some z) : RD X (rIx K) (.tuple ds) (.int i) z := fun H u v _ ru rv Q q => by
  obtain ⟨a, us, rfl, _, ha, rs⟩ := ru.tup_inv
  unfold atI at h
  cases hx : ixN ds.length i with
  | none => rw [hx] at h; cases h
  | some j =>
    rw [hx] at h
    obtain ⟨w, hw, rz⟩ := rs.get (i := j) (show ds[j]? = some z from h)
    exact .inr (.inl ⟨a, us, i, w, rfl, rv.int_inv, SqT.of ha, by unfold atI; rw [rs.length, hx]; exact hw, q w H (Same.refl H) rz⟩)
/-- a slice of a list -/
def cutPD (xs : List PyData) (lo hi : Option Int) : List PyData := (xs.drop (HT.sIx xs.length 0 lo)).take (HT.sIx xs.length xs.length hi - HT.sIx xs.length 0 lo)
theorem DXs.cut {vs : List V} {ds : List PyData} (h : DXs X H vs ds) (lo hi : Option Int) : DXs X H (cutV vs lo hi) (cutPD ds lo hi) := by
  unfold cutV cutPD
  rw [h.length]
  exact (h.drop _).take _
theorem g_sl {tl th : TO} {ds : List PyData} {lo hi : Option Int} (t : Trk X H) (h : G X te σ H (.list ds)) (hl : GO tl σ H lo) (hh : GO th σ H hi) : G X (tSl (rSlL K) te tl th) σ H (.list (cutPD ds lo hi)) := fun H1 s Q q =>
  h H1 s _ fun v H2 s2 r2 => hl H2 (s.trans s2) _ fun H3 s3 => hh H3 ((s.trans s2).trans s3) _ fun H4 s4 => by
    obtain ⟨a, us, rfl, _, ha, rs⟩ := (r2.mono (Kp.of (s3.trans s4))).lst_inv
    exact ⟨a, us, rfl, SqL.of ha, fun p hp => q _ _ (((s2.trans s3).trans s4).trans (Same.upd hp)) (DX.newL (((t.mono s).mono s2).mono (s3.trans s4)) (rs.cut lo hi) hp)⟩

/-! ### functions of the language -/
def lenD : PyData → Nat
  | .str s => s.length
  | .list ds => ds.length
  | .tuple ds => ds.length
  | _ => 0
def hasLen : PyData → Bool
  | .str s => decide (s.length ≤ 1000000)
  | .list _ => true
  | .tuple _ => true
  | _ => false
theorem rf_len (h : hasLen d = true) : RF X (fun xs H Q => ∃ x n, xs = [x] ∧ LenV K x H n ∧ Q (.int n) H) [d] (.int (lenD d : Int)) := fun H us _ rs Q q => by
  cases rs with
  | cons r r2 =>
    cases r2
    cases r with
    | str s => exact ⟨_, s.length, rfl, ⟨by have := of_decide_eq_true (show decide (s.length ≤ 1000000) = true from h); rw [sizeLine_eq]; omega, rfl⟩, q _ H (Same.refl H) (.int _)⟩
    | lst n e r => exact ⟨_, _, rfl, .inl ⟨_, SqL.of e, rfl⟩, q _ H (Same.refl H) (by rw [r.length]; exact .int _)⟩
    | tup n e r => exact ⟨_, _, rfl, .inr ⟨_, SqT.of e, rfl⟩, q _ H (Same.refl H) (by rw [r.length]; exact .int _)⟩
    | _ => exact absurd h (by simp [hasLen])
/-- the items of a list or tuple -/
def itemsD : PyData → List PyData
  | .list ds => ds
  | .tuple ds => ds
  | _ => []
def isSeq : PyData → Bool
  | .list _ => true
  | .tuple _ => true
  | _ => false
theorem rf_list (h : isSeq d = true) : RF X (fun xs H Q => ∃ p ys, xs = [V.ref p] ∧ (SqL K H p ys ∨ SqT K H p ys) ∧ ∀ l, H l = none → Q (.ref l) (upd H l (.lst ys))) [d] (.list (itemsD d)) := fun H us t rs Q q => by
  cases rs with
  | cons r r2 =>
    cases r2
    cases r with
    | lst n e r => exact ⟨_, _, rfl, .inl (SqL.of e), fun l hl => q _ _ (Same.upd hl) (DX.newL t r hl)⟩
    | tup n e r => exact ⟨_, _, rfl, .inr (SqT.of e), fun l hl => q _ _ (Same.upd hl) (DX.newL t r hl)⟩
    | _ => exact absurd h (by simp [isSeq])
theorem rf_tuple (h : isSeq d = true) : RF X (fun xs H Q => ∃ p ys, xs = [V.ref p] ∧ ((SqL K H p ys ∧ ∀ l, H l = none → Q (.ref l) (upd H l (.tup ys))) ∨ (SqT K H p ys ∧ Q (.ref p) H))) [d] (.tuple (itemsD d)) := fun H us t rs Q q => by
  cases rs with
  | cons r r2 =>
    cases r2
    cases r with
    | lst n e r => exact ⟨_, _, rfl, .inl ⟨SqL.of e, fun l hl => q _ _ (Same.upd hl) (DX.newT t r hl)⟩⟩
    | tup n e r => exact ⟨_, _, rfl, .inr ⟨SqT.of e, q _ H (Same.refl H) (.tup n e r)⟩⟩
    | _ => exact absurd h (by simp [isSeq])
theorem DXs.ints : ∀ {vs : List V} {ns : List Int}, DXs X H vs (ns.map PyData.int) → vs = ns.map V.int
  | _, [], .nil => rfl
  | _, n :: ns, .cons h r => by rw [h.int_inv, DXs.ints r]; rfl
theorem DXs.bls : ∀ {vs : List V} {ns : List Bool}, DXs X H vs (ns.map PyData.bool) → vs = ns.map V.bl
  | _, [], .nil => rfl
  | _, n :: ns, .cons h r => by rw [h.bl_inv, DXs.bls r]; rfl
theorem DXs.strs : ∀ {vs : List V} {ns : List Str}, DXs X H vs (ns.map PyData.str) → vs = ns.map V.str
  | _, [], .nil => rfl
  | _, n :: ns, .cons h r => by rw [h.str_inv, DXs.strs r]; rfl
theorem DX.ofInts {p : Addr} {ns : List Int} (n : ¬ X p) (h : H p = some (.lst (ns.map V.int))) : DX X H (.ref p) (.list (ns.map PyData.int)) := by
  refine .lst n h ?_
  clear h
  induction ns with
  | nil => exact .nil
  | cons a r ih => exact .cons (.int a) ih
theorem rf_min {ns : List Int} {m : Int} (h0 : 0 < ns.length) (hm : m ∈ ns) (hl : ∀ y ∈ ns, m ≤ y) : RF X (rMin K) [.list (ns.map PyData.int)] (.int m) := fun H us _ rs Q q => by
  cases rs with
  | cons r r2 =>
    cases r2
    obtain ⟨a, vs, rfl, _, ha, rv⟩ := r.lst_inv
    refine ⟨a, ns, rfl, SqL.of (by rw [← rv.ints]; exact ha), h0, fun m' h1 h2 => ?_⟩
    have e : m' = m := Int.le_antisymm (h2 m hm) (hl m' h1)
    subst e
    exact q _ H (Same.refl H) (.int _)
theorem rf_all {bs : List Bool} : RF X (rAll K) [.list (bs.map PyData.bool)] (.bool (bs.all id)) := fun H us _ rs Q q => by
  cases rs with
  | cons r r2 =>
    cases r2
    obtain ⟨a, vs, rfl, _, ha, rv⟩ := r.lst_inv
    exact ⟨a, bs, rfl, SqL.of (by rw [← rv.bls]; exact ha), q _ H (Same.refl H) (.bl _)⟩
theorem rf_any {bs : List Bool} : RF X (rAny K) [.list (bs.map PyData.bool)] (.bool (bs.any id)) := fun H us _ rs Q q => by
  cases rs with
  | cons r r2 =>
    cases r2
    obtain ⟨a, vs, rfl, _, ha, rv⟩ := r.lst_inv
    exact ⟨a, bs, rfl, SqL.of (by rw [← rv.bls]; exact ha), q _ H (Same.refl H) (.bl _)⟩
theorem rf_int {i : Int} : RF X (fun xs H Q => (∃ i, xs = [V.int i] ∧ Q (.int i) H) ∨ ∃ k, xs = [V.bl k] ∧ Q (.int (if k = true then 1 else 0)) H) [.int i] (.int i) := fun H us _ rs Q q => by
  cases rs with
  | cons r r2 =>
    cases r2
    rw [r.int_inv]
    exact .inl ⟨i, rfl, q _ H (Same.refl H) (.int _)⟩
/-- isinstance -/
def tyD : PyData → String
  | .none => "NoneType"
  | .bool _ => "bool"
  | .int _ => "int"
  | .str _ => "str"
  | .list _ => "list"
  | .tuple _ => "tuple"
  | .dict _ => "dict"
theorem DX.ty {v : V} (h : DX X H v d) : TyX K H v (.type (tyD d)) := by
  cases h with
  | non => exact .base .non
  | bl b => exact .base (.bl b)
  | int i => exact .base (.int i)
  | str s => exact .base (.str s)
  | lst n e r => exact .base (.lst e)
  | tup n e r => exact .base (.tup e)
  | dic n e r => exact .base (.dK e)
def isD (n : String) (d : PyData) : Bool := (kitB (tyD d) n).getD false
theorem kit_d {n : String} (h : (kitB (tyD d) n).isSome = true) : PySem.W.kitOne K (.type (tyD d)) (.type n) = some (isD n d) := by
  unfold isD
  cases e : kitB (tyD d) n with
  | none => rw [e] at h; cases h
  | some b => exact kit_ty e
theorem g_isi {n : String} (h : G X te σ H d) (hk : (kitB (tyD d) n).isSome = true) : G X (tCB (rIsi K) (tCons te (tCons (tC (.ty n)) tNil))) σ H (.bool (isD n d)) := fun H1 s Q q =>
  h H1 s _ fun v H2 s2 r => ⟨v, .ty n, _, _, _, rfl, .ty n, r.ty, kit_d hk, q _ H2 s2 (.bl _)⟩
def isDs (ns : List String) (d : PyData) : Bool := ns.any fun n => isD n d
theorem kit_ds : ∀ {ns : List String}, (∀ n ∈ ns, (kitB (tyD d) n).isSome = true) → PySem.W.kitAny K (.type (tyD d)) (ns.map Value.type) = some (isDs ns d)
  | [], _ => by unfold PySem.W.kitAny; rfl
  | n :: ns, h => by
    have h1 := kit_d (K := K) (h n List.mem_cons_self)
    have h2 := kit_ds (ns := ns) fun m hm => h m (List.mem_cons_of_mem _ hm)
    refine kitAny_cons h1 (fun e => ?_) (fun e => ?_)
    · rw [h2]
      unfold isDs
      rw [List.any_cons, e, Bool.false_or]
    · unfold isDs
      rw [List.any_cons, e, Bool.true_or]
def tyArgs : List String → TA
  | [] => tNil
  | n :: ns => tCons (tC (.ty n)) (tyArgs ns)
theorem tyArgs_run : ∀ (ns : List String) (σ : St) (H : Hp) (Q : List V → Hp → Prop), Q (ns.map V.ty) H → tyArgs ns σ H Q
  | [], _, _, _, q => q
  | n :: ns, σ, H, Q, q => tyArgs_run ns σ H _ q
theorem clsV_all : ∀ ns : List String, Paired ClsV (ns.map V.ty) (ns.map Value.type)
  | [] => .nil
  | n :: ns => .cons (.ty n) (clsV_all ns)
theorem g_isiT {ns : List String} {t2 : TA} (h : G X te σ H d) (e2 : t2 = tyArgs ns) (hl : ns.length ≤ 1000) (hk : ∀ n ∈ ns, (kitB (tyD d) n).isSome = true) : G X (tCB (rIsiT K) (tCons te (tCons (tTup t2) tNil))) σ H (.bool (isDs ns d)) := fun H1 s Q q =>
  h H1 s _ fun v H2 s2 r => by
    subst e2
    refine tyArgs_run ns σ H2 _ ⟨by rw [List.length_map, sizeLine_eq]; omega, fun p hp => ?_⟩
    exact ⟨v, p, ns.map V.ty, _, ns.map Value.type, _, rfl, upd_same, clsV_all ns, (r.mono (Kp.of (Same.upd hp))).ty, kit_ds hk, q _ _ (s2.trans (Same.upd hp)) (.bl _)⟩
end
theorem kb_NoneType_int : kitB "NoneType" "int" = some false := by decide +kernel
theorem kb_bool_int : kitB "bool" "int" = some true := by decide +kernel
theorem kb_int_int : kitB "int" "int" = some true := by decide +kernel
theorem kb_str_int : kitB "str" "int" = some false := by decide +kernel
theorem kb_list_int : kitB "list" "int" = some false := by decide +kernel
theorem kb_tuple_int : kitB "tuple" "int" = some false := by decide +kernel
theorem kb_dict_int : kitB "dict" "int" = some false := by decide +kernel
theorem kb_NoneType_bool : kitB "NoneType" "bool" = some false := by decide +kernel
theorem kb_bool_bool : kitB "bool" "bool" = some true := by decide +kernel
theorem kb_int_bool : kitB "int" "bool" = some false := by decide +kernel
theorem kb_str_bool : kitB "str" "bool" = some false := by decide +kernel
theorem kb_list_bool : kitB "list" "bool" = some false := by decide +kernel
theorem kb_tuple_bool : kitB "tuple" "bool" = some false := by decide +kernel
theorem kb_dict_bool : kitB "dict" "bool" = some false := by decide +kernel
theorem kb_NoneType_str : kitB "NoneType" "str" = some false := by decide +kernel
theorem kb_bool_str : kitB "bool" "str" = some false := by decide +kernel
theorem kb_int_str : kitB "int" "str" = some false := by decide +kernel
theorem kb_str_str : kitB "str" "str" = some true := by decide +kernel
theorem kb_list_str : kitB "list" "str" = some false := by decide +kernel
theorem kb_tuple_str : kitB "tuple" "str" = some false := by decide +kernel
theorem kb_dict_str : kitB "dict" "str" = some false := by decide +kernel
theorem kb_NoneType_list : kitB "NoneType" "list" = some false := by decide +kernel
theorem kb_bool_list : kitB "bool" "list" = some false := by decide +kernel
theorem kb_int_list : kitB "int" "list" = some false := by decide +kernel
theorem kb_str_list : kitB "str" "list" = some false := by decide +kernel
theorem kb_list_list : kitB "list" "list" = some true := by decide +kernel
theorem kb_tuple_list : kitB "tuple" "list" = some false := by decide +kernel
theorem kb_dict_list : kitB "dict" "list" = some false := by decide +kernel
theorem kb_NoneType_tuple : kitB "NoneType" "tuple" = some false := by decide +kernel
theorem kb_bool_tuple : kitB "bool" "tuple" = some false := by decide +kernel
theorem kb_int_tuple : kitB "int" "tuple" = some false := by decide +kernel
theorem kb_str_tuple : kitB "str" "tuple" = some false := by decide +kernel
theorem kb_list_tuple : kitB "list" "tuple" = some false := by decide +kernel
theorem kb_tuple_tuple : kitB "tuple" "tuple" = some true := by decide +kernel
theorem kb_dict_tuple : kitB "dict" "tuple" = some false := by decide +kernel
theorem kb_NoneType_dict : kitB "NoneType" "dict" = some false := by decide +kernel
theorem kb_bool_dict : kitB "bool" "dict" = some false := by decide +kernel
theorem kb_int_dict : kitB "int" "dict" = some false := by decide +kernel
theorem kb_str_dict : kitB "str" "dict" = some false := by decide +kernel
theorem kb_list_dict : kitB "list" "dict" = some false := by decide +kernel
theorem kb_tuple_dict : kitB "tuple" "dict" = some false := by decide +kernel
theorem kb_dict_dict : kitB "dict" "dict" = some true := by decide +kernel
def isa_int : PyData → Bool
  | .bool _ => true
  | .int _ => true
  | _ => false
theorem kis_int (d : PyData) : kitB (tyD d) "int" = some (isa_int d) := by
  cases d
  · exact kb_NoneType_int
  · exact kb_bool_int
  · exact kb_int_int
  · exact kb_str_int
  · exact kb_list_int
  · exact kb_tuple_int
  · exact kb_dict_int
theorem isD_int (d : PyData) : isD "int" d = isa_int d := by unfold isD; rw [kis_int]; rfl
theorem ksm_int (d : PyData) : (kitB (tyD d) "int").isSome = true := by rw [kis_int]; rfl
def isa_bool : PyData → Bool
  | .bool _ => true
  | _ => false
theorem kis_bool (d : PyData) : kitB (tyD d) "bool" = some (isa_bool d) := by
  cases d
  · exact kb_NoneType_bool
  · exact kb_bool_bool
  · exact kb_int_bool
  · exact kb_str_bool
  · exact kb_list_bool
  · exact kb_tuple_bool
  · exact kb_dict_bool
theorem isD_bool (d : PyData) : isD "bool" d = isa_bool d := by unfold isD; rw [kis_bool]; rfl
theorem ksm_bool (d : PyData) : (kitB (tyD d) "bool").isSome = true := by rw [kis_bool]; rfl
def isa_str : PyData → Bool
  | .str _ => true
  | _ => false
theorem kis_str (d : PyData) : kitB (tyD d) "str" = some (isa_str d) := by
  cases d
  · exact kb_NoneType_str
  · exact kb_bool_str
  · exact kb_int_str
  · exact kb_str_str
  · exact kb_list_str
  · exact kb_tuple_str
  · exact kb_dict_str
theorem isD_str (d : PyData) : isD "str" d = isa_str d := by unfold isD; rw [kis_str]; rfl
theorem ksm_str (d : PyData) : (kitB (tyD d) "str").isSome = true := by rw [kis_str]; rfl
def isa_list : PyData → Bool
  | .list _ => true
  | _ => false
theorem kis_list (d : PyData) : kitB (tyD d) "list" = some (isa_list d) := by
  cases d
  · exact kb_NoneType_list
  · exact kb_bool_list
  · exact kb_int_list
  · exact kb_str_list
  · exact kb_list_list
  · exact kb_tuple_list
  · exact kb_dict_list
theorem isD_list (d : PyData) : isD "list" d = isa_list d := by unfold isD; rw [kis_list]; rfl
theorem ksm_list (d : PyData) : (kitB (tyD d) "list").isSome = true := by rw [kis_list]; rfl
def isa_tuple : PyData → Bool
  | .tuple _ => true
  | _ => false
theorem kis_tuple (d : PyData) : kitB (tyD d) "tuple" = some (isa_tuple d) := by
  cases d
  · exact kb_NoneType_tuple
  · exact kb_bool_tuple
  · exact kb_int_tuple
  · exact kb_str_tuple
  · exact kb_list_tuple
  · exact kb_tuple_tuple
  · exact kb_dict_tuple
theorem isD_tuple (d : PyData) : isD "tuple" d = isa_tuple d := by unfold isD; rw [kis_tuple]; rfl
theorem ksm_tuple (d : PyData) : (kitB (tyD d) "tuple").isSome = true := by rw [kis_tuple]; rfl
def isa_dict : PyData → Bool
  | .dict _ => true
  | _ => false
theorem kis_dict (d : PyData) : kitB (tyD d) "dict" = some (isa_dict d) := by
  cases d
  · exact kb_NoneType_dict
  · exact kb_bool_dict
  · exact kb_int_dict
  · exact kb_str_dict
  · exact kb_list_dict
  · exact kb_tuple_dict
  · exact kb_dict_dict
theorem isD_dict (d : PyData) : isD "dict" d = isa_dict d := by unfold isD; rw [kis_dict]; rfl
theorem ksm_dict (d : PyData) : (kitB (tyD d) "dict").isSome = true := by rw [kis_dict]; rfl
end KD

namespace KD
open PySem L2
/-! ### more addresses that stand apart -/
def More (X X' : Addr → Prop) (H : Hp) : Prop := (∀ a, X a → X' a) ∧ ∀ a, X' a → X a ∨ H a = none
section
variable {X X' : Addr → Prop} {H H' : Hp} {σ : St} {Γ : List Sv}
theorem More.refl : More X X H := ⟨fun _ h => h, fun _ h => .inl h⟩
theorem More.one {p : Addr} (h : H p = none) : More X (fun a => X a ∨ a = p) H := ⟨fun _ h => .inl h, fun a k => k.elim .inl fun e => .inr (by rw [e]; exact h)⟩
theorem More.back (s : Same H H') (m : More X X' H') : More X X' H := ⟨m.1, fun a h => (m.2 a h).elim .inl fun e => .inr (s.free e)⟩
mutual
theorem DX.more (m : More X X' H) : ∀ {v : V} {d : PyData}, DX X H v d → DX X' H v d
  | _, _, .non => .non
  | _, _, .bl b => .bl b
  | _, _, .int i => .int i
  | _, _, .str x => .str x
  | _, _, .lst n h r => .lst (fun k => (m.2 _ k).elim n fun e => by rw [h] at e; cases e) h (DXs.more m r)
  | _, _, .tup n h r => .tup (fun k => (m.2 _ k).elim n fun e => by rw [h] at e; cases e) h (DXs.more m r)
  | _, _, .dic n h r => .dic (fun k => (m.2 _ k).elim n fun e => by rw [h] at e; cases e) h (DXk.more m r)
theorem DXs.more (m : More X X' H) : ∀ {vs : List V} {ds : List PyData}, DXs X H vs ds → DXs X' H vs ds
  | _, _, .nil => .nil
  | _, _, .cons h r => .cons (DX.more m h) (DXs.more m r)
theorem DXk.more (m : More X X' H) : ∀ {vs : List (Key × V)} {ds : List (PyData × PyData)}, DXk X H vs ds → DXk X' H vs ds
  | _, _, .nil => .nil
  | _, _, .cons h r => .cons (DX.more m h) (DXk.more m r)
end
mutual
theorem DX.less (m : ∀ a, X a → X' a) : ∀ {v : V} {d : PyData}, DX X' H v d → DX X H v d
  | _, _, .non => .non
  | _, _, .bl b => .bl b
  | _, _, .int i => .int i
  | _, _, .str x => .str x
  | _, _, .lst n h r => .lst (fun k => n (m _ k)) h (DXs.less m r)
  | _, _, .tup n h r => .tup (fun k => n (m _ k)) h (DXs.less m r)
  | _, _, .dic n h r => .dic (fun k => n (m _ k)) h (DXk.less m r)
theorem DXs.less (m : ∀ a, X a → X' a) : ∀ {vs : List V} {ds : List PyData}, DXs X' H vs ds → DXs X H vs ds
  | _, _, .nil => .nil
  | _, _, .cons h r => .cons (DX.less m h) (DXs.less m r)
theorem DXk.less (m : ∀ a, X a → X' a) : ∀ {vs : List (Key × V)} {ds : List (PyData × PyData)}, DXk X' H vs ds → DXk X H vs ds
  | _, _, .nil => .nil
  | _, _, .cons h r => .cons (DX.less m h) (DXk.less m r)
end
theorem EnvOk.more (m : More X X' H) (E : EnvOk X H σ Γ) : EnvOk X' H σ Γ := ⟨E.len, fun i s e => by
  have h := E.get i s e
  cases s with
  | dat d =>
    obtain ⟨v, e1, r⟩ := h
    exact ⟨v, e1, r.more m⟩
  | val v => exact h
  | un => trivial⟩
theorem Trk.one {p : Addr} {o : HO} (t : Trk X H) (h : H p = none) : Trk (fun a => X a ∨ a = p) (upd H p o) := fun a k => k.elim (fun x => (t.mono (Same.upd h)) a x) fun e => by
  subst e
  exact ⟨o, upd_same⟩
theorem Trk.put {p : Addr} {o : HO} (t : Trk X H) : Trk X (upd H p o) := fun a x => by
  by_cases e : a = p
  · subst e
    exact ⟨o, upd_same⟩
  · obtain ⟨u, k⟩ := t a x
    exact ⟨u, by rw [upd_ne e]; exact k⟩
theorem Kp.put {p : Addr} {o : HO} (h : X p) : Kp X H (upd H p o) := fun a u n e => by
  rw [upd_ne (fun z => n (by rw [z]; exact h))]
  exact e
/-- a new object that was changed behind -/
theorem Same.mut {p : Addr} {o : HO} (s : Same H H') (h : H p = none) : Same H (L2.upd H' p o) := fun a u e => by
  rw [upd_ne (ne_of_none e h)]
  exact s a u e
end

/-! ### what is walked, as data -/
def WalkD (X : Addr → Prop) (J : It) (H : Hp) (ds : List PyData) : Prop := ∃ (Gd : Hp → Prop) (Y : Nat → Hp → V → Hp → Prop), Walk J ds.length Gd Y ∧
  ∀ X', (∀ a, X' a → X a ∨ H a = none) → ∀ H3, Kp X' H H3 → Trk X' H3 → Gd H3 ∧ ∀ i x H4, Y i H3 x H4 → Same H3 H4 ∧ ∃ d, ds[i]? = some d ∧ DX X' H4 x d
def GI (X : Addr → Prop) (wi : TI) (σ : St) (H : Hp) (ds : List PyData) : Prop := ∀ H1, Same H H1 → ∀ R : It → Hp → Prop, (∀ J H2, Same H1 H2 → WalkD X J H2 ds → R J H2) → wi σ H1 R
section
variable {X : Addr → Prop} {H H' : Hp} {σ : St} {Γ : List Sv} {te : TE} {K : PySem.W.Frag} {ds es : List PyData}
theorem DX.grow {X' : Addr → Prop} (m : ∀ a, X' a → X a ∨ H a = none) {v : V} {d : PyData} (h : DX X H v d) : DX X' H v d :=
  (h.more (X' := fun a => X a ∨ X' a) ⟨fun _ => .inl, fun a k => k.elim .inl (m a)⟩).less fun _ => .inr
theorem DXs.grow {X' : Addr → Prop} (m : ∀ a, X' a → X a ∨ H a = none) {vs : List V} {ds : List PyData} (h : DXs X H vs ds) : DXs X' H vs ds :=
  (h.more (X' := fun a => X a ∨ X' a) ⟨fun _ => .inl, fun a k => k.elim .inl (m a)⟩).less fun _ => .inr
theorem gi_list (h : G X te σ H (.list ds)) : GI X (iList K te) σ H ds := fun H1 s R r => h H1 s _ fun v H2 s2 rv => by
  obtain ⟨a, xs, rfl, n, e, rx⟩ := rv.lst_inv
  refine ⟨a, rfl, ⟨xs, SqL.of e⟩, r _ H2 s2 ⟨_, _, by rw [← rx.length]; exact walk_list, fun X' m H3 k t => ?_⟩⟩
  have n' : ¬ X' a := fun z => (m a z).elim n fun q => by rw [e] at q; cases q
  refine ⟨SqL.of (k a _ n' e), fun i x H4 y => ?_⟩
  obtain ⟨rfl, hx⟩ := y
  obtain ⟨d, h1, h2⟩ := rx.getV hx
  exact ⟨Same.refl _, d, h1, (h2.grow m).mono k⟩
theorem gi_tup (h : G X te σ H (.tuple ds)) : GI X (iTup K te) σ H ds := fun H1 s R r => h H1 s _ fun v H2 s2 rv => by
  obtain ⟨a, xs, rfl, n, e, rx⟩ := rv.tup_inv
  refine ⟨a, rfl, ⟨xs, SqT.of e⟩, r _ H2 s2 ⟨_, _, by rw [← rx.length]; exact walk_tup, fun X' m H3 k t => ?_⟩⟩
  have n' : ¬ X' a := fun z => (m a z).elim n fun q => by rw [e] at q; cases q
  refine ⟨SqT.of (k a _ n' e), fun i x H4 y => ?_⟩
  obtain ⟨rfl, hx⟩ := y
  obtain ⟨d, h1, h2⟩ := rx.getV hx
  exact ⟨Same.refl _, d, h1, (h2.grow m).mono k⟩
def rangeD (lo : Int) (n : Nat) : List PyData := (List.range n).map fun (i : Nat) => PyData.int (lo + (i : Int))
theorem rangeD_len {lo : Int} {n : Nat} : (rangeD lo n).length = n := by simp [rangeD]
theorem rangeD_get {lo : Int} {n i : Nat} (h : i < n) : (rangeD lo n)[i]? = some (.int (lo + (i : Int))) := by
  unfold rangeD
  rw [List.getElem?_map, List.getElem?_range h]
  rfl
theorem walkD_range {lo : Int} {n : Nat} : WalkD X (Itr lo n) H (rangeD lo n) := by
  refine ⟨fun _ => True, fun i H x H' => (YFn fun i => V.int (lo + i)) i H x H' ∧ i < n, ?_, fun X' m H3 k t => ⟨trivial, fun i x H4 y => ?_⟩⟩
  · rw [rangeD_len]
    exact ⟨fun _ _ hi _ => hi, fun _ _ => Nat.le_refl _, fun _ _ _ _ hi _ y => ⟨y, hi⟩⟩
  · obtain ⟨⟨rfl, rfl⟩, hi⟩ := y
    exact ⟨Same.refl _, _, rangeD_get hi, .int _⟩
theorem gi_range1 {n : Int} (h : G X te σ H (.int n)) (hn : n ≤ 1000000) (hm : -1000000 ≤ n) : GI X (iRng1 (tCons te tNil)) σ H (rangeD 0 n.toNat) := fun H1 s R r => h H1 s _ fun v H2 s2 rv =>
  ⟨n, by rw [rv.int_inv], by omega, by omega, r _ H2 s2 walkD_range⟩
theorem gi_range2 {tb : TE} {a n : Int} (ha : G X te σ H (.int a)) (h : G X tb σ H (.int n)) (hb : -1000000 ≤ a ∧ a ≤ 1000000 ∧ -1000000 ≤ n ∧ n ≤ 1000000) : GI X (iRng2 (tCons te (tCons tb tNil))) σ H (rangeD a (n - a).toNat) := fun H1 s R r =>
  ha H1 s _ fun v H2 s2 rv => h H2 (s.trans s2) _ fun w H3 s3 rw_ => ⟨a, n, by rw [rv.int_inv, rw_.int_inv], by omega, r _ H3 (s2.trans s3) walkD_range⟩
def enumD (ds : List PyData) : List PyData := ds.zipIdx.map fun p => .tuple [.int (p.2 : Nat), p.1]
theorem enumD_len : (enumD ds).length = ds.length := by simp [enumD]
theorem enumD_get {i : Nat} {d : PyData} (h : ds[i]? = some d) : (enumD ds)[i]? = some (.tuple [.int (i : Nat), d]) := by
  unfold enumD
  rw [List.getElem?_map, List.getElem?_zipIdx, h]
  simp
theorem gi_enum (h : G X te σ H (.list ds)) : GI X (iEnum K (tCons te tNil)) σ H (enumD ds) := fun H1 s R r => h H1 s _ fun v H2 s2 rv => by
  obtain ⟨a, xs, rfl, n, e, rx⟩ := rv.lst_inv
  refine ⟨a, xs, rfl, SqL.of e, r _ H2 s2 ⟨_, _, by rw [enumD_len, ← rx.length]; exact walk_enum, fun X' m H3 k t => ?_⟩⟩
  have n' : ¬ X' a := fun z => (m a z).elim n fun q => by rw [e] at q; cases q
  refine ⟨SqL.of (k a _ n' e), fun i x H4 y => ?_⟩
  obtain ⟨T, u, w, rfl, hT, rfl, hu, hw⟩ := y
  cases hu
  obtain ⟨d, h1, h2⟩ := rx.getV hw
  exact ⟨Same.upd hT, _, enumD_get h1, DX.newT t (.cons (.int _) (.cons ((h2.grow m).mono k) .nil)) hT⟩
def zipD (ds es : List PyData) : List PyData := List.zipWith (fun d e => .tuple [d, e]) ds es
theorem gi_zip {tb : TE} (h : G X te σ H (.list ds)) (h' : G X tb σ H (.list es)) : GI X (iZip K (tCons te (tCons tb tNil))) σ H (zipD ds es) := fun H1 s R r => h H1 s _ fun v H2 s2 rv => h' H2 (s.trans s2) _ fun w H3 s3 rw_ => by
  obtain ⟨a, xs, rfl, n, e, rx⟩ := (rv.mono (Kp.of s3)).lst_inv
  obtain ⟨b, ys, rfl, n2, e2, ry⟩ := rw_.lst_inv
  refine ⟨a, b, xs, ys, rfl, SqL.of e, SqL.of e2, r _ H3 (s2.trans s3) ⟨_, _, walk_zip (xs := xs) (ys := ys) (by simp [zipD, rx.length, ry.length]), fun X' m H4 k t => ?_⟩⟩
  have n' : ¬ X' a := fun z => (m a z).elim n fun q => by rw [e] at q; cases q
  have n2' : ¬ X' b := fun z => (m b z).elim n2 fun q => by rw [e2] at q; cases q
  refine ⟨⟨SqL.of (k a _ n' e), SqL.of (k b _ n2' e2)⟩, fun i x H5 y => ?_⟩
  obtain ⟨T, u, w, rfl, hT, rfl, hu, hw⟩ := y
  obtain ⟨d, h1, h2⟩ := rx.getV hu
  obtain ⟨d', h3, h4⟩ := ry.getV hw
  refine ⟨Same.upd hT, .tuple [d, d'], ?_, DX.newT t (.cons ((h2.grow m).mono k) (.cons ((h4.grow m).mono k) .nil)) hT⟩
  unfold zipD
  rw [List.getElem?_zipWith, h1, h3]

/-! ### comprehensions -/
/-- a target takes a datum: what the frame knows behind it -/
def Tgt (X : Addr → Prop) (g : TG) (σ : St) (Γ2 : List Sv) (vs : List Nat) (d : PyData) (H : Hp) : Prop :=
  ∀ X' H3, More X X' H → Kp X' H H3 → Trk X' H3 → ∀ v, DX X' H3 v d → ∀ Ψ : St → Hp → Prop, (∀ σ2, EnvOk X' H3 σ2 Γ2 → wipe σ2 vs = wipe σ vs → Ψ σ2 H3) → g v (wipe σ vs) H3 Ψ
theorem wipe_one {i : Nat} {x : Option V} : wipe ((wipe σ [i]).set i x) [i] = wipe σ [i] := by
  show ((σ.set i none).set i x).set i none = σ.set i none
  rw [List.set_set, List.set_set]
theorem tgt_name {i : Nat} {d : PyData} (E : EnvOk X H σ Γ) : Tgt X (gName i) σ ((Γ.set i .un).set i (.dat d)) [i] d H := fun X' H3 m k t v hd Ψ q =>
  q _ (((E.more m).mono k).wipe [i] |>.set hd) wipe_one
theorem wipe_two {i j : Nat} {x y : Option V} (h : i ≠ j) : wipe (((wipe σ [i, j]).set i x).set j y) [i, j] = wipe σ [i, j] := by
  show ((((((σ.set j none).set i none).set i x).set j y).set j none).set i none) = (σ.set j none).set i none
  apply List.ext_getElem?
  intro n
  simp only [List.getElem?_set, List.length_set]
  split <;> split <;> simp_all
theorem g_pair {i j : Nat} {K : PySem.W.Frag} {v : V} {d e : PyData} (hd : DX X H v (.tuple [d, e])) {Ψ : St → Hp → Prop} (q : ∀ u w, DX X H u d → DX X H w e → Ψ ((σ.set i (some u)).set j (some w)) H) : gTup K 2 (gCons (gName i) (gCons (gName j) gNil)) v σ H Ψ := by
  obtain ⟨a, xs, rfl, n, ea, rx⟩ := hd.tup_inv
  cases rx with
  | cons h1 r1 =>
    cases r1 with
    | cons h2 r2 =>
      cases r2
      exact ⟨a, _, rfl, SqT.of ea, rfl, _, _, rfl, _, _, rfl, rfl, q _ _ h1 h2⟩
theorem g_triple {i j l : Nat} {K : PySem.W.Frag} {v : V} {d e f : PyData} (hd : DX X H v (.tuple [d, e, f])) {Ψ : St → Hp → Prop} (q : ∀ u w z, DX X H u d → DX X H w e → DX X H z f → Ψ (((σ.set i (some u)).set j (some w)).set l (some z)) H) :
    gTup K 3 (gCons (gName i) (gCons (gName j) (gCons (gName l) gNil))) v σ H Ψ := by
  obtain ⟨a, xs, rfl, n, ea, rx⟩ := hd.tup_inv
  cases rx with
  | cons h1 r1 =>
    cases r1 with
    | cons h2 r2 =>
      cases r2 with
      | cons h3 r3 =>
        cases r3
        exact ⟨a, _, rfl, SqT.of ea, rfl, _, _, rfl, _, _, rfl, _, _, rfl, rfl, q _ _ _ h1 h2 h3⟩
theorem tgt_pair {i j : Nat} {d e : PyData} (E : EnvOk X H σ Γ) (hij : i ≠ j) : Tgt X (gTup K 2 (gCons (gName i) (gCons (gName j) gNil))) σ ((((Γ.set j .un).set i .un).set i (.dat d)).set j (.dat e)) [i, j] (.tuple [d, e]) H := fun X' H3 m k t v hd Ψ q =>
  g_pair hd fun u w h1 h2 => q _ ((((E.more m).mono k).wipe [i, j] |>.set h1).set h2) (wipe_two hij)
theorem g_lc {wi : TI} {g : TG} {tt : TT} {te : TE} {vs : List Nat} {Γ2 : PyData → List Sv} (f : PyData → Bool) (h : PyData → PyData) (t : Trk X H) (hi : GI X wi σ H ds) (hl : ds.length ≤ 1000000)
    (hg : ∀ H1, Same H H1 → ∀ d ∈ ds, Tgt X g σ (Γ2 d) vs d H1)
    (ht : ∀ X' H1 σ2 d, d ∈ ds → Trk X' H1 → EnvOk X' H1 σ2 (Γ2 d) → GT tt σ2 H1 (f d))
    (he : ∀ X' H1 σ2 d, d ∈ ds → f d = true → Trk X' H1 → EnvOk X' H1 σ2 (Γ2 d) → G X' te σ2 H1 (h d)) : G X (tLc wi g tt te vs) σ H (.list ((ds.filter f).map h)) := fun H1 s Q q =>
  hi H1 s _ fun J H2 s2 w => by
    intro D hD
    obtain ⟨Gd, Y, w1, w2⟩ := w
    have s02 : Same H H2 := s.trans s2
    have t2 : Trk X H2 := t.mono s02
    let X' : Addr → Prop := fun a => X a ∨ a = D
    have m2 : More X X' H2 := More.one hD
    have key : ∀ H3, Same H2 H3 ∧ Trk X' H3 → Gd H3 := fun H3 p => (w2 X' m2.2 H3 (Kp.of p.1) p.2).1
    refine lc_it w1 (fun i H3 => Same H2 H3 ∧ Trk X' H3 ∧ ∃ acc, H3 D = some (.lst acc) ∧ DXs X' H3 acc (((ds.take i).filter f).map h)) ?_ ?_ ?_ ?_
    · exact ⟨Same.upd hD, t2.one hD, [], upd_same, .nil⟩
    · rintro i H3 _ ⟨p1, p2, _⟩
      exact key H3 ⟨p1, p2⟩
    · rintro i x H3 H4 hi' ⟨p1, p2, acc, p3, p4⟩ y
      obtain ⟨s4, d, hd, dx⟩ := (w2 X' m2.2 H3 (Kp.of p1) p2).2 i x H4 y
      have hmem : d ∈ ds := List.mem_of_getElem? hd
      have k4 : Kp X' H2 H4 := Kp.of (p1.trans s4)
      have t4 : Trk X' H4 := p2.mono s4
      refine hg H2 s02 d hmem X' H4 m2 k4 t4 x dx _ fun σ2 E2 hw => ⟨hw, ?_⟩
      have etake : ds.take (i + 1) = ds.take i ++ [d] := by rw [List.take_succ, hd]; rfl
      refine ht X' H4 σ2 d hmem t4 E2 H4 (Same.refl _) _ fun H5 s5 => ?_
      have lacc : acc.length ≤ 1000000 := by
        rw [p4.length, List.length_map]
        exact Nat.le_trans (List.length_filter_le _ _) (Nat.le_trans (List.length_take_le _ _) (by omega))
      cases hf : f d with
      | true =>
        refine iteT ?_
        refine he X' H4 σ2 d hmem hf t4 E2 H5 s5 _ fun y H6 s6 ry => ?_
        have s36 : Same H3 H6 := (s4.trans s5).trans s6
        refine ⟨acc, s36 D _ p3, by rw [sizeLine_eq]; omega, ?_, ?_, acc ++ [y], upd_same, ?_⟩
        · exact Same.mut (p1.trans s36) hD
        · exact (p2.mono s36).put
        · rw [etake, List.filter_append, List.map_append]
          have ef : List.filter f [d] = [d] := by simp [hf]
          rw [ef]
          exact ((p4.mono (Kp.of s36)).snoc ry).mono (Kp.put (.inr rfl))
      | false =>
        refine iteF ?_
        have s35 : Same H3 H5 := s4.trans s5
        refine ⟨p1.trans s35, p2.mono s35, acc, s35 D _ p3, ?_⟩
        rw [etake, List.filter_append, List.map_append]
        have ef : List.filter f [d] = [] := by simp [hf]
        rw [ef, List.map_nil, List.append_nil]
        exact p4.mono (Kp.of s35)
    · rintro H3 ⟨p1, p2, acc, p3, p4⟩
      rw [List.take_length] at p4
      have nXD : ¬ X D := t2.new hD
      -- D itself is a datum again
      exact q (.ref D) H3 (s2.trans p1) (.lst nXD p3 (p4.less fun a => .inl))
/-- without a test -/
theorem g_lc1 {wi : TI} {g : TG} {te : TE} {vs : List Nat} {Γ2 : PyData → List Sv} (h : PyData → PyData) (t : Trk X H) (hi : GI X wi σ H ds) (hl : ds.length ≤ 1000000)
    (hg : ∀ H1, Same H H1 → ∀ d ∈ ds, Tgt X g σ (Γ2 d) vs d H1)
    (he : ∀ X' H1 σ2 d, d ∈ ds → Trk X' H1 → EnvOk X' H1 σ2 (Γ2 d) → G X' te σ2 H1 (h d)) : G X (tLc wi g tYes te vs) σ H (.list (ds.map h)) := by
  have e : ds.map h = (ds.filter fun _ => true).map h := by rw [List.filter_eq_self.mpr (fun _ _ => rfl)]
  rw [e]
  exact g_lc (fun _ => true) h t hi hl hg (fun X' H2 σ2 z _ _ _ H3 s3 Q3 q3 => q3 H3 (Same.refl _)) fun X' H1 σ2 d m _ t2 E2 => he X' H1 σ2 d m t2 E2
end
end KD

namespace KD
open PySem PySem.Spec PyProof.Rows L2
/-! ### defs of the text that are called by their names -/
structure Own (P : Program) (w : World) (K : PySem.W.Frag) (mg : Str → Option Value) (base : Heap) (CX : CXT) (k : Nat) (x : Str) (ps : List Str) (sp : Sp) : Prop where
  ex : ∃ (f : Addr) (fd : FuncData), mg x = some (.ref f) ∧ PySem.W.keepIn K (.ref f) = true ∧ Binds K fd ps [] ∧ FnOk P w K mg base CX k f fd ps sp
section
variable {X : Cx} {k j : Nat} {x : Str} {ps : List Str} {sp : Sp} {e : Expr} {es : List Expr} {p pos : Pos} {ta : TA}
theorem pe_own (O : Own X.prog X.w X.K X.mg X.base CX0 k x ps sp) (hr : Room j X.A) (hk : k ≤ j) (hg : Gl X x) (ha : PA X (e :: es) ta) (hdb : (x == ("__debug__" : Str)) = false := by decide)
    (he : starEach (e :: es) X.env = (false, eval e X.env) :: starEach es X.env := by rfl) (hpl : (backTo pos (starEach es X.env)).any (·.1) = false := by rfl) : PE X (.Call (.Name x p) (e :: es) [] pos) (tCall sp [] E0 ta) := by
  obtain ⟨f, fd, h1, h2, h3, h4⟩ := O.ex
  exact pe_call h4 (hr.mono hk) hg h1 h2 h3 .nil pass0 ha hdb he hpl
end
/-! ### promises over data -/
def sp1 (pre : PyData → Prop) (f : PyData → PyData) : Sp := fun vs H Q _ => ∃ (X : Addr → Prop) (v : V) (d : PyData), vs = [v] ∧ Trk X H ∧ DX X H v d ∧ pre d ∧ ∀ w H', Same H H' → DX X H' w (f d) → Q w H'
def sp2 (pre : PyData → PyData → Prop) (f : PyData → PyData → PyData) : Sp := fun vs H Q _ => ∃ (X : Addr → Prop) (v1 v2 : V) (d1 d2 : PyData), vs = [v1, v2] ∧ Trk X H ∧ DX X H v1 d1 ∧ DX X H v2 d2 ∧ pre d1 d2 ∧ ∀ w H', Same H H' → DX X H' w (f d1 d2) → Q w H'
def sp3 (pre : PyData → PyData → PyData → Prop) (f : PyData → PyData → PyData → PyData) : Sp := fun vs H Q _ => ∃ (X : Addr → Prop) (v1 v2 v3 : V) (d1 d2 d3 : PyData), vs = [v1, v2, v3] ∧ Trk X H ∧ DX X H v1 d1 ∧ DX X H v2 d2 ∧ DX X H v3 d3 ∧ pre d1 d2 d3 ∧ ∀ w H', Same H H' → DX X H' w (f d1 d2 d3) → Q w H'
section
variable {X : Addr → Prop} {σ : L2.St} {H : Hp} {ta tb tc : TE} {d d1 d2 d3 : PyData} {E : XK}
theorem g_call1 {pre : PyData → Prop} {f : PyData → PyData} (t : Trk X H) (h : G X ta σ H d) (hp : pre d) : G X (tCall (sp1 pre f) [] E (tCons ta tNil)) σ H (f d) :=
  g_call (ga_cons h ga_nil) fun vs H1 s rs Q q => by
    cases rs with
    | cons r1 r2 =>
      cases r2
      exact ⟨X, _, d, rfl, t.mono s, r1, hp, q⟩
theorem g_call2 {pre : PyData → PyData → Prop} {f : PyData → PyData → PyData} (t : Trk X H) (h1 : G X ta σ H d1) (h2 : G X tb σ H d2) (hp : pre d1 d2) : G X (tCall (sp2 pre f) [] E (tCons ta (tCons tb tNil))) σ H (f d1 d2) :=
  g_call (ga_cons h1 (ga_cons h2 ga_nil)) fun vs H1 s rs Q q => by
    cases rs with
    | cons r1 r2 =>
      cases r2 with
      | cons r2 r3 =>
        cases r3
        exact ⟨X, _, _, d1, d2, rfl, t.mono s, r1, r2, hp, q⟩
theorem g_call3 {pre : PyData → PyData → PyData → Prop} {f : PyData → PyData → PyData → PyData} (t : Trk X H) (h1 : G X ta σ H d1) (h2 : G X tb σ H d2) (h3 : G X tc σ H d3) (hp : pre d1 d2 d3) : G X (tCall (sp3 pre f) [] E (tCons ta (tCons tb (tCons tc tNil)))) σ H (f d1 d2 d3) :=
  g_call (ga_cons h1 (ga_cons h2 (ga_cons h3 ga_nil))) fun vs H1 s rs Q q => by
    cases rs with
    | cons r1 r2 =>
      cases r2 with
      | cons r2 r3 =>
        cases r3 with
        | cons r3 r4 =>
          cases r4
          exact ⟨X, _, _, _, d1, d2, d3, rfl, t.mono s, r1, r2, r3, hp, q⟩
end
/-! ### a def's body -/
section
variable {P : Program} {w : World} {K : PySem.W.Frag} {mg : Str → Option Value} {base : Heap} {x qual : Str} {st : Stmt} {f : Addr} {fd : FuncData} {N : List Str} {k : Nat} {a b c : Str}
def pad (N : List Str) (ss : List Sv) : List Sv := ss ++ List.replicate (N.length - ss.length) .un
theorem env1 {X : Addr → Prop} {H : Hp} {v : V} {d : PyData} (h : DX X H v d) (hN : 1 ≤ N.length) : EnvOk X H (L2.start N [v]) (pad N [.dat d]) :=
  envOk_start rfl (fun i s e u e2 => by
    match i, e, e2 with
    | 0, e, e2 => cases e; cases e2; exact ⟨_, rfl, h⟩) hN
theorem env2 {X : Addr → Prop} {H : Hp} {v1 v2 : V} {d1 d2 : PyData} (h1 : DX X H v1 d1) (h2 : DX X H v2 d2) (hN : 2 ≤ N.length) : EnvOk X H (L2.start N [v1, v2]) (pad N [.dat d1, .dat d2]) :=
  envOk_start rfl (fun i s e u e2 => by
    match i, e, e2 with
    | 0, e, e2 => cases e; cases e2; exact ⟨_, rfl, h1⟩
    | 1, e, e2 => cases e; cases e2; exact ⟨_, rfl, h2⟩) hN
theorem env3 {X : Addr → Prop} {H : Hp} {v1 v2 v3 : V} {d1 d2 d3 : PyData} (h1 : DX X H v1 d1) (h2 : DX X H v2 d2) (h3 : DX X H v3 d3) (hN : 3 ≤ N.length) : EnvOk X H (L2.start N [v1, v2, v3]) (pad N [.dat d1, .dat d2, .dat d3]) :=
  envOk_start rfl (fun i s e u e2 => by
    match i, e, e2 with
    | 0, e, e2 => cases e; cases e2; exact ⟨_, rfl, h1⟩
    | 1, e, e2 => cases e; cases e2; exact ⟨_, rfl, h2⟩
    | 2, e, e2 => cases e; cases e2; exact ⟨_, rfl, h3⟩) hN
theorem ok1 {pre : PyData → Prop} {g : PyData → PyData} (F : Fun K x qual st f fd) (S : FnScope N [a] (defScope st)) (hN : 1 ≤ N.length)
    (hbody : ∀ (cdv : Value) (A : Around) (outer : List Env) (s : Shared) (H : Hp) (E : XK) (X : Addr → Prop) (d : PyData) (Q : VK), Room k (A.deeper (envOfC qual (defScope st) s.heap.objs.size f cdv)) → Trk X H → pre d → (∀ w H', Same H H' → DX X H' w (g d) → Q w H') →
      ∃ t, PSs (cxOf CX0 P w K mg base N qual (defScope st) f cdv A outer s H E).nox (defBody st) t ∧ ∀ σ, EnvOk X H σ (pad N [.dat d]) → t { nx := fun _ H' => Q .non H', rt := Q } σ H) : FnOk P w K mg base CX0 (k + 1) f fd [a] (sp1 pre g) := by
  refine F.ok S (fun vs H Q E h => ?_) (fun cdv A outer s H vs Q E hr h => ?_)
  · obtain ⟨X, v, d, rfl, _⟩ := h
    rfl
  · obtain ⟨X, v, d, rfl, t, hd, hp, q⟩ := h
    obtain ⟨tt, h1, h2⟩ := hbody cdv A outer s H E X d Q hr t hp q
    exact ⟨tt, h1, h2 _ (env1 hd hN)⟩
theorem ok2 {pre : PyData → PyData → Prop} {g : PyData → PyData → PyData} (F : Fun K x qual st f fd) (S : FnScope N [a, b] (defScope st)) (hN : 2 ≤ N.length)
    (hbody : ∀ (cdv : Value) (A : Around) (outer : List Env) (s : Shared) (H : Hp) (E : XK) (X : Addr → Prop) (d1 d2 : PyData) (Q : VK), Room k (A.deeper (envOfC qual (defScope st) s.heap.objs.size f cdv)) → Trk X H → pre d1 d2 → (∀ w H', Same H H' → DX X H' w (g d1 d2) → Q w H') →
      ∃ t, PSs (cxOf CX0 P w K mg base N qual (defScope st) f cdv A outer s H E).nox (defBody st) t ∧ ∀ σ, EnvOk X H σ (pad N [.dat d1, .dat d2]) → t { nx := fun _ H' => Q .non H', rt := Q } σ H) : FnOk P w K mg base CX0 (k + 1) f fd [a, b] (sp2 pre g) := by
  refine F.ok S (fun vs H Q E h => ?_) (fun cdv A outer s H vs Q E hr h => ?_)
  · obtain ⟨X, v1, v2, d1, d2, rfl, _⟩ := h
    rfl
  · obtain ⟨X, v1, v2, d1, d2, rfl, t, r1, r2, hp, q⟩ := h
    obtain ⟨tt, h1, h2⟩ := hbody cdv A outer s H E X d1 d2 Q hr t hp q
    exact ⟨tt, h1, h2 _ (env2 r1 r2 hN)⟩
end
/-! ### statements -/
section
variable {X : Addr → Prop} {σ : L2.St} {H : Hp} {te : TE} {tt : TT} {tu tw tz : TS} {d : PyData} {D : Ends} {Γ : List Sv} {Q : VK}
theorem s_ret (h : G X te σ H d) (q : ∀ w H', Same H H' → DX X H' w d → D.rt w H') : tRet te D σ H := h H (Same.refl H) _ q
theorem s_if {b : Bool} (h : GT tt σ H b) (h1 : b = true → ∀ H1, Same H H1 → tu D σ H1) (h2 : b = false → ∀ H1, Same H H1 → tw D σ H1) : tIfS tt tu tw D σ H := h H (Same.refl H) _ fun H1 s => by
  cases b with
  | true => exact iteT (h1 rfl H1 s)
  | false => exact iteF (h2 rfl H1 s)
theorem q_if {b : Bool} (h : GT tt σ H b) (h1 : b = true → ∀ H1, Same H H1 → tu { D with nx := tz D } σ H1) (h2 : b = false → ∀ H1, Same H H1 → tz D σ H1) : tSeq (tIfS tt tu tNext) tz D σ H := s_if (D := { D with nx := tz D }) h h1 h2
theorem q_asg {g : TG} (h : G X te σ H d) (k : ∀ H1 v, Same H H1 → DX X H1 v d → g v σ H1 (fun σ2 H2 => tz D σ2 H2)) : tSeq (tAsg te g) tz D σ H := h H (Same.refl H) _ fun v H1 s r => k H1 v s r
theorem q_set {i : Nat} (En : EnvOk X H σ Γ) (h : G X te σ H d) (k : ∀ H1 v, Same H H1 → EnvOk X H1 (σ.set i (some v)) (Γ.set i (.dat d)) → tz D (σ.set i (some v)) H1) : tSeq (tAsg te (gName i)) tz D σ H := h H (Same.refl H) _ fun v H1 s r => k H1 v s ((En.same s).set r)
end
/-- a for over data: I by the base heap, the turn, the slots, the heap -/
theorem s_forD {X : Addr → Prop} {σ : L2.St} {H : Hp} {wi : TI} {g : TG} {tb : TS} {D : Ends} {ds : List PyData} (hi : GI X wi σ H ds) (I : Hp → Nat → L2.St → Hp → Prop) (h0 : ∀ Hb, Same H Hb → I Hb 0 σ Hb)
    (hk : ∀ Hb i σ' H', I Hb i σ' H' → Kp X Hb H' ∧ Trk X H')
    (hs : ∀ Hb i x d σ' H' H'', Same H Hb → ds[i]? = some d → I Hb i σ' H' → Same H' H'' → DX X H'' x d → g x σ' H'' fun σ2 H2 => tb { D with nx := I Hb (i + 1), ct := I Hb (i + 1), bk := D.nx } σ2 H2)
    (hd : ∀ Hb σ' H', Same H Hb → I Hb ds.length σ' H' → D.nx σ' H') : tFor wi g tb D σ H := hi H (Same.refl H) _ fun J H2 s w => by
  obtain ⟨Gd, Y, w1, w2⟩ := w
  have key : ∀ i σ' H', I H2 i σ' H' → _ := fun i σ' H' p => w2 X (fun _ => .inl) H' (hk H2 i σ' H' p).1 (hk H2 i σ' H' p).2
  refine for_it w1 (I H2) (h0 H2 s) (fun i σ' H' _ p => (key i σ' H' p).1) (fun i x σ' H' H'' _ p y => ?_) (fun σ' H' p => hd H2 σ' H' s p)
  obtain ⟨s4, d, hd1, dx⟩ := (key i σ' H' p).2 i x H'' y
  exact hs H2 i x d σ' H' H'' s hd1 p s4 dx
/-! ### the language's own names; tests of kinds -/
structure Bl (mg : Str → Option Value) : Prop where
  b_isinstance : mg "isinstance" = none
  b_len : mg "len" = none
  b_list : mg "list" = none
  b_tuple : mg "tuple" = none
  b_dict : mg "dict" = none
  b_int : mg "int" = none
  b_bool : mg "bool" = none
  b_str : mg "str" = none
  b_min : mg "min" = none
  b_all : mg "all" = none
  b_range : mg "range" = none
  b_enumerate : mg "enumerate" = none
  b_zip : mg "zip" = none
  b_repr : mg "repr" = none
section
variable {X : Cx}
abbrev rAddA : R2 := fun x y H Q => (rI0 fun i j => V.int (i + j)) x y H Q ∨ (fun x y H Q => rCat x y H Q ∨ (fun x y H Q => ∃ i j, x = V.str i ∧ y = V.str j ∧ i.length + j.length ≤ sizeLine ∧ Q (V.str (i ++ j)) H) x y H Q) x y H Q
abbrev rMulA : R2 := fun x y H Q => (rI CMul fun i j => V.int (i * j)) x y H Q ∨ rRep x y H Q
theorem op_addA : OpR X (binaryOp .Add) rAddA := op_add.or (op_cat.or op_add_str)
theorem op_mulA : OpR X (binaryOp .Mult) rMulA := op_mul.or op_rep
end
section
variable {X : Addr → Prop} {te ta tb : TE} {σ : L2.St} {H : Hp} {d : PyData} {K : PySem.W.Frag}
theorem isDs_seq (d : PyData) : isDs ["list", "tuple"] d = isSeq d := by
  unfold isDs
  rw [List.any_cons, List.any_cons, List.any_nil, isD_list, isD_tuple]
  cases d <;> rfl
theorem g_isSeq (h : G X te σ H d) : G X (tCB (rIsiT K) (tCons te (tCons (tTup (tCons (tC (.ty "list")) (tCons (tC (.ty "tuple")) tNil))) tNil))) σ H (.bool (isSeq d)) := by
  rw [← isDs_seq]
  exact g_isiT (ns := ["list", "tuple"]) h rfl (by decide) fun n hn => by
    simp at hn
    rcases hn with rfl | rfl
    · exact ksm_list d
    · exact ksm_tuple d
theorem g_isInt (h : G X te σ H d) : G X (tCB (rIsi K) (tCons te (tCons (tC (.ty "int")) tNil))) σ H (.bool (isa_int d)) := by
  rw [← isD_int]; exact g_isi h (ksm_int d)
theorem g_isBool (h : G X te σ H d) : G X (tCB (rIsi K) (tCons te (tCons (tC (.ty "bool")) tNil))) σ H (.bool (isa_bool d)) := by
  rw [← isD_bool]; exact g_isi h (ksm_bool d)
theorem g_isStr (h : G X te σ H d) : G X (tCB (rIsi K) (tCons te (tCons (tC (.ty "str")) tNil))) σ H (.bool (isa_str d)) := by
  rw [← isD_str]; exact g_isi h (ksm_str d)
theorem g_isList (h : G X te σ H d) : G X (tCB (rIsi K) (tCons te (tCons (tC (.ty "list")) tNil))) σ H (.bool (isa_list d)) := by
  rw [← isD_list]; exact g_isi h (ksm_list d)
theorem g_isTuple (h : G X te σ H d) : G X (tCB (rIsi K) (tCons te (tCons (tC (.ty "tuple")) tNil))) σ H (.bool (isa_tuple d)) := by
  rw [← isD_tuple]; exact g_isi h (ksm_tuple d)
theorem g_isDict (h : G X te σ H d) : G X (tCB (rIsi K) (tCons te (tCons (tC (.ty "dict")) tNil))) σ H (.bool (isa_dict d)) := by
  rw [← isD_dict]; exact g_isi h (ksm_dict d)
theorem g_len (t : Trk X H) (h : G X te σ H d) (hl : hasLen d = true) : G X (tCB (fun xs H Q => ∃ x n, xs = [x] ∧ LenV K x H n ∧ Q (V.int n) H) (tCons te tNil)) σ H (.int (lenD d : Int)) := g_cb t (ga_cons h ga_nil) (rf_len hl)
theorem g_listOf (t : Trk X H) (h : G X te σ H d) (hl : isSeq d = true) : G X (tCB (fun xs H Q => ∃ p ys, xs = [V.ref p] ∧ (SqL K H p ys ∨ SqT K H p ys) ∧ ∀ l, H l = none → Q (V.ref l) (upd H l (.lst ys))) (tCons te tNil)) σ H (.list (itemsD d)) := g_cb t (ga_cons h ga_nil) (rf_list hl)
theorem g_addI (t : Trk X H) {i j : Int} (ha : G X ta σ H (.int i)) (hb : G X tb σ H (.int j)) : G X (tOp rAddA ta tb) σ H (.int (i + j)) := g_op t ha hb (RD.or1 (rd_I0 (g := fun i j => i + j)))
theorem g_cat (t : Trk X H) {xs ys : List PyData} (ha : G X ta σ H (.list xs)) (hb : G X tb σ H (.list ys)) (hl : xs.length + ys.length ≤ 1000000) : G X (tOp rAddA ta tb) σ H (.list (xs ++ ys)) := g_op t ha hb (RD.or2 (RD.or1 (rd_cat hl)))
theorem g_sub (t : Trk X H) {i j : Int} (ha : G X ta σ H (.int i)) (hb : G X tb σ H (.int j)) : G X (tOp (rI0 fun i j => V.int (i - j)) ta tb) σ H (.int (i - j)) := g_op t ha hb (rd_I0 (g := fun i j => i - j))
theorem g_cmpI (t : Trk X H) {g : Int → Int → Bool} {i j : Int} (ha : G X ta σ H (.int i)) (hb : G X tb σ H (.int j)) : G X (tOp (rI0 fun i j => V.bl (g i j)) ta tb) σ H (.bool (g i j)) := g_op t ha hb rb_I0.rd
theorem gt_cmpI (t : Trk X H) {g : Int → Int → Bool} {i j : Int} (ha : G X ta σ H (.int i)) (hb : G X tb σ H (.int j)) : GT (tTest (tOp (rI0 fun i j => V.bl (g i j)) ta tb)) σ H (g i j) := gt_op t ha hb rb_I0
theorem g_ixL (t : Trk X H) {ds : List PyData} {i : Int} {z : PyData} (ha : G X ta σ H (.list ds)) (hb : G X tb σ H (.int i)) (h : atI ds i = some z) : G X (tOp (rIx K) ta tb) σ H z := g_op t ha hb (rd_ixL h)
theorem g_ixT (t : Trk X H) {ds : List PyData} {i : Int} {z : PyData} (ha : G X ta σ H (.tuple ds)) (hb : G X tb σ H (.int i)) (h : atI ds i = some z) : G X (tOp (rIx K) ta tb) σ H z := g_op t ha hb (rd_ixT h)
/-- an item of a list or tuple -/
theorem g_ix (t : Trk X H) {i : Int} {z : PyData} (ha : G X ta σ H d) (hs : isSeq d = true) (hb : G X tb σ H (.int i)) (h : atI (itemsD d) i = some z) : G X (tOp (rIx K) ta tb) σ H z := by
  cases d with
  | list ds => exact g_ixL t ha hb h
  | tuple ds => exact g_ixT t ha hb h
  | _ => cases hs
theorem g_eqD (t : Trk X H) {x y : PyData} (ha : G X ta σ H x) (hb : G X tb σ H y) (hd : noDict x = true) (he : noDict y = true) (hs : SeqAt.shaped x = true) (ht : SeqAt.shaped y = true) : G X (tOp (rEqD K) ta tb) σ H (.bool (PyData.eqv x y)) := g_op t ha hb (rb_eqD hd he hs ht).rd
theorem gt_eqD (t : Trk X H) {x y : PyData} (ha : G X ta σ H x) (hb : G X tb σ H y) (hd : noDict x = true) (he : noDict y = true) (hs : SeqAt.shaped x = true) (ht : SeqAt.shaped y = true) : GT (tTest (tOp (rEqD K) ta tb)) σ H (PyData.eqv x y) := gt_op t ha hb (rb_eqD hd he hs ht)
theorem gt_neD (t : Trk X H) {x y : PyData} (ha : G X ta σ H x) (hb : G X tb σ H y) (hd : noDict x = true) (he : noDict y = true) (hs : SeqAt.shaped x = true) (ht : SeqAt.shaped y = true) : GT (tTest (tOp (rNeD K) ta tb)) σ H (!PyData.eqv x y) := gt_op t ha hb (rb_neD hd he hs ht)
end
/-! ### a list or a tuple walked -/
def iSeq (K : PySem.W.Frag) (tl : TE) : TI := fun σ H R => tl σ H fun x H1 => ∃ c, x = V.ref c ∧ (((∃ zs, SqL K H1 c zs) ∧ R (Itl K c) H1) ∨ ((∃ zs, SqT K H1 c zs) ∧ R (Itt K c) H1))
theorem pi_seq {Y : Cx} {tg l : Expr} {tl : TE} (hl : PE Y l tl) : PI Y tg l (iSeq Y.K tl) := by
  constructor
  intro pn st sl hh RR inv rd
  refine thn (hl.run pn st sl hh _ inv rd) ?_
  rintro val st1 ⟨x, hh1, inv1, rel, c, rfl, alt⟩
  cases rel
  have fresh := inv1.hok.fresh (Nat.le_refl st1.heap.objs.size)
  have fpk : ∀ b ∈ [st1.heap.objs.size], _ := fun b hb => by
    have eb := List.mem_singleton.mp hb
    exact eb ▸ inv1.fpOk (Nat.le_refl _) fresh
  rcases alt with ⟨⟨zs, sq⟩, rest⟩ | ⟨⟨zs, sq⟩, rest⟩
  · obtain ⟨us, _, pl, _⟩ := inv1.list sq
    exact wpAny_pyIter_list pl.isList
      ⟨_, _, _, _, _, rfl, inv1.kept (t' := st1.toks) (fun _ _ z => Heap.get?_push_of_some _ z), turn_list c _,
        ⟨_, Heap.get?_push_size _ rfl, rfl, rfl⟩, fpk, rest⟩
  · obtain ⟨us, _, pl, _⟩ := inv1.tuple sq
    exact wpAny_pyIter_tuple (items := us.toArray) pl
      ⟨_, _, _, _, _, rfl, inv1.kept (t' := st1.toks) (fun _ _ z => Heap.get?_push_of_some _ z), turn_tuple c _,
        ⟨_, Heap.get?_push_size _ rfl, rfl, rfl⟩, fpk, rest⟩
theorem gi_seq {X : Addr → Prop} {σ : L2.St} {H : Hp} {te : TE} {K : PySem.W.Frag} {d : PyData} (h : G X te σ H d) (hs : isSeq d = true) : GI X (iSeq K te) σ H (itemsD d) := by
  cases d with
  | list ds =>
      intro H1 s R r
      refine h H1 s _ fun v H2 s2 rv => ?_
      obtain ⟨a, xs, rfl, n, e, rx⟩ := rv.lst_inv
      obtain ⟨a', e', _, rr⟩ := gi_list (K := K) (te := fun _ H Q => Q (.ref a) H) (σ := σ) (H := H2) (X := X) (ds := ds) (fun H5 s5 Q5 q5 => q5 _ H5 (Same.refl _) (rv.mono (Kp.of s5))) H2 (Same.refl _) R (fun J H3 s3 => r J H3 (s2.trans s3))
      cases e'
      exact ⟨a, rfl, .inl ⟨⟨xs, SqL.of e⟩, rr⟩⟩
  | tuple ds =>
      intro H1 s R r
      refine h H1 s _ fun v H2 s2 rv => ?_
      obtain ⟨a, xs, rfl, n, e, rx⟩ := rv.tup_inv
      obtain ⟨a', e', _, rr⟩ := gi_tup (K := K) (te := fun _ H Q => Q (.ref a) H) (σ := σ) (H := H2) (X := X) (ds := ds) (fun H5 s5 Q5 q5 => q5 _ H5 (Same.refl _) (rv.mono (Kp.of s5))) H2 (Same.refl _) R (fun J H3 s3 => r J H3 (s2.trans s3))
      cases e'
      exact ⟨a, rfl, .inr ⟨⟨xs, SqT.of e⟩, rr⟩⟩
  | _ => cases hs
/-! ### data that may be compared: words, ints, lists of words -/
theorem shaped_int (i : Int) : SeqAt.shaped (.int i) = true := by simp [SeqAt.shaped, PyData.canLay0, PyData.depth]
theorem shaped_str {s : Str} (h : PyData.strOk s = true) : SeqAt.shaped (.str s) = true := by simp [SeqAt.shaped, PyData.canLay0, PyData.depth, h]
theorem canLay_strs : ∀ {ws : List Str}, (∀ w ∈ ws, PyData.strOk w = true) → PyData.canLayAll0 (ws.map PyData.str) = true
  | [], _ => by simp [PyData.canLayAll0]
  | w :: ws, h => by
    have h1 := h w List.mem_cons_self
    have h2 := canLay_strs (ws := ws) fun v hv => h v (List.mem_cons_of_mem _ hv)
    simp [PyData.canLayAll0, PyData.canLay0, h1, h2]
theorem depth_strs : ∀ ws : List Str, PyData.depthAll (ws.map PyData.str) ≤ 1
  | [] => by simp [PyData.depthAll]
  | w :: ws => by
    have := depth_strs ws
    simp only [List.map_cons, PyData.depthAll, PyData.depth]
    omega
theorem shaped_strs {ws : List Str} (h : ∀ w ∈ ws, PyData.strOk w = true) : SeqAt.shaped (.list (ws.map PyData.str)) = true := by
  have := depth_strs ws
  have h2 : PyData.depth (.list (ws.map PyData.str)) ≤ 64 := by
    simp only [PyData.depth]
    omega
  show ((PyData.list (ws.map PyData.str)).canLay0 && decide ((PyData.list (ws.map PyData.str)).depth ≤ 64)) = true
  rw [Bool.and_eq_true]
  exact ⟨by simp only [PyData.canLay0]; exact canLay_strs h, decide_eq_true h2⟩
theorem noDict_strs : ∀ ws : List Str, noDicts (ws.map PyData.str) = true
  | [] => by simp [noDicts]
  | w :: ws => by simp [noDicts, noDict, noDict_strs ws]
theorem eqv_strs : ∀ ws zs : List Str, PyData.eqvAll (ws.map PyData.str) (zs.map PyData.str) = decide (ws = zs)
  | [], [] => by simp [PyData.eqvAll]
  | [], z :: zs => by simp [PyData.eqvAll]
  | w :: ws, [] => by simp [PyData.eqvAll]
  | w :: ws, z :: zs => by
    simp only [List.map_cons, PyData.eqvAll, PyData.eqv, eqv_strs ws zs]
    by_cases h : w = z
    · subst h
      simp
    · have : (w == z) = false := by simpa using h
      rw [this]
      simp [h]
/-! ### what is new -/
def Nw (H : Hp) (v : V) : Prop := ∀ a, v = .ref a → H a = none
theorem Nw.back {H H1 : Hp} {v : V} (s : Same H H1) (n : Nw H1 v) : Nw H v := fun a e => s.free (n a e)
theorem Nw.of {H : Hp} {p : Addr} (h : H p = none) : Nw H (.ref p) := fun a e => by cases e; exact h
def GN (X : Addr → Prop) (te : TE) (σ : L2.St) (H : Hp) (d : PyData) : Prop := ∀ H1, Same H H1 → ∀ Q : VK, (∀ v H2, Same H1 H2 → DX X H2 v d → Nw H1 v → Q v H2) → te σ H1 Q
def sp2N (pre : PyData → PyData → Prop) (f : PyData → PyData → PyData) : Sp := fun vs H Q _ => ∃ (X : Addr → Prop) (v1 v2 : V) (d1 d2 : PyData), vs = [v1, v2] ∧ Trk X H ∧ DX X H v1 d1 ∧ DX X H v2 d2 ∧ pre d1 d2 ∧ ∀ w H', Same H H' → DX X H' w (f d1 d2) → Nw H w → Q w H'
section
variable {X : Addr → Prop} {σ : L2.St} {H : Hp} {te ta tb tc : TE} {d d1 d2 d3 : PyData} {E : XK} {K : PySem.W.Frag} {D : Ends}
theorem GN.g (h : GN X te σ H d) : G X te σ H d := fun H1 s Q q => h H1 s Q fun v H2 s2 dv _ => q v H2 s2 dv
theorem GN.is {e : PyData} (h : GN X te σ H d) (e' : d = e) : GN X te σ H e := e' ▸ h
theorem gn_lst {ta : TA} {ds : List PyData} (t : Trk X H) (h : GA X ta σ H ds) (hl : ds.length ≤ 1000000) : GN X (tLst ta) σ H (.list ds) := fun H1 s Q q =>
  h H1 s _ fun vs H2 s2 rs => ⟨by rw [rs.length, sizeLine_eq]; omega, fun p hp => q _ _ (s2.trans (Same.upd hp)) (DX.newL ((t.mono s).mono s2) rs hp) (Nw.back s2 (Nw.of hp))⟩
theorem gn_tup {ta : TA} {ds : List PyData} (t : Trk X H) (h : GA X ta σ H ds) (hl : ds.length ≤ 1000000) : GN X (tTup ta) σ H (.tuple ds) := fun H1 s Q q =>
  h H1 s _ fun vs H2 s2 rs => ⟨by rw [rs.length, sizeLine_eq]; omega, fun p hp => q _ _ (s2.trans (Same.upd hp)) (DX.newT ((t.mono s).mono s2) rs hp) (Nw.back s2 (Nw.of hp))⟩
theorem gn_listOf (t : Trk X H) (h : G X te σ H d) (hl : isSeq d = true) : GN X (tCB (fun xs H Q => ∃ p ys, xs = [V.ref p] ∧ (SqL K H p ys ∨ SqT K H p ys) ∧ ∀ l, H l = none → Q (V.ref l) (upd H l (.lst ys))) (tCons te tNil)) σ H (.list (itemsD d)) := fun H1 s Q q =>
  h H1 s _ fun v H2 s2 r => by
    cases r with
    | lst n e r => exact ⟨_, _, rfl, .inl (SqL.of e), fun l hl => q _ _ (s2.trans (Same.upd hl)) (DX.newL ((t.mono s).mono s2) r hl) (Nw.back s2 (Nw.of hl))⟩
    | tup n e r => exact ⟨_, _, rfl, .inr (SqT.of e), fun l hl => q _ _ (s2.trans (Same.upd hl)) (DX.newL ((t.mono s).mono s2) r hl) (Nw.back s2 (Nw.of hl))⟩
    | _ => exact absurd hl (by simp [isSeq])
theorem gn_cat (t : Trk X H) {xs ys : List PyData} (ha : G X ta σ H (.list xs)) (hb : G X tb σ H (.list ys)) (hl : xs.length + ys.length ≤ 1000000) : GN X (tOp rAddA ta tb) σ H (.list (xs ++ ys)) := fun H1 s Q q =>
  ha H1 s _ fun u H2 s2 ru => hb H2 (s.trans s2) _ fun v H3 s3 rv => by
    obtain ⟨a, us, rfl, _, ea, rs⟩ := (ru.mono (Kp.of s3)).lst_inv
    obtain ⟨b, ws, rfl, _, eb, rt⟩ := rv.lst_inv
    exact .inr (.inl ⟨a, b, us, ws, rfl, rfl, ea, eb, by rw [rs.length, rt.length, sizeLine_eq]; omega, fun p hp => q _ _ ((s2.trans s3).trans (Same.upd hp)) (DX.newL (((t.mono s).mono s2).mono s3) (rs.append rt) hp) (Nw.back (s2.trans s3) (Nw.of hp))⟩)
theorem gn_call2 {pre : PyData → PyData → Prop} {f : PyData → PyData → PyData} (t : Trk X H) (h1 : G X ta σ H d1) (h2 : G X tb σ H d2) (hp : pre d1 d2) : GN X (tCall (sp2N pre f) [] E (tCons ta (tCons tb tNil))) σ H (f d1 d2) := fun H1 s Q q =>
  h1 H1 s _ fun v H2 s2 r => h2 H2 (s.trans s2) _ fun v2 H3 s3 r2 => ⟨X, v, v2, d1, d2, rfl, ((t.mono s).mono s2).mono s3, r.mono (Kp.of s3), r2, hp, fun w H' s4 dw nw => q w H' ((s2.trans s3).trans s4) dw (Nw.back (s2.trans s3) nw)⟩
theorem s_retN (h : GN X te σ H d) (q : ∀ w H', Same H H' → DX X H' w d → Nw H w → D.rt w H') : tRet te D σ H := h H (Same.refl H) _ q
end
section
variable {P : Program} {w : World} {K : PySem.W.Frag} {mg : Str → Option Value} {base : Heap} {x qual : Str} {st : Stmt} {f : Addr} {fd : FuncData} {N : List Str} {k : Nat} {a b c : Str}
theorem ok2N {pre : PyData → PyData → Prop} {g : PyData → PyData → PyData} (F : Fun K x qual st f fd) (S : FnScope N [a, b] (defScope st)) (hN : 2 ≤ N.length)
    (hbody : ∀ (cdv : Value) (A : Around) (outer : List Env) (s : Shared) (H : Hp) (E : XK) (X : Addr → Prop) (d1 d2 : PyData) (Q : VK), Room k (A.deeper (envOfC qual (defScope st) s.heap.objs.size f cdv)) → Trk X H → pre d1 d2 → (∀ w H', Same H H' → DX X H' w (g d1 d2) → Nw H w → Q w H') →
      ∃ t, PSs (cxOf CX0 P w K mg base N qual (defScope st) f cdv A outer s H E).nox (defBody st) t ∧ ∀ σ, EnvOk X H σ (pad N [.dat d1, .dat d2]) → t { nx := fun _ H' => Q .non H', rt := Q } σ H) : FnOk P w K mg base CX0 (k + 1) f fd [a, b] (sp2N pre g) := by
  refine F.ok S (fun vs H Q E h => ?_) (fun cdv A outer s H vs Q E hr h => ?_)
  · obtain ⟨X, v1, v2, d1, d2, rfl, _⟩ := h
    rfl
  · obtain ⟨X, v1, v2, d1, d2, rfl, t, r1, r2, hp, q⟩ := h
    obtain ⟨tt, h1, h2⟩ := hbody cdv A outer s H E X d1 d2 Q hr t hp q
    exact ⟨tt, h1, h2 _ (env2 r1 r2 hN)⟩
end
/-! ### a new list is no part of itself -/
mutual
theorem DX.fn {X X' : Addr → Prop} {H : Hp} : ∀ {v : V} {d d' : PyData}, DX X H v d → DX X' H v d' → d = d'
  | _, _, _, .non, k => by cases k; rfl
  | _, _, _, .bl b, k => by cases k; rfl
  | _, _, _, .int i, k => by cases k; rfl
  | _, _, _, .str x, k => by cases k; rfl
  | _, _, _, .lst n e r, k => by
    cases k with
    | lst n2 e2 r2 =>
      rw [e] at e2
      cases e2
      rw [DXs.fn r r2]
    | tup n2 e2 r2 => rw [e] at e2; cases e2
    | dic n2 e2 r2 => rw [e] at e2; cases e2
  | _, _, _, .tup n e r, k => by
    cases k with
    | tup n2 e2 r2 =>
      rw [e] at e2
      cases e2
      rw [DXs.fn r r2]
    | lst n2 e2 r2 => rw [e] at e2; cases e2
    | dic n2 e2 r2 => rw [e] at e2; cases e2
  | _, _, _, .dic n e r, k => by
    cases k with
    | dic n2 e2 r2 =>
      rw [e] at e2
      cases e2
      rw [DXk.fn r r2]
    | lst n2 e2 r2 => rw [e] at e2; cases e2
    | tup n2 e2 r2 => rw [e] at e2; cases e2
theorem DXs.fn {X X' : Addr → Prop} {H : Hp} : ∀ {v : List V} {d d' : List PyData}, DXs X H v d → DXs X' H v d' → d = d'
  | _, _, _, .nil, k => by cases k; rfl
  | _, _, _, .cons h r, k => by
    cases k with
    | cons h2 r2 => rw [DX.fn h h2, DXs.fn r r2]
theorem DXk.fn {X X' : Addr → Prop} {H : Hp} : ∀ {v : List (Key × V)} {d d' : List (PyData × PyData)}, DXk X H v d → DXk X' H v d' → d = d'
  | _, _, _, .nil, k => by cases k; rfl
  | _, _, _, .cons h r, k => by
    cases k with
    | cons h2 r2 => rw [DX.fn h h2, DXk.fn r r2]
end
mutual
theorem DX.apart {X : Addr → Prop} {H : Hp} {a : Addr} {D : PyData} (hD : DX X H (.ref a) D) : ∀ {v : V} {d : PyData}, DX X H v d → sizeOf d < sizeOf D → DX (fun b => X b ∨ b = a) H v d
  | _, _, .non, _ => .non
  | _, _, .bl b, _ => .bl b
  | _, _, .int i, _ => .int i
  | _, _, .str x, _ => .str x
  | .ref b, .list ds, .lst n e r, hs => by
    refine .lst (fun x => x.elim n fun q => ?_) e (DXs.apart hD r (by simp at hs; omega))
    subst q
    have e2 := hD.fn (X' := X) (DX.lst n e r)
    rw [e2] at hs
    omega
  | .ref b, .tuple ds, .tup n e r, hs => by
    refine .tup (fun x => x.elim n fun q => ?_) e (DXs.apart hD r (by simp at hs; omega))
    subst q
    have e2 := hD.fn (X' := X) (DX.tup n e r)
    rw [e2] at hs
    omega
  | .ref b, .dict ds, .dic n e r, hs => by
    refine .dic (fun x => x.elim n fun q => ?_) e (DXk.apart hD r (by simp at hs; omega))
    subst q
    have e2 := hD.fn (X' := X) (DX.dic n e r)
    rw [e2] at hs
    omega
theorem DXs.apart {X : Addr → Prop} {H : Hp} {a : Addr} {D : PyData} (hD : DX X H (.ref a) D) : ∀ {v : List V} {d : List PyData}, DXs X H v d → sizeOf d < sizeOf D → DXs (fun b => X b ∨ b = a) H v d
  | _, _, .nil, _ => .nil
  | _, _, .cons h r, hs => .cons (DX.apart hD h (by simp at hs; omega)) (DXs.apart hD r (by simp at hs; omega))
theorem DXk.apart {X : Addr → Prop} {H : Hp} {a : Addr} {D : PyData} (hD : DX X H (.ref a) D) : ∀ {v : List (Key × V)} {d : List (PyData × PyData)}, DXk X H v d → sizeOf d < sizeOf D → DXk (fun b => X b ∨ b = a) H v d
  | _, _, .nil, _ => .nil
  | _, _, .cons h r, hs => .cons (DX.apart hD h (by simp at hs; omega)) (DXk.apart hD r (by simp at hs; omega))
end
/-- the items of a list, apart from the list itself -/
theorem DX.inner {X : Addr → Prop} {H : Hp} {v : V} {ds : List PyData} (h : DX X H v (.list ds)) : ∃ a xs, v = .ref a ∧ ¬ X a ∧ H a = some (.lst xs) ∧ DXs (fun b => X b ∨ b = a) H xs ds := by
  cases h with
  | lst n e r => exact ⟨_, _, rfl, n, e, DXs.apart (DX.lst n e r) r (by simp)⟩
end KD

namespace K20
open PySem PySem.Spec PyProof.Rows L2 KD
def topS (i : Nat) : Stmt := PySem.Challenge.pw_patchlots_k20_whole_fewest_passes.main.body.getD i (.Pass ⟨0, 0, 0, 0⟩)
variable {P : Program} {w : World} {K : PySem.W.Frag} {mg : Str → Option Value} {base : Heap}

abbrev s_is_list : Stmt := topS 8
abbrev n_is_list : List Str := ["thing"]
theorem sc_is_list : FnScope n_is_list ["thing"] (defScope s_is_list) := ⟨rfl, rfl, rfl, by decide +kernel, rfl, by decide +kernel, by decide +kernel⟩
theorem ok_is_list {f : Addr} {fd : FuncData} (F : Fun K "is_list" "is_list" s_is_list f fd) (T : Bl mg) : FnOk P w K mg base CX0 1 f fd ["thing"] (sp1 (fun _ => True) fun d => .bool (isSeq d)) := by
  refine ok1 F sc_is_list (by decide) fun cdv A outer s H E X d Q hr t _ q => ⟨_, (pss_one (ps_ret (pe_callB call_isiT (by rfl) T.b_isinstance boot_isinstance (pa_cons (pv 0) (pa_cons (pe_tup (pa_cons (pe_bltn (v := .ty "list") (by rfl) T.b_list boot_list rfl) (pa_cons (pe_bltn (v := .ty "tuple") (by rfl) T.b_tuple boot_tuple rfl) pa_nil))) pa_nil))))), fun σ En => ?_⟩
  exact s_ret (g_isSeq (g_var En rfl)) q

def isIntD (d : PyData) : Bool := isa_int d && !isa_bool d
def isNumD : PyData → Bool
  | .int i => decide (0 ≤ i)
  | _ => false
theorem isIntD_int {d : PyData} (h : isIntD d = true) : ∃ i, d = .int i := by
  cases d <;> simp [isIntD, isa_int, isa_bool] at h ⊢
theorem isNumD_eq (d : PyData) : (∃ i, d = .int i ∧ isIntD d = true ∧ isNumD d = decide (0 ≤ i)) ∨ (isIntD d = false ∧ isNumD d = false) := by
  cases d <;> simp [isIntD, isa_int, isa_bool, isNumD]
abbrev s_is_integer : Stmt := topS 9
abbrev n_is_integer : List Str := ["thing"]
theorem sc_is_integer : FnScope n_is_integer ["thing"] (defScope s_is_integer) := ⟨rfl, rfl, rfl, by decide +kernel, rfl, by decide +kernel, by decide +kernel⟩
theorem ok_is_integer {f : Addr} {fd : FuncData} (F : Fun K "is_integer" "is_integer" s_is_integer f fd) (T : Bl mg) : FnOk P w K mg base CX0 1 f fd ["thing"] (sp1 (fun _ => True) fun d => .bool (isIntD d)) := by
  refine ok1 F sc_is_integer (by decide) fun cdv A outer s H E X d Q hr t _ q => ⟨_, (pss_one (ps_ret (pe_and (pe_callB call_isi (by rfl) T.b_isinstance boot_isinstance (pa_cons (pv 0) (pa_cons (pe_bltn (v := .ty "int") (by rfl) T.b_int boot_int rfl) pa_nil))) (pe_one (pe_not (pe_callB call_isi (by rfl) T.b_isinstance boot_isinstance (pa_cons (pv 0) (pa_cons (pe_bltn (v := .ty "bool") (by rfl) T.b_bool boot_bool rfl) pa_nil)))))))), fun σ En => ?_⟩
  exact s_ret (g_and (g_isInt (g_var En rfl)) fun _ => g_not (g_isBool (g_var En rfl))) q

abbrev s_is_number : Stmt := topS 10
abbrev n_is_number : List Str := ["thing"]
theorem sc_is_number : FnScope n_is_number ["thing"] (defScope s_is_number) := ⟨rfl, rfl, rfl, by decide +kernel, rfl, by decide +kernel, by decide +kernel⟩
theorem ok_is_number {f : Addr} {fd : FuncData} (F : Fun K "is_number" "is_number" s_is_number f fd) (T : Bl mg) (O_is_integer : Own P w K mg base CX0 1 "is_integer" ["thing"] (sp1 (fun _ => True) fun d => .bool (isIntD d))) : FnOk P w K mg base CX0 2 f fd ["thing"] (sp1 (fun _ => True) fun d => .bool (isNumD d)) := by
  refine ok1 F sc_is_number (by decide) fun cdv A outer s H E X d Q hr t _ q => ⟨_, (pss_one (ps_ret (pe_and (pe_own O_is_integer hr (by decide) (by rfl) (pa_cons (pv 0) pa_nil)) (pe_one (pe_cmpR op_ge (pv 0) pe_int (nomark _)))))), fun σ En => ?_⟩
  refine s_ret ?_ q
  rcases isNumD_eq d with ⟨i, rfl, h1, h2⟩ | ⟨h1, h2⟩
  · rw [h2]
    refine g_is (g_and (a := true) (b := decide (0 ≤ i)) (g_is (g_call1 t (g_var En rfl) trivial) (by rw [h1])) fun _ => ?_) rfl
    exact g_op t (g_var En rfl) g_int rb_I0.rd
  · rw [h2]
    exact g_and (a := false) (b := false) (g_is (g_call1 t (g_var En rfl) trivial) (by rw [h1])) fun z => absurd z (by decide)

-- HINT is_words in op_notIn_sign
def hasFeed (s : Str) : Bool := decide (10 ∈ s.cps.toList)
def isWordsD : PyData → Bool
  | .str s => decide (s.length ≤ 200) && !hasFeed s
  | _ => false
theorem rb_notInSign {X : Addr → Prop} {c : Nat} {s : Str} : RB X (fun x y H Q => ∃ (c : Nat) (z : Str), x = V.str ⟨#[c]⟩ ∧ y = V.str z ∧ Q (V.bl (!decide (c ∈ z.cps.toList))) H) (.str ⟨#[c]⟩) (.str s) (!decide (c ∈ s.cps.toList)) := fun H u v _ ru rv Q q => ⟨c, s, ru.str_inv, rv.str_inv, q⟩
def wordsPre : PyData → Prop
  | .str s => s.length ≤ 1000000
  | _ => True
abbrev s_is_words : Stmt := topS 13
abbrev n_is_words : List Str := ["thing"]
theorem sc_is_words : FnScope n_is_words ["thing"] (defScope s_is_words) := ⟨rfl, rfl, rfl, by decide +kernel, rfl, by decide +kernel, by decide +kernel⟩
theorem ok_is_words {f : Addr} {fd : FuncData} (F : Fun K "is_words" "is_words" s_is_words f fd) (T : Bl mg) : FnOk P w K mg base CX0 1 f fd ["thing"] (sp1 wordsPre fun d => .bool (isWordsD d)) := by
  refine ok1 F sc_is_words (by decide) fun cdv A outer s H E X d Q hr t hp q => ⟨_, (pss_one (ps_ret (pe_and (pe_callB call_isi (by rfl) T.b_isinstance boot_isinstance (pa_cons (pv 0) (pa_cons (pe_bltn (v := .ty "str") (by rfl) T.b_str boot_str rfl) pa_nil))) (pe_and (pe_cmpR op_le (pe_callB call_len (by rfl) T.b_len boot_len (pa_cons (pv 0) pa_nil)) pe_int (nomark _)) (pe_one (pe_cmpR op_notIn_sign pe_str (pv 0) (by rfl))))))), fun σ En => ?_⟩
  refine s_ret ?_ q
  by_cases h : ∃ z, d = .str z
  · obtain ⟨z, rfl⟩ := h
    refine g_is (g_and (a := true) (b := decide (z.length ≤ 200) && !hasFeed z) (g_is (g_isStr (g_var En rfl)) rfl) fun _ => ?_) (by simp [isWordsD])
    refine g_and (a := decide (z.length ≤ 200)) ?_ fun _ => ?_
    · refine g_is (g_cmpI t (g := fun i j => decide (i ≤ j)) (g_len t (g_var En rfl) (by simpa [hasLen, wordsPre] using hp)) g_int) ?_
      show PyData.bool (decide ((z.length : Int) ≤ 200)) = _
      congr 1
      exact decide_eq_decide.mpr (by omega)
    · exact g_op t g_str (g_var En rfl) rb_notInSign.rd
  · have e1 : isa_str d = false := by cases d <;> first | rfl | exact absurd ⟨_, rfl⟩ h
    have e2 : isWordsD d = false := by cases d <;> first | rfl | exact absurd ⟨_, rfl⟩ h
    rw [e2]
    exact g_is (g_and (a := false) (b := false) (g_is (g_isStr (g_var En rfl)) (by rw [e1])) fun z => absurd z (by decide)) rfl
abbrev s_first_false : Stmt := topS 14
abbrev n_first_false : List Str := ["tests", "index", "test"]
theorem sc_first_false : FnScope n_first_false ["tests"] (defScope s_first_false) := ⟨rfl, rfl, rfl, by decide +kernel, rfl, by decide +kernel, by decide +kernel⟩
def ffD : Nat → List PyData → PyData
  | _, [] => .none
  | i, .bool false :: _ => .int (i : Nat)
  | i, _ :: r => ffD (i + 1) r
def Bools (d : PyData) : Prop := ∃ bs : List Bool, d = .list (bs.map .bool) ∧ bs.length ≤ 100000
theorem ff_true (i : Nat) (r : List PyData) : ffD i (.bool true :: r) = ffD (i + 1) r := by simp [ffD]
theorem ok_first_false {f : Addr} {fd : FuncData} (F : Fun K "first_false" "first_false" s_first_false f fd) (T : Bl mg) : FnOk P w K mg base CX0 1 f fd ["tests"] (sp1 Bools fun d => ffD 0 (itemsD d)) := by
  refine ok1 F sc_first_false (by decide) fun cdv A outer s H E X d Q hr t hp q => ⟨_, (pss_cons (ps_for PassesOwn.never rfl (pi_enum (by rfl) T.b_enumerate (pa_cons (pv 0) pa_nil)) (pg_tup (n := 2) rfl (pgs_cons (pg_name (i := 1) sc_first_false.nd rfl (by first | exact Or.inl rfl | exact Or.inr rfl)) (pgs_cons (pg_name (i := 2) sc_first_false.nd rfl (by first | exact Or.inl rfl | exact Or.inr rfl)) pgs_nil)))
    (pss_one (ps_if (pt_not (pt_val (pv 2)))
    (pss_one (ps_ret (pv 1))) pss_nil)))
    (pss_one (ps_ret pe_non))), fun σ En => ?_⟩
  obtain ⟨bs, rfl, hl⟩ := hp
  have q : ∀ w H', Same H H' → DX X H' w (ffD 0 (bs.map PyData.bool)) → Q w H' := q
  refine s_forD (gi_enum (g_var En rfl)) (fun Hb i σ' H' => Same Hb H' ∧ Trk X H' ∧ EnvOk X H' σ' [.dat (.list (bs.map .bool)), .un, .un] ∧ ffD 0 (bs.map PyData.bool) = ffD i ((bs.drop i).map PyData.bool)) (fun Hb s => ⟨Same.refl _, t.mono s, En.same s, rfl⟩) (fun Hb i σ' H' p => ⟨Kp.of p.1, p.2.1⟩) ?_ ?_
  · rintro Hb i x d σ' H' H'' sb hd ⟨p1, p2, p3, p4⟩ s2 dx
    have hi : i < bs.length := by
      have := (List.getElem?_eq_some_iff.mp hd).1
      rw [enumD_len, List.length_map] at this
      exact this
    have hb : (bs.map PyData.bool)[i]? = some (.bool bs[i]) := by rw [List.getElem?_map, List.getElem?_eq_getElem hi]; rfl
    rw [enumD_get hb] at hd
    cases hd
    have edrop : bs.drop i = bs[i] :: bs.drop (i + 1) := List.drop_eq_getElem_cons hi
    refine g_pair dx fun u w h1 h2 => ?_
    have E2 := ((p3.same s2).set (i := 1) h1).set (i := 2) h2
    refine s_if (gt_not (gt_B (g_var E2 rfl))) (fun hb H1 s3 => ?_) (fun hb H1 s3 => ?_)
    · have e : bs[i] = false := by simpa using hb
      refine s_ret (g_var (E2.same s3) rfl) fun w H2 s4 dw => q w H2 ((((sb.trans p1).trans s2).trans s3).trans s4) ?_
      rw [p4, edrop, e]
      exact dw
    · have e : bs[i] = true := by simpa using hb
      refine ⟨(p1.trans s2).trans s3, (p2.mono s2).mono s3, ?_, ?_⟩
      · have E3 := (E2.same s3)
        exact ⟨E3.len, fun j sv e => by
          match j, e with
          | 0, e => exact E3.get 0 _ e
          | 1, e => cases e; trivial
          | 2, e => cases e; trivial⟩
      · rw [p4, edrop, e]
        exact ff_true i _
  · rintro Hb σ' H' sb ⟨p1, p2, p3, p4⟩
    rw [enumD_len, List.length_map, List.drop_length] at p4
    refine s_ret (σ := σ') (X := X) (D := { nx := fun _ H' => Q .non H', rt := Q }) g_non fun w H2 s4 dw => q w H2 ((sb.trans p1).trans s4) ?_
    rw [p4]
    exact dw

def wordsAll (d : PyData) : Prop := isSeq d = true → (itemsD d).length ≤ 100000 ∧ ∀ z ∈ itemsD d, wordsPre z
def wrongD (d : PyData) : PyData := if isSeq d then ffD 0 ((itemsD d).map fun z => .bool (isWordsD z)) else .int 0
-- HINT wrong_words it pi_seq
abbrev s_wrong_words : Stmt := topS 15
abbrev n_wrong_words : List Str := ["things", "thing"]
theorem sc_wrong_words : FnScope n_wrong_words ["things"] (defScope s_wrong_words) := ⟨rfl, rfl, rfl, by decide +kernel, rfl, by decide +kernel, by decide +kernel⟩
theorem ok_wrong_words {f : Addr} {fd : FuncData} (F : Fun K "wrong_words" "wrong_words" s_wrong_words f fd) (T : Bl mg) (O_is_list : Own P w K mg base CX0 1 "is_list" ["thing"] (sp1 (fun _ => True) fun d => .bool (isSeq d)))
    (O_is_words : Own P w K mg base CX0 1 "is_words" ["thing"] (sp1 wordsPre fun d => .bool (isWordsD d))) (O_first_false : Own P w K mg base CX0 1 "first_false" ["tests"] (sp1 Bools fun d => ffD 0 (itemsD d))) :
    FnOk P w K mg base CX0 2 f fd ["things"] (sp1 wordsAll wrongD) := by
  refine ok1 F sc_wrong_words (by decide) fun cdv A outer s H E X d Q hr t hp q => ⟨_, (pss_cons (ps_if (pt_not (pt_val (pe_own O_is_list hr (by decide) (by rfl) (pa_cons (pv 0) pa_nil))))
    (pss_one (ps_ret pe_int)) pss_nil)
    (pss_one (ps_ret (pe_own O_first_false hr (by decide) (by rfl) (pa_cons (pe_lc (own := [("thing", 1)]) (g := (gName 1)) (tt := tYes) rfl sc_wrong_words.nd (pi_seq (pv 0)) (blkOk_by (N := n_wrong_words) (sc := defScope s_wrong_words) (by decide +kernel)) (fun _ _ _ _ _ => (pg_name (i := 1) sc_wrong_words.nd rfl (by first | exact Or.inl rfl | exact Or.inr rfl))) (fun _ _ _ _ _ => pts_nil) (fun _ _ _ _ _ => (pe_own O_is_words hr (by decide) (by rfl) (pa_cons (pv 1) pa_nil)))) pa_nil))))), fun σ En => ?_⟩
  refine q_if (gt_not (gt_B (g_call1 t (g_var En rfl) trivial))) (fun hb H1 s1 => ?_) (fun hb H1 s1 => ?_)
  · have e : isSeq d = false := by simpa using hb
    refine s_ret (X := X) g_int fun w H2 s2 dw => q w H2 (s1.trans s2) ?_
    unfold wrongD
    rw [e]
    exact dw
  · have e : isSeq d = true := by simpa using hb
    obtain ⟨hl, hw⟩ := hp e
    have t1 := t.mono s1
    have q' : ∀ w H', Same H1 H' → DX X H' w (ffD 0 ((itemsD d).map fun z => .bool (isWordsD z))) → Q w H' := fun w H2 s2 dw => q w H2 (s1.trans s2) (by unfold wrongD; rw [e]; exact dw)
    refine s_ret (X := X) (g_is (g_call1 t1 (d := .list ((itemsD d).map fun z => .bool (isWordsD z))) (g_lc1 (Γ2 := fun z => [.dat d, .dat z]) (fun z => .bool (isWordsD z)) t1 (gi_seq (g_var (En.same s1) rfl) e) (by omega) (fun H2 s2 z _ => tgt_name ((En.same s1).same s2)) (fun X' H2 σ2 z hz t2 E2 => g_call1 t2 (g_var E2 rfl) (hw z hz))) ⟨(itemsD d).map isWordsD, by simp [List.map_map], by simpa using hl⟩) rfl) q'

def it (d : PyData) (i : Nat) : PyData := (itemsD d).getD i .none
def ch3 (d : PyData) : Bool := isSeq d && (decide ((itemsD d).length = 3) && isNumD (it d 0))
def isChangeD (d : PyData) : Bool := ch3 d && (isNone (wrongD (it d 1)) && isNone (wrongD (it d 2))) && decide (0 < lenD (it d 1) + lenD (it d 2))
def chPre (d : PyData) : Prop := isSeq d = true → (itemsD d).length ≤ 100000 ∧ ∀ z ∈ itemsD d, wordsAll z
theorem lenD_seq {d : PyData} (h : isSeq d = true) : lenD d = (itemsD d).length := by cases d <;> first | rfl | cases h
theorem hasLen_seq {d : PyData} (h : isSeq d = true) : hasLen d = true := by cases d <;> first | rfl | cases h
theorem wrong_seq {d : PyData} (h : isNone (wrongD d) = true) : isSeq d = true := by
  cases e : isSeq d with
  | true => rfl
  | false =>
    unfold wrongD at h
    rw [e] at h
    simp [isNone] at h
theorem it_at {d : PyData} {i : Nat} {k : Int} (hk : k = (i : Int)) (h : i < (itemsD d).length) : atI (itemsD d) k = some (it d i) := by
  subst hk
  refine atI_nat ?_
  unfold it
  rw [List.getElem?_eq_getElem h, List.getD_eq_getElem?_getD, List.getElem?_eq_getElem h]
  rfl
theorem it_mem {d : PyData} {i : Nat} (h : i < (itemsD d).length) : it d i ∈ itemsD d := by
  unfold it
  rw [List.getD_eq_getElem?_getD, List.getElem?_eq_getElem h]
  exact List.getElem_mem h
theorem eqv_int (i j : Int) : PyData.eqv (.int i) (.int j) = decide (i = j) := by
  simp only [PyData.eqv]
  by_cases h : i = j
  · subst h; simp
  · rw [decide_eq_false h]; simpa using h
theorem gt_neI {X : Addr → Prop} {ta tb : TE} {σ : L2.St} {H : Hp} {K : PySem.W.Frag} {i j : Int} (t : Trk X H) (ha : G X ta σ H (.int i)) (hb : G X tb σ H (.int j)) : GT (tTest (tOp (rNeD K) ta tb)) σ H (!decide (i = j)) := by
  rw [← eqv_int]
  exact gt_neD t ha hb rfl rfl (shaped_int i) (shaped_int j)
theorem gt_eqI {X : Addr → Prop} {ta tb : TE} {σ : L2.St} {H : Hp} {K : PySem.W.Frag} {i j : Int} (t : Trk X H) (ha : G X ta σ H (.int i)) (hb : G X tb σ H (.int j)) : GT (tTest (tOp (rEqD K) ta tb)) σ H (decide (i = j)) := by
  rw [← eqv_int]
  exact gt_eqD t ha hb rfl rfl (shaped_int i) (shaped_int j)
abbrev s_is_change : Stmt := topS 19
abbrev n_is_change : List Str := ["thing"]
theorem sc_is_change : FnScope n_is_change ["thing"] (defScope s_is_change) := ⟨rfl, rfl, rfl, by decide +kernel, rfl, by decide +kernel, by decide +kernel⟩
theorem ok_is_change {f : Addr} {fd : FuncData} (F : Fun K "is_change" "is_change" s_is_change f fd) (T : Bl mg) (O_is_list : Own P w K mg base CX0 1 "is_list" ["thing"] (sp1 (fun _ => True) fun d => .bool (isSeq d)))
    (O_is_number : Own P w K mg base CX0 2 "is_number" ["thing"] (sp1 (fun _ => True) fun d => .bool (isNumD d))) (O_wrong_words : Own P w K mg base CX0 2 "wrong_words" ["things"] (sp1 wordsAll wrongD)) :
    FnOk P w K mg base CX0 3 f fd ["thing"] (sp1 chPre fun d => .bool (isChangeD d)) := by
  refine ok1 F sc_is_change (by decide) fun cdv A outer s H E X d Q hr t hp q => ⟨_, (pss_cons (ps_if (PW.pt (pw_or (pt_not (pt_val (pe_own O_is_list hr (by decide) (by rfl) (pa_cons (pv 0) pa_nil)))) (pw_or (pt_cmpR (op_neD hr.units) (pe_callB call_len (by rfl) T.b_len boot_len (pa_cons (pv 0) pa_nil)) pe_int (nomark _)) (pw_or1 (pt_not (pt_val (pe_own O_is_number hr (by decide) (by rfl) (pa_cons (pe_ix ix_seq (pv 0) pe_int (fun _ _ => rfl)) pa_nil))))))))
    (pss_one (ps_ret pe_bl)) pss_nil)
    (pss_cons (ps_if (PW.pt (pw_or (pt_cmpR op_notN (pe_own O_wrong_words hr (by decide) (by rfl) (pa_cons (pe_ix ix_seq (pv 0) pe_int (fun _ _ => rfl)) pa_nil)) pe_non (nomark _)) (pw_or1 (pt_cmpR op_notN (pe_own O_wrong_words hr (by decide) (by rfl) (pa_cons (pe_ix ix_seq (pv 0) pe_int (fun _ _ => rfl)) pa_nil)) pe_non (nomark _)))))
    (pss_one (ps_ret pe_bl)) pss_nil)
    (pss_one (ps_ret (pe_cmpR op_gt (pe_op op_addA (pe_callB call_len (by rfl) T.b_len boot_len (pa_cons (pe_ix ix_seq (pv 0) pe_int (fun _ _ => rfl)) pa_nil)) (pe_callB call_len (by rfl) T.b_len boot_len (pa_cons (pe_ix ix_seq (pv 0) pe_int (fun _ _ => rfl)) pa_nil))) pe_int (nomark _)))))), fun σ En => ?_⟩
  have v0 : ∀ {H1}, Same H H1 → G X (tVar 0) σ H1 d := fun s => g_var (En.same s) rfl
  refine q_if (b := !isSeq d || !(decide ((itemsD d).length = 3) && isNumD (it d 0))) (gt_or (gt_not (gt_B (g_call1 t (v0 (Same.refl H)) trivial))) (fun ha => ?_)) (fun hb H1 s1 => ?_) (fun hb H1 s1 => ?_)
  · have e : isSeq d = true := by simpa using ha
    refine gt_is (gt_or (a := !decide ((itemsD d).length = 3)) (b := !isNumD (it d 0)) (gt_is (gt_neI t (g_len t (v0 (Same.refl H)) (hasLen_seq e)) g_int) ?_) fun hl => gt_not (gt_B (g_call1 t (g_ix t (v0 (Same.refl H)) e g_int (it_at (i := 0) rfl ?_)) trivial))) ?_
    · rw [lenD_seq e]
      congr 1
      exact decide_eq_decide.mpr (by omega)
    · have : (itemsD d).length = 3 := by simpa using hl
      omega
    · simp
  · refine s_ret (X := X) g_bl fun w H2 s2 dw => q w H2 (s1.trans s2) ?_
    have e : ch3 d = false := by
      unfold ch3
      cases h : isSeq d <;> simp [h] at hb ⊢
      exact fun h3 => hb.resolve_left fun n => n h3
    unfold isChangeD
    rw [e]
    exact dw
  · have hb' : isSeq d = true ∧ (itemsD d).length = 3 ∧ isNumD (it d 0) = true := by simpa using hb
    obtain ⟨e, hl, hn⟩ := hb'
    have hc : ch3 d = true := by simp [ch3, e, hl, hn]
    obtain ⟨_, hw⟩ := hp e
    have t1 := t.mono s1
    have w1 : wordsAll (it d 1) := hw _ (it_mem (by omega))
    have w2 : wordsAll (it d 2) := hw _ (it_mem (by omega))
    have i1 : ∀ {H2}, Same H1 H2 → G X (tOp (rIx K) (tVar 0) (tC (.int 1))) σ H2 (it d 1) := fun s2 => g_ix (t1.mono s2) (v0 (s1.trans s2)) e g_int (it_at (i := 1) rfl (by omega))
    have i2 : ∀ {H2}, Same H1 H2 → G X (tOp (rIx K) (tVar 0) (tC (.int 2))) σ H2 (it d 2) := fun s2 => g_ix (t1.mono s2) (v0 (s1.trans s2)) e g_int (it_at (i := 2) rfl (by omega))
    have r1 := Same.refl H1
    refine q_if (gt_or (a := !isNone (wrongD (it d 1))) (b := !isNone (wrongD (it d 2))) (gt_op t1 (g_call1 t1 (i1 r1) w1) g_non rb_notN) fun _ => gt_op t1 (g_call1 t1 (i2 r1) w2) g_non rb_notN) (fun hb H2 s2 => ?_) (fun hb H2 s2 => ?_)
    · refine s_ret (X := X) g_bl fun w H3 s3 dw => q w H3 ((s1.trans s2).trans s3) ?_
      have e2 : (isNone (wrongD (it d 1)) && isNone (wrongD (it d 2))) = false := by
        cases h1 : isNone (wrongD (it d 1)) <;> cases h2 : isNone (wrongD (it d 2)) <;> simp [h1, h2] at hb ⊢
      unfold isChangeD
      rw [e2, Bool.and_false]
      exact dw
    · have hb' : isNone (wrongD (it d 1)) = true ∧ isNone (wrongD (it d 2)) = true := by simpa using hb
      obtain ⟨n1, n2⟩ := hb'
      have t2 := t1.mono s2
      refine s_ret (X := X) (d := .bool (isChangeD d)) (g_is (g_cmpI t2 (g := fun i j => decide (j < i)) (g_addI t2 (g_len t2 (i1 s2) (hasLen_seq (wrong_seq n1))) (g_len t2 (i2 s2) (hasLen_seq (wrong_seq n2)))) g_int) ?_) fun w H3 s3 dw => q w H3 ((s1.trans s2).trans s3) dw
      unfold isChangeD
      rw [hc, n1, n2, Bool.true_and, Bool.true_and, Bool.true_and]
      congr 1
      exact decide_eq_decide.mpr (by omega)
/-! ### texts and told changes -/
def wsD (ws : List Str) : PyData := .list (ws.map .str)
def chD (p : Int) (os ns : List Str) : PyData := .tuple [.int p, wsD os, wsD ns]
def WsOk (ws : List Str) : Prop := ws.length ≤ 1000 ∧ ∀ z ∈ ws, PyData.strOk z = true
theorem sIx_nn {n d : Nat} {p : Int} (h : 0 ≤ p) : HT.sIx n d (some p) = min p.toNat n := by
  show (if p < 0 then (p + (n : Int)).toNat else min p.toNat n) = min p.toNat n
  rw [if_neg (by omega)]
theorem cutD_map (ws : List Str) (lo hi : Option Int) : cutPD (ws.map PyData.str) lo hi = ((ws.drop (HT.sIx ws.length 0 lo)).take (HT.sIx ws.length ws.length hi - HT.sIx ws.length 0 lo)).map PyData.str := by
  unfold cutPD
  rw [List.length_map, List.map_take, List.map_drop]
theorem cut_lo (ws : List Str) {p q : Int} (hp : 0 ≤ p) (hq : p ≤ q) : cutPD (ws.map PyData.str) (some p) (some q) = ((ws.drop p.toNat).take (q.toNat - p.toNat)).map PyData.str := by
  rw [cutD_map, sIx_nn hp, sIx_nn (by omega)]
  congr 1
  by_cases h : p.toNat ≤ ws.length
  · rw [Nat.min_eq_left h]
    apply List.ext_getElem?
    intro n
    simp only [List.getElem?_take, List.getElem?_drop]
    by_cases hn : n < q.toNat - p.toNat
    · rw [if_pos hn]
      split
      · rfl
      · exact (List.getElem?_eq_none (by omega)).symm
    · rw [if_neg hn, if_neg (by omega)]
  · rw [List.drop_eq_nil_of_le (by omega), List.drop_eq_nil_of_le (by omega), List.take_nil, List.take_nil]
theorem cut_hi (ws : List Str) {q : Int} (hq : 0 ≤ q) : cutPD (ws.map PyData.str) none (some q) = (ws.take q.toNat).map PyData.str := by
  rw [cutD_map, sIx_nn hq, HT.sIx_none, List.drop_zero, Nat.sub_zero]
  congr 1
  by_cases h : q.toNat ≤ ws.length
  · rw [Nat.min_eq_left h]
  · rw [Nat.min_eq_right (by omega), List.take_of_length_le (Nat.le_refl _), List.take_of_length_le (by omega)]
theorem cut_from (ws : List Str) {p : Int} (hp : 0 ≤ p) : cutPD (ws.map PyData.str) (some p) none = (ws.drop p.toNat).map PyData.str := by
  rw [cutD_map, sIx_nn hp, HT.sIx_none]
  congr 1
  by_cases h : p.toNat ≤ ws.length
  · rw [Nat.min_eq_left h, List.take_of_length_le (by rw [List.length_drop]; omega)]
  · rw [Nat.min_eq_right (by omega), List.drop_eq_nil_of_le (Nat.le_refl _), List.drop_eq_nil_of_le (by omega), List.take_nil]
theorem sl_from {X : Addr → Prop} {te ta : TE} {σ : L2.St} {H : Hp} {ws : List Str} {p : Int} (t : Trk X H) (h : G X te σ H (wsD ws)) (ha : G X ta σ H (.int p)) (hp : 0 ≤ p) : G X (tSl (rSlL K) te (tPart ta) tNoPart) σ H (wsD (ws.drop p.toNat)) := by
  refine g_is (g_sl t h (go_some ha) go_none) ?_
  rw [cut_from _ hp]
  rfl
theorem sl_to {X : Addr → Prop} {te ta : TE} {σ : L2.St} {H : Hp} {ws : List Str} {p : Int} (t : Trk X H) (h : G X te σ H (wsD ws)) (ha : G X ta σ H (.int p)) (hp : 0 ≤ p) : G X (tSl (rSlL K) te tNoPart (tPart ta)) σ H (wsD (ws.take p.toNat)) := by
  refine g_is (g_sl t h go_none (go_some ha)) ?_
  rw [cut_hi _ hp]
  rfl
theorem sl_mid {X : Addr → Prop} {te ta tb : TE} {σ : L2.St} {H : Hp} {ws : List Str} {p q : Int} (t : Trk X H) (h : G X te σ H (wsD ws)) (ha : G X ta σ H (.int p)) (hb : G X tb σ H (.int q)) (hp : 0 ≤ p) (hq : p ≤ q) : G X (tSl (rSlL K) te (tPart ta) (tPart tb)) σ H (wsD ((ws.drop p.toNat).take (q.toNat - p.toNat))) := by
  refine g_is (g_sl t h (go_some ha) (go_some hb)) ?_
  rw [cut_lo _ hp hq]
  rfl
theorem len_ws {X : Addr → Prop} {te : TE} {σ : L2.St} {H : Hp} {ws : List Str} (t : Trk X H) (h : G X te σ H (wsD ws)) : G X (tCB (fun xs H Q => ∃ x n, xs = [x] ∧ LenV K x H n ∧ Q (V.int n) H) (tCons te tNil)) σ H (.int (ws.length : Int)) := by
  refine g_is (g_len t h rfl) ?_
  show PyData.int (((ws.map PyData.str).length : Nat) : Int) = _
  rw [List.length_map]
theorem cat_ws {X : Addr → Prop} {ta tb : TE} {σ : L2.St} {H : Hp} {ws zs : List Str} (t : Trk X H) (ha : G X ta σ H (wsD ws)) (hb : G X tb σ H (wsD zs)) (hl : ws.length + zs.length ≤ 1000000) : G X (tOp rAddA ta tb) σ H (wsD (ws ++ zs)) := by
  refine g_is (g_cat t ha hb (by rw [List.length_map, List.length_map]; exact hl)) ?_
  rw [← List.map_append]
  rfl
theorem catn_ws {X : Addr → Prop} {ta tb : TE} {σ : L2.St} {H : Hp} {ws zs : List Str} (t : Trk X H) (ha : G X ta σ H (wsD ws)) (hb : G X tb σ H (wsD zs)) (hl : ws.length + zs.length ≤ 1000000) : GN X (tOp rAddA ta tb) σ H (wsD (ws ++ zs)) := by
  refine GN.is (gn_cat t ha hb (by rw [List.length_map, List.length_map]; exact hl)) ?_
  rw [← List.map_append]
  rfl
theorem WsOk.take {ws : List Str} (h : WsOk ws) (n : Nat) : WsOk (ws.take n) := ⟨by rw [List.length_take]; have := h.1; omega, fun z hz => h.2 z (List.mem_of_mem_take hz)⟩
theorem WsOk.drop {ws : List Str} (h : WsOk ws) (n : Nat) : WsOk (ws.drop n) := ⟨by rw [List.length_drop]; have := h.1; omega, fun z hz => h.2 z (List.mem_of_mem_drop hz)⟩

def fitsB (ws : List Str) (p : Int) (os : List Str) : Bool := decide (p ≤ ws.length) && decide ((ws.drop p.toNat).take os.length = os)
/-- a text and a told change -/
def TC (a b : PyData) : Prop := ∃ ws p os ns, a = wsD ws ∧ b = chD p os ns ∧ WsOk ws ∧ WsOk os ∧ WsOk ns ∧ 0 ≤ p
def wsOf (d : PyData) : List Str := (itemsD d).map fun z => match z with | .str s => s | _ => default
theorem wsOf_wsD (ws : List Str) : wsOf (wsD ws) = ws := by
  show (ws.map PyData.str).map _ = ws
  rw [List.map_map]
  exact (List.map_congr_left fun _ _ => rfl).trans (List.map_id ws)
def intOf : PyData → Int
  | .int i => i
  | _ => 0
abbrev s_fits : Stmt := topS 22
abbrev n_fits : List Str := ["text", "change", "place", "old", "_"]
theorem sc_fits : FnScope n_fits ["text", "change"] (defScope s_fits) := ⟨rfl, rfl, rfl, by decide +kernel, rfl, by decide +kernel, by decide +kernel⟩
theorem ok_fits {f : Addr} {fd : FuncData} (F : Fun K "fits" "fits" s_fits f fd) (T : Bl mg) : FnOk P w K mg base CX0 1 f fd ["text", "change"] (sp2 TC fun a b => .bool (fitsB (wsOf a) (intOf (it b 0)) (wsOf (it b 1)))) := by
  refine ok2 F sc_fits (by decide) fun cdv A outer s H E X d1 d2 Q hr t hp q => ⟨_, (pss_cons (ps_asg (pv 1) (pg_tup (n := 3) rfl (pgs_cons (pg_name (i := 2) sc_fits.nd rfl (by first | exact Or.inl rfl | exact Or.inr rfl)) (pgs_cons (pg_name (i := 3) sc_fits.nd rfl (by first | exact Or.inl rfl | exact Or.inr rfl)) (pgs_cons (pg_name (i := 4) sc_fits.nd rfl (by first | exact Or.inl rfl | exact Or.inr rfl)) pgs_nil)))))
    (pss_one (ps_ret (pe_and (pe_cmpR op_le (pv 2) (pe_callB call_len (by rfl) T.b_len boot_len (pa_cons (pv 0) pa_nil)) (nomark _)) (pe_one (pe_cmpR (op_eqD hr.units) (pe_slice sl_list (pv 0) (po_some (pv 2)) (po_some (pe_op op_addA (pv 2) (pe_callB call_len (by rfl) T.b_len boot_len (pa_cons (pv 3) pa_nil))))) (pv 3) (nomark _))))))), fun σ En => ?_⟩
  obtain ⟨ws, p, os, ns, rfl, rfl, h1, h2, h3, h0⟩ := hp
  have q' : ∀ w H', Same H H' → DX X H' w (.bool (fitsB ws p os)) → Q w H' := fun w H' s dw => q w H' s (by
    rw [wsOf_wsD]
    show DX X H' w (.bool (fitsB ws p (wsOf (wsD os))))
    rw [wsOf_wsD]
    exact dw)
  refine q_asg (g_var (d := chD p os ns) En rfl) fun H1 v s1 dv => ?_
  refine g_triple dv fun u1 u2 u3 r1 r2 r3 => ?_
  have E2 := (((En.same s1).set (i := 2) r1).set (i := 3) r2).set (i := 4) r3
  have t1 := t.mono s1
  refine s_ret (g_and (a := decide (p ≤ ws.length)) (b := decide ((ws.drop p.toNat).take os.length = os)) (g_cmpI t1 (g := fun i j => decide (i ≤ j)) (g_var E2 rfl) (len_ws t1 (g_var E2 rfl))) fun _ => ?_) fun w H2 s2 dw => q' w H2 (s1.trans s2) dw
  have e : (p + (os.length : Int)).toNat - p.toNat = os.length := by omega
  refine g_is (g_eqD t1 (sl_mid t1 (g_var E2 rfl) (g_var E2 rfl) (g_addI t1 (g_var E2 rfl) (len_ws t1 (g_var E2 rfl))) h0 (by omega)) (g_var E2 rfl) (noDict_strs _) (noDict_strs _) (shaped_strs ((h1.drop _).take _).2) (shaped_strs h2.2)) ?_
  show PyData.bool (PyData.eqv (.list _) (.list _)) = _
  simp only [PyData.eqv, eqv_strs]
  rw [e]

abbrev s_put_in : Stmt := topS 23
abbrev n_put_in : List Str := ["text", "change", "place", "old", "new"]
theorem sc_put_in : FnScope n_put_in ["text", "change"] (defScope s_put_in) := ⟨rfl, rfl, rfl, by decide +kernel, rfl, by decide +kernel, by decide +kernel⟩
def putB (ws : List Str) (p : Int) (os ns : List Str) : List Str := ws.take p.toNat ++ ns ++ ws.drop (p.toNat + os.length)
theorem ok_put_in {f : Addr} {fd : FuncData} (F : Fun K "put_in" "put_in" s_put_in f fd) (T : Bl mg) : FnOk P w K mg base CX0 1 f fd ["text", "change"] (sp2N TC fun a b => wsD (putB (wsOf a) (intOf (it b 0)) (wsOf (it b 1)) (wsOf (it b 2)))) := by
  refine ok2N F sc_put_in (by decide) fun cdv A outer s H E X d1 d2 Q hr t hp q => ⟨_, (pss_cons (ps_asg (pv 1) (pg_tup (n := 3) rfl (pgs_cons (pg_name (i := 2) sc_put_in.nd rfl (by first | exact Or.inl rfl | exact Or.inr rfl)) (pgs_cons (pg_name (i := 3) sc_put_in.nd rfl (by first | exact Or.inl rfl | exact Or.inr rfl)) (pgs_cons (pg_name (i := 4) sc_put_in.nd rfl (by first | exact Or.inl rfl | exact Or.inr rfl)) pgs_nil)))))
    (pss_one (ps_ret (pe_op op_addA (pe_op op_addA (pe_slice sl_list (pv 0) po_none (po_some (pv 2))) (pv 4)) (pe_slice sl_list (pv 0) (po_some (pe_op op_addA (pv 2) (pe_callB call_len (by rfl) T.b_len boot_len (pa_cons (pv 3) pa_nil)))) po_none))))), fun σ En => ?_⟩
  obtain ⟨ws, p, os, ns, rfl, rfl, h1, h2, h3, h0⟩ := hp
  have q' : ∀ w H', Same H H' → DX X H' w (wsD (putB ws p os ns)) → Nw H w → Q w H' := fun w H' s dw nw => q w H' s (by
    rw [wsOf_wsD]
    show DX X H' w (wsD (putB ws p (wsOf (wsD os)) (wsOf (wsD ns))))
    rw [wsOf_wsD, wsOf_wsD]
    exact dw) nw
  refine q_asg (g_var (d := chD p os ns) En rfl) fun H1 v s1 dv => ?_
  refine g_triple dv fun u1 u2 u3 r1 r2 r3 => ?_
  have E2 := (((En.same s1).set (i := 2) r1).set (i := 3) r2).set (i := 4) r3
  have t1 := t.mono s1
  have l1 := h1.1
  have l2 := h2.1
  have l3 := h3.1
  refine s_retN (GN.is (catn_ws t1 (cat_ws t1 (sl_to t1 (g_var E2 rfl) (g_var E2 rfl) h0) (g_var E2 rfl) ?_) (sl_from t1 (g_var E2 rfl) (g_addI t1 (g_var E2 rfl) (len_ws t1 (g_var E2 rfl))) (by omega)) ?_) ?_) fun w H2 s2 dw nw => q' w H2 (s1.trans s2) dw (Nw.back s1 nw)
  · rw [List.length_take]
    omega
  · rw [List.length_append, List.length_take, List.length_drop]
    omega
  · unfold putB
    rw [show (p + (os.length : Int)).toNat = p.toNat + os.length from by omega]
end K20

namespace KD
open PySem PySem.Spec PyProof.Rows L2
/-! ### own errors with one field -/
def spInit (C : Addr) (f : Str) : Sp := fun vs H Q _ => ∃ (a : Addr) (y : V), vs = [.ref a, y] ∧ H a = some (exo a C none) ∧ ∀ d, H d = none → d ≠ a → Q .non (upd (upd H d (exd d [(f, y)])) a (exo a C (some d)))
structure Ec (P : Program) (w : World) (K : PySem.W.Frag) (mg : Str → Option Value) (base : Heap) (x f : Str) (C : Addr) : Prop where
  gC : mg x = some (.ref C)
  T : OexC K C
  xf : XfC K C
  noF : PySem.W.findIn K (.ref C) f = some none
  ini : ∃ (fI : Addr) (fd : FuncData), PySem.W.findIn K (.ref C) "__init__" = some (some (.ref fI)) ∧ PySem.W.typeIn K (.ref fI) = some (.type "function") ∧ FnOk P w K mg base CX0 1 fI fd ["self", f] (spInit C f) ∧ Binds K fd ["self", f] []
section
variable {P : Program} {w : World} {K : PySem.W.Frag} {mg : Str → Option Value} {base : Heap} {C : Addr} {x f qual : Str} {st : Stmt} {fI : Addr} {fd : FuncData}
theorem ok_initF (F : Fun K "__init__" qual st fI fd) (S : FnScope [("self" : Str), f] [("self" : Str), f] (defScope st)) (T : OexC K C) (hno : PySem.W.findIn K (.ref C) f = some none) {p1 p2 p3 p4 : Pos}
    (hb : defBody st = [.Assign [.Attribute (.Name ("self" : Str) p1) f p2] (.Name f p3) p4]) (v0 : (defScope st).names.lookup ("self" : Str) = some .local) (v1 : (defScope st).names.lookup f = some .local) (hd : (f == ("__debug__" : Str)) = false) (hcd : (f == ("__classdict__" : Str)) = false)
    (hs : ∀ env : Env, swapsWith (.Name f p3) (some (.Attribute (.Name ("self" : Str) p1) f p2)) p4.line env = pure false) : FnOk P w K mg base CX0 1 fI fd ["self", f] (spInit C f) := by
  refine F.ok S (fun vs H Q E h => ?_) (fun cdv A outer s H vs Q E hr h => ?_)
  · obtain ⟨a, y, rfl, _⟩ := h
    rfl
  · obtain ⟨a, y, rfl, ha, k⟩ := h
    refine ⟨_, by
      rw [hb]
      exact pss_one (ps_ost (pe_var (i := 0) rfl (.inl v0) (by decide) (by decide)) (pe_var (i := 1) rfl (.inl v1) hd hcd) (hs _)), ?_⟩
    exact ⟨y, rfl, .ref a, rfl, a, C, rfl, T, hno, .inl ⟨ha, fun d hd hne => k d hd hne⟩⟩
end
inductive Out where
  | val (d : PyData) | err (C : Addr) (f : Str) (d : PyData)
def EndQ (X : Addr → Prop) (H : Hp) (o : Out) (Q : VK) (E : XK) : Prop := (∀ r, o = .val r → ∀ w H', Same H H' → DX X H' w r → Nw H w → Q w H') ∧ (∀ C fl r, o = .err C fl r → ∀ a w H', Same H H' → H' a = some (.xd [(fl, w)]) → DX X H' w r → E (.ref C) (some a) H')
theorem EndQ.mono {X : Addr → Prop} {H H1 : Hp} {o : Out} {Q : VK} {E : XK} (s : Same H H1) (h : EndQ X H o Q E) : EndQ X H1 o Q E := ⟨fun r e w H' k dw nw => h.1 r e w H' (s.trans k) dw (Nw.back s nw), fun C fl r e a w H' k => h.2 C fl r e a w H' (s.trans k)⟩
def spX1 (pre : PyData → Prop) (f : PyData → Out) : Sp := fun vs H Q E => ∃ (X : Addr → Prop) (v : V) (d : PyData), vs = [v] ∧ Trk X H ∧ DX X H v d ∧ pre d ∧ EndQ X H (f d) Q E
def spX2 (pre : PyData → PyData → Prop) (f : PyData → PyData → Out) : Sp := fun vs H Q E => ∃ (X : Addr → Prop) (v1 v2 : V) (d1 d2 : PyData), vs = [v1, v2] ∧ Trk X H ∧ DX X H v1 d1 ∧ DX X H v2 d2 ∧ pre d1 d2 ∧ EndQ X H (f d1 d2) Q E
section
variable {X : Addr → Prop} {σ : L2.St} {H : Hp} {ta tb : TE} {d d1 d2 : PyData} {E : XK} {Γ : List Sv} {D : Ends} {tz : TS}
/-- the reading of «raise C(e)» -/
theorem mk_err {C : Addr} {f : Str} (h : G X ta σ H d) (q : ∀ a w H', Same H H' → H' a = some (.xd [(f, w)]) → DX X H' w d → E (.ref C) (some a) H') : tMkO C (spInit C f) [] (tCons ta tNil) σ H E :=
  h H (Same.refl H) _ fun v H1 s r => ⟨by show 1 ≤ 1000; decide, fun a ha => ⟨a, v, rfl, upd_same, fun dd hd hne => by
    have hd1 : H1 dd = none := by rw [upd_ne hne] at hd; exact hd
    refine ⟨rfl, dd, _, upd_same, by rw [upd_ne hne, upd_same], hd1, q dd v _ (fun b o e => ?_) upd_same (r.mono (Kp.of ?_))⟩
    · have e1 := s b o e
      have hb : b ≠ a := ne_of_none e1 ha
      rw [upd_ne (ne_of_none e1 hd1)]
      show (if b = a then none else _) = some o
      rw [if_neg hb, upd_ne hb, upd_ne (ne_of_none e1 hd1), upd_ne hb]
      exact e1
    · intro b o e1
      have hb : b ≠ a := ne_of_none e1 ha
      rw [upd_ne (ne_of_none e1 hd1)]
      show (if b = a then none else _) = some o
      rw [if_neg hb, upd_ne hb, upd_ne (ne_of_none e1 hd1), upd_ne hb]
      exact e1⟩⟩
/-- a call that may raise -/
theorem c_X1 {pre : PyData → Prop} {f : PyData → Out} {Q : VK} (t : Trk X H) (h : G X ta σ H d) (hp : pre d) (q : EndQ X H (f d) Q E) : tCall (spX1 pre f) [] E (tCons ta tNil) σ H Q :=
  h H (Same.refl H) _ fun v H1 s r => ⟨X, v, d, rfl, t.mono s, r, hp, q.mono s⟩
theorem c_X2 {pre : PyData → PyData → Prop} {f : PyData → PyData → Out} {Q : VK} (t : Trk X H) (h1 : G X ta σ H d1) (h2 : G X tb σ H d2) (hp : pre d1 d2) (q : EndQ X H (f d1 d2) Q E) : tCall (spX2 pre f) [] E (tCons ta (tCons tb tNil)) σ H Q :=
  h1 H (Same.refl H) _ fun v H1 s r => h2 H1 s _ fun v2 H2 s2 r2 => ⟨X, v, v2, d1, d2, rfl, (t.mono s).mono s2, r.mono (Kp.of s2), r2, hp, q.mono (s.trans s2)⟩
theorem q_setX1 {i : Nat} {pre : PyData → Prop} {f : PyData → Out} (En : EnvOk X H σ Γ) (t : Trk X H) (h : G X ta σ H d) (hp : pre d) (k : ∀ r, f d = .val r → ∀ H1 v, Same H H1 → EnvOk X H1 (σ.set i (some v)) (Γ.set i (.dat r)) → tz D (σ.set i (some v)) H1)
    (ke : ∀ C fl r, f d = .err C fl r → ∀ a w H', Same H H' → H' a = some (.xd [(fl, w)]) → DX X H' w r → E (.ref C) (some a) H') : tSeq (tAsg (tCall (spX1 pre f) [] E (tCons ta tNil)) (gName i)) tz D σ H :=
  c_X1 t h hp ⟨fun r e v H1 s dv _ => k r e H1 v s ((En.same s).set dv), ke⟩
theorem gn_X1 {pre : PyData → Prop} {f : PyData → Out} {r : PyData} (t : Trk X H) (h : G X ta σ H d) (hp : pre d) (e : f d = .val r) : GN X (tCall (spX1 pre f) [] E (tCons ta tNil)) σ H r := fun H1 s Q q =>
  c_X1 (t.mono s) (h.mono s) hp ⟨fun r' e' w H' k dw nw => by rw [e] at e'; cases e'; exact q w H' k dw nw, fun C fl r' e' => by rw [e] at e'; cases e'⟩
theorem gn_X2 {pre : PyData → PyData → Prop} {f : PyData → PyData → Out} {r : PyData} (t : Trk X H) (h1 : G X ta σ H d1) (h2 : G X tb σ H d2) (hp : pre d1 d2) (e : f d1 d2 = .val r) : GN X (tCall (spX2 pre f) [] E (tCons ta (tCons tb tNil))) σ H r := fun H1 s Q q =>
  c_X2 (t.mono s) (h1.mono s) (h2.mono s) hp ⟨fun r' e' w H' k dw nw => by rw [e] at e'; cases e'; exact q w H' k dw nw, fun C fl r' e' => by rw [e] at e'; cases e'⟩
/-- .. of which it is known that it doesn't -/
theorem g_X1 {pre : PyData → Prop} {f : PyData → Out} {r : PyData} (t : Trk X H) (h : G X ta σ H d) (hp : pre d) (e : f d = .val r) : G X (tCall (spX1 pre f) [] E (tCons ta tNil)) σ H r := fun H1 s Q q =>
  c_X1 (t.mono s) (h.mono s) hp ⟨fun r' e' w H' k dw _ => by rw [e] at e'; cases e'; exact q w H' k dw, fun C fl r' e' => by rw [e] at e'; cases e'⟩
theorem g_X2 {pre : PyData → PyData → Prop} {f : PyData → PyData → Out} {r : PyData} (t : Trk X H) (h1 : G X ta σ H d1) (h2 : G X tb σ H d2) (hp : pre d1 d2) (e : f d1 d2 = .val r) : G X (tCall (spX2 pre f) [] E (tCons ta (tCons tb tNil))) σ H r := fun H1 s Q q =>
  c_X2 (t.mono s) (h1.mono s) (h2.mono s) hp ⟨fun r' e' w H' k dw _ => by rw [e] at e'; cases e'; exact q w H' k dw, fun C fl r' e' => by rw [e] at e'; cases e'⟩
end
section
variable {P : Program} {w : World} {K : PySem.W.Frag} {mg : Str → Option Value} {base : Heap} {x qual : Str} {st : Stmt} {f : Addr} {fd : FuncData} {N : List Str} {k : Nat} {a b c : Str}
theorem okX1 {pre : PyData → Prop} {g : PyData → Out} (F : Fun K x qual st f fd) (S : FnScope N [a] (defScope st)) (hN : 1 ≤ N.length)
    (hbody : ∀ (cdv : Value) (A : Around) (outer : List Env) (s : Shared) (H : Hp) (E : XK) (X : Addr → Prop) (d : PyData) (Q : VK), Room k (A.deeper (envOfC qual (defScope st) s.heap.objs.size f cdv)) → Trk X H → pre d → EndQ X H (g d) Q E →
      ∃ t, PSs (cxOf (L2.CX P w) P w K mg base N qual (defScope st) f cdv A outer s H E) (defBody st) t ∧ ∀ σ, EnvOk X H σ (pad N [.dat d]) → t { nx := fun _ H' => Q .non H', rt := Q } σ H) : FnOk P w K mg base (L2.CX P w) (k + 1) f fd [a] (spX1 pre g) := by
  refine F.okX S (fun vs H Q E h => ?_) (fun cdv A outer s H vs Q E hr h => ?_)
  · obtain ⟨X, v, d, rfl, _⟩ := h
    rfl
  · obtain ⟨X, v, d, rfl, t, hd, hp, q⟩ := h
    obtain ⟨tt, h1, h2⟩ := hbody cdv A outer s H E X d Q hr t hp q
    exact ⟨tt, h1, h2 _ (env1 hd hN)⟩
theorem okX2 {pre : PyData → PyData → Prop} {g : PyData → PyData → Out} (F : Fun K x qual st f fd) (S : FnScope N [a, b] (defScope st)) (hN : 2 ≤ N.length)
    (hbody : ∀ (cdv : Value) (A : Around) (outer : List Env) (s : Shared) (H : Hp) (E : XK) (X : Addr → Prop) (d1 d2 : PyData) (Q : VK), Room k (A.deeper (envOfC qual (defScope st) s.heap.objs.size f cdv)) → Trk X H → pre d1 d2 → EndQ X H (g d1 d2) Q E →
      ∃ t, PSs (cxOf (L2.CX P w) P w K mg base N qual (defScope st) f cdv A outer s H E) (defBody st) t ∧ ∀ σ, EnvOk X H σ (pad N [.dat d1, .dat d2]) → t { nx := fun _ H' => Q .non H', rt := Q } σ H) : FnOk P w K mg base (L2.CX P w) (k + 1) f fd [a, b] (spX2 pre g) := by
  refine F.okX S (fun vs H Q E h => ?_) (fun cdv A outer s H vs Q E hr h => ?_)
  · obtain ⟨X, v1, v2, d1, d2, rfl, _⟩ := h
    rfl
  · obtain ⟨X, v1, v2, d1, d2, rfl, t, r1, r2, hp, q⟩ := h
    obtain ⟨tt, h1, h2⟩ := hbody cdv A outer s H E X d1 d2 Q hr t hp q
    exact ⟨tt, h1, h2 _ (env2 r1 r2 hN)⟩
end
section
variable {X : Cx} {k j : Nat} {x f : Str} {ps : List Str} {sp : Sp} {e : Expr} {es : List Expr} {p pos pos2 : Pos} {ta : TA} {E : XK} {C : Addr}
/-- a def that may raise, called within one that lets it out -/
theorem pe_ownX (O : Own X.prog X.w X.K X.mg X.base (L2.CX X.prog X.w) k x ps sp) (hr : Room j X.A) (hk : k ≤ j) (tk : Takes X (fun cls d _ H => E cls d H)) (hg : Gl X x) (ha : PA X (e :: es) ta) (hdb : (x == ("__debug__" : Str)) = false := by decide)
    (he : starEach (e :: es) X.env = (false, eval e X.env) :: starEach es X.env := by rfl) (hpl : (backTo pos (starEach es X.env)).any (·.1) = false := by rfl) : PE X (.Call (.Name x p) (e :: es) [] pos) (tCall sp [] E ta) := by
  obtain ⟨g, fd, h1, h2, h3, h4⟩ := O.ex
  exact pe_call h4 (hr.mono hk) hg h1 h2 h3 .nil (passes_call tk fun _ _ _ _ h => h) ha hdb he hpl
/-- raise C(e) -/
theorem ps_err {W : WX} (hc : X.calm = true) (T : Ec X.prog X.w X.K X.mg X.base x f C) (hr : Room j X.A) (hk : 2 ≤ j) (tk : Takes X W) (hg : Gl X x) {ta : TE} (ha : PA X [e] (tCons ta tNil)) (hdb : (x == ("__debug__" : Str)) = false := by decide)
    (he : starEach (e :: []) X.env = (false, eval e X.env) :: starEach [] X.env := by rfl) (hpl : (backTo pos (starEach [] X.env)).any (·.1) = false := by rfl) :
    PS X (.Raise (some (.Call (.Name x p) [e] [] pos)) none pos2) (fun _ σ H => tMkO C (spInit C f) [] (tCons ta tNil) σ H fun cls d H' => W cls d σ H') := by
  obtain ⟨fI, fd, h1, h2, h3, h4⟩ := T.ini
  exact ps_raise hc tk (pmk_oex T.T h1 h2 h3 (hr.mono hk) h4 .nil (pass0) hg T.gC ha hdb he hpl)
end
end KD

namespace K20
open PySem PySem.Spec PyProof.Rows L2 KD
-- RAISES change_of checked_text made_by turned_back
variable {P : Program} {w : World} {K : PySem.W.Frag} {mg : Str → Option Value} {base : Heap}
theorem ffD_none : ∀ {ds : List PyData} {i : Nat}, isNone (ffD i (ds.map fun z => .bool (isWordsD z))) = true → ∀ z ∈ ds, isWordsD z = true
  | [], _, _, z, hz => by cases hz
  | d :: ds, i, h, z, hz => by
    cases e : isWordsD d with
    | false =>
      rw [List.map_cons, e] at h
      simp [ffD, isNone] at h
    | true =>
      rw [List.map_cons, e, ff_true] at h
      rcases List.mem_cons.mp hz with rfl | hm
      · exact e
      · exact ffD_none h z hm
theorem words_str {d : PyData} (h : isWordsD d = true) : ∃ s, d = .str s := by
  cases d <;> first | exact ⟨_, rfl⟩ | cases h
theorem ws_map : ∀ {ds : List PyData}, (∀ z ∈ ds, isWordsD z = true) → ds = (ds.map fun z => match z with | .str s => s | _ => default).map PyData.str
  | [], _ => rfl
  | d :: ds, h => by
    obtain ⟨s, rfl⟩ := words_str (h d List.mem_cons_self)
    rw [List.map_cons, List.map_cons, ← ws_map fun z hz => h z (List.mem_cons_of_mem _ hz)]
theorem ws_of {d : PyData} (h : isNone (wrongD d) = true) : PyData.list (itemsD d) = wsD (wsOf d) := by
  have hs := wrong_seq h
  unfold wrongD at h
  rw [hs] at h
  show PyData.list (itemsD d) = PyData.list ((wsOf d).map PyData.str)
  congr 1
  exact ws_map (ffD_none h)

abbrev s_change_of : Stmt := topS 20
abbrev n_change_of : List Str := ["thing"]
theorem sc_change_of : FnScope n_change_of ["thing"] (defScope s_change_of) := ⟨rfl, rfl, rfl, by decide +kernel, rfl, by decide +kernel, by decide +kernel⟩
def toldD (d : PyData) : PyData := .tuple [it d 0, .list (itemsD (it d 1)), .list (itemsD (it d 2))]
def changeOut (C : Addr) (d : PyData) : Out := if isChangeD d then .val (toldD d) else .err C "thing" d
theorem isChange_parts {d : PyData} (h : isChangeD d = true) : isSeq d = true ∧ (itemsD d).length = 3 ∧ isNumD (it d 0) = true ∧ isNone (wrongD (it d 1)) = true ∧ isNone (wrongD (it d 2)) = true ∧ 0 < lenD (it d 1) + lenD (it d 2) := by
  simp only [isChangeD, ch3, Bool.and_eq_true, decide_eq_true_eq] at h
  obtain ⟨⟨⟨h1, h2, h3⟩, h4, h5⟩, h6⟩ := h
  exact ⟨h1, h2, h3, h4, h5, h6⟩
theorem ok_change_of {f C : Addr} {fd : FuncData} (F : Fun K "change_of" "change_of" s_change_of f fd) (T : Bl mg) (O_is_change : Own P w K mg base CX0 3 "is_change" ["thing"] (sp1 chPre fun d => .bool (isChangeD d))) (E_BadChange : Ec P w K mg base "BadChange" "thing" C) :
    FnOk P w K mg base (L2.CX P w) 4 f fd ["thing"] (spX1 chPre (changeOut C)) := by
  refine okX1 F sc_change_of (by decide) fun cdv A outer s H E X d Q hr t hp q => ⟨_, (pss_cons (ps_if (pt_not (pt_val (pe_own O_is_change hr (by decide) (by rfl) (pa_cons (pv 0) pa_nil))))
    (pss_one (ps_err rfl E_BadChange hr (by decide) (takes_of rfl rfl rfl rfl) (by rfl) (pa_cons (pv 0) pa_nil))) pss_nil)
    (pss_one (ps_ret (pe_tup (pa_cons (pe_ix ix_seq (pv 0) pe_int (fun _ _ => rfl)) (pa_cons (pe_callTy call_list_of (by rfl) T.b_list boot_list (pa_cons (pe_ix ix_seq (pv 0) pe_int (fun _ _ => rfl)) pa_nil)) (pa_cons (pe_callTy call_list_of (by rfl) T.b_list boot_list (pa_cons (pe_ix ix_seq (pv 0) pe_int (fun _ _ => rfl)) pa_nil)) pa_nil))))))), fun σ En => ?_⟩
  refine q_if (gt_not (gt_B (g_call1 t (g_var En rfl) hp))) (fun hb H1 s1 => ?_) (fun hb H1 s1 => ?_)
  · have e : isChangeD d = false := by simpa using hb
    refine mk_err (X := X) (g_var (En.same s1) rfl) fun a v H2 s2 e2 dv => q.2 C "thing" d (by simp [changeOut, e]) a v H2 (s1.trans s2) e2 dv
  · have e : isChangeD d = true := by simpa using hb
    obtain ⟨h1, h2, h3, h4, h5, h6⟩ := isChange_parts e
    have t1 := t.mono s1
    have v0 : G X (tVar 0) σ H1 d := g_var (En.same s1) rfl
    refine s_retN (X := X) (d := toldD d) (gn_tup t1 (ga_cons (g_ix t1 v0 h1 g_int (it_at (i := 0) rfl (by omega))) (ga_cons (g_listOf t1 (g_ix t1 v0 h1 g_int (it_at (i := 1) rfl (by omega))) (wrong_seq h4)) (ga_cons (g_listOf t1 (g_ix t1 v0 h1 g_int (it_at (i := 2) rfl (by omega))) (wrong_seq h5)) ga_nil))) (by simp)) fun w H2 s2 dw nw => q.1 _ (by simp [changeOut, e]) w H2 (s1.trans s2) dw (Nw.back s1 nw)

abbrev s_checked_text : Stmt := topS 21
abbrev n_checked_text : List Str := ["text", "index"]
theorem sc_checked_text : FnScope n_checked_text ["text"] (defScope s_checked_text) := ⟨rfl, rfl, rfl, by decide +kernel, rfl, by decide +kernel, by decide +kernel⟩
def textOut (C : Addr) (d : PyData) : Out := if isNone (wrongD d) then .val (wsD (wsOf d)) else .err C "index" (wrongD d)
theorem ok_checked_text {f C : Addr} {fd : FuncData} (F : Fun K "checked_text" "checked_text" s_checked_text f fd) (T : Bl mg) (O_wrong_words : Own P w K mg base CX0 2 "wrong_words" ["things"] (sp1 wordsAll wrongD)) (E_BadWords : Ec P w K mg base "BadWords" "index" C) :
    FnOk P w K mg base (L2.CX P w) 3 f fd ["text"] (spX1 wordsAll (textOut C)) := by
  refine okX1 F sc_checked_text (by decide) fun cdv A outer s H E X d Q hr t hp q => ⟨_, (pss_cons (ps_set (i := 1) sc_checked_text.nd rfl (by first | exact Or.inl rfl | exact Or.inr rfl) (pe_own O_wrong_words hr (by decide) (by rfl) (pa_cons (pv 0) pa_nil)))
    (pss_cons (ps_if (pt_cmpR op_notN (pv 1) pe_non (nomark _))
    (pss_one (ps_err rfl E_BadWords hr (by decide) (takes_of rfl rfl rfl rfl) (by rfl) (pa_cons (pv 1) pa_nil))) pss_nil)
    (pss_one (ps_ret (pe_callTy call_list_of (by rfl) T.b_list boot_list (pa_cons (pv 0) pa_nil)))))), fun σ En => ?_⟩
  refine q_set En (g_call1 t (g_var En rfl) hp) fun H0 v s0 E0 => ?_
  have t0 := t.mono s0
  refine q_if (gt_op t0 (g_var E0 rfl) g_non rb_notN) (fun hb H1 s1 => ?_) (fun hb H1 s1 => ?_)
  · have e : isNone (wrongD d) = false := by simpa using hb
    refine mk_err (X := X) (g_var (E0.same s1) rfl) fun a v H2 s2 e2 dv => q.2 C "index" _ (by simp [textOut, e]) a v H2 ((s0.trans s1).trans s2) e2 dv
  · have e : isNone (wrongD d) = true := by simpa using hb
    refine s_retN (X := X) (gn_listOf (t0.mono s1) (g_var (E0.same s1) rfl) (wrong_seq e)) fun w H2 s2 dw nw => q.1 (wsD (wsOf d)) (by simp [textOut, e]) w H2 ((s0.trans s1).trans s2) (by rw [← ws_of e]; exact dw) (Nw.back (s0.trans s1) nw)
theorem itemsD_wsD {ws : List Str} : itemsD (wsD ws) = ws.map PyData.str := rfl
theorem toldD_ch {d : PyData} (h : isChangeD d = true) : ∃ p os ns, toldD d = chD p os ns ∧ 0 ≤ p ∧ it d 0 = .int p ∧ os = wsOf (it d 1) ∧ ns = wsOf (it d 2) := by
  obtain ⟨h1, h2, h3, h4, h5, h6⟩ := isChange_parts h
  cases e : it d 0 with
  | int p =>
    rw [e] at h3
    refine ⟨p, _, _, ?_, of_decide_eq_true h3, rfl, rfl, rfl⟩
    unfold toldD chD
    rw [e, ws_of h4, ws_of h5]
  | _ => rw [e] at h3; cases h3
end K20

/-! The spring of draws. -/
namespace K20
open PySem PySem.Spec PyProof.Rows L2 KD
variable {P : Program} {w : World} {K : PySem.W.Frag} {mg : Str → Option Value} {base : Heap}
/-- the spring at st, its cells at cl: b draws done -/
structure SpAt (st cl : Addr) (ms : List Int) (a b c : Int) (H : Hp) : Prop where
  hs : H st = some (.lst [.ref cl, .int a, .int b, .int c])
  hc : H cl = some (.lst (ms.map V.int))
  ne : st ≠ cl
  a0 : 0 ≤ a
  b0 : 0 ≤ b
  c0 : 0 ≤ c
  c1 : c < 2147483647
  ml : ms.length ≤ 100000
def SpOk (st cl : Addr) (n : Nat) (H : Hp) : Prop := ∃ ms a b c, SpAt st cl ms a b c H ∧ b ≤ (n : Int)
/-- all but the spring stays -/
def KpS (st cl : Addr) (H H' : Hp) : Prop := ∀ a o, a ≠ st → a ≠ cl → H a = some o → H' a = some o
theorem KpS.refl {st cl : Addr} {H : Hp} : KpS st cl H H := fun _ _ _ _ e => e
theorem KpS.trans {st cl : Addr} {H H1 H2 : Hp} (h : KpS st cl H H1) (k : KpS st cl H1 H2) : KpS st cl H H2 := fun a o n m e => k a o n m (h a o n m e)
theorem KpS.of {st cl : Addr} {H H' : Hp} (h : Same H H') : KpS st cl H H' := fun a o _ _ e => h a o e
theorem KpS.kp {X : Addr → Prop} {st cl : Addr} {H H' : Hp} (h : KpS st cl H H') (x1 : X st) (x2 : X cl) : Kp X H H' := fun a o n e => h a o (fun z => n (z ▸ x1)) (fun z => n (z ▸ x2)) e
theorem SpOk.trk {X : Addr → Prop} {st cl : Addr} {n : Nat} {H H' : Hp} (h : SpOk st cl n H') (k : KpS st cl H H') (t : Trk X H) : Trk X H' := fun a x => by
  obtain ⟨ms, a', b, c, S, _⟩ := h
  by_cases h1 : a = st
  · subst h1
    exact ⟨_, S.hs⟩
  · by_cases h2 : a = cl
    · subst h2
      exact ⟨_, S.hc⟩
    · obtain ⟨o, e⟩ := t a x
      exact ⟨o, k a o h1 h2 e⟩
theorem SpAt.same {st cl : Addr} {ms : List Int} {a b c : Int} {H H' : Hp} (S : SpAt st cl ms a b c H) (s : Same H H') : SpAt st cl ms a b c H' := ⟨s _ _ S.hs, s _ _ S.hc, S.ne, S.a0, S.b0, S.c0, S.c1, S.ml⟩
theorem SpOk.same {st cl : Addr} {n : Nat} {H H' : Hp} (h : SpOk st cl n H) (s : Same H H') : SpOk st cl n H' := by
  obtain ⟨ms, a, b, c, S, hb⟩ := h
  exact ⟨ms, a, b, c, S.same s, hb⟩
theorem SpOk.le {st cl : Addr} {n m : Nat} {H : Hp} (h : SpOk st cl n H) (hm : n ≤ m) : SpOk st cl m H := by
  obtain ⟨ms, a, b, c, S, hb⟩ := h
  exact ⟨ms, a, b, c, S, by omega⟩
theorem KpS.put {st cl p : Addr} {H : Hp} {o : HO} (h : p = st ∨ p = cl) : KpS st cl H (upd H p o) := fun a u n m e => by
  rw [upd_ne (fun z => by rcases h with h | h; exact n (z.trans h); exact m (z.trans h))]
  exact e
section
variable {σ : L2.St} {H : Hp} {i : Nat} {p st cl : Addr} {xs : List V} {v : V} {k : Int} {Q : VK} {ms : List Int} {a b c : Int}
theorem ix_at (hv : σ[i]? = some (some (.ref p))) (hp : H p = some (.lst xs)) (hx : atI xs k = some v) (q : Q v H) : tOp (rIx K) (tVar i) (tC (.int k)) σ H Q := ⟨_, hv, .inl ⟨p, xs, k, v, rfl, rfl, SqL.of hp, hx, q⟩⟩
theorem set_at {R : L2.St → Hp → Prop} {j : Nat} (hv : σ[i]? = some (some (.ref p))) (hp : H p = some (.lst xs)) (hx : ixN xs.length k = some j) (q : R σ (upd H p (.lst (xs.set j v)))) : gSub (tVar i) (tC (.int k)) rSetL v σ H R := ⟨_, hv, p, xs, k, j, rfl, rfl, hp, hx, q⟩
theorem op2 {r : R2} {ta tb : TE} (h : ta σ H fun x H1 => tb σ H1 fun y H2 => r x y H2 Q) : tOp r ta tb σ H Q := h
theorem SpAt.put1 (S : SpAt st cl ms a b c H) {z : Int} (h : 0 ≤ z) : SpAt st cl ms z b c (upd H st (.lst [.ref cl, .int z, .int b, .int c])) := ⟨upd_same, by rw [upd_ne (Ne.symm S.ne)]; exact S.hc, S.ne, h, S.b0, S.c0, S.c1, S.ml⟩
theorem SpAt.put2 (S : SpAt st cl ms a b c H) {z : Int} (h : 0 ≤ z) : SpAt st cl ms a z c (upd H st (.lst [.ref cl, .int a, .int z, .int c])) := ⟨upd_same, by rw [upd_ne (Ne.symm S.ne)]; exact S.hc, S.ne, S.a0, h, S.c0, S.c1, S.ml⟩
theorem SpAt.put3 (S : SpAt st cl ms a b c H) {z : Int} (h : 0 ≤ z) (h2 : z < 2147483647) : SpAt st cl ms a b z (upd H st (.lst [.ref cl, .int a, .int b, .int z])) := ⟨upd_same, by rw [upd_ne (Ne.symm S.ne)]; exact S.hc, S.ne, S.a0, S.b0, h, h2, S.ml⟩
theorem SpAt.pop (S : SpAt st cl ms a b c H) {m : Int} {r : List Int} (e : ms = m :: r) : SpAt st cl r a b c (upd H cl (.lst (r.map V.int))) := ⟨by rw [upd_ne S.ne]; exact S.hs, upd_same, S.ne, S.a0, S.b0, S.c0, S.c1, by have := S.ml; rw [e, List.length_cons] at this; omega⟩
end
theorem dp_ints {H : Hp} : ∀ ms : List Int, DpAll K H (ms.map V.int) (ms.map PyData.int)
  | [] => .nil
  | m :: r => .cons (.int m) (dp_ints r)
theorem canLay_ints : ∀ ms : List Int, PyData.canLayAll0 (ms.map PyData.int) = true
  | [] => by simp [PyData.canLayAll0]
  | m :: r => by simp [PyData.canLayAll0, PyData.canLay0, canLay_ints r]
theorem depth_ints : ∀ ms : List Int, PyData.depthAll (ms.map PyData.int) ≤ 1
  | [] => by simp [PyData.depthAll]
  | m :: r => by
    have := depth_ints r
    simp only [List.map_cons, PyData.depthAll, PyData.depth]
    omega
theorem shaped_ints (ms : List Int) : SeqAt.shaped (.list (ms.map PyData.int)) = true := by
  have := depth_ints ms
  have h2 : PyData.depth (.list (ms.map PyData.int)) ≤ 64 := by
    simp only [PyData.depth]
    omega
  show ((PyData.list (ms.map PyData.int)).canLay0 && decide ((PyData.list (ms.map PyData.int)).depth ≤ 64)) = true
  rw [Bool.and_eq_true]
  exact ⟨by simp only [PyData.canLay0]; exact canLay_ints ms, decide_eq_true h2⟩

abbrev s__law_start : Stmt := topS 50
abbrev n__law_start : List Str := ["_law_script"]
theorem sc__law_start : FnScope n__law_start ["_law_script"] (defScope s__law_start) := ⟨rfl, rfl, rfl, by decide +kernel, rfl, by decide +kernel, by decide +kernel⟩
def spStart (K : PySem.W.Frag) : Sp := fun vs H Q _ => ∃ (a : Addr) (ns : List Int), vs = [.ref a] ∧ SqL K H a (ns.map V.int) ∧ ns.length ≤ 63 ∧ ∀ st cl H', Same H H' → H st = none → H cl = none → SpOk st cl 0 H' → Q (.ref st) H'
theorem ok_start {f : Addr} {fd : FuncData} (F : Fun K "_law_start" "_law_start" s__law_start f fd) (T : Bl mg) : FnOk P w K mg base CX0 1 f fd ["_law_script"] (spStart K) := by
  refine F.ok sc__law_start (fun vs H Q E h => ?_) (fun cdv A outer s H vs Q E hr h => ?_)
  · obtain ⟨a, ns, rfl, _⟩ := h
    rfl
  · obtain ⟨a, ns, rfl, hS, hl, k⟩ := h
    refine ⟨_, (pss_one (ps_ret (pe_lst (pa_cons (pe_callTy call_list_of (by rfl) T.b_list boot_list (pa_cons (pv 0) pa_nil)) (pa_cons pe_int (pa_cons pe_int (pa_cons pe_int pa_nil))))))), ?_⟩
    refine ⟨_, rfl, a, _, rfl, .inl hS, fun cl hcl => ⟨by show 4 ≤ sizeLine; decide, fun st hst => ?_⟩⟩
    have hst0 : H st = none := (Same.upd hcl).free hst
    have ne : st ≠ cl := fun e => by
      rw [e, upd_same] at hst
      cases hst
    refine k st cl _ ((Same.upd hcl).trans (Same.upd hst)) hst0 hcl ⟨ns, 0, 0, 11, ⟨upd_same, by rw [upd_ne (Ne.symm ne)]; exact upd_same, ne, by omega, by omega, by omega, by omega, by omega⟩, by omega⟩

abbrev s__law_draw : Stmt := topS 51
abbrev n__law_draw : List Str := ["_law_stream", "_law_many", "_law_cell", "_law_digit", "_law_mixed_here"]
theorem sc__law_draw : FnScope n__law_draw ["_law_stream", "_law_many"] (defScope s__law_draw) := ⟨rfl, rfl, rfl, by decide +kernel, rfl, by decide +kernel, by decide +kernel⟩
def spDraw : Sp := fun vs H Q _ => ∃ (st cl : Addr) (n : Nat) (m : Int), vs = [.ref st, .int m] ∧ SpOk st cl n H ∧ n ≤ 1000000000 ∧ 0 < m ∧ m < 1000000 ∧ ∀ i H', 0 ≤ i → i < m → KpS st cl H H' → SpOk st cl (n + 1) H' → Q (.int i) H'
def lenAt (cl : Addr) (H : Hp) : Nat := match H cl with
  | some (.lst xs) => xs.length
  | _ => 0
theorem ok_draw {f : Addr} {fd : FuncData} (F : Fun K "_law_draw" "_law_draw" s__law_draw f fd) (T : Bl mg) : FnOk P w K mg base CX0 1 f fd ["_law_stream", "_law_many"] spDraw := by
  refine F.ok sc__law_draw (fun vs H Q E h => ?_) (fun cdv A outer s H vs Q E hr h => ?_)
  · obtain ⟨st, cl, n, m, rfl, _⟩ := h
    rfl
  · obtain ⟨st, cl, n, m, rfl, ⟨ms, a, b, c, S, hbn⟩, hn, hm, hm2, k⟩ := h
    refine ⟨_, (pss_cons (ps_asg (pe_op op_addA (pe_ix ix_seq (pv 0) pe_int (fun _ _ => rfl)) pe_int) (pg_sub (pv 0) pe_int set_list))
    (Evl.pss_cut (ps_while PassesOwn.never (PW.pt (pw_and (pt_cmpR (op_eqD hr.units) (pe_ix ix_seq (pv 0) pe_int (fun _ _ => rfl)) pe_int (nomark _)) (pw_and1 (pt_cmpR (op_neD hr.units) (pe_ix ix_seq (pv 0) pe_int (fun _ _ => rfl)) (pe_lst pa_nil) (nomark _)))))
    (pss_cons (ps_set (i := 2) sc__law_draw.nd rfl (by first | exact Or.inl rfl | exact Or.inr rfl) (pe_bm PySem.F.plainAttrs_list PySem.F.slot_list_pop PySem.F.type_list_pop mt_popAt (pe_ix ix_seq (pv 0) pe_int (fun _ _ => rfl)) (pa_cons pe_int pa_nil)))
    (pss_cons (ps_asg (pe_op op_mod (pe_callTy call_int1 (by rfl) T.b_int boot_int (pa_cons (pe_op op_addA (pe_op op_addA (pe_op op_mulA (pe_ix ix_seq (pv 0) pe_int (fun _ _ => rfl)) pe_int) (pv 2)) pe_int) pa_nil)) pe_int) (pg_sub (pv 0) pe_int set_list))
    (pss_one (ps_asg (pe_ifExp (pt_cmpR op_ge (pv 2) (pe_op op_pow pe_int pe_int) (nomark _)) (pv 2) pe_int) (pg_sub (pv 0) pe_int set_list))))))
    (pss_cons (ps_if (pt_cmpR op_gt (pe_ix ix_seq (pv 0) pe_int (fun _ _ => rfl)) pe_int (nomark _))
    (pss_cons (ps_set (i := 3) sc__law_draw.nd rfl (by first | exact Or.inl rfl | exact Or.inr rfl) (pe_op op_mod (pe_callTy call_int1 (by rfl) T.b_int boot_int (pa_cons (pe_ix ix_seq (pv 0) pe_int (fun _ _ => rfl)) pa_nil)) (pv 1)))
    (pss_cons (ps_asg (pe_op op_fdiv (pe_ix ix_seq (pv 0) pe_int (fun _ _ => rfl)) (pv 1)) (pg_sub (pv 0) pe_int set_list))
    (pss_one (ps_ret (pv 3))))) pss_nil)
    (pss_cons (ps_set (i := 4) sc__law_draw.nd rfl (by first | exact Or.inl rfl | exact Or.inr rfl) (pe_op op_mod (pe_callTy call_int1 (by rfl) T.b_int boot_int (pa_cons (pe_op op_pow (pe_op op_addA (pe_op op_addA (pe_ix ix_seq (pv 0) pe_int (fun _ _ => rfl)) (pe_op op_mulA pe_int (pe_ix ix_seq (pv 0) pe_int (fun _ _ => rfl)))) pe_int) pe_int) pa_nil)) pe_int))
    (pss_one (ps_ret (pe_op op_mod (pe_op op_mod (pe_callTy call_int1 (by rfl) T.b_int boot_int (pa_cons (pe_op op_pow (pe_op op_addA (pe_op op_addA (pe_op op_mulA (pv 4) pe_int) (pe_op op_mulA pe_int (pe_ix ix_seq (pv 0) pe_int (fun _ _ => rfl)))) pe_int) pe_int) pa_nil)) pe_int) (pv 1)))))))), ?_⟩
    -- stream[2] = stream[2] + 1
    refine ix_at (i := 0) rfl S.hs (v := .int b) rfl ?_
    refine .inl ⟨b, 1, rfl, rfl, ?_⟩
    refine set_at (i := 0) (j := 2) rfl S.hs rfl ?_
    have S1 : SpAt st cl ms a (b + 1) c (upd H st (.lst [.ref cl, .int a, .int (b + 1), .int c])) := S.put2 (by have := S.b0; omega)
    have k1 : KpS st cl H (upd H st (.lst [.ref cl, .int a, .int (b + 1), .int c])) := KpS.put (.inl rfl)
    -- the loop
    refine ⟨fun σ H' => ∃ ms' a' c' x, σ = [some (.ref st), some (.int m), x, none, none] ∧ SpAt st cl ms' a' (b + 1) c' H' ∧ KpS st cl H H',
      ⟨fun l σ H' => ∃ ms' a' c' x, l = ms'.length ∧ σ = [some (.ref st), some (.int m), x, none, none] ∧ SpAt st cl ms' a' (b + 1) c' H' ∧ KpS st cl H H', ⟨ms.length, ms, a, c, none, rfl, rfl, S1, k1⟩, ?_⟩, ?_⟩
    · rintro l σ H1 ⟨ms1, a1, c1, x1, rfl, rfl, S2, k2⟩
      refine ix_at (i := 0) rfl S2.hs (v := .int a1) rfl ?_
      refine ⟨.int a1, .int 0, .int _, .int _, shaped_int _, shaped_int _, _, rfl, ?_⟩
      rw [eqv_int]
      by_cases ha : a1 = 0
      · rw [decide_eq_true ha]
        refine iteT ?_
        refine ix_at (i := 0) rfl S2.hs (v := .ref cl) rfl ?_
        refine ⟨by show 0 ≤ sizeLine; decide, fun p hp => ?_⟩
        have S3 := S2.same (Same.upd (o := .lst []) hp)
        refine ⟨.list (ms1.map .int), .list [], .lst (SqL.of S3.hc) (dp_ints ms1), .lst (SqL.of upd_same) .nil, shaped_ints ms1, shaped_ints [], _, rfl, ?_⟩
        have k3 : KpS st cl H (upd H1 p (.lst [])) := k2.trans (KpS.of (Same.upd hp))
        cases ms1 with
        | nil =>
          refine iteF ?_
          exact ⟨[], a1, c1, x1, rfl, S3, k3⟩
        | cons m1 r1 =>
          refine iteT ?_
          refine ⟨fun σ H' => ∃ a' c' x, σ = [some (.ref st), some (.int m), x, none, none] ∧ SpAt st cl r1 a' (b + 1) c' H' ∧ KpS st cl H H', fun σ' H' ⟨a', c', x, e, S', k'⟩ => ⟨r1.length, Nat.lt_succ_self _, r1, a', c', x, rfl, e, S', k'⟩, ?_⟩
          -- cell = stream[0].pop(0)
          refine ix_at (i := 0) rfl S3.hs (v := .ref cl) rfl ?_
          refine ⟨.inl ⟨rfl, _, SqL.of S3.hc⟩, cl, _, 0, 0, .int m1, rfl, rfl, S3.hc, by decide, by decide, (by simp [seqIndex?]), rfl, ?_⟩
          have S4 := S3.pop rfl
          have k4 := k3.trans (KpS.put (H := upd H1 p (.lst [])) (o := .lst (r1.map V.int)) (st := st) (.inr rfl))
          -- stream[3] = int(stream[3] * 8191 + cell + 3) % 2147483647
          refine ix_at (i := 0) rfl S4.hs (v := .int c1) rfl ?_
          refine .inl ⟨c1, 8191, rfl, rfl, .inr ⟨by decide, by decide⟩, ?_⟩
          refine ⟨.int m1, rfl, .inl ⟨_, _, rfl, rfl, ?_⟩⟩
          refine .inl ⟨_, _, rfl, rfl, ?_⟩
          refine .inl ⟨_, rfl, ?_⟩
          refine ⟨_, _, rfl, rfl, (by decide : (0 : Int) < 2147483647), ?_⟩
          refine set_at (i := 0) (j := 3) rfl S4.hs rfl ?_
          have S5 := S4.put3 (z := (c1 * 8191 + m1 + 3) % 2147483647) (Int.emod_nonneg _ (by decide)) (Int.emod_lt_of_pos _ (by decide))
          have k5 := k4.trans (KpS.put (H := upd (upd H1 p (.lst [])) cl (.lst (r1.map V.int))) (o := .lst [.ref cl, .int a1, .int (b + 1), .int ((c1 * 8191 + m1 + 3) % 2147483647)]) (st := st) (cl := cl) (.inl rfl))
          -- stream[1] = cell if cell >= 10 ** 18 else 0
          refine ⟨.int m1, rfl, ?_⟩
          refine ⟨10, 18, rfl, rfl, ⟨by decide, by decide, by decide⟩, ?_⟩
          refine ⟨_, _, rfl, rfl, _, rfl, ?_⟩
          by_cases hg : (10 : Int) ^ (18 : Int).toNat ≤ m1
          · rw [decide_eq_true hg]
            refine iteT ?_
            refine ⟨.int m1, rfl, ?_⟩
            refine set_at (i := 0) (j := 1) rfl S5.hs rfl ?_
            exact ⟨m1, _, _, rfl, S5.put1 (Int.le_trans (by decide) hg), k5.trans (KpS.put (.inl rfl))⟩
          · rw [decide_eq_false hg]
            refine iteF ?_
            refine set_at (i := 0) (j := 1) rfl S5.hs rfl ?_
            exact ⟨0, _, _, rfl, S5.put1 (by decide), k5.trans (KpS.put (.inl rfl))⟩
      · rw [decide_eq_false ha]
        refine iteF ?_
        refine iteF ?_
        exact ⟨ms1, a1, c1, x1, rfl, S2, k2⟩
    · rintro σ H1 ⟨ms1, a1, c1, x1, rfl, S2, k2⟩
      -- if stream[1] > 0
      refine ix_at (i := 0) rfl S2.hs (v := .int a1) rfl ?_
      refine ⟨a1, 0, rfl, rfl, _, rfl, ?_⟩
      by_cases ha : 0 < a1
      · rw [decide_eq_true ha]
        refine iteT ?_
        refine ix_at (i := 0) rfl S2.hs (v := .int a1) rfl ?_
        refine .inl ⟨a1, rfl, ?_⟩
        refine ⟨.int m, rfl, a1, m, rfl, rfl, hm, ?_⟩
        refine ix_at (i := 0) rfl S2.hs (v := .int a1) rfl ?_
        refine ⟨.int m, rfl, a1, m, rfl, rfl, ⟨hm, by omega⟩, ?_⟩
        refine set_at (i := 0) (j := 1) rfl S2.hs rfl ?_
        refine ⟨.int (a1 % m), rfl, ?_⟩
        exact k _ _ (Int.emod_nonneg _ (by omega)) (Int.emod_lt_of_pos _ hm) (k2.trans (KpS.put (.inl rfl))) ⟨ms1, _, _, _, S2.put1 (Int.ediv_nonneg (by omega) (by omega)), by omega⟩
      · rw [decide_eq_false ha]
        refine iteF ?_
        -- mixed
        refine ix_at (i := 0) rfl S2.hs (v := .int c1) rfl ?_
        refine ix_at (i := 0) rfl S2.hs (v := .int (b + 1)) rfl ?_
        refine .inl ⟨7919, b + 1, rfl, rfl, .inl ⟨by decide, by decide⟩, ?_⟩
        refine .inl ⟨_, _, rfl, rfl, ?_⟩
        refine .inl ⟨_, _, rfl, rfl, ?_⟩
        have c0 := S2.c0
        have c1' := S2.c1
        have b0 := S.b0
        refine ⟨_, 5, rfl, rfl, ⟨by decide, by decide, by omega⟩, ?_⟩
        refine .inl ⟨_, rfl, ?_⟩
        refine ⟨_, _, rfl, rfl, (by decide : (0 : Int) < 2147483629), ?_⟩
        show gName 4 (V.int ((c1 + 7919 * (b + 1) + 104729) ^ (5 : Int).toNat % 2147483629)) _ _ _
        generalize hx : (c1 + 7919 * (b + 1) + 104729) ^ (5 : Int).toNat % 2147483629 = x
        have x0 : 0 ≤ x := by rw [← hx]; exact Int.emod_nonneg _ (by decide)
        have x1' : x < 2147483629 := by rw [← hx]; exact Int.emod_lt_of_pos _ (by decide)
        refine ⟨.int x, rfl, .inl ⟨x, 48271, rfl, rfl, .inr ⟨by decide, by decide⟩, ?_⟩⟩
        refine ix_at (i := 0) rfl S2.hs (v := .int (b + 1)) rfl ?_
        refine .inl ⟨30011, b + 1, rfl, rfl, .inl ⟨by decide, by decide⟩, ?_⟩
        refine .inl ⟨_, _, rfl, rfl, ?_⟩
        refine .inl ⟨_, _, rfl, rfl, ?_⟩
        refine ⟨_, 3, rfl, rfl, ⟨by decide, by decide, by omega⟩, ?_⟩
        refine .inl ⟨_, rfl, ?_⟩
        refine ⟨_, _, rfl, rfl, (by decide : (0 : Int) < 1000000007), ?_⟩
        refine ⟨.int m, rfl, _, m, rfl, rfl, hm, ?_⟩
        exact k _ _ (Int.emod_nonneg _ (by omega)) (Int.emod_lt_of_pos _ hm) k2 ⟨ms1, _, _, _, S2, by omega⟩
end K20

/-! Draws over data. -/
namespace K20
-- HINT _law_mixed lcte tBM K "list" rPopAt (tVar 2) (tCons (tCall spDraw [] E0 (tCons (tVar 0) (tCons (tCB (fun xs H Q => ∃ x n, xs = [x] ∧ LenV K x H n ∧ Q (V.int n) H) (tCons (tVar 2) tNil)) tNil))) tNil)
open PySem PySem.Spec PyProof.Rows L2 KD
variable {P : Program} {w : World} {K : PySem.W.Frag} {mg : Str → Option Value} {base : Heap}
/-- the spring stands apart from the data -/
structure Sg (X : Addr → Prop) (st cl : Addr) (n : Nat) (H : Hp) : Prop where
  ok : SpOk st cl n H
  x1 : X st
  x2 : X cl
  t : Trk X H
section
variable {X X' : Addr → Prop} {st cl p : Addr} {n m : Nat} {H H' : Hp} {σ : L2.St} {Γ : List Sv}
theorem Sg.same (S : Sg X st cl n H) (s : Same H H') : Sg X st cl n H' := ⟨S.ok.same s, S.x1, S.x2, S.t.mono s⟩
theorem Sg.step (S : Sg X st cl n H) (k : KpS st cl H H') (o : SpOk st cl m H') : Sg X st cl m H' := ⟨o, S.x1, S.x2, o.trk k S.t⟩
theorem Sg.le (S : Sg X st cl n H) (h : n ≤ m) : Sg X st cl m H := ⟨S.ok.le h, S.x1, S.x2, S.t⟩
theorem Sg.kp (S : Sg X st cl n H) (k : KpS st cl H H') : Kp X H H' := k.kp S.x1 S.x2
theorem Sg.more (S : Sg X st cl n H) (m : More X X' H) (t : Trk X' H) : Sg X' st cl n H := ⟨S.ok, m.1 _ S.x1, m.1 _ S.x2, t⟩
theorem Sg.ne1 (S : Sg X st cl n H) (h : H p = none) : p ≠ st := fun e => S.t.new h (e ▸ S.x1)
theorem Sg.ne2 (S : Sg X st cl n H) (h : H p = none) : p ≠ cl := fun e => S.t.new h (e ▸ S.x2)
theorem SpOk.put {o : HO} (h : SpOk st cl n H) (h1 : p ≠ st) (h2 : p ≠ cl) : SpOk st cl n (upd H p o) := by
  obtain ⟨ms, a, b, c, S, hb⟩ := h
  exact ⟨ms, a, b, c, ⟨by rw [upd_ne (Ne.symm h1)]; exact S.hs, by rw [upd_ne (Ne.symm h2)]; exact S.hc, S.ne, S.a0, S.b0, S.c0, S.c1, S.ml⟩, hb⟩
theorem Sg.put {o : HO} (S : Sg X st cl n H) (h1 : p ≠ st) (h2 : p ≠ cl) : Sg X st cl n (upd H p o) := ⟨S.ok.put h1 h2, S.x1, S.x2, S.t.put⟩
theorem _root_.KD.EnvOk.kps (E : EnvOk X H σ Γ) (S : Sg X st cl n H) (k : KpS st cl H H') : EnvOk X H' σ Γ := E.mono (S.kp k)
end
section
variable {σ : L2.St} {H : Hp} {te ta tb : TE} {D : Ends} {r : R2} {Q : VK} {g : TG} {tz : TS} {tt : TT} {tl : TA}
theorem k_ret (h : te σ H D.rt) : tRet te D σ H := h
theorem k_op (h : ta σ H fun x H1 => tb σ H1 fun y H2 => r x y H2 Q) : tOp r ta tb σ H Q := h
theorem k_set {i : Nat} (h : te σ H fun v H1 => tz D (σ.set i (some v)) H1) : tSeq (tAsg te (gName i)) tz D σ H := h
theorem k_asg (h : te σ H fun v H1 => g v σ H1 fun σ2 H2 => tz D σ2 H2) : tSeq (tAsg te g) tz D σ H := h
theorem k_yes {A B : Hp → Prop} (h : A H) : tYes σ H fun b H3 => if b = true then A H3 else B H3 := by
  show (if true = true then A H else B H)
  rw [if_pos rfl]
  exact h
theorem k_lcR {ta : TA} {us : List Nat} (h : ta σ H fun vs H1 => ∃ j : Int, vs = [.int j] ∧ -(2 ^ 62) ≤ j ∧ j < 2 ^ 62 ∧ tLc (fun _ H2 R => R (Itr 0 j.toNat) H2) g tt te us σ H1 Q) : tLc (iRng1 ta) g tt te us σ H Q := h
theorem k_cb {rr : List V → Hp → VK → Prop} (h : tl σ H fun vs H1 => rr vs H1 Q) : tCB rr tl σ H Q := h
theorem k_cons {Qa : List V → Hp → Prop} (h : te σ H fun v H1 => tl σ H1 fun vs H2 => Qa (v :: vs) H2) : tCons te tl σ H Qa := h
theorem k_par {i j : Nat} (h : ta σ H fun x H1 => tb σ H1 fun y H2 => ∃ v w, [x, y] = [v, w] ∧ tz D ((σ.set i (some v)).set j (some w)) H2) : tSeq (tPar i j (tCons ta (tCons tb tNil))) tz D σ H := h
end
theorem at_nat {ds : List PyData} {i : Int} (h0 : 0 ≤ i) (hj : i.toNat < ds.length) : atI ds i = some ds[i.toNat] := by
  unfold atI
  have e : ixN ds.length i = some i.toNat := by
    have h := Evl.ixN_nat hj
    rw [show ((i.toNat : Nat) : Int) = i from by omega] at h
    exact h
  rw [e]
  show ds[i.toNat]? = some _
  rw [List.getElem?_eq_getElem hj]
theorem seqIx_nat {i : Int} {n : Nat} (h0 : 0 ≤ i) (h1 : i.toNat < n) : seqIndex? i n = some i.toNat := by
  unfold seqIndex?
  have h : ¬ i < 0 := by omega
  have h2 : (decide (0 ≤ i) && decide (i < (n : Int))) = true := by
    rw [Bool.and_eq_true]
    exact ⟨decide_eq_true h0, decide_eq_true (by omega)⟩
  simp only [if_neg h]
  rw [if_pos h2]
theorem erase_perm {α : Type} : ∀ (l : List α) (i : Nat) (h : i < l.length), (l[i] :: l.eraseIdx i).Perm l
  | a :: l, 0, _ => List.Perm.refl _
  | a :: l, i + 1, h => (List.Perm.swap _ _ _).trans ((erase_perm l i (by simpa using h)).cons a)
/-- a draw -/
theorem c_draw {X : Addr → Prop} {st cl : Addr} {n : Nat} {H : Hp} {σ : L2.St} {ts tm : TE} {E : XK} {m : Int} {Q : VK} (S : Sg X st cl n H) (hv : GV ts σ H (.ref st)) (hm : G X tm σ H (.int m)) (hn : n ≤ 1000000000) (h0 : 0 < m) (h1 : m < 1000000)
    (k : ∀ i H', 0 ≤ i → i < m → Sg X st cl (n + 1) H' → KpS st cl H H' → Q (.int i) H') : tCall spDraw [] E (tCons ts (tCons tm tNil)) σ H Q :=
  hv H (Same.refl H) _ (hm H (Same.refl H) _ fun v H1 s1 r => ⟨st, cl, n, m, by rw [r.int_inv]; rfl, S.ok.same s1, hn, h0, h1, fun i H' i0 i1 kk so => k i H' i0 i1 ((S.same s1).step kk so) ((KpS.of s1).trans kk)⟩)
abbrev s__law_pick : Stmt := topS 52
abbrev n__law_pick : List Str := ["_law_stream", "_law_some"]
theorem sc__law_pick : FnScope n__law_pick ["_law_stream", "_law_some"] (defScope s__law_pick) := ⟨rfl, rfl, rfl, by decide +kernel, rfl, by decide +kernel, by decide +kernel⟩
def spPick : Sp := fun vs H Q _ => ∃ (X : Addr → Prop) (st cl : Addr) (n : Nat) (v : V) (ds : List PyData), vs = [.ref st, v] ∧ Sg X st cl n H ∧ n ≤ 1000000000 ∧ DX X H v (.list ds) ∧ 0 < ds.length ∧ ds.length < 1000000 ∧
  ∀ w d H', d ∈ ds → Sg X st cl (n + 1) H' → KpS st cl H H' → DX X H' w d → Q w H'
theorem ok_pick {f : Addr} {fd : FuncData} (F : Fun K "_law_pick" "_law_pick" s__law_pick f fd) (T : Bl mg) (O__law_draw : Own P w K mg base CX0 1 "_law_draw" ["_law_stream", "_law_many"] spDraw) : FnOk P w K mg base CX0 2 f fd ["_law_stream", "_law_some"] spPick := by
  refine F.ok sc__law_pick (fun vs H Q E h => ?_) (fun cdv A outer s H vs Q E hr h => ?_)
  · obtain ⟨X, st, cl, n, v, ds, rfl, _⟩ := h
    rfl
  · obtain ⟨X, st, cl, n, v, ds, rfl, S, hn, hd, h0, h1, k⟩ := h
    refine ⟨_, (pss_one (ps_ret (pe_ix ix_seq (pv 1) (pe_own O__law_draw hr (by decide) (by rfl) (pa_cons (pv 0) (pa_cons (pe_callB call_len (by rfl) T.b_len boot_len (pa_cons (pv 1) pa_nil)) pa_nil))) (fun _ _ => rfl)))), ?_⟩
    have En : EnvOk X H (L2.start n__law_pick [.ref st, v]) [.val (.ref st), .dat (.list ds)] := ⟨rfl, fun i s e => by
      match i, e with
      | 0, e => cases e; rfl
      | 1, e => cases e; exact ⟨_, rfl, hd⟩⟩
    refine k_ret (k_op (g_var (i := 1) En rfl H (Same.refl H) _ fun v1 H1 s1 r1 => ?_))
    refine c_draw (S.same s1) (gv_var (En.same s1) rfl) (g_len (S.t.mono s1) (g_var (En.same s1) rfl) rfl) hn (by show 0 < (ds.length : Int); omega) (by show (ds.length : Int) < 1000000; omega) fun i H' i0 i1 S2 k2 => ?_
    have i1 : i < (ds.length : Int) := i1
    have hj : i.toNat < ds.length := by omega
    refine rd_ixL (z := ds[i.toNat]) (at_nat (by omega) hj) H' v1 (.int i) S2.t (r1.mono ((S.same s1).kp k2)) (.int i) _ fun w2 H2 s2 dw => ?_
    exact k w2 _ H2 (List.getElem_mem _) (S2.same s2) (((KpS.of s1).trans k2).trans (KpS.of s2)) dw
theorem c_pick {X : Addr → Prop} {st cl : Addr} {n : Nat} {H : Hp} {σ : L2.St} {ts tm : TE} {E : XK} {ds : List PyData} {Q : VK} (S : Sg X st cl n H) (hv : GV ts σ H (.ref st)) (hm : G X tm σ H (.list ds)) (hn : n ≤ 1000000000) (h0 : 0 < ds.length) (h1 : ds.length < 1000000)
    (k : ∀ w d H', d ∈ ds → Sg X st cl (n + 1) H' → KpS st cl H H' → DX X H' w d → Q w H') : tCall spPick [] E (tCons ts (tCons tm tNil)) σ H Q :=
  hv H (Same.refl H) _ (hm H (Same.refl H) _ fun v H1 s1 r => ⟨X, st, cl, n, v, ds, rfl, S.same s1, hn, r, h0, h1, fun w d H' hd S2 kk dw => k w d H' hd S2 ((KpS.of s1).trans kk) dw⟩)
/-- some things drawn one after the other into a new list -/
theorem lc_draws {X : Addr → Prop} {st cl : Addr} {n : Nat} {H : Hp} {σ : L2.St} {Γ : List Sv} {te : TE} {i m : Nat} {Q : VK} (pr : PyData → Prop) (S : Sg X st cl n H) (En : EnvOk X H σ Γ) (hm : m ≤ 100000)
    (he : ∀ X' H1 σ2 k Q1, k < m → EnvOk X' H1 σ2 ((Γ.set i .un).set i (.dat (.int (k : Nat)))) → Sg X' st cl (n + k) H1 → (∀ w d H', pr d → Sg X' st cl (n + k + 1) H' → KpS st cl H1 H' → DX X' H' w d → Q1 w H') → te σ2 H1 Q1)
    (q : ∀ w ds H', ds.length = m → (∀ d ∈ ds, pr d) → Sg X st cl (n + m) H' → KpS st cl H H' → DX X H' w (.list ds) → Nw H w → Q w H') : tLc (fun σ H R => R (Itr 0 m) H) (gName i) tYes te [i] σ H Q := by
  intro D hD
  have m2 : More X (fun a => X a ∨ a = D) H := More.one hD
  have d1 := S.ne1 hD
  have d2 := S.ne2 hD
  obtain ⟨Gd, Y, w1, w2⟩ := walkD_range (X := X) (H := H) (lo := 0) (n := m)
  rw [rangeD_len] at w1
  have key : ∀ H3, Kp (fun a => X a ∨ a = D) H H3 ∧ Trk (fun a => X a ∨ a = D) H3 → Gd H3 := fun H3 p => (w2 _ m2.2 H3 p.1 p.2).1
  let I : Nat → Hp → Prop := fun k H3 => KpS st cl H H3 ∧ Sg (fun a => X a ∨ a = D) st cl (n + k) H3 ∧ ∃ acc ds, H3 D = some (.lst acc) ∧ DXs (fun a => X a ∨ a = D) H3 acc ds ∧ ds.length = k ∧ ∀ d ∈ ds, pr d
  have ik : ∀ {k H3}, I k H3 → Kp (fun a => X a ∨ a = D) H H3 ∧ Trk (fun a => X a ∨ a = D) H3 := fun {k H3} p => ⟨p.1.kp (.inl S.x1) (.inl S.x2), p.2.1.t⟩
  refine lc_it w1 I ?_ (fun i H3 _ p => key H3 (ik p)) ?_ ?_
  · exact ⟨KpS.of (Same.upd hD), ⟨(S.ok).same (Same.upd hD), .inl S.x1, .inl S.x2, S.t.one hD⟩, [], [], upd_same, .nil, rfl, fun d h => by cases h⟩
  · rintro k x H3 H4 hk p y
    obtain ⟨s4, d, hd, dx⟩ := (w2 _ m2.2 H3 (ik p).1 (ik p).2).2 k x H4 y
    obtain ⟨p1, p2, acc, ds, p3, p4, p5, p6⟩ := p
    rw [rangeD_get hk] at hd
    cases hd
    have S4 := p2.same s4
    have k4 : Kp (fun a => X a ∨ a = D) H H4 := (p1.kp (.inl S.x1) (.inl S.x2)).trans (Kp.of s4)
    refine tgt_name (X := X) (i := i) En _ H4 m2 k4 S4.t x dx _ fun σ2 E2 hw => ⟨hw, ?_⟩
    refine k_yes ?_
    rw [show (0 : Int) + (k : Int) = (k : Nat) from by omega] at E2
    refine he _ H4 σ2 k _ hk E2 S4 fun w d H5 hp S5 k5 dw => ?_
    refine ⟨acc, k5 D _ d1 d2 (s4 D _ p3), by rw [p4.length, p5, sizeLine_eq]; omega, ?_, ?_, acc ++ [w], ds ++ [d], upd_same, ?_, by rw [List.length_append, p5]; rfl, fun z hz => ?_⟩
    · exact fun a o n1 n2 e => by
        have := k5 a o n1 n2 (s4 a _ (p1 a o n1 n2 e))
        rw [upd_ne (ne_of_none e hD)]
        exact this
    · exact S5.put d1 d2
    · exact (((p4.mono (Kp.of s4)).mono (S4.kp k5)).snoc dw).mono (Kp.put (.inr rfl))
    · rcases List.mem_append.mp hz with h | h
      · exact p6 z h
      · rw [List.mem_singleton.mp h]
        exact hp
  · rintro H3 ⟨p1, p2, acc, ds, p3, p4, p5, p6⟩
    have nXD : ¬ X D := S.t.new hD
    exact q (.ref D) ds H3 p5 p6 ⟨p2.ok, S.x1, S.x2, fun a h => p2.t a (.inl h)⟩ p1 (.lst nXD p3 (p4.less fun a => .inl)) (Nw.of hD)
abbrev s__law_mixed : Stmt := topS 53
abbrev n__law_mixed : List Str := ["_law_stream", "_law_some", "_law_left", "_law_k"]
theorem sc__law_mixed : FnScope n__law_mixed ["_law_stream", "_law_some"] (defScope s__law_mixed) := ⟨rfl, rfl, rfl, by decide +kernel, rfl, by decide +kernel, by decide +kernel⟩
def spMixed : Sp := fun vs H Q _ => ∃ (X : Addr → Prop) (st cl : Addr) (n : Nat) (v : V) (ds : List PyData), vs = [.ref st, v] ∧ Sg X st cl n H ∧ n + ds.length ≤ 1000000000 ∧ DX X H v (.list ds) ∧ ds.length < 1000000 ∧
  ∀ w es H', es.Perm ds → Sg X st cl (n + ds.length) H' → KpS st cl H H' → DX X H' w (.list es) → Nw H w → Q w H'
theorem ok_mixed {f : Addr} {fd : FuncData} (F : Fun K "_law_mixed" "_law_mixed" s__law_mixed f fd) (T : Bl mg) (O__law_draw : Own P w K mg base CX0 1 "_law_draw" ["_law_stream", "_law_many"] spDraw) : FnOk P w K mg base CX0 2 f fd ["_law_stream", "_law_some"] spMixed := by
  refine F.ok sc__law_mixed (fun vs H Q E h => ?_) (fun cdv A outer s H vs Q E hr h => ?_)
  · obtain ⟨X, st, cl, n, v, ds, rfl, _⟩ := h
    rfl
  · obtain ⟨X, st, cl, n, v, ds, rfl, S, hn, hd, h1, k⟩ := h
    refine ⟨_, (pss_cons (ps_set (i := 2) sc__law_mixed.nd rfl (by first | exact Or.inl rfl | exact Or.inr rfl) (pe_callTy call_list_of (by rfl) T.b_list boot_list (pa_cons (pv 1) pa_nil)))
    (pss_one (ps_ret (pe_lc (own := [("_law_k", 3)]) (g := (gName 3)) (tt := tYes) (te := tBM K "list" rPopAt (tVar 2) (tCons (tCall spDraw [] E0 (tCons (tVar 0) (tCons (tCB (fun xs H Q => ∃ x n, xs = [x] ∧ LenV K x H n ∧ Q (V.int n) H) (tCons (tVar 2) tNil)) tNil))) tNil)) rfl sc__law_mixed.nd (pi_range1 (by rfl) T.b_range (pa_cons (pe_callB call_len (by rfl) T.b_len boot_len (pa_cons (pv 2) pa_nil)) pa_nil)) (blkOk_by (N := n__law_mixed) (sc := defScope s__law_mixed) (by decide +kernel)) (fun _ _ _ _ _ => (pg_name (i := 3) sc__law_mixed.nd rfl (by first | exact Or.inl rfl | exact Or.inr rfl))) (fun _ _ _ _ _ => pts_nil) (fun _ _ _ _ _ => (pe_bm PySem.F.plainAttrs_list PySem.F.slot_list_pop PySem.F.type_list_pop mt_popAt (pv 2) (pa_cons (pe_own O__law_draw hr (by decide) (by rfl) (pa_cons (pv 0) (pa_cons (pe_callB call_len (by rfl) T.b_len boot_len (pa_cons (pv 2) pa_nil)) pa_nil))) pa_nil))))))), ?_⟩
    have En : EnvOk X H (L2.start n__law_mixed [.ref st, v]) [.val (.ref st), .dat (.list ds), .un, .un] := ⟨rfl, fun i s e => by
      match i, e with
      | 0, e => cases e; rfl
      | 1, e => cases e; exact ⟨_, rfl, hd⟩
      | 2, e => cases e; trivial
      | 3, e => cases e; trivial⟩
    -- left = list(some)
    refine k_set (gn_listOf (d := .list ds) S.t (g_var (i := 1) En rfl) rfl H (Same.refl H) _ fun v1 H1 s1 d1 nw1 => ?_)
    obtain ⟨L, us, rfl, nL, eL, rL⟩ := d1.inner
    have hL : H L = none := nw1 L rfl
    have E1 := (((En.more (More.one hL)).same s1).setV (i := 2) (v := .ref L))
    have t1 : Trk (fun b => X b ∨ b = L) H1 := fun a h => h.elim (fun x => S.t.mono s1 a x) fun e => ⟨_, e ▸ eL⟩
    have S1 : Sg (fun b => X b ∨ b = L) st cl n H1 := ⟨S.ok.same s1, .inl S.x1, .inl S.x2, t1⟩
    have n1 := S.ne1 hL
    have n2 := S.ne2 hL
    -- range(len(left))
    refine k_ret ?_
    refine ⟨_, E1.get 2 _ rfl, ?_⟩
    have xl1 : us.length = ds.length := rL.length
    refine ⟨.ref L, us.length, rfl, .inl ⟨us, SqL.of eL, rfl⟩, ?_⟩
    refine ⟨_, rfl, by omega, by omega, ?_⟩
    rw [show (us.length : Int).toNat = ds.length from by omega]
    intro D hD
    have dL : D ≠ L := fun e => by rw [e, eL] at hD; cases hD
    let X1 : Addr → Prop := fun b => X b ∨ b = L
    let X2 : Addr → Prop := fun a => X1 a ∨ a = D
    have m2 : More X1 X2 H1 := More.one hD
    have d1 := S1.ne1 hD
    have d2 := S1.ne2 hD
    obtain ⟨Gd, Y, w1, w2⟩ := walkD_range (X := X1) (H := H1) (lo := 0) (n := ds.length)
    rw [rangeD_len] at w1
    let I : Nat → Hp → Prop := fun k H3 => (∀ a o, a ≠ st → a ≠ cl → a ≠ L → H1 a = some o → H3 a = some o) ∧ Sg X2 st cl (n + k) H3 ∧ ∃ acc es left xs, H3 D = some (.lst acc) ∧ DXs X2 H3 acc es ∧ H3 L = some (.lst xs) ∧ DXs X2 H3 xs left ∧ es.length = k ∧ (es ++ left).Perm ds
    have ik : ∀ {k H3}, I k H3 → Kp X2 H1 H3 ∧ Trk X2 H3 := fun {k H3} p => ⟨fun a o n e => p.1 a o (fun z => n (z ▸ .inl (.inl S.x1))) (fun z => n (z ▸ .inl (.inl S.x2))) (fun z => n (z ▸ .inl (.inr rfl))) e, p.2.1.t⟩
    refine lc_it w1 I ?_ (fun i H3 _ p => (w2 _ m2.2 H3 (ik p).1 (ik p).2).1) ?_ ?_
    · have sD : Same H1 (upd H1 D (.lst [])) := Same.upd hD
      exact ⟨fun a o _ _ _ e => sD a o e, ⟨S1.ok.same sD, .inl (.inl S.x1), .inl (.inl S.x2), t1.one hD⟩, [], [], ds, us, upd_same, .nil, sD _ _ eL, (rL.more m2).mono (Kp.of sD), rfl, List.Perm.refl _⟩
    · rintro j x H3 H4 hj p y
      obtain ⟨s4, d, hd4, dx⟩ := (w2 _ m2.2 H3 (ik p).1 (ik p).2).2 j x H4 y
      obtain ⟨p1, p2, acc, es, left, xs, p3, p4, p5, p6, p7, p8⟩ := p
      have S4 := p2.same s4
      refine tgt_name (X := X1) (i := 3) E1 _ H4 m2 ((ik ⟨p1, p2, acc, es, left, xs, p3, p4, p5, p6, p7, p8⟩).1.trans (Kp.of s4)) S4.t x dx _ fun σ2 E2 hw => ⟨hw, ?_⟩
      refine k_yes ?_
      have hL4 : H4 L = some (.lst xs) := s4 _ _ p5
      have r4 := p6.mono (Kp.of s4)
      have q4 := p4.mono (Kp.of s4)
      have lt0 : 0 < left.length := by
        have := p8.length_eq
        rw [List.length_append] at this
        omega
      have lt1 : left.length ≤ ds.length := by
        have := p8.length_eq
        rw [List.length_append] at this
        omega
      have lx : xs.length = left.length := r4.length
      refine ⟨_, E2.get 2 _ rfl, .inl ⟨rfl, _, SqL.of hL4⟩, ?_⟩
      refine k_cons (c_draw (m := (left.length : Nat)) S4 (gv_var (i := 0) E2 rfl) ?_ (by omega) (by omega) (by omega) fun i H5 i0 i1 S5 k5 => ?_)
      · intro H5 s5 Q5 q5
        refine ⟨_, E2.get 2 _ rfl, ?_⟩
        refine ⟨.ref L, xs.length, rfl, .inl ⟨xs, SqL.of (s5 _ _ hL4), rfl⟩, ?_⟩
        rw [lx]
        exact q5 _ H5 (Same.refl _) (.int _)
      · have hL5 : H5 L = some (.lst xs) := k5 L _ n1 n2 hL4
        have r5 := r4.mono (S4.kp k5)
        have q5 := q4.mono (S4.kp k5)
        have hi : i.toNat < left.length := by omega
        have hx : i.toNat < xs.length := by omega
        obtain ⟨y, hy, ry⟩ := r5.get (i := i.toNat) (d := left[i.toNat]) (List.getElem?_eq_getElem hi)
        refine ⟨L, xs, i, i.toNat, y, rfl, rfl, hL5, by omega, by omega, ?_, hy, ?_⟩
        · exact seqIx_nat i0 hx
        · have kL : Kp X2 H5 (upd H5 L (.lst (xs.eraseIdx i.toNat))) := Kp.put (.inl (.inr rfl))
          have nD : H5 D = some (.lst acc) := k5 D _ d1 d2 (s4 D _ p3)
          refine ⟨acc, by rw [upd_ne dL]; exact nD, by rw [p4.length, p7, sizeLine_eq]; omega, ?_, ?_, acc ++ [y], es ++ [left[i.toNat]], left.eraseIdx i.toNat, xs.eraseIdx i.toNat, upd_same, ?_, by rw [upd_ne (Ne.symm dL)]; exact upd_same, ?_, by rw [List.length_append, p7]; rfl, ?_⟩
          · intro a o a1 a2 a3 e
            rw [upd_ne (ne_of_none e hD), upd_ne a3]
            exact k5 a o a1 a2 (s4 a _ (p1 a o a1 a2 a3 e))
          · exact (S5.put n1 n2).put d1 d2
          · exact ((q5.snoc ry).mono kL).mono (Kp.put (.inr rfl))
          · exact ((r5.erase i.toNat).mono kL).mono (Kp.put (.inr rfl))
          · rw [List.append_assoc]
            refine List.Perm.trans (List.Perm.append_left es ?_) p8
            exact erase_perm left i.toNat hi
    · rintro H3 ⟨p1, p2, acc, es, left, xs, p3, p4, p5, p6, p7, p8⟩
      have nXD : ¬ X D := t1.new hD ∘ .inl
      have le : left = [] := by
        have := p8.length_eq
        rw [List.length_append] at this
        exact List.eq_nil_of_length_eq_zero (by omega)
      subst le
      rw [List.append_nil] at p8
      exact k (.ref D) es H3 p8 ⟨p2.ok, S.x1, S.x2, fun a h => p2.t a (.inl (.inl h))⟩ (fun a o n3 n4 e => p1 a o n3 n4 (ne_of_none e hL) (s1 a o e)) (.lst nXD p3 (p4.less fun a h => .inl (.inl h))) (fun a e => by cases e; exact s1.free hD)
end K20

namespace K20
open PySem PySem.Spec PyProof.Rows L2 KD
variable {P : Program} {w : World} {K : PySem.W.Frag} {mg : Str → Option Value} {base : Heap}
/-! ### leaves -/
def leaf : PyData → Bool
  | .none => true
  | .bool _ => true
  | .int _ => true
  | .str s => PyData.strOk s
  | _ => false
theorem canLay_leaf : ∀ {ds : List PyData}, (∀ d ∈ ds, leaf d = true) → PyData.canLayAll0 ds = true
  | [], _ => by simp [PyData.canLayAll0]
  | d :: ds, h => by
    have h1 := h d List.mem_cons_self
    have h2 := canLay_leaf fun z hz => h z (List.mem_cons_of_mem _ hz)
    cases d <;> simp_all [PyData.canLayAll0, PyData.canLay0, leaf]
theorem depth_leaf : ∀ {ds : List PyData}, (∀ d ∈ ds, leaf d = true) → PyData.depthAll ds ≤ 1
  | [], _ => by simp [PyData.depthAll]
  | d :: ds, h => by
    have h1 := h d List.mem_cons_self
    have h2 := depth_leaf fun z hz => h z (List.mem_cons_of_mem _ hz)
    cases d <;> simp_all [PyData.depthAll, PyData.depth, leaf]
theorem shaped_leaf {d : PyData} (h : leaf d = true) : SeqAt.shaped d = true := by
  cases d <;> simp_all [SeqAt.shaped, PyData.canLay0, PyData.depth, leaf]
theorem shaped_leafs {ds : List PyData} (h : ∀ d ∈ ds, leaf d = true) : SeqAt.shaped (.list ds) = true := by
  have := depth_leaf h
  have h2 : PyData.depth (.list ds) ≤ 64 := by
    simp only [PyData.depth]
    omega
  show ((PyData.list ds).canLay0 && decide ((PyData.list ds).depth ≤ 64)) = true
  rw [Bool.and_eq_true]
  exact ⟨by simp only [PyData.canLay0]; exact canLay_leaf h, decide_eq_true h2⟩
theorem noDict_leaf {d : PyData} (h : leaf d = true) : noDict d = true := by cases d <;> first | rfl | cases h
theorem noDicts_leaf : ∀ {ds : List PyData}, (∀ d ∈ ds, leaf d = true) → noDicts ds = true
  | [], _ => by simp [noDicts]
  | d :: ds, h => by
    have h1 := noDict_leaf (h d List.mem_cons_self)
    have h2 := noDicts_leaf fun z hz => h z (List.mem_cons_of_mem _ hz)
    simp [noDicts, h1, h2]
theorem rb_inD {X : Addr → Prop} {d : PyData} {ds : List PyData} (h : leaf d = true) (hs : ∀ z ∈ ds, leaf z = true) : RB X (rInD K) d (.list ds) (ds.any fun z => PyData.eqv z d) := fun H u v _ ru rv Q q => ⟨d, ds, ru.dp (noDict_leaf h), rv.dp (by show noDicts ds = true; exact noDicts_leaf hs), shaped_leaf h, shaped_leafs hs, q⟩
def letters : List Str := ["a", "b", "c", "d e", "", "a"]
def spText : Sp := fun vs H Q _ => ∃ (X : Addr → Prop) (st cl : Addr) (n m : Nat), vs = [.ref st, .int m] ∧ Sg X st cl n H ∧ n + m ≤ 1000000000 ∧ m ≤ 1000 ∧
  ∀ w ws H', ws.length = m → (∀ z ∈ ws, z ∈ letters) → Sg X st cl (n + m) H' → KpS st cl H H' → DX X H' w (wsD ws) → Nw H w → Q w H'
theorem strs_of {L : List Str} : ∀ {ds : List PyData}, (∀ d ∈ ds, d ∈ L.map PyData.str) → ∃ ws : List Str, ds = ws.map PyData.str ∧ ∀ z ∈ ws, z ∈ L
  | [], _ => ⟨[], rfl, fun z h => by cases h⟩
  | d :: ds, h => by
    obtain ⟨s, hs, rfl⟩ := List.mem_map.mp (h d List.mem_cons_self)
    obtain ⟨ws, rfl, hw⟩ := strs_of fun z hz => h z (List.mem_cons_of_mem _ hz)
    exact ⟨s :: ws, rfl, fun z hz => (List.mem_cons.mp hz).elim (fun e => e ▸ hs) (hw z)⟩
theorem env_sv {X : Addr → Prop} {H : Hp} {N : List Str} {vs : List V} {ss : List Sv} (hl : vs.length = ss.length) (hs : ∀ (i : Nat) (s : Sv), ss[i]? = some s → ∀ v, vs[i]? = some v → SvOk X H s (some (some v))) (hN : vs.length ≤ N.length) : EnvOk X H (L2.start N vs) (pad N ss) := by
  unfold pad
  rw [← hl]
  exact envOk_start hl hs hN
theorem env_s1 {X : Addr → Prop} {H : Hp} {N : List Str} {st : Addr} {v : V} {s : Sv} (h : SvOk X H s (some (some v))) (hN : 2 ≤ N.length) : EnvOk X H (L2.start N [.ref st, v]) (pad N [.val (.ref st), s]) :=
  env_sv rfl (fun i s e u e2 => by
    match i, e, e2 with
    | 0, e, e2 => cases e; cases e2; rfl
    | 1, e, e2 => cases e; cases e2; exact h) hN
theorem env_s2 {X : Addr → Prop} {H : Hp} {N : List Str} {st : Addr} {v v2 : V} {s s2 : Sv} (h : SvOk X H s (some (some v))) (h2 : SvOk X H s2 (some (some v2))) (hN : 3 ≤ N.length) : EnvOk X H (L2.start N [.ref st, v, v2]) (pad N [.val (.ref st), s, s2]) :=
  env_sv rfl (fun i s e u e2 => by
    match i, e, e2 with
    | 0, e, e2 => cases e; cases e2; rfl
    | 1, e, e2 => cases e; cases e2; exact h
    | 2, e, e2 => cases e; cases e2; exact h2) hN
theorem ga_strs {X : Addr → Prop} {σ : L2.St} {H : Hp} : ∀ L : List Str, GA X (L.foldr (fun s t => tCons (tC (.str s)) t) tNil) σ H (L.map PyData.str)
  | [] => ga_nil
  | s :: L => ga_cons g_str (ga_strs L)
abbrev s__law_p_text : Stmt := topS 39
abbrev n__law_p_text : List Str := ["_law_stream", "_law_many", "_law_k"]
theorem sc__law_p_text : FnScope n__law_p_text ["_law_stream", "_law_many"] (defScope s__law_p_text) := ⟨rfl, rfl, rfl, by decide +kernel, rfl, by decide +kernel, by decide +kernel⟩
theorem ok_p_text {f : Addr} {fd : FuncData} (F : Fun K "_law_p_text" "_law_p_text" s__law_p_text f fd) (T : Bl mg) (O__law_pick : Own P w K mg base CX0 2 "_law_pick" ["_law_stream", "_law_some"] spPick) : FnOk P w K mg base CX0 3 f fd ["_law_stream", "_law_many"] spText := by
  refine F.ok sc__law_p_text (fun vs H Q E h => ?_) (fun cdv A outer s H vs Q E hr h => ?_)
  · obtain ⟨X, st, cl, n, m, rfl, _⟩ := h
    rfl
  · obtain ⟨X, st, cl, n, m, rfl, S, hn, hm, k⟩ := h
    refine ⟨_, (pss_one (ps_ret (pe_lc (own := [("_law_k", 2)]) (g := (gName 2)) (tt := tYes) rfl sc__law_p_text.nd (pi_range1 (by rfl) T.b_range (pa_cons (pv 1) pa_nil)) (blkOk_by (N := n__law_p_text) (sc := defScope s__law_p_text) (by decide +kernel)) (fun _ _ _ _ _ => (pg_name (i := 2) sc__law_p_text.nd rfl (by first | exact Or.inl rfl | exact Or.inr rfl))) (fun _ _ _ _ _ => pts_nil) (fun _ _ _ _ _ => (pe_own O__law_pick hr (by decide) (by rfl) (pa_cons (pv 0) (pa_cons (pe_lst (pa_cons pe_str (pa_cons pe_str (pa_cons pe_str (pa_cons pe_str (pa_cons pe_str (pa_cons pe_str pa_nil))))))) pa_nil))))))), ?_⟩
    have En : EnvOk X H (L2.start n__law_p_text [.ref st, .int m]) (pad n__law_p_text [.val (.ref st), .dat (.int m)]) := env_s1 ⟨_, rfl, .int _⟩ (by decide)
    refine k_ret ?_
    refine ⟨.int m, rfl, _, rfl, by omega, by omega, ?_⟩
    rw [show (m : Int).toNat = m from by omega]
    refine lc_draws (X := X) (cl := cl) (n := n) (i := 2) (m := m) (fun d => d ∈ letters.map PyData.str) S En (by omega) (fun X' H1 σ2 j Q1 hj E1 S1 q1 => ?_) fun w ds H' hl hd S' k' dw nw => ?_
    · refine c_pick (ds := letters.map PyData.str) S1 (gv_var (i := 0) E1 rfl) (g_lst S1.t (ga_strs letters) (by decide)) (by omega) (by decide) (by decide) fun w d H' hd S' k' dw => q1 w d H' hd S' k' dw
    · obtain ⟨ws, rfl, hw⟩ := strs_of hd
      exact k w ws H' (by rw [← hl, List.length_map]) hw S' k' dw nw
abbrev s__law_p_made : Stmt := topS 40
abbrev n__law_p_made : List Str := ["_law_words", "_law_change", "_law_place", "_law_old", "_law_new"]
theorem sc__law_p_made : FnScope n__law_p_made ["_law_words", "_law_change"] (defScope s__law_p_made) := ⟨rfl, rfl, rfl, by decide +kernel, rfl, by decide +kernel, by decide +kernel⟩
theorem ok_p_made {f : Addr} {fd : FuncData} (F : Fun K "_law_p_made" "_law_p_made" s__law_p_made f fd) (T : Bl mg) : FnOk P w K mg base CX0 1 f fd ["_law_words", "_law_change"] (sp2N TC fun a b => wsD (putB (wsOf a) (intOf (it b 0)) (wsOf (it b 1)) (wsOf (it b 2)))) := by
  refine ok2N F sc__law_p_made (by decide) fun cdv A outer s H E X d1 d2 Q hr t hp q => ⟨_, (pss_cons (ps_asg (pv 1) (pg_tup (n := 3) rfl (pgs_cons (pg_name (i := 2) sc__law_p_made.nd rfl (by first | exact Or.inl rfl | exact Or.inr rfl)) (pgs_cons (pg_name (i := 3) sc__law_p_made.nd rfl (by first | exact Or.inl rfl | exact Or.inr rfl)) (pgs_cons (pg_name (i := 4) sc__law_p_made.nd rfl (by first | exact Or.inl rfl | exact Or.inr rfl)) pgs_nil)))))
    (pss_one (ps_ret (pe_op op_addA (pe_op op_addA (pe_slice sl_list (pv 0) po_none (po_some (pv 2))) (pv 4)) (pe_slice sl_list (pv 0) (po_some (pe_op op_addA (pv 2) (pe_callB call_len (by rfl) T.b_len boot_len (pa_cons (pv 3) pa_nil)))) po_none))))), fun σ En => ?_⟩
  obtain ⟨ws, p, os, ns, rfl, rfl, h1, h2, h3, h0⟩ := hp
  have q' : ∀ w H', Same H H' → DX X H' w (wsD (putB ws p os ns)) → Nw H w → Q w H' := fun w H' s dw nw => q w H' s (by
    rw [wsOf_wsD]
    show DX X H' w (wsD (putB ws p (wsOf (wsD os)) (wsOf (wsD ns))))
    rw [wsOf_wsD, wsOf_wsD]
    exact dw) nw
  refine q_asg (g_var (d := chD p os ns) En rfl) fun H1 v s1 dv => ?_
  refine g_triple dv fun u1 u2 u3 r1 r2 r3 => ?_
  have E2 := (((En.same s1).set (i := 2) r1).set (i := 3) r2).set (i := 4) r3
  have t1 := t.mono s1
  have l1 := h1.1
  have l2 := h2.1
  have l3 := h3.1
  refine s_retN (GN.is (catn_ws t1 (cat_ws t1 (sl_to t1 (g_var E2 rfl) (g_var E2 rfl) h0) (g_var E2 rfl) ?_) (sl_from t1 (g_var E2 rfl) (g_addI t1 (g_var E2 rfl) (len_ws t1 (g_var E2 rfl))) (by omega)) ?_) ?_) fun w H2 s2 dw nw => q' w H2 (s1.trans s2) dw (Nw.back s1 nw)
  · rw [List.length_take]
    omega
  · rw [List.length_append, List.length_take, List.length_drop]
    omega
  · unfold putB
    rw [show (p + (os.length : Int)).toNat = p.toNat + os.length from by omega]

-- HINT _law_p_change in op_in_seq
-- HINT _law_p_change lctt#1 tTest (tOp (rIn K false) (tC (.bl true)) (tSl (rSlL K) (tVar 2) (tPart (tVar 3)) (tPart (tOp rAddA (tVar 7) (tC (.int 1))))))
abbrev s__law_p_change : Stmt := topS 41
abbrev n__law_p_change : List Str := ["_law_stream", "_law_words", "_law_marks", "_law_place", "_law_many", "_law_free", "_law_new", "_law_at", "_law_k"]
theorem sc__law_p_change : FnScope n__law_p_change ["_law_stream", "_law_words", "_law_marks"] (defScope s__law_p_change) := ⟨rfl, rfl, rfl, by decide +kernel, rfl, by decide +kernel, by decide +kernel⟩
def letters2 : List Str := ["x", "y", "a", "", "z"]
def spChange : Sp := fun vs H Q _ => ∃ (X : Addr → Prop) (st cl : Addr) (n : Nat) (v1 v2 : V) (ws : List Str) (ms : List PyData), vs = [.ref st, v1, v2] ∧ Sg X st cl n H ∧ n + 10 ≤ 1000000000 ∧ DX X H v1 (wsD ws) ∧ DX X H v2 (.list ms) ∧ WsOk ws ∧ (∀ z ∈ ms, z = .bool false) ∧
  ∀ w p os ns H', 0 ≤ p → p ≤ (ws.length : Int) → os = (ws.drop p.toNat).take os.length → (∀ z ∈ ns, z ∈ letters2) → ns.length ≤ 2 → 0 < os.length + ns.length → Sg X st cl (n + 5) H' → KpS st cl H H' → DX X H' w (chD p os ns) → Q w H'
theorem inV_ff : ∀ {X : Addr → Prop} {H : Hp} {xs : List V} {ds : List PyData}, DXs X H xs ds → (∀ z ∈ ds, z = .bool false) → xs.all flatV = true ∧ inV (.bl true) xs = false
  | _, _, _, _, .nil, _ => ⟨rfl, rfl⟩
  | _, _, _, _, .cons h r, hz => by
    have e := hz _ List.mem_cons_self
    subst e
    obtain ⟨i1, i2⟩ := inV_ff r fun z h => hz z (List.mem_cons_of_mem _ h)
    rw [h.bl_inv]
    refine ⟨by rw [List.all_cons, i1]; rfl, ?_⟩
    unfold inV at i2 ⊢
    rw [List.any_cons, i2]
    rfl
theorem rb_inF {X : Addr → Prop} {ds : List PyData} (hs : ∀ z ∈ ds, z = .bool false) : RB X (rIn K false) (.bool true) (.list ds) false := fun H u v _ ru rv Q q => by
  obtain ⟨a, xs, rfl, _, ha, rs⟩ := rv.lst_inv
  obtain ⟨i1, i2⟩ := inV_ff rs hs
  refine ⟨a, xs, rfl, .inl (SqL.of ha), by rw [ru.bl_inv]; rfl, i1, ?_⟩
  rw [ru.bl_inv, i2]
  exact q
theorem cut_mem {ds : List PyData} {lo hi : Option Int} {z : PyData} (h : z ∈ cutPD ds lo hi) : z ∈ ds := List.mem_of_mem_drop (List.mem_of_mem_take h)
theorem ok_p_change {f : Addr} {fd : FuncData} (F : Fun K "_law_p_change" "_law_p_change" s__law_p_change f fd) (T : Bl mg) (O__law_draw : Own P w K mg base CX0 1 "_law_draw" ["_law_stream", "_law_many"] spDraw) (O__law_pick : Own P w K mg base CX0 2 "_law_pick" ["_law_stream", "_law_some"] spPick) : FnOk P w K mg base CX0 3 f fd ["_law_stream", "_law_words", "_law_marks"] spChange := by
  refine F.ok sc__law_p_change (fun vs H Q E h => ?_) (fun cdv A outer s H vs Q E hr h => ?_)
  · obtain ⟨X, st, cl, n, v1, v2, ws, ms, rfl, _⟩ := h
    rfl
  · obtain ⟨X, st, cl, n, v1, v2, ws, ms, rfl, S, hn, hd1, hd2, hw, hms, k⟩ := h
    refine ⟨_, (pss_cons (ps_asg (pe_tup (pa_cons (pe_own O__law_draw hr (by decide) (by rfl) (pa_cons (pv 0) (pa_cons (pe_op op_addA (pe_callB call_len (by rfl) T.b_len boot_len (pa_cons (pv 1) pa_nil)) pe_int) pa_nil))) (pa_cons (pe_own O__law_pick hr (by decide) (by rfl) (pa_cons (pv 0) (pa_cons (pe_lst (pa_cons pe_int (pa_cons pe_int (pa_cons pe_int (pa_cons pe_int (pa_cons pe_int pa_nil)))))) pa_nil))) pa_nil))) (pg_tup (n := 2) rfl (pgs_cons (pg_name (i := 3) sc__law_p_change.nd rfl (by first | exact Or.inl rfl | exact Or.inr rfl)) (pgs_cons (pg_name (i := 4) sc__law_p_change.nd rfl (by first | exact Or.inl rfl | exact Or.inr rfl)) pgs_nil))))
    (pss_cons (ps_setLc (i := 5) (own := [("_law_at", 7)]) (g := (gName 7)) (tt := tTest (tOp (rIn K false) (tC (.bl true)) (tSl (rSlL K) (tVar 2) (tPart (tVar 3)) (tPart (tOp rAddA (tVar 7) (tC (.int 1))))))) rfl sc__law_p_change.nd rfl rfl (sw_true rfl rfl rfl (by decide +kernel)) (pi_range2 (by rfl) T.b_range (pa_cons (pv 3) (pa_cons (pe_callB call_len (by rfl) T.b_len boot_len (pa_cons (pv 1) pa_nil)) pa_nil))) (blkOk_by (N := n__law_p_change) (sc := defScope s__law_p_change) (by decide +kernel)) (fun _ _ _ _ _ => (pg_name (i := 7) sc__law_p_change.nd rfl (by first | exact Or.inl rfl | exact Or.inr rfl))) (fun _ _ _ _ _ => (pts_one (pt_cmpR op_in_seq pe_bl (pe_slice sl_list (pv 2) (po_some (pv 3)) (po_some (pe_op op_addA (pv 7) pe_int))) (by rfl)))) (fun _ _ _ _ _ => (pv 7)))
    (pss_cons (ps_set (i := 4) sc__law_p_change.nd rfl (by first | exact Or.inl rfl | exact Or.inr rfl) (pe_callB (cr_min rfl) (by rfl) T.b_min boot_min (pa_cons (pe_op op_addA (pe_lst (pa_cons (pv 4) (pa_cons (pe_op op_sub (pe_callB call_len (by rfl) T.b_len boot_len (pa_cons (pv 1) pa_nil)) (pv 3)) pa_nil))) (pe_lc (own := [("_law_at", 7)]) (g := (gName 7)) (tt := tYes) rfl sc__law_p_change.nd (pi_list (pe_slice sl_list (pv 5) po_none (po_some pe_int))) (blkOk_by (N := n__law_p_change) (sc := defScope s__law_p_change) (by decide +kernel)) (fun _ _ _ _ _ => (pg_name (i := 7) sc__law_p_change.nd rfl (by first | exact Or.inl rfl | exact Or.inr rfl))) (fun _ _ _ _ _ => pts_nil) (fun _ _ _ _ _ => (pe_op op_sub (pe_callTy call_int1 (by rfl) T.b_int boot_int (pa_cons (pv 7) pa_nil)) (pv 3))))) pa_nil)))
    (pss_cons (ps_setLc (i := 6) (own := [("_law_k", 8)]) (g := (gName 8)) (tt := tYes) rfl sc__law_p_change.nd rfl rfl (sw_true rfl rfl rfl (by decide +kernel)) (pi_range1 (by rfl) T.b_range (pa_cons (pe_own O__law_pick hr (by decide) (by rfl) (pa_cons (pv 0) (pa_cons (pe_lst (pa_cons pe_int (pa_cons pe_int (pa_cons pe_int (pa_cons pe_int pa_nil))))) pa_nil))) pa_nil)) (blkOk_by (N := n__law_p_change) (sc := defScope s__law_p_change) (by decide +kernel)) (fun _ _ _ _ _ => (pg_name (i := 8) sc__law_p_change.nd rfl (by first | exact Or.inl rfl | exact Or.inr rfl))) (fun _ _ _ _ _ => pts_nil) (fun _ _ _ _ _ => (pe_own O__law_pick hr (by decide) (by rfl) (pa_cons (pv 0) (pa_cons (pe_lst (pa_cons pe_str (pa_cons pe_str (pa_cons pe_str (pa_cons pe_str pa_nil))))) pa_nil)))))
    (pss_one (ps_ret (pe_tup (pa_cons (pv 3) (pa_cons (pe_slice sl_list (pv 1) (po_some (pv 3)) (po_some (pe_op op_addA (pv 3) (pv 4)))) (pa_cons (pe_ifExp (pt_cmpR op_gt (pe_op op_addA (pv 4) (pe_callB call_len (by rfl) T.b_len boot_len (pa_cons (pv 6) pa_nil))) pe_int (nomark _)) (pv 6) (pe_lst (pa_cons pe_str pa_nil))) pa_nil)))))))))), ?_⟩
    have En : EnvOk X H (L2.start n__law_p_change [.ref st, v1, v2]) (pad n__law_p_change [.val (.ref st), .dat (wsD ws), .dat (.list ms)]) := env_s2 ⟨_, rfl, hd1⟩ ⟨_, rfl, hd2⟩ (by decide)
    have wl := hw.1
    refine k_asg (k_cons (c_draw (m := (ws.length : Int) + 1) S (gv_var (i := 0) En rfl) (g_addI S.t (len_ws S.t (g_var (i := 1) En rfl)) g_int) (by omega) (by omega) (by omega) fun p H1 p0 p1 S1 k1 => ?_))
    have E1 := En.kps S k1
    refine k_cons (c_pick (ds := [.int 0, .int 0, .int 1, .int 1, .int 2]) S1 (gv_var (i := 0) E1 rfl) (g_lst S1.t (ga_cons g_int (ga_cons g_int (ga_cons g_int (ga_cons g_int (ga_cons g_int ga_nil))))) (by decide)) (by omega) (by decide) (by decide) fun x d H2 hd S2 k2 dx => ?_)
    have E2 := E1.kps S1 k2
    have hmany : ∃ m : Int, d = .int m ∧ 0 ≤ m ∧ m ≤ 2 := by
      simp at hd
      rcases hd with rfl | rfl | rfl
      · exact ⟨_, rfl, by omega, by omega⟩
      · exact ⟨_, rfl, by omega, by omega⟩
      · exact ⟨_, rfl, by omega, by omega⟩
    obtain ⟨m, rfl, m0, m2⟩ := hmany
    refine ⟨by show 2 ≤ sizeLine; decide, fun a ha => ?_⟩
    have s3 : Same H2 (upd H2 a (.tup [.int p, x])) := Same.upd ha
    refine g_pair (d := .int p) (e := .int m) (DX.newT S2.t (.cons (.int p) (.cons dx .nil)) ha) fun u1 u2 r1 r2 => ?_
    have E3 := ((E2.same s3).set (i := 3) r1).set (i := 4) r2
    have S3 := S2.same s3
    have t3 := S3.t
    -- free
    refine q_set (i := 5) (d := .list []) E3 ?_ fun H4 v4 s4 E4 => ?_
    · refine g_is (g_lc (Γ2 := fun d => ((pad n__law_p_change [.val (.ref st), .dat (wsD ws), .dat (.list ms), .dat (.int p), .dat (.int m)]).set 7 .un).set 7 (.dat d)) (fun _ => false) (fun d => d) t3 (gi_range2 (g_var (i := 3) E3 rfl) (len_ws t3 (g_var (i := 1) E3 rfl)) (by omega)) (by rw [rangeD_len]; omega) (fun H1 s d hd => tgt_name (E3.same s)) (fun X' H1 σ2 d hd t E => ?_) (fun X' H1 σ2 d hd hf => by cases hf)) ?_
      · obtain ⟨j, hj, rfl⟩ := List.mem_map.mp hd
        refine gt_op t g_bl (g_sl t (g_var (i := 2) E rfl) (go_some (g_var (i := 3) E rfl)) (go_some (g_addI t (g_var (i := 7) E rfl) g_int))) (rb_inF fun z hz => hms z (cut_mem hz))
      · rw [List.filter_eq_nil_iff.mpr (fun _ _ => by simp)]
        rfl
    have t4 := t3.mono s4
    have S4 := S3.same s4
    -- many
    have hmin : ∃ q : Int, q = min m ((ws.length : Int) - p) ∧ 0 ≤ q ∧ q ≤ (ws.length : Int) - p := ⟨_, rfl, by omega, by omega⟩
    obtain ⟨q, hq, q0, q1⟩ := hmin
    refine q_set (i := 4) (d := .int q) E4 ?_ fun H5 v5 s5 E5 => ?_
    · refine g_cb (ds := [.list (([m, (ws.length : Int) - p] : List Int).map PyData.int)]) t4 (ga_cons (g_is (g_cat (xs := [.int m, .int ((ws.length : Int) - p)]) (ys := []) t4 (g_lst t4 (ga_cons (g_var (i := 4) E4 rfl) (ga_cons (g_sub t4 (len_ws t4 (g_var (i := 1) E4 rfl)) (g_var (i := 3) E4 rfl)) ga_nil)) (by simp)) ?_ (by simp)) rfl) ga_nil) (rf_min (by simp) ?_ ?_)
      · refine g_is (g_lc1 (ds := cutPD [] none (some 1)) (Γ2 := fun d => pad n__law_p_change []) (fun d => d) t4 (gi_list (g_sl t4 (g_var (i := 5) E4 rfl) go_none (go_some (X := X) g_int))) (by decide) (fun H1 s d hd => ?_) (fun X' H1 σ2 d hd => ?_)) rfl
        · exact absurd (cut_mem hd) (by simp)
        · exact absurd (cut_mem hd) (by simp)
      · rw [hq]
        simp
        omega
      · intro y hy
        simp at hy
        omega
    have t5 := t4.mono s5
    have S5 := S4.same s5
    -- new
    refine k_set (k_lcR ?_)
    refine k_cons (c_pick (ds := [.int 0, .int 1, .int 1, .int 2]) S5 (gv_var (i := 0) E5 rfl) (g_lst S5.t (ga_cons g_int (ga_cons g_int (ga_cons g_int (ga_cons g_int ga_nil)))) (by decide)) (by omega) (by decide) (by decide) fun x2 d2 H6 hd2 S6 k6 dx2 => ?_)
    have E6 := E5.kps S5 k6
    have hcnt : ∃ c : Nat, d2 = .int (c : Nat) ∧ c ≤ 2 := by
      simp at hd2
      rcases hd2 with rfl | rfl | rfl
      · exact ⟨0, rfl, by omega⟩
      · exact ⟨1, rfl, by omega⟩
      · exact ⟨2, rfl, by omega⟩
    obtain ⟨c, rfl, c2⟩ := hcnt
    refine ⟨_, by rw [dx2.int_inv], by omega, by omega, ?_⟩
    rw [show (c : Int).toNat = c from by omega]
    refine lc_draws (X := X) (cl := cl) (n := n + 1 + 1 + 1) (i := 8) (m := c) (fun d => d ∈ letters2.map PyData.str) S6 E6 (by omega) (fun X' H1 σ2 j Q1 hj E1 S1 q1 => ?_) fun w6 ds H7 hl hd S7 k7 dw nw => ?_
    · refine c_pick (ds := (["x", "y", "a", ""] : List Str).map PyData.str) S1 (gv_var (i := 0) E1 rfl) (g_lst S1.t (ga_strs ["x", "y", "a", ""]) (by decide)) (by omega) (by decide) (by decide) fun w d H' hd S' k' dw => q1 w d H' ?_ S' k' dw
      simp at hd
      rcases hd with rfl | rfl | rfl | rfl <;> exact List.mem_map.mpr ⟨_, by decide, rfl⟩
    · obtain ⟨ns, rfl, hns⟩ := strs_of hd
      rw [List.length_map] at hl
      have E7 := (E6.kps S6 k7).set (i := 6) dw
      have t7 := S7.t
      have S8 : Sg X st cl (n + 5) H7 := S7.le (by omega)
      have hos : ((ws.drop p.toNat).take (q.toNat)).length = q.toNat := by
        rw [List.length_take, List.length_drop]
        omega
      have key : ∀ H8, Same H7 H8 → KpS st cl H H8 := fun H8 s8 => ((((((k1.trans k2).trans (KpS.of s3)).trans (KpS.of s4)).trans (KpS.of s5)).trans k6).trans k7).trans (KpS.of s8)
      by_cases hz : 0 < q + (ns.length : Int)
      · refine s_ret (X := X) (d := chD p ((ws.drop p.toNat).take q.toNat) ns) (g_tup t7 (ga_cons (g_var (i := 3) E7 rfl) (ga_cons (g_is (sl_mid t7 (g_var (i := 1) E7 rfl) (g_var (i := 3) E7 rfl) (g_addI t7 (g_var (i := 3) E7 rfl) (g_var (i := 4) E7 rfl)) p0 (by omega)) (by rw [show (p + q).toNat - p.toNat = q.toNat from by omega])) (ga_cons ?_ ga_nil))) (by simp)) fun w8 H8 s8 dw8 => k w8 p _ ns H8 p0 (by omega) (by rw [hos]) hns (by omega) (by rw [hos]; omega) (S8.same s8) (key H8 s8) dw8
        refine g_if (b := true) ?_ (fun _ => g_var (i := 6) E7 rfl) (fun h => by cases h)
        refine gt_is (gt_cmpI t7 (g := fun i j => decide (j < i)) (g_addI t7 (g_var (i := 4) E7 rfl) (len_ws t7 (g_var (i := 6) E7 rfl))) g_int) (decide_eq_true hz)
      · refine s_ret (X := X) (d := chD p ((ws.drop p.toNat).take q.toNat) ["z"]) (g_tup t7 (ga_cons (g_var (i := 3) E7 rfl) (ga_cons (g_is (sl_mid t7 (g_var (i := 1) E7 rfl) (g_var (i := 3) E7 rfl) (g_addI t7 (g_var (i := 3) E7 rfl) (g_var (i := 4) E7 rfl)) p0 (by omega)) (by rw [show (p + q).toNat - p.toNat = q.toNat from by omega])) (ga_cons ?_ ga_nil))) (by simp)) fun w8 H8 s8 dw8 => k w8 p _ ["z"] H8 p0 (by omega) (by rw [hos]) (by decide) (by decide) (by simp) (S8.same s8) (key H8 s8) dw8
        refine g_if (b := false) ?_ (fun h => by cases h) (fun _ => g_lst t7 (ga_cons g_str ga_nil) (by decide))
        refine gt_is (gt_cmpI t7 (g := fun i j => decide (j < i)) (g_addI t7 (g_var (i := 4) E7 rfl) (len_ws t7 (g_var (i := 6) E7 rfl))) g_int) (decide_eq_false hz)
end K20

/-! Whether two things are the same. -/
namespace K20
open PySem PySem.Spec PyProof.Rows L2 KD
variable {P : Program} {w : World} {K : PySem.W.Frag} {mg : Str → Option Value} {base : Heap}
theorem walk_zipT {a b : Addr} {xs ys : List V} {n : Nat} (hn : n = min xs.length ys.length) : Walk (RZ.ItzT K a b) n (fun H => SqT K H a xs ∧ SqT K H b ys) (YPair (fun i => xs[i]?) (fun i => ys[i]?)) := by
  subst hn
  refine ⟨fun i _ hi q => ?_, fun _ q => ⟨xs, ys, q.1, q.2, by omega⟩, fun i H v H' _ q y => ?_⟩
  · have h1 : i < xs.length := by omega
    have h2 : i < ys.length := by omega
    exact ⟨xs, ys, xs[i], ys[i], q.1, q.2, by simp [h1], by simp [h2]⟩
  · obtain ⟨T, x, z, h1, h2, h3, h4, h5⟩ := y
    exact ⟨T, x, z, h1, h2, h3, h4 xs q.1, h5 ys q.2⟩
theorem gi_zipT {X : Addr → Prop} {H : Hp} {σ : L2.St} {te tb : TE} {ds es : List PyData} (h : G X te σ H (.tuple ds)) (h' : G X tb σ H (.tuple es)) : GI X (RZ.iZipA K (tCons te (tCons tb tNil))) σ H (zipD ds es) := fun H1 s R r => h H1 s _ fun v H2 s2 rv => h' H2 (s.trans s2) _ fun w H3 s3 rw_ => by
  obtain ⟨a, xs, rfl, n, e, rx⟩ := (rv.mono (Kp.of s3)).tup_inv
  obtain ⟨b, ys, rfl, n2, e2, ry⟩ := rw_.tup_inv
  refine ⟨a, b, xs, ys, rfl, .inr ⟨SqT.of e, SqT.of e2, r _ H3 (s2.trans s3) ⟨_, _, walk_zipT (xs := xs) (ys := ys) (by simp [zipD, rx.length, ry.length]), fun X' m H4 k t => ?_⟩⟩⟩
  have n' : ¬ X' a := fun z => (m a z).elim n fun q => by rw [e] at q; cases q
  have n2' : ¬ X' b := fun z => (m b z).elim n2 fun q => by rw [e2] at q; cases q
  refine ⟨⟨SqT.of (k a _ n' e), SqT.of (k b _ n2' e2)⟩, fun i x H5 y => ?_⟩
  obtain ⟨T, u, w, rfl, hT, rfl, hu, hw⟩ := y
  obtain ⟨d, h1, h2⟩ := rx.getV hu
  obtain ⟨d', h3, h4⟩ := ry.getV hw
  refine ⟨Same.upd hT, .tuple [d, d'], ?_, DX.newT t (.cons ((h2.grow m).mono k) (.cons ((h4.grow m).mono k) .nil)) hT⟩
  unfold zipD
  rw [List.getElem?_zipWith, h1, h3]
theorem gi_zipL {X : Addr → Prop} {H : Hp} {σ : L2.St} {te tb : TE} {ds es : List PyData} (h : G X te σ H (.list ds)) (h' : G X tb σ H (.list es)) : GI X (RZ.iZipA K (tCons te (tCons tb tNil))) σ H (zipD ds es) := fun H1 s R r => h H1 s _ fun v H2 s2 rv => h' H2 (s.trans s2) _ fun w H3 s3 rw_ => by
  obtain ⟨a, xs, rfl, n, e, rx⟩ := (rv.mono (Kp.of s3)).lst_inv
  obtain ⟨b, ys, rfl, n2, e2, ry⟩ := rw_.lst_inv
  refine ⟨a, b, xs, ys, rfl, .inl ⟨SqL.of e, SqL.of e2, r _ H3 (s2.trans s3) ⟨_, _, walk_zip (xs := xs) (ys := ys) (by simp [zipD, rx.length, ry.length]), fun X' m H4 k t => ?_⟩⟩⟩
  have n' : ¬ X' a := fun z => (m a z).elim n fun q => by rw [e] at q; cases q
  have n2' : ¬ X' b := fun z => (m b z).elim n2 fun q => by rw [e2] at q; cases q
  refine ⟨⟨SqL.of (k a _ n' e), SqL.of (k b _ n2' e2)⟩, fun i x H5 y => ?_⟩
  obtain ⟨T, u, w, rfl, hT, rfl, hu, hw⟩ := y
  obtain ⟨d, h1, h2⟩ := rx.getV hu
  obtain ⟨d', h3, h4⟩ := ry.getV hw
  refine ⟨Same.upd hT, .tuple [d, d'], ?_, DX.newT t (.cons ((h2.grow m).mono k) (.cons ((h4.grow m).mono k) .nil)) hT⟩
  unfold zipD
  rw [List.getElem?_zipWith, h1, h3]
/-- so deep at most, leaves below -/
def sm : Nat → PyData → Prop
  | 0, d => leaf d = true
  | n + 1, .list ds => ds.length ≤ 100000 ∧ ∀ z ∈ ds, sm n z
  | n + 1, .tuple ds => ds.length ≤ 100000 ∧ ∀ z ∈ ds, sm n z
  | _ + 1, d => leaf d = true
def spSame (n : Nat) : Sp := fun vs H Q _ => ∃ (X : Addr → Prop) (v1 v2 : V) (d : PyData), vs = [v1, v2] ∧ Trk X H ∧ DX X H v1 d ∧ DX X H v2 d ∧ sm n d ∧ ∀ H', Same H H' → Q (.bl true) H'
def spPrev : Nat → Sp
  | 0 => fun _ _ _ _ => False
  | n + 1 => spSame n
theorem eqv_leaf {d : PyData} (h : leaf d = true) : PyData.eqv d d = true := by
  cases d <;> simp_all [PyData.eqv, leaf]
-- HINT _law_same never return isinstance(_law_found, dict)
-- HINT _law_same le (Nat.le_refl _)
-- HINT _law_same zip RZ.pi_zipA
abbrev s__law_same : Stmt := topS 54
abbrev n__law_same : List Str := ["_law_found", "_law_due", "_law_x", "_law_y"]
theorem sc__law_same : FnScope n__law_same ["_law_found", "_law_due"] (defScope s__law_same) := ⟨rfl, rfl, rfl, by decide +kernel, rfl, by decide +kernel, by decide +kernel⟩
theorem ok_same_body {f : Addr} {fd : FuncData} {n : Nat} (F : Fun K "_law_same" "_law_same" s__law_same f fd) (T : Bl mg) (O__law_same : Own P w K mg base CX0 (n + 1) "_law_same" ["_law_found", "_law_due"] (spPrev n)) : FnOk P w K mg base CX0 (n + 2) f fd ["_law_found", "_law_due"] (spSame n) := by
  refine F.ok sc__law_same (fun vs H Q E h => ?_) (fun cdv A outer s H vs Q E hr h => ?_)
  · obtain ⟨X, v1, v2, d, rfl, _⟩ := h
    rfl
  · obtain ⟨X, v1, v2, d, rfl, t, d1, d2, hs, k⟩ := h
    refine ⟨_, (pss_cons (ps_if (pt_val (pe_callB call_isiT (by rfl) T.b_isinstance boot_isinstance (pa_cons (pv 1) (pa_cons (pe_tup (pa_cons (pe_bltn (v := .ty "list") (by rfl) T.b_list boot_list rfl) (pa_cons (pe_bltn (v := .ty "tuple") (by rfl) T.b_tuple boot_tuple rfl) pa_nil))) pa_nil))))
    (pss_cons (ps_if (PW.pt (pw_or (pt_cmpR (op_neD hr.units) (pe_callB call_isi (by rfl) T.b_isinstance boot_isinstance (pa_cons (pv 0) (pa_cons (pe_bltn (v := .ty "list") (by rfl) T.b_list boot_list rfl) pa_nil))) (pe_callB call_isi (by rfl) T.b_isinstance boot_isinstance (pa_cons (pv 1) (pa_cons (pe_bltn (v := .ty "list") (by rfl) T.b_list boot_list rfl) pa_nil))) (nomark _)) (pw_or1 (pt_cmpR (op_neD hr.units) (pe_callB call_isi (by rfl) T.b_isinstance boot_isinstance (pa_cons (pv 0) (pa_cons (pe_bltn (v := .ty "tuple") (by rfl) T.b_tuple boot_tuple rfl) pa_nil))) (pe_callB call_isi (by rfl) T.b_isinstance boot_isinstance (pa_cons (pv 1) (pa_cons (pe_bltn (v := .ty "tuple") (by rfl) T.b_tuple boot_tuple rfl) pa_nil))) (nomark _)))))
    (pss_one (ps_ret pe_bl)) pss_nil)
    (pss_one (ps_ret (pe_and (pe_cmpR (op_eqD hr.units) (pe_callB call_len (by rfl) T.b_len boot_len (pa_cons (pv 0) pa_nil)) (pe_callB call_len (by rfl) T.b_len boot_len (pa_cons (pv 1) pa_nil)) (nomark _)) (pe_one (pe_callB (cr_all rfl) (by rfl) T.b_all boot_all (pa_cons (pe_lc (own := [("_law_x", 2), ("_law_y", 3)]) (g := (gTup K 2 (gCons (gName 2) (gCons (gName 3) gNil)))) (tt := tYes) rfl sc__law_same.nd (RZ.pi_zipA (by rfl) T.b_zip (pa_cons (pv 0) (pa_cons (pv 1) pa_nil))) (blkOk_by (N := n__law_same) (sc := defScope s__law_same) (by decide +kernel)) (fun _ _ _ _ _ => (pg_tup (n := 2) rfl (pgs_cons (pg_name (i := 2) sc__law_same.nd rfl (by first | exact Or.inl rfl | exact Or.inr rfl)) (pgs_cons (pg_name (i := 3) sc__law_same.nd rfl (by first | exact Or.inl rfl | exact Or.inr rfl)) pgs_nil)))) (fun _ _ _ _ _ => pts_nil) (fun _ _ _ _ _ => (pe_own O__law_same hr (Nat.le_refl _) (by rfl) (pa_cons (pv 2) (pa_cons (pv 3) pa_nil))))) pa_nil))))))) pss_nil)
    (pss_cons (ps_if (pt_val (pe_callB call_isi (by rfl) T.b_isinstance boot_isinstance (pa_cons (pv 1) (pa_cons (pe_bltn (v := .ty "dict") (by rfl) T.b_dict boot_dict rfl) pa_nil))))
    (pss_one ps_never) pss_nil)
    (pss_cons (ps_if (pt_val (pe_callB call_isi (by rfl) T.b_isinstance boot_isinstance (pa_cons (pv 1) (pa_cons (pe_bltn (v := .ty "int") (by rfl) T.b_int boot_int rfl) pa_nil))))
    (pss_one (ps_ret (pe_and (pe_callB call_isi (by rfl) T.b_isinstance boot_isinstance (pa_cons (pv 0) (pa_cons (pe_bltn (v := .ty "int") (by rfl) T.b_int boot_int rfl) pa_nil))) (pe_and (pe_cmpR (op_eqD hr.units) (pe_callB call_isi (by rfl) T.b_isinstance boot_isinstance (pa_cons (pv 0) (pa_cons (pe_bltn (v := .ty "bool") (by rfl) T.b_bool boot_bool rfl) pa_nil))) (pe_callB call_isi (by rfl) T.b_isinstance boot_isinstance (pa_cons (pv 1) (pa_cons (pe_bltn (v := .ty "bool") (by rfl) T.b_bool boot_bool rfl) pa_nil))) (nomark _)) (pe_one (pe_cmpR (op_eqD hr.units) (pv 0) (pv 1) (nomark _))))))) pss_nil)
    (pss_one (ps_ret (pe_and (pe_not (pe_callB call_isiT (by rfl) T.b_isinstance boot_isinstance (pa_cons (pv 0) (pa_cons (pe_tup (pa_cons (pe_bltn (v := .ty "int") (by rfl) T.b_int boot_int rfl) (pa_cons (pe_bltn (v := .ty "list") (by rfl) T.b_list boot_list rfl) (pa_cons (pe_bltn (v := .ty "tuple") (by rfl) T.b_tuple boot_tuple rfl) (pa_cons (pe_bltn (v := .ty "dict") (by rfl) T.b_dict boot_dict rfl) pa_nil))))) pa_nil)))) (pe_one (pe_cmpR (op_eqD hr.units) (pv 0) (pv 1) (nomark _))))))))), ?_⟩
    have En : EnvOk X H (L2.start n__law_same [v1, v2]) (pad n__law_same [.dat d, .dat d]) := env2 d1 d2 (by decide)
    have b1 : PyData.eqv (.bool true) (.bool true) = true := by simp [PyData.eqv]
    have eqb : ∀ b : Bool, PyData.eqv (.bool b) (.bool b) = true := fun b => by simp [PyData.eqv]
    have shb : ∀ b : Bool, SeqAt.shaped (.bool b) = true := fun b => shaped_leaf rfl
    have ndb : ∀ b : Bool, noDict (.bool b) = true := fun b => by simp [noDict]
    refine q_if (gt_B (g_isSeq (g_var (i := 1) En rfl))) (fun hb H1 s1 => ?_) (fun hb H1 s1 => ?_)
    · -- a list or a tuple
      have E1 := En.same s1
      have t1 := t.mono s1
      refine q_if (b := false) (gt_is (gt_or (b := !PyData.eqv (.bool (isa_tuple d)) (.bool (isa_tuple d))) (gt_neD t1 (g_isList (g_var (i := 0) E1 rfl)) (g_isList (g_var (i := 1) E1 rfl)) (ndb _) (ndb _) (shb _) (shb _)) fun _ => gt_neD t1 (g_isTuple (g_var (i := 0) E1 rfl)) (g_isTuple (g_var (i := 1) E1 rfl)) (ndb _) (ndb _) (shb _) (shb _)) (by rw [eqb, eqb]; rfl)) (fun h => by cases h) fun _ H2 s2 => ?_
      have E2 := E1.same s2
      have t2 := t1.mono s2
      have hln : ∀ i : Int, PyData.eqv (.int i) (.int i) = true := fun i => by rw [eqv_int]; simp
      have core : ∀ (m : Nat) (te : TE) (wi : TI) (ds : List PyData), ds.length ≤ 100000 → (∀ z ∈ ds, sm m z) → GI X wi (L2.start n__law_same [v1, v2]) H2 (zipD ds ds) → te = tCall (spSame m) [] E0 (tCons (tVar 2) (tCons (tVar 3) tNil)) → G X (tCB (rAll K) (tCons (tLc wi (gTup K 2 (gCons (gName 2) (gCons (gName 3) gNil))) tYes te [2, 3]) tNil)) (L2.start n__law_same [v1, v2]) H2 (.bool true) := fun m te wi ds hl hz hi hte => by
        subst hte
        have hzip : ∀ p ∈ zipD ds ds, ∃ z ∈ ds, p = .tuple [z, z] := fun p hp => by
          obtain ⟨i, hi, he⟩ := List.mem_iff_getElem.mp hp
          unfold zipD at he hi
          rw [List.length_zipWith] at hi
          rw [List.getElem_zipWith] at he
          exact ⟨_, List.getElem_mem (by omega), he.symm⟩
        refine g_is (g_cb (ds := [.list (((zipD ds ds).map fun _ => true).map PyData.bool)]) t2 (ga_cons (g_is (g_lc1 (ds := zipD ds ds) (Γ2 := fun p => ((((pad n__law_same [.dat d, .dat d]).set 3 .un).set 2 .un).set 2 (.dat (it p 0))).set 3 (.dat (it p 1))) (fun _ => .bool true) t2 hi (by unfold zipD; rw [List.length_zipWith]; omega) (fun H3 s3 p hp => ?_) (fun X' H3 σ2 p hp t3 E3 => ?_)) (by rw [List.map_map]; rfl)) ga_nil) rf_all) (by rw [List.all_map]; simp)
        · obtain ⟨z, hzm, rfl⟩ := hzip p hp
          exact tgt_pair (E2.same s3) (by decide)
        · obtain ⟨z, hzm, rfl⟩ := hzip p hp
          intro H4 s4 Q4 q4
          refine g_var (i := 2) E3 rfl H4 s4 _ fun u H5 s5 r5 => g_var (i := 3) (E3.same (s4.trans s5)) rfl H5 (Same.refl _) _ fun u2 H6 s6 r6 => ?_
          exact ⟨X', u, u2, z, rfl, t3.mono ((s4.trans s5).trans s6), r5.mono (Kp.of s6), r6, hz z hzm, fun H7 s7 => q4 _ H7 ((s5.trans s6).trans s7) (.bl true)⟩
      cases n with
      | zero => cases d with
        | list ds => exact absurd hs (by simp [sm, leaf])
        | tuple ds => exact absurd hs (by simp [sm, leaf])
        | _ => cases hb
      | succ m =>
        cases d with
        | list ds =>
          obtain ⟨hl, hz⟩ := hs
          exact s_ret (X := X) (d := .bool true) (g_is (g_and (b := true) (g_eqD t2 (g_len t2 (g_var (i := 0) E2 rfl) rfl) (g_len t2 (g_var (i := 1) E2 rfl) rfl) rfl rfl (shaped_int _) (shaped_int _)) fun _ => core m _ _ ds hl hz (gi_zipL (g_var (i := 0) E2 rfl) (g_var (i := 1) E2 rfl)) rfl) (by rw [hln]; rfl)) fun w H' s' dw => by rw [dw.bl_inv]; exact k H' ((s1.trans s2).trans s')
        | tuple ds =>
          obtain ⟨hl, hz⟩ := hs
          exact s_ret (X := X) (d := .bool true) (g_is (g_and (b := true) (g_eqD t2 (g_len t2 (g_var (i := 0) E2 rfl) rfl) (g_len t2 (g_var (i := 1) E2 rfl) rfl) rfl rfl (shaped_int _) (shaped_int _)) fun _ => core m _ _ ds hl hz (gi_zipT (g_var (i := 0) E2 rfl) (g_var (i := 1) E2 rfl)) rfl) (by rw [hln]; rfl)) fun w H' s' dw => by rw [dw.bl_inv]; exact k H' ((s1.trans s2).trans s')
        | _ => cases hb
    · -- a leaf
      have hlf : leaf d = true := by
        cases n with
        | zero => exact hs
        | succ m => cases d <;> first | exact hs | cases hb
      have E1 := En.same s1
      have t1 := t.mono s1
      refine q_if (b := false) (gt_is (gt_B (g_isDict (g_var (i := 1) E1 rfl))) (by cases d <;> first | rfl | cases hlf)) (fun h => by cases h) fun _ H2 s2 => ?_
      have E2 := E1.same s2
      have t2 := t1.mono s2
      refine q_if (gt_B (g_isInt (g_var (i := 1) E2 rfl))) (fun hi H3 s3 => ?_) (fun hi H3 s3 => ?_)
      · have E3 := E2.same s3
        have t3 := t2.mono s3
        refine s_ret (X := X) (d := .bool true) (g_is (g_and (b := PyData.eqv (.bool (isa_bool d)) (.bool (isa_bool d)) && PyData.eqv d d) (g_isInt (g_var (i := 0) E3 rfl)) fun _ => g_and (g_eqD t3 (g_isBool (g_var (i := 0) E3 rfl)) (g_isBool (g_var (i := 1) E3 rfl)) (ndb _) (ndb _) (shb _) (shb _)) fun _ => g_eqD t3 (g_var (i := 0) E3 rfl) (g_var (i := 1) E3 rfl) (noDict_leaf hlf) (noDict_leaf hlf) (shaped_leaf hlf) (shaped_leaf hlf)) (by rw [hi, eqb, eqv_leaf hlf]; rfl)) fun w H' s' dw => by rw [dw.bl_inv]; exact k H' (((s1.trans s2).trans s3).trans s')
      · have E3 := E2.same s3
        have t3 := t2.mono s3
        refine s_ret (X := X) (d := .bool true) (g_is (g_and (b := PyData.eqv d d) (g_not (g_isiT (ns := ["int", "list", "tuple", "dict"]) (g_var (i := 0) E3 rfl) rfl (by decide) ?_)) fun _ => g_eqD t3 (g_var (i := 0) E3 rfl) (g_var (i := 1) E3 rfl) (noDict_leaf hlf) (noDict_leaf hlf) (shaped_leaf hlf) (shaped_leaf hlf)) ?_) fun w H' s' dw => by rw [dw.bl_inv]; exact k H' (((s1.trans s2).trans s3).trans s')
        · intro n hn
          simp at hn
          rcases hn with rfl | rfl | rfl | rfl
          · exact ksm_int d
          · exact ksm_list d
          · exact ksm_tuple d
          · exact ksm_dict d
        · have e : isDs ["int", "list", "tuple", "dict"] d = false := by
            unfold isDs
            rw [List.any_cons, List.any_cons, List.any_cons, List.any_cons, List.any_nil, isD_int, isD_list, isD_tuple, isD_dict, hi]
            cases d <;> first | rfl | cases hlf
          rw [e, eqv_leaf hlf]
          rfl
theorem ok_same {f : Addr} {fd : FuncData} (F : Fun K "_law_same" "_law_same" s__law_same f fd) (T : Bl mg) (h1 : mg "_law_same" = some (.ref f)) (h2 : PySem.W.keepIn K (.ref f) = true) (h3 : Binds K fd ["_law_found", "_law_due"] []) : ∀ n : Nat, FnOk P w K mg base CX0 (n + 2) f fd ["_law_found", "_law_due"] (spSame n)
  | 0 => ok_same_body F T ⟨f, fd, h1, h2, h3, F.ok (k := 0) sc__law_same (fun _ _ _ _ h => h.elim) (fun _ _ _ _ _ _ _ _ _ h => h.elim)⟩
  | n + 1 => ok_same_body F T ⟨f, fd, h1, h2, h3, ok_same F T h1 h2 h3 n⟩
end K20

/-! Passing. -/
namespace K20
open PySem PySem.Spec PyProof.Rows L2 KD
-- RAISES change_of checked_text made_by turned_back passed side_by_side
variable {P : Program} {w : World} {K : PySem.W.Frag} {mg : Str → Option Value} {base : Heap}
abbrev s_moved : Stmt := topS 24
abbrev n_moved : List Str := ["change", "by", "place", "old", "new"]
theorem sc_moved : FnScope n_moved ["change", "by"] (defScope s_moved) := ⟨rfl, rfl, rfl, by decide +kernel, rfl, by decide +kernel, by decide +kernel⟩
/-- two told changes -/
def CC (a b : PyData) : Prop := ∃ p os ns q us vs, a = chD p os ns ∧ b = chD q us vs ∧ WsOk os ∧ WsOk ns ∧ WsOk us ∧ WsOk vs
theorem len_it {X : Addr → Prop} {te : TE} {σ : L2.St} {H : Hp} {p : Int} {os ns ws : List Str} {i : Int} (t : Trk X H) (h : G X te σ H (chD p os ns)) (e : atI [PyData.int p, wsD os, wsD ns] i = some (wsD ws)) : G X (tCB (fun xs H Q => ∃ x n, xs = [x] ∧ LenV K x H n ∧ Q (V.int n) H) (tCons (tOp (rIx K) te (tC (.int i))) tNil)) σ H (.int (ws.length : Int)) :=
  len_ws t (g_ixT t h g_int e)
theorem ok_moved {f : Addr} {fd : FuncData} (F : Fun K "moved" "moved" s_moved f fd) (T : Bl mg) : FnOk P w K mg base CX0 1 f fd ["change", "by"] (sp2 CC fun a b => chD (intOf (it a 0) + ((wsOf (it b 2)).length : Int) - ((wsOf (it b 1)).length : Int)) (wsOf (it a 1)) (wsOf (it a 2))) := by
  refine ok2 F sc_moved (by decide) fun cdv A outer s H E X d1 d2 Q hr t hp q => ⟨_, (pss_cons (ps_asg (pv 0) (pg_tup (n := 3) rfl (pgs_cons (pg_name (i := 2) sc_moved.nd rfl (by first | exact Or.inl rfl | exact Or.inr rfl)) (pgs_cons (pg_name (i := 3) sc_moved.nd rfl (by first | exact Or.inl rfl | exact Or.inr rfl)) (pgs_cons (pg_name (i := 4) sc_moved.nd rfl (by first | exact Or.inl rfl | exact Or.inr rfl)) pgs_nil)))))
    (pss_one (ps_ret (pe_tup (pa_cons (pe_op op_sub (pe_op op_addA (pv 2) (pe_callB call_len (by rfl) T.b_len boot_len (pa_cons (pe_ix ix_seq (pv 1) pe_int (fun _ _ => rfl)) pa_nil))) (pe_callB call_len (by rfl) T.b_len boot_len (pa_cons (pe_ix ix_seq (pv 1) pe_int (fun _ _ => rfl)) pa_nil))) (pa_cons (pv 3) (pa_cons (pv 4) pa_nil))))))), fun σ En => ?_⟩
  obtain ⟨p, os, ns, q1, us, vs, rfl, rfl, h1, h2, h3, h4⟩ := hp
  have q' : ∀ w H', Same H H' → DX X H' w (chD (p + (vs.length : Int) - (us.length : Int)) os ns) → Q w H' := fun w H' s dw => q w H' s (by
    show DX X H' w (chD (p + ((wsOf (wsD vs)).length : Int) - ((wsOf (wsD us)).length : Int)) (wsOf (wsD os)) (wsOf (wsD ns)))
    rw [wsOf_wsD, wsOf_wsD, wsOf_wsD, wsOf_wsD]
    exact dw)
  refine q_asg (g_var (i := 0) (d := chD p os ns) En rfl) fun H1 v s1 dv => ?_
  refine g_triple dv fun u1 u2 u3 r1 r2 r3 => ?_
  have E2 := (((En.same s1).set (i := 2) r1).set (i := 3) r2).set (i := 4) r3
  have t1 := t.mono s1
  refine s_ret (X := X) (d := chD (p + (vs.length : Int) - (us.length : Int)) os ns) (g_tup t1 (ga_cons (g_sub t1 (g_addI t1 (g_var (i := 2) E2 rfl) (len_it t1 (g_var (i := 1) E2 rfl) rfl)) (len_it t1 (g_var (i := 1) E2 rfl) rfl)) (ga_cons (g_var (i := 3) E2 rfl) (ga_cons (g_var (i := 4) E2 rfl) ga_nil))) (by simp)) fun w H2 s2 dw => q' w H2 (s1.trans s2) dw
abbrev s_moved_back : Stmt := topS 25
abbrev n_moved_back : List Str := ["change", "by", "place", "old", "new"]
theorem sc_moved_back : FnScope n_moved_back ["change", "by"] (defScope s_moved_back) := ⟨rfl, rfl, rfl, by decide +kernel, rfl, by decide +kernel, by decide +kernel⟩
theorem ok_moved_back {f : Addr} {fd : FuncData} (F : Fun K "moved_back" "moved_back" s_moved_back f fd) (T : Bl mg) : FnOk P w K mg base CX0 1 f fd ["change", "by"] (sp2 CC fun a b => chD (intOf (it a 0) - ((wsOf (it b 2)).length : Int) + ((wsOf (it b 1)).length : Int)) (wsOf (it a 1)) (wsOf (it a 2))) := by
  refine ok2 F sc_moved_back (by decide) fun cdv A outer s H E X d1 d2 Q hr t hp q => ⟨_, (pss_cons (ps_asg (pv 0) (pg_tup (n := 3) rfl (pgs_cons (pg_name (i := 2) sc_moved_back.nd rfl (by first | exact Or.inl rfl | exact Or.inr rfl)) (pgs_cons (pg_name (i := 3) sc_moved_back.nd rfl (by first | exact Or.inl rfl | exact Or.inr rfl)) (pgs_cons (pg_name (i := 4) sc_moved_back.nd rfl (by first | exact Or.inl rfl | exact Or.inr rfl)) pgs_nil)))))
    (pss_one (ps_ret (pe_tup (pa_cons (pe_op op_addA (pe_op op_sub (pv 2) (pe_callB call_len (by rfl) T.b_len boot_len (pa_cons (pe_ix ix_seq (pv 1) pe_int (fun _ _ => rfl)) pa_nil))) (pe_callB call_len (by rfl) T.b_len boot_len (pa_cons (pe_ix ix_seq (pv 1) pe_int (fun _ _ => rfl)) pa_nil))) (pa_cons (pv 3) (pa_cons (pv 4) pa_nil))))))), fun σ En => ?_⟩
  obtain ⟨p, os, ns, q1, us, vs, rfl, rfl, h1, h2, h3, h4⟩ := hp
  have q' : ∀ w H', Same H H' → DX X H' w (chD (p - (vs.length : Int) + (us.length : Int)) os ns) → Q w H' := fun w H' s dw => q w H' s (by
    show DX X H' w (chD (p - ((wsOf (wsD vs)).length : Int) + ((wsOf (wsD us)).length : Int)) (wsOf (wsD os)) (wsOf (wsD ns)))
    rw [wsOf_wsD, wsOf_wsD, wsOf_wsD, wsOf_wsD]
    exact dw)
  refine q_asg (g_var (i := 0) (d := chD p os ns) En rfl) fun H1 v s1 dv => ?_
  refine g_triple dv fun u1 u2 u3 r1 r2 r3 => ?_
  have E2 := (((En.same s1).set (i := 2) r1).set (i := 3) r2).set (i := 4) r3
  have t1 := t.mono s1
  refine s_ret (X := X) (d := chD (p - (vs.length : Int) + (us.length : Int)) os ns) (g_tup t1 (ga_cons (g_addI t1 (g_sub t1 (g_var (i := 2) E2 rfl) (len_it t1 (g_var (i := 1) E2 rfl) rfl)) (len_it t1 (g_var (i := 1) E2 rfl) rfl)) (ga_cons (g_var (i := 3) E2 rfl) (ga_cons (g_var (i := 4) E2 rfl) ga_nil))) (by simp)) fun w H2 s2 dw => q' w H2 (s1.trans s2) dw
abbrev s_apart : Stmt := topS 26
abbrev n_apart : List Str := ["one", "two", "room"]
theorem sc_apart : FnScope n_apart ["one", "two", "room"] (defScope s_apart) := ⟨rfl, rfl, rfl, by decide +kernel, rfl, by decide +kernel, by decide +kernel⟩
def apartB (ns vs : List Str) (r : Int) : Bool := decide (0 < r) || (decide (r = 0) && decide ((ns.length : Int) + (vs.length : Int) = 0))
def sp3A : Sp := fun vs H Q _ => ∃ (X : Addr → Prop) (v1 v2 : V) (p : Int) (os ns : List Str) (q : Int) (us ws : List Str) (r : Int), vs = [v1, v2, .int r] ∧ Trk X H ∧ DX X H v1 (chD p os ns) ∧ DX X H v2 (chD q us ws) ∧ ∀ w H', Same H H' → DX X H' w (.bool (apartB ns ws r)) → Q w H'
theorem ok_apart {f : Addr} {fd : FuncData} (F : Fun K "apart" "apart" s_apart f fd) (T : Bl mg) : FnOk P w K mg base CX0 1 f fd ["one", "two", "room"] sp3A := by
  refine F.ok sc_apart (fun vs H Q E h => ?_) (fun cdv A outer s H vs Q E hr h => ?_)
  · obtain ⟨X, v1, v2, p, os, ns, q, us, ws, r, rfl, _⟩ := h
    rfl
  · obtain ⟨X, v1, v2, p, os, ns, q, us, ws, r, rfl, t, d1, d2, k⟩ := h
    refine ⟨_, (pss_one (ps_ret (pe_or (pe_cmpR op_gt (pv 2) pe_int (nomark _)) (pe_one (pe_and (pe_cmpR (op_eqD hr.units) (pv 2) pe_int (nomark _)) (pe_one (pe_cmpR (op_eqD hr.units) (pe_op op_addA (pe_callB call_len (by rfl) T.b_len boot_len (pa_cons (pe_ix ix_seq (pv 0) pe_int (fun _ _ => rfl)) pa_nil)) (pe_callB call_len (by rfl) T.b_len boot_len (pa_cons (pe_ix ix_seq (pv 1) pe_int (fun _ _ => rfl)) pa_nil))) pe_int (nomark _)))))))), ?_⟩
    have En : EnvOk X H (L2.start n_apart [v1, v2, .int r]) (pad n_apart [.dat (chD p os ns), .dat (chD q us ws), .dat (.int r)]) := env3 d1 d2 (.int r) (by decide)
    refine s_ret (X := X) (g_or (a := decide (0 < r)) (b := decide (r = 0) && decide ((ns.length : Int) + (ws.length : Int) = 0)) (g_cmpI t (g := fun i j => decide (j < i)) (g_var (i := 2) En rfl) g_int) fun _ => g_and (a := decide (r = 0)) (g_is (g_eqD t (g_var (i := 2) En rfl) g_int rfl rfl (shaped_int _) (shaped_int _)) (by rw [eqv_int])) fun _ => g_is (g_eqD t (g_addI t (len_it t (g_var (i := 0) En rfl) rfl) (len_it t (g_var (i := 1) En rfl) rfl)) g_int rfl rfl (shaped_int _) (shaped_int _)) (by rw [eqv_int])) k
theorem g_apart {X : Addr → Prop} {σ : L2.St} {H : Hp} {ta tb tc : TE} {E : XK} {p q r : Int} {os ns us ws : List Str} (t : Trk X H) (h1 : G X ta σ H (chD p os ns)) (h2 : G X tb σ H (chD q us ws)) (h3 : G X tc σ H (.int r)) : G X (tCall sp3A [] E (tCons ta (tCons tb (tCons tc tNil)))) σ H (.bool (apartB ns ws r)) :=
  g_call (ga_cons h1 (ga_cons h2 (ga_cons h3 ga_nil))) fun vs H1 s rs Q k => by
    cases rs with
    | cons r1 r2 =>
      cases r2 with
      | cons r2 r3 =>
        cases r3 with
        | cons r3 r4 =>
          cases r4
          cases r3
          exact ⟨X, _, _, p, os, ns, q, us, ws, r, rfl, t.mono s, r1, r2, k⟩
/-! ### what two changes become -/
def twoPre (a b : PyData) : Prop := chPre a ∧ chPre b ∧ (isChangeD a = true → WsOk (wsOf (it a 1)) ∧ WsOk (wsOf (it a 2))) ∧ (isChangeD b = true → WsOk (wsOf (it b 1)) ∧ WsOk (wsOf (it b 2)))
def passB (p : Int) (os ns : List Str) (q : Int) (us vs : List Str) : PyData :=
  if apartB ns vs (p - q - us.length) then .tuple [chD q us vs, chD (p + vs.length - us.length) os ns] else if apartB ns vs (q - p - ns.length) then .tuple [chD (q - ns.length + os.length) us vs, chD p os ns] else .none
def besideB (p : Int) (os ns : List Str) (q : Int) (us vs : List Str) : PyData :=
  if apartB ns vs (p - q - us.length) then .tuple [chD q us vs, chD (p + vs.length - us.length) os ns] else if apartB ns vs (q - p - os.length) then .tuple [chD (q + ns.length - os.length) us vs, chD p os ns] else .none
def twoOut (g : Int → List Str → List Str → Int → List Str → List Str → PyData) (C : Addr) (a b : PyData) : Out :=
  if isChangeD a then (if isChangeD b then .val (g (intOf (it a 0)) (wsOf (it a 1)) (wsOf (it a 2)) (intOf (it b 0)) (wsOf (it b 1)) (wsOf (it b 2))) else .err C "thing" b) else .err C "thing" a
theorem gn_non {X : Addr → Prop} {σ : L2.St} {H : Hp} : GN X (tC .non) σ H .none := fun H1 _ Q q => q _ H1 (Same.refl H1) .non fun a e => by cases e
theorem told_is {d : PyData} (h : isChangeD d = true) : toldD d = chD (intOf (it d 0)) (wsOf (it d 1)) (wsOf (it d 2)) := by
  obtain ⟨p, os, ns, ht, h0, hi, ho, hnn⟩ := toldD_ch h
  rw [ht, hi, ← ho, ← hnn]
  rfl
/-- the names as moved gives them -/
theorem moved_is (p : Int) (os ns : List Str) (q : Int) (us vs : List Str) : chD (intOf (it (chD p os ns) 0) + ((wsOf (it (chD q us vs) 2)).length : Int) - ((wsOf (it (chD q us vs) 1)).length : Int)) (wsOf (it (chD p os ns) 1)) (wsOf (it (chD p os ns) 2)) = chD (p + vs.length - us.length) os ns := by
  show chD (p + ((wsOf (wsD vs)).length : Int) - ((wsOf (wsD us)).length : Int)) (wsOf (wsD os)) (wsOf (wsD ns)) = _
  rw [wsOf_wsD, wsOf_wsD, wsOf_wsD, wsOf_wsD]
theorem back_is (p : Int) (os ns : List Str) (q : Int) (us vs : List Str) : chD (intOf (it (chD p os ns) 0) - ((wsOf (it (chD q us vs) 2)).length : Int) + ((wsOf (it (chD q us vs) 1)).length : Int)) (wsOf (it (chD p os ns) 1)) (wsOf (it (chD p os ns) 2)) = chD (p - vs.length + us.length) os ns := by
  show chD (p - ((wsOf (wsD vs)).length : Int) + ((wsOf (wsD us)).length : Int)) (wsOf (wsD os)) (wsOf (wsD ns)) = _
  rw [wsOf_wsD, wsOf_wsD, wsOf_wsD, wsOf_wsD]
abbrev s_passed : Stmt := topS 27
abbrev n_passed : List Str := ["one", "two", "first", "second"]
theorem sc_passed : FnScope n_passed ["one", "two"] (defScope s_passed) := ⟨rfl, rfl, rfl, by decide +kernel, rfl, by decide +kernel, by decide +kernel⟩
theorem ok_passed {f Cc : Addr} {fd : FuncData} (F : Fun K "passed" "passed" s_passed f fd) (T : Bl mg) (O_change_of : Own P w K mg base (L2.CX P w) 4 "change_of" ["thing"] (spX1 chPre (changeOut Cc))) (O_apart : Own P w K mg base CX0 1 "apart" ["one", "two", "room"] sp3A)
    (O_moved : Own P w K mg base CX0 1 "moved" ["change", "by"] (sp2 CC fun a b => chD (intOf (it a 0) + ((wsOf (it b 2)).length : Int) - ((wsOf (it b 1)).length : Int)) (wsOf (it a 1)) (wsOf (it a 2))))
    (O_moved_back : Own P w K mg base CX0 1 "moved_back" ["change", "by"] (sp2 CC fun a b => chD (intOf (it a 0) - ((wsOf (it b 2)).length : Int) + ((wsOf (it b 1)).length : Int)) (wsOf (it a 1)) (wsOf (it a 2)))) : FnOk P w K mg base (L2.CX P w) 5 f fd ["one", "two"] (spX2 twoPre (twoOut passB Cc)) := by
  refine okX2 F sc_passed (by decide) fun cdv A outer s H E X d1 d2 Q hr t hp q => ⟨_, (pss_cons (ps_set (i := 2) sc_passed.nd rfl (by first | exact Or.inl rfl | exact Or.inr rfl) (pe_ownX O_change_of hr (by decide) (takes_of rfl rfl rfl rfl) (by rfl) (pa_cons (pv 0) pa_nil)))
    (pss_cons (ps_set (i := 3) sc_passed.nd rfl (by first | exact Or.inl rfl | exact Or.inr rfl) (pe_ownX O_change_of hr (by decide) (takes_of rfl rfl rfl rfl) (by rfl) (pa_cons (pv 1) pa_nil)))
    (pss_cons (ps_if (pt_val (pe_own O_apart hr (by decide) (by rfl) (pa_cons (pv 2) (pa_cons (pv 3) (pa_cons (pe_op op_sub (pe_op op_sub (pe_ix ix_seq (pv 2) pe_int (fun _ _ => rfl)) (pe_ix ix_seq (pv 3) pe_int (fun _ _ => rfl))) (pe_callB call_len (by rfl) T.b_len boot_len (pa_cons (pe_ix ix_seq (pv 3) pe_int (fun _ _ => rfl)) pa_nil))) pa_nil)))))
    (pss_one (ps_ret (pe_tup (pa_cons (pv 3) (pa_cons (pe_own O_moved hr (by decide) (by rfl) (pa_cons (pv 2) (pa_cons (pv 3) pa_nil))) pa_nil))))) pss_nil)
    (pss_cons (ps_if (pt_val (pe_own O_apart hr (by decide) (by rfl) (pa_cons (pv 2) (pa_cons (pv 3) (pa_cons (pe_op op_sub (pe_op op_sub (pe_ix ix_seq (pv 3) pe_int (fun _ _ => rfl)) (pe_ix ix_seq (pv 2) pe_int (fun _ _ => rfl))) (pe_callB call_len (by rfl) T.b_len boot_len (pa_cons (pe_ix ix_seq (pv 2) pe_int (fun _ _ => rfl)) pa_nil))) pa_nil)))))
    (pss_one (ps_ret (pe_tup (pa_cons (pe_own O_moved_back hr (by decide) (by rfl) (pa_cons (pv 3) (pa_cons (pv 2) pa_nil))) (pa_cons (pv 2) pa_nil))))) pss_nil)
    (pss_one (ps_ret pe_non)))))), fun σ En => ?_⟩
  obtain ⟨p1, p2, p3, p4⟩ := hp
  refine q_setX1 (i := 2) En t (g_var (i := 0) En rfl) p1 (fun r e H1 v s1 E1 => ?_) fun C fl r e a v H1 s1 e1 dv => ?_
  · have h1 : isChangeD d1 = true := by
      cases h : isChangeD d1 with
      | true => rfl
      | false => simp [changeOut, h] at e
    have er : r = toldD d1 := by simp [changeOut, h1] at e; exact e.symm
    subst er
    have t1 := t.mono s1
    refine q_setX1 (i := 3) E1 t1 (g_var (i := 1) E1 rfl) p2 (fun r e H2 v2 s2 E2 => ?_) fun C fl r e a v2 H2 s2 e2 dv2 => ?_
    · have h2 : isChangeD d2 = true := by
        cases h : isChangeD d2 with
        | true => rfl
        | false => simp [changeOut, h] at e
      have er : r = toldD d2 := by simp [changeOut, h2] at e; exact e.symm
      subst er
      obtain ⟨a1, a2⟩ := p3 h1
      obtain ⟨b1, b2⟩ := p4 h2
      rw [told_is h1, told_is h2] at E2
      have kv : ∀ w H', Same H2 H' → DX X H' w (passB (intOf (it d1 0)) (wsOf (it d1 1)) (wsOf (it d1 2)) (intOf (it d2 0)) (wsOf (it d2 1)) (wsOf (it d2 2))) → Nw H2 w → Q w H' := fun w H' s' dw nw => q.1 _ (by simp [twoOut, h1, h2]) w H' ((s1.trans s2).trans s') dw (Nw.back (s1.trans s2) nw)
      generalize intOf (it d1 0) = p at E2 kv
      generalize wsOf (it d1 1) = os at E2 kv a1
      generalize wsOf (it d1 2) = ns at E2 kv a2
      generalize intOf (it d2 0) = q1 at E2 kv
      generalize wsOf (it d2 1) = us at E2 kv b1
      generalize wsOf (it d2 2) = vs at E2 kv b2
      have t2 := t1.mono s2
      have c12 : CC (chD p os ns) (chD q1 us vs) := ⟨p, os, ns, q1, us, vs, rfl, rfl, a1, a2, b1, b2⟩
      have c21 : CC (chD q1 us vs) (chD p os ns) := ⟨q1, us, vs, p, os, ns, rfl, rfl, b1, b2, a1, a2⟩
      refine q_if (b := apartB ns vs (p - q1 - us.length)) (gt_B (g_apart t2 (g_var (i := 2) E2 rfl) (g_var (i := 3) E2 rfl) (g_sub t2 (g_sub t2 (g_ixT (ds := [PyData.int p, wsD os, wsD ns]) t2 (g_var (i := 2) E2 rfl) g_int rfl) (g_ixT (ds := [PyData.int q1, wsD us, wsD vs]) t2 (g_var (i := 3) E2 rfl) g_int rfl)) (len_it t2 (g_var (i := 3) E2 rfl) rfl)))) (fun hb H3 s3 => ?_) fun hb H3 s3 => ?_
      · have E3 := E2.same s3
        have t3 := t2.mono s3
        refine s_retN (X := X) (gn_tup t3 (ga_cons (g_var (i := 3) E3 rfl) (ga_cons (g_is (g_call2 t3 (g_var (i := 2) E3 rfl) (g_var (i := 3) E3 rfl) c12) (moved_is p os ns q1 us vs)) ga_nil)) (by simp)) fun w H4 s4 dw nw => kv w H4 (s3.trans s4) (by unfold passB; rw [hb]; exact dw) (Nw.back s3 nw)
      · have E3 := E2.same s3
        have t3 := t2.mono s3
        refine q_if (b := apartB ns vs (q1 - p - ns.length)) (gt_B (g_apart t3 (g_var (i := 2) E3 rfl) (g_var (i := 3) E3 rfl) (g_sub t3 (g_sub t3 (g_ixT (ds := [PyData.int q1, wsD us, wsD vs]) t3 (g_var (i := 3) E3 rfl) g_int rfl) (g_ixT (ds := [PyData.int p, wsD os, wsD ns]) t3 (g_var (i := 2) E3 rfl) g_int rfl)) (len_it t3 (g_var (i := 2) E3 rfl) rfl)))) (fun hb2 H4 s4 => ?_) fun hb2 H4 s4 => ?_
        · have E4 := E3.same s4
          have t4 := t3.mono s4
          refine s_retN (X := X) (gn_tup t4 (ga_cons (g_is (g_call2 t4 (g_var (i := 3) E4 rfl) (g_var (i := 2) E4 rfl) c21) (back_is q1 us vs p os ns)) (ga_cons (g_var (i := 2) E4 rfl) ga_nil)) (by simp)) fun w H5 s5 dw nw => kv w H5 ((s3.trans s4).trans s5) (by unfold passB; rw [hb, hb2]; exact dw) (Nw.back (s3.trans s4) nw)
        · refine s_retN (X := X) gn_non fun w H5 s5 dw nw => kv w H5 ((s3.trans s4).trans s5) (by unfold passB; rw [hb, hb2]; exact dw) (Nw.back (s3.trans s4) nw)
    · have h2 : isChangeD d2 = false := by
        cases h : isChangeD d2 with
        | false => rfl
        | true => simp [changeOut, h] at e
      simp [changeOut, h2] at e
      obtain ⟨rfl, rfl, rfl⟩ := e
      exact q.2 _ _ _ (by simp [twoOut, h1, h2]) a v2 H2 (s1.trans s2) e2 dv2
  · have h1 : isChangeD d1 = false := by
      cases h : isChangeD d1 with
      | false => rfl
      | true => simp [changeOut, h] at e
    simp [changeOut, h1] at e
    obtain ⟨rfl, rfl, rfl⟩ := e
    exact q.2 _ _ _ (by simp [twoOut, h1]) a v H1 s1 e1 dv
end K20

/-! Side by side. -/
namespace K20
open PySem PySem.Spec PyProof.Rows L2 KD
-- RAISES change_of checked_text made_by turned_back passed side_by_side
variable {P : Program} {w : World} {K : PySem.W.Frag} {mg : Str → Option Value} {base : Heap}
end K20

/-! sorted of a list of data that stand in one order. -/
namespace KD
open PySem PySem.Spec PyProof.Rows L2
/-- the data in order -/
def sortD (ds : List PyData) : List PyData := ds.mergeSort (PySem.W.dataLe false id)
theorem sortD_perm (ds : List PyData) : (sortD ds).Perm ds := List.mergeSort_perm _ _
def rSortD : List V → Hp → VK → Prop := fun xs H Q => ∃ (X0 : Addr → Prop) (v : V) (ds : List PyData), xs = [v] ∧ DX X0 H v (.list ds) ∧ noDicts ds = true ∧ PySem.W.AllAlike ds ∧ PySem.W.Sortable ds ∧ (∀ d ∈ ds, d.depth ≤ 40) ∧
  ∀ p ys, H p = none → DXs X0 H ys (sortD ds) → Q (.ref p) (upd H p (.lst ys))
section
variable {X0 : Addr → Prop} {H : Hp}
theorem each_dx : ∀ {xs : List V} {ds : List PyData} {us : List Value}, DXs X0 H xs ds → Vals xs us → PySem.W.EachIs (fun u d => ∃ v, RelV v u ∧ DX X0 H v d) us ds
  | _, _, _, .nil, r => by
    cases r
    exact .nil
  | _, _, _, .cons h rs, r => by
    cases r with
    | cons r1 r2 => exact .cons ⟨_, r1, h⟩ (each_dx rs r2)
theorem dx_each : ∀ {ds : List PyData} {us : List Value}, PySem.W.EachIs (fun u d => ∃ v, RelV v u ∧ DX X0 H v d) us ds → ∃ xs, Vals xs us ∧ DXs X0 H xs ds
  | _, _, .nil => ⟨[], .nil, .nil⟩
  | _, _, .cons ⟨v, r, h⟩ t => by
    obtain ⟨xs, a, b⟩ := dx_each t
    exact ⟨v :: xs, .cons r a, .cons h b⟩
end
theorem cr_sortD {X : Cx} (hu : X.A.units + 64 < cLine) : CallR X (.builtin "sorted") rSortD := by
  intro pins s σ H vs us Q I r h
  obtain ⟨X0, v, ds, rfl, hd, nd, al, sb, dp, q⟩ := h
  cases hd with
  | @lst a xs _ n e rx =>
    obtain ⟨its, rv, hl, hz⟩ := I.list (SqL.of e)
    rw [Vals.ref1 r]
    obtain ⟨as, rd⟩ := Dp.readsAll I ds xs its (rx.dp nd) rv
    have mid : ds.map id = ds := List.map_id ds
    have hlen : ds.length ≤ sizeLine := by rw [← rx.length]; exact hz
    refine PySem.W.sorted_data (enc := id) (bs := ds) (R := fun u d => ∃ v, RelV v u ∧ DX X0 H v d) hl.isList (each_dx rx rv) (PySem.W.readsAll_each id (by rw [mid]; exact rd)) (by rw [mid]; exact al) (by rw [mid]; exact sb) hlen (fun b hb => ?_) fun out h1 h2 => ?_
    · have := dp b hb
      show X.A.units + 2 + b.depth < cLine
      omega
    · obtain ⟨ys, rys, dys⟩ := dx_each h2
      obtain ⟨ep, he'⟩ := PyProof.Rows.sortedAll_at s.heap its out.toArray
      have hy : ys.length ≤ sizeLine := by
        rw [dys.length, (List.mergeSort_perm ds _).length_eq]
        exact hlen
      exact ⟨.ref _, upd H (s.heap.objs.size + 1) (.lst ys), I.laid (t' := s.toks) (fun _ _ => PyProof.Rows.sortedAll_old) (Nat.le_succ _) ⟨hy, out, ep, rys, he'⟩, rfl, q _ ys (I.hok.fresh (Nat.le_succ _)) dys⟩
/-- sorted as a datum -/
theorem g_sorted {X : Addr → Prop} {σ : L2.St} {H : Hp} {te : TE} {ds : List PyData} (t : Trk X H) (h : G X te σ H (.list ds)) (nd : noDicts ds = true) (al : PySem.W.AllAlike ds) (sb : PySem.W.Sortable ds) (dp : ∀ d ∈ ds, d.depth ≤ 40) : GN X (tCB rSortD (tCons te tNil)) σ H (.list (sortD ds)) := fun H1 s Q q =>
  h H1 s _ fun v H2 s2 r => ⟨X, v, ds, rfl, r, nd, al, sb, dp, fun p ys hp dys => q _ _ (s2.trans (Same.upd hp)) (DX.newL ((t.mono s).mono s2) dys hp) (Nw.back s2 (Nw.of hp))⟩
end KD

/-! list(zip(xs, ys)). -/
namespace KD
open PySem PySem.Spec PyProof.Rows L2
/-- the zip at z, k pairs told -/
structure ZS (z TI TO i1 i2 a b : Addr) (xs ys : Array Value) (k : Nat) (h : Heap) : Prop where
  zip : (∃ u v, IsZip h z TI TO .none ∧ IsPair h TO u v) ∨ ∃ T f o, IsZipHeld h z TI TO T f ∧ h.get? T = some o ∧ T ≠ z
  ti : IsPair h TI (.ref i1) (.ref i2)
  it1 : h.IsListIter i1 a k
  it2 : h.IsListIter i2 b k
  la : h.IsList a xs
  lb : h.IsList b ys
theorem zip_no_len : typeLookup (.type "zip") "__len__" = pure none := am_miss_of_fast (by decide +kernel)
theorem zip_no_hint : typeLookup (.type "zip") "__length_hint__" = pure none := am_miss_of_fast (by decide +kernel)
/-- the tuples told up to now -/
def Told (Ts : List Addr) (xs ys : Array Value) (s0 : Nat) (h : Heap) : Prop :=
  (∀ (i : Nat) (T : Addr), Ts[i]? = some T → ∃ x y, xs[i]? = some x ∧ ys[i]? = some y ∧ IsPair h T x y ∧ s0 ≤ T ∧ T < h.objs.size) ∧ Ts.Pairwise (· < ·)
/-- what a turn leaves alone -/
def KpZ (z TO i1 i2 S : Addr) (h h' : Heap) : Prop := ∀ b o, b ≠ z → b ≠ TO → b ≠ i1 → b ≠ i2 → b ≠ S → h.get? b = some o → h'.get? b = some o
theorem KpZ.trans {z TO i1 i2 S : Addr} {h h1 h2 : Heap} (a : KpZ z TO i1 i2 S h h1) (b : KpZ z TO i1 i2 S h1 h2) : KpZ z TO i1 i2 S h h2 := fun c o n1 n2 n3 n4 n5 e => b c o n1 n2 n3 n4 n5 (a c o n1 n2 n3 n4 n5 e)
section
variable {P : Program} {w : World} {A : Around} {E : Value → Shared → Prop} {z TI TO i1 i2 a b S : Addr} {xs ys : Array Value} {k s0 : Nat} {s : Shared}
/-- one more pair -/
theorem next_zip {Q : Option Value → Shared → Prop} (D : ZipApart z TI TO i1 i2 a b) (st : ZS z TI TO i1 i2 a b xs ys k s.heap) (k1 : k < xs.size) (k2 : k < ys.size)
    (hQ : ∀ h', ZS z TI TO i1 i2 a b xs ys (k + 1) h' → IsPair h' s.heap.objs.size xs[k] ys[k] → h'.objs.size = s.heap.objs.size + 1 → KpZ z TO i1 i2 z s.heap h' → Q (some (.ref s.heap.objs.size)) { s with heap := h' }) :
    wpAny (model P w) A (pyNext (.ref z)) Q E s := by
  have lz : ∀ {o : Obj}, s.heap.get? z = some o → s.heap.objs.size ≠ z := fun e q => Nat.lt_irrefl _ (by have := Heap.lt_size e; rw [q] at this; exact this)
  rcases st.zip with ⟨u, v, hz, hO⟩ | ⟨T, f, o, hz, hT, hTz⟩
  · refine wpAny_pyNext_zip_item D hz st.ti hO st.it1 st.it2 st.la st.lb (x := xs[k]) (y := ys[k]) (by simp [k1]) (by simp [k2]) fun h' q1 q2 q3 q4 q5 q6 q7 => ?_
    refine hQ h' ⟨.inr ⟨s.heap.objs.size, false, _, q1, q5, lz hz⟩, q7 _ _ D.TIz D.TITO D.TIi1 D.TIi2 st.ti, q3, q4, st.la.at fun o e => q7 _ _ D.l1z D.l1TO D.l1i1 D.l1i2 e, st.lb.at fun o e => q7 _ _ D.l2z D.l2TO D.l2i1 D.l2i2 e⟩ q5 q6 fun c o n1 n2 n3 n4 _ e => q7 c o n1 n2 n3 n4 e
  · refine wpAny_pyNext_zip_item_held D hz hT st.ti st.it1 st.it2 st.la st.lb (x := xs[k]) (y := ys[k]) (by simp [k1]) (by simp [k2]) fun h' q1 q3 q4 q5 q6 q7 => ?_
    refine hQ h' ⟨.inr ⟨T, true, ?_⟩, q7 _ _ D.TIz D.TIi1 D.TIi2 st.ti, q3, q4, st.la.at fun o e => q7 _ _ D.l1z D.l1i1 D.l1i2 e, st.lb.at fun o e => q7 _ _ D.l2z D.l2i1 D.l2i2 e⟩ q5 q6 fun c o n1 n2 n3 n4 _ e => q7 c o n1 n3 n4 e
    by_cases c1 : T = i1
    · obtain ⟨o1, e1, _⟩ := q3
      exact ⟨o1, q1, c1 ▸ e1, hTz⟩
    · by_cases c2 : T = i2
      · obtain ⟨o1, e1, _⟩ := q4
        exact ⟨o1, q1, c2 ▸ e1, hTz⟩
      · exact ⟨o, q1, q7 T o hTz c1 c2 hT, hTz⟩
theorem end_zip {Q : Option Value → Shared → Prop} (hh : A.handled = none) (D : ZipApart z TI TO i1 i2 a b) (st : ZS z TI TO i1 i2 a b xs ys k s.heap) (he : xs.size ≤ k ∨ ys.size ≤ k)
    (hQ : ∀ h', KpZ z TO i1 i2 z s.heap h' → Q none { s with heap := h' }) : wpAny (model P w) A (pyNext (.ref z)) Q E s := by
  have he' : xs[k]? = none ∨ ys[k]? = none := he.elim (fun h => .inl (by simp [h])) fun h => .inr (by simp [h])
  rcases st.zip with ⟨u, v, hz, hO⟩ | ⟨T, f, o, hz, hT, hTz⟩
  · exact wpAny_pyNext_zip_end hh D hz st.ti hO st.it1 st.it2 st.la st.lb he' fun h' q => hQ h' fun c o n1 n2 n3 n4 _ e => q c o n1 n2 n3 n4 e
  · exact wpAny_pyNext_zip_end_held hh D hz hT st.ti st.it1 st.it2 st.la st.lb he' fun h' q => hQ h' fun c o n1 n2 n3 n4 _ e => q c o n1 n3 n4 e
/-- the list's loop -/
theorem loopZ {R : Result → Shared → Prop} {res : Value} (hh : A.handled = none) (D : ZipApart z TI TO i1 i2 a b) (nS : S ≠ z ∧ S ≠ TI ∧ S ≠ TO ∧ S ≠ i1 ∧ S ≠ i2 ∧ S ≠ a ∧ S ≠ b) (old : z < s0 ∧ TO < s0 ∧ i1 < s0 ∧ i2 < s0 ∧ S < s0) (big : min xs.size ys.size ≤ 1000000) (hb : Heap) (gs : Array GenState) (dr : Drawn) (tk : Nat) (os : _)
    (fin : ∀ (h : Heap) (Ts : List Addr) (c : Nat), KpZ z TO i1 i2 S hb h → h.get? S = some (lstObj (Ts.map Value.ref).toArray c) → Ts.length = min xs.size ys.size → Told Ts xs ys s0 h → R (.ok (.ret res)) ⟨h, gs, dr, tk, os⟩) :
    ∀ (m k : Nat) (h : Heap) (Ts : List Addr) (c : Nat), min xs.size ys.size - k = m → k ≤ min xs.size ys.size → KpZ z TO i1 i2 S hb h → s0 ≤ h.objs.size → ZS z TI TO i1 i2 a b xs ys k h → h.get? S = some (lstObj (Ts.map Value.ref).toArray c) → Ts.length = k → Told Ts xs ys s0 h →
      codeAny (model P w) A (.builtin "list.extend.loop" ⟨[.ref S, .ref z, res], []⟩) R ⟨h, gs, dr, tk, os⟩ := by
  obtain ⟨nS1, nS2, nS3, nS4, nS5, nS6, nS7⟩ := nS
  obtain ⟨o1, o2, o3, o4, o5⟩ := old
  -- a tuple that was told is none of the others
  have keepT : ∀ {Ts : List Addr} {h h' : Heap}, Told Ts xs ys s0 h → KpZ z TO i1 i2 S h h' → Told Ts xs ys s0 h' := fun {Ts h h'} t k => ⟨fun i T e => by
    obtain ⟨x, y, e1, e2, e3, e4, e5⟩ := t.1 i T e
    have ne : ∀ {q : Addr}, q < s0 → T ≠ q := fun hq z => Nat.lt_irrefl _ (Nat.lt_of_lt_of_le hq (z ▸ e4))
    have e6 := k T _ (ne o1) (ne o2) (ne o3) (ne o4) (ne o5) e3
    exact ⟨x, y, e1, e2, e6, e4, Heap.lt_size e6⟩, t.2⟩
  intro m
  induction m with
  | zero =>
    intro k h Ts c hm hk kp hs st hS hl told
    refine codeAny_builtin F.entry_extend_loop ?_
    rw [Around.under_plainId F.plain_extend_loop _]
    show wpAny _ A.in1 (pyNext (.ref z) >>= _) _ _ _
    refine wpAny_bind (end_zip (s := ⟨h, gs, dr, tk, os⟩) hh D st (by omega) fun h' q => wpAny_pure ?_)
    have q' : KpZ z TO i1 i2 S h h' := fun c o n1 n2 n3 n4 _ e => q c o n1 n2 n3 n4 n1 e
    exact fin h' Ts c (kp.trans q') (q S _ nS1 nS3 nS4 nS5 nS1 hS) (by omega) (keepT told q')
  | succ m ih =>
    intro k h Ts c hm hk kp hs st hS hl told
    refine codeAny_builtin F.entry_extend_loop ?_
    rw [Around.under_plainId F.plain_extend_loop _]
    show wpAny _ A.in1 (pyNext (.ref z) >>= _) _ _ _
    refine wpAny_bind (next_zip (s := ⟨h, gs, dr, tk, os⟩) D st (by omega) (by omega) fun h' st' pr sz q => ?_)
    have q' : KpZ z TO i1 i2 S h h' := fun c o n1 n2 n3 n4 _ e => q c o n1 n2 n3 n4 n1 e
    have hS' := q S _ nS1 nS3 nS4 nS5 nS1 hS
    show wpAny _ A.in1 (updateSeq S (·.push (.ref h.objs.size)) >>= _) _ _ _
    refine wpAny_bind ?_
    refine wpAny_updateSeq hS' rfl (wpAny_pure ⟨plainId_quiet F.plain_extend_loop _, ?_⟩) (by simp [hl]; rw [sizeLine_eq]; omega) (by simp [hl]; rw [sizeLine_eq]; omega)
    have oth : ∀ b o, b ≠ S → h'.get? b = some o → (h'.update S (Obj.mapSeq (·.push (Value.ref h.objs.size)))).get? b = some o := fun b o hb e => (Heap.get?_update_other _ _ (Ne.symm hb)).trans e
    have hnew : h.objs.size ≠ S := fun z => Nat.lt_irrefl _ (by rw [← z] at o5; exact Nat.lt_of_lt_of_le o5 hs)
    have pr2 := oth _ _ hnew pr
    have q2 : KpZ z TO i1 i2 S h' (h'.update S (Obj.mapSeq (·.push (Value.ref h.objs.size)))) := fun c o _ _ _ _ n5 e => oth c o n5 e
    have told2 := keepT (keepT told q') q2
    have self := Heap.get?_update_self (Obj.mapSeq (·.push (Value.ref h.objs.size))) hS' rfl
    refine ih (k + 1) _ (Ts ++ [h.objs.size]) _ (by omega) (by omega) ((kp.trans q').trans q2) (Nat.le_of_lt (Nat.lt_of_le_of_lt hs (Heap.lt_size pr2))) ⟨?_, oth _ _ (Ne.symm nS2) st'.ti, st'.it1.at fun o e => oth _ o (Ne.symm nS4) e, st'.it2.at fun o e => oth _ o (Ne.symm nS5) e, st'.la.at fun o e => oth _ o (Ne.symm nS6) e, st'.lb.at fun o e => oth _ o (Ne.symm nS7) e⟩ (by rw [self]; simp [Obj.mapSeq]; rfl) (by rw [List.length_append, hl]; rfl) ⟨fun i T e => ?_, ?_⟩
    · rcases st'.zip with ⟨u, v, hz, hO⟩ | ⟨T, f, o, hz, hT, hTz⟩
      · exact .inl ⟨u, v, oth _ _ (Ne.symm nS1) hz, oth _ _ (Ne.symm nS3) hO⟩
      · by_cases hTS : T = S
        · exact .inr ⟨S, f, _, oth _ _ (Ne.symm nS1) (hTS ▸ hz), self, nS1⟩
        · exact .inr ⟨T, f, o, oth _ _ (Ne.symm nS1) hz, oth _ _ hTS hT, hTz⟩
    · by_cases hi : i < Ts.length
      · rw [List.getElem?_append_left hi] at e
        exact told2.1 i T e
      · rw [List.getElem?_append_right (by omega)] at e
        have hik : i = k := by
          by_cases z : i - Ts.length = 0
          · omega
          · rw [List.getElem?_eq_none (by simp; omega)] at e
            cases e
        subst hik
        rw [hl, Nat.sub_self] at e
        cases e
        exact ⟨xs[i], ys[i], by simp, by simp, pr2, hs, Heap.lt_size pr2⟩
    · rw [List.pairwise_append]
      refine ⟨told.2, List.pairwise_singleton _ _, fun T hT U hU => ?_⟩
      rw [List.mem_singleton.mp hU]
      obtain ⟨i, hi⟩ := List.mem_iff_getElem?.mp hT
      obtain ⟨_, _, _, _, _, _, lt⟩ := told.1 i T hi
      exact lt
/-- list(z), z a zip that has told nothing -/
theorem call_list_zip {Q : Value → Shared → Prop} (hh : A.handled = none) (D : ZipApart z TI TO i1 i2 a b) (st : ZS z TI TO i1 i2 a b xs ys 0 s.heap) (lt : z < s.heap.objs.size ∧ TI < s.heap.objs.size ∧ TO < s.heap.objs.size ∧ i1 < s.heap.objs.size ∧ i2 < s.heap.objs.size ∧ a < s.heap.objs.size ∧ b < s.heap.objs.size)
    (zT : s.TypeIs (.ref z) "zip") (hz0 : IsZip s.heap z TI TO .none) (big : min xs.size ys.size ≤ 1000000)
    (hQ : ∀ h Ts c, KpZ z TO i1 i2 s.heap.objs.size s.heap h → h.get? s.heap.objs.size = some (lstObj (Ts.map Value.ref).toArray c) → Ts.length = min xs.size ys.size → Told Ts xs ys (s.heap.objs.size + 1) h → Q (.ref s.heap.objs.size) { s with heap := h }) :
    wpAny (model P w) A (call (.type "list") [.ref z]) Q E s := by
  obtain ⟨l1, l2, l3, l4, l5, l6, l7⟩ := lt
  let e0 : Heap := s.heap.push { cls := .type "list", data := .seq #[] }
  refine callType_codes (Q₁ := fun v t => v = .ref s.heap.objs.size ∧ t = { s with heap := e0 }) F.called_list (F.typeCall_list_1 _) F.entry_list_init (code_list_new _ ⟨rfl, rfl⟩) fun v t ht => ?_
  obtain ⟨rfl, rfl⟩ := ht
  have S0 : e0.get? s.heap.objs.size = some { cls := .type "list", data := .seq #[] } := Heap.get?_push_size _ rfl
  refine ⟨⟨_, S0, rfl⟩, F.args_list_init_2 _ _, ?_⟩
  generalize hSS : s.heap.objs.size = SS at *
  have old : ∀ b o, s.heap.get? b = some o → b ≠ SS := fun b o e q => Nat.lt_irrefl _ (by have := Heap.lt_size e; rw [hSS, q] at this; exact this)
  have k0 : ∀ b o, s.heap.get? b = some o → e0.get? b = some o := fun b o e => Heap.get?_push_of_some _ e
  have up : ∀ (h : Heap) (f : Obj → Obj), (∀ b o, s.heap.get? b = some o → h.get? b = some o) → ∀ b o, s.heap.get? b = some o → (h.update SS f).get? b = some o := fun h f q b o e => (Heap.get?_update_other _ _ (Ne.symm (old b o e))).trans (q b o e)
  show wpAny _ A.in1.in1
    (do let was ← Builtin.List.listItems (.ref SS)
        Builtin.List.listUpdate (.ref SS) (fun _ => #[])
        letGo was.toList.reverse
        Builtin.List.listExtendWith (.ref SS) (.ref z) .none) _ _ _
  refine wpAny_bind ?_
  unfold Builtin.List.listItems
  refine wpAny_bind (wpAny_seqItems S0 rfl (wpAny_pure ?_))
  refine wpAny_bind (wpAny_updateSeq S0 rfl ?_)
  have S1 := Heap.get?_update_self (Obj.mapSeq (fun _ => (#[] : Array Value))) S0 rfl
  have k1 := up _ (Obj.mapSeq (fun _ => (#[] : Array Value))) k0
  refine wpAny_bind (wpAny_letGo ?_)
  unfold Builtin.List.listExtendWith
  have zt : ∀ {h : Heap}, (∀ b o, s.heap.get? b = some o → h.get? b = some o) → ({ s with heap := h } : Shared).TypeIs (.ref z) "zip" := fun {h} k => by
    obtain ⟨o, e1, e2⟩ := zT
    exact ⟨o, k _ _ e1, e2⟩
  refine wpAny_bind (wpAny_typeOf (zt k1) ?_)
  have nz : SS ≠ z := fun q => Nat.lt_irrefl _ (by rw [← q] at l1; exact l1)
  have n1 : Builtin.List.listSameRef (.ref SS) (.ref z) = false := by simp [Builtin.List.listSameRef, nz]
  have n2 : (Value.type "zip" == Value.type "list") = false := by decide
  have n3 : (Value.type "zip" == Value.type "tuple") = false := by decide
  simp only [n1, n2, n3, Bool.or_false, Bool.false_eq_true, if_false]
  refine wpAny_bind (wpAny_pyIter_zip (s := { s with heap := _ }) (k1 _ _ hz0) ?_)
  refine wpAny_bind (wpAny_holding ?_)
  unfold Builtin.List.listLengthHint
  refine wpAny_bind (wpAny_specialOf (zt k1) zip_no_len ?_)
  show wpAny _ A.in1.in1 (specialOf (.ref z) (Str.ofString "__length_hint__") >>= _) _ _ _
  refine wpAny_bind (wpAny_specialOf (zt k1) zip_no_hint (wpAny_pure ?_))
  show wpAny _ A.in1.in1
    (rule "list.extend.makes-room" >>= fun _ => Builtin.List.listTouch (.ref SS) >>= fun _ => again (.builtin "list.extend.loop" ⟨[.ref SS, .ref z, .none], []⟩)) _ _ _
  refine wpAny_bind (wpAny_rule ?_)
  refine wpAny_bind ?_
  show wpAny _ A.in1.in1 (updateSeq SS (·.push .none) >>= fun _ => updateSeq SS (·.pop)) _ _ _
  refine wpAny_bind (wpAny_updateSeq S1 rfl ?_)
  have S2 := Heap.get?_update_self (Obj.mapSeq (·.push Value.none)) S1 rfl
  refine wpAny_updateSeq (hz := by seq_fits) S2 rfl ?_
  have S3 := Heap.get?_update_self (Obj.mapSeq (·.pop)) S2 rfl
  have k3 := up _ (Obj.mapSeq (·.pop)) (up _ (Obj.mapSeq (·.push Value.none)) k1)
  have nn : ∀ {q : Addr}, q < SS → SS ≠ q := fun hq e => Nat.lt_irrefl _ (by rw [← e] at hq; exact hq)
  refine wpAny_pure ⟨plainId_quiet F.plain_extend_loop _, ?_⟩
  refine loopZ (P := P) (w := w) (A := A.in1) (s0 := SS + 1) hh D ⟨nn l1, nn l2, nn l3, nn l4, nn l5, nn l6, nn l7⟩ ⟨Nat.lt_succ_of_lt l1, Nat.lt_succ_of_lt l3, Nat.lt_succ_of_lt l4, Nat.lt_succ_of_lt l5, Nat.lt_succ_self _⟩ big _ _ _ _ _ (fun h Ts c kp hS hl told => ⟨rfl, hQ h Ts c (fun b o c1 c2 c3 c4 c5 e => kp b o c1 c2 c3 c4 c5 (k3 b o e)) hS hl told⟩) _ 0 _ [] _ rfl (Nat.zero_le _) (fun _ _ _ _ _ _ _ e => e) (Nat.succ_le_of_lt (Heap.lt_size S3)) ⟨?_, k3 _ _ st.ti, st.it1.at fun o e => k3 _ o e, st.it2.at fun o e => k3 _ o e, st.la.at fun o e => k3 _ o e, st.lb.at fun o e => k3 _ o e⟩ S3 rfl ⟨fun i T e => by simp at e, .nil⟩
  rcases st.zip with ⟨u, v, hz, hO⟩ | ⟨T, f, o, hz, hT, hTz⟩
  · exact .inl ⟨u, v, k3 _ _ hz, k3 _ _ hO⟩
  · exact .inr ⟨T, f, o, k3 _ _ hz, k3 _ _ hT, hTz⟩
end
end KD

/-! list(zip(xs, ys)), read. -/
namespace KD
open PySem PySem.Spec PyProof.Rows L2
/-- tuples of pairs laid -/
def layT : Hp → List Addr → List V → List V → Hp
  | H, T :: Ts, x :: xs, y :: ys => layT (upd H T (.tup [x, y])) Ts xs ys
  | H, _, _, _ => H
theorem layT_nil {H : Hp} {xs ys : List V} : layT H [] xs ys = H := by unfold layT; rfl
theorem layT_nx {H : Hp} {Ts : List Addr} {ys : List V} : layT H Ts [] ys = H := by cases Ts <;> (unfold layT; rfl)
theorem layT_ny {H : Hp} {Ts : List Addr} {xs : List V} : layT H Ts xs [] = H := by cases Ts <;> cases xs <;> (unfold layT; rfl)
theorem layT_old {b : Addr} : ∀ {Ts : List Addr} {xs ys : List V} {H : Hp}, b ∉ Ts → layT H Ts xs ys b = H b
  | [], _, _, _, _ => by rw [layT_nil]
  | _ :: _, [], _, _, _ => by rw [layT_nx]
  | _ :: _, _ :: _, [], _, _ => by rw [layT_ny]
  | T :: Ts, x :: xs, y :: ys, H, h => by
    rw [layT, layT_old (fun z => h (List.mem_cons_of_mem _ z)), upd_ne (fun z => h (by rw [z]; exact List.mem_cons_self ..))]
theorem layT_ok {P : Program} {w : World} {h : Heap} : ∀ {Ts : List Addr} {xs ys : List V} {H : Hp}, HOk P w H h → Ts.Nodup → (∀ T ∈ Ts, H T = none) →
    (∀ (i : Nat) (T : Addr) (x y : V), Ts[i]? = some T → xs[i]? = some x → ys[i]? = some y → ∃ u v, RelV x u ∧ RelV y v ∧ h.get? T = some { cls := .type "tuple", data := .seq #[u, v] }) → HOk P w (layT H Ts xs ys) h
  | [], _, _, _, ok, _, _, _ => by rw [layT_nil]; exact ok
  | _ :: _, [], _, _, ok, _, _, _ => by rw [layT_nx]; exact ok
  | _ :: _, _ :: _, [], _, ok, _, _, _ => by rw [layT_ny]; exact ok
  | T :: Ts, x :: xs, y :: ys, H, ok, nd, fr, tr => by
    rw [layT]
    obtain ⟨n1, n2⟩ := List.nodup_cons.mp nd
    obtain ⟨u, v, ru, rv, pr⟩ := tr 0 T x y rfl rfl rfl
    refine layT_ok (HOk.laidN ok (fun _ _ e => e) (fr T (List.mem_cons_self ..)) (show ObjOk P w _ h T (.tup [x, y]) from ⟨by rw [sizeLine_eq]; exact (by decide : 2 ≤ 16777216), [u, v], .cons ru (.cons rv .nil), ⟨_, pr, rfl, _, rfl⟩⟩)) n2 (fun T' hT => ?_) fun i T' x' y' e1 e2 e3 => tr (i + 1) T' x' y' e1 e2 e3
    rw [upd_ne (fun z => n1 (by rw [← z]; exact hT))]
    exact fr T' (List.mem_cons_of_mem _ hT)
theorem vals_refs : ∀ (Ts : List Addr), Vals (Ts.map V.ref) (Ts.map Value.ref)
  | [] => .nil
  | _ :: Ts => .cons rfl (vals_refs Ts)
def tLz (K : PySem.W.Frag) (ta : TA) : TE := fun σ H Q => ta σ H fun vs H1 => ∃ a b xs ys, vs = [.ref a, .ref b] ∧ SqL K H1 a xs ∧ SqL K H1 b ys ∧ min xs.length ys.length ≤ 1000000 ∧
  ∀ L Ts, (L :: Ts).Nodup → (∀ c ∈ L :: Ts, H1 c = none) → Ts.length = min xs.length ys.length → Q (.ref L) (upd (layT H1 Ts xs ys) L (.lst (Ts.map V.ref)))
theorem pe_listZip {X : Cx} {e e2 : Expr} {ta : TA} {p pos p2 pos2 : Pos} (hc : X.calm = true) (hgl : Gl X "list") (hml : X.mg "list" = none) (hg : Gl X "zip") (hm : X.mg "zip" = none) (ha : PA X [e, e2] ta)
    (hs : starEach [e, e2] X.env = (false, eval e X.env) :: starEach [e2] X.env := by rfl) (hpl : (backTo pos2 (starEach [e2] X.env)).any (·.1) = false := by rfl)
    (na : starEach [.Call (.Name "zip" p2) [e, e2] [] pos2] X.env = (false, eval (.Call (.Name "zip" p2) [e, e2] [] pos2) X.env) :: starEach [] X.env := by rfl) :
    PE X (.Call (.Name "list" p) [.Call (.Name "zip" p2) [e, e2] [] pos2] [] pos) (tLz X.K ta) := by
  refine ⟨fun pins s σ H Q I h => ?_⟩
  refine Call_ (ld_blt I hgl hml boot_list (PyProof.Rows.callWith_type1 (args_cons (Call_ (ld_blt I hg hm PyProof.Rows.boot_zip (PyProof.Rows.callWith_type1 (thn (ha.run pos2 pins s σ H _ I h) fun us s1 ⟨vs, H1, I1, r1, q1⟩ => ?_) hs hpl))) na) na))
  obtain ⟨a, b, xs, ys, ex, hqx, hqy, big, q⟩ := q1
  subst ex
  cases r1 with
  | cons r rr =>
    cases rr with
    | cons r' rr =>
      cases rr
      cases r
      cases r'
      obtain ⟨its, rv, p1, z1⟩ := I1.list hqx
      obtain ⟨its2, rv2, p2, z2⟩ := I1.list hqy
      have la : a < s1.heap.objs.size := p1.lt
      have lb : b < s1.heap.objs.size := p2.lt
      have el1 := rv.length
      have el2 := rv2.length
      refine call_zip_2 p1.isList p2.isList fun h' hz hTI hTO h1 h2 hsz hk => args_nil ?_
      have fr : ∀ {c : Addr}, s1.heap.objs.size ≤ c → H1 c = none := fun hle => I1.hok.fresh hle
      refine call_list_zip (s := { s1 with heap := h' }) (xs := its.toArray) (ys := its2.toArray) (I1.ok.hd hc) (PySem.W.ktu_apart s1.heap.objs.size a b la lb) ⟨.inl ⟨_, _, hz, hTO⟩, hTI, h1, h2, p1.isList.at fun o e => hk _ o e, p2.isList.at fun o e => hk _ o e⟩ ?_ ⟨_, hz, rfl⟩ hz (by simp only [List.size_toArray]; omega) fun hh Ts c kp hL hl told => ?_
      · show _ < h'.objs.size ∧ _ < h'.objs.size ∧ _ < h'.objs.size ∧ _ < h'.objs.size ∧ _ < h'.objs.size ∧ _ < h'.objs.size ∧ _ < h'.objs.size
        rw [hsz]
        exact ⟨Nat.add_lt_add_left (by decide : 4 < 5) _, Nat.add_lt_add_left (by decide : 2 < 5) _, Nat.add_lt_add_left (by decide : 3 < 5) _, Nat.lt_add_of_pos_right (by decide), Nat.add_lt_add_left (by decide : 1 < 5) _, Nat.lt_of_lt_of_le la (Nat.le_add_right _ _), Nat.lt_of_lt_of_le lb (Nat.le_add_right _ _)⟩
      · have hL' : hh.get? h'.objs.size = some (lstObj (Ts.map Value.ref).toArray c) := hL
        have told' : Told Ts its.toArray its2.toArray (h'.objs.size + 1) hh := told
        have kp' : KpZ (s1.heap.objs.size + 4) (s1.heap.objs.size + 3) s1.heap.objs.size (s1.heap.objs.size + 1) h'.objs.size h' hh := kp
        clear kp hL told
        have hS : s1.heap.objs.size ≤ h'.objs.size := by rw [hsz]; exact Nat.le_add_right _ _
        have nw : ∀ c ∈ h'.objs.size :: Ts, s1.heap.objs.size ≤ c := fun c hc => by
          rcases List.mem_cons.mp hc with z | z
          · rw [z]; exact hS
          · obtain ⟨i, hi⟩ := List.mem_iff_getElem?.mp z
            obtain ⟨_, _, _, _, _, g, _⟩ := told'.1 i c hi
            exact Nat.le_trans hS (Nat.le_of_succ_le g)
        have nd : (h'.objs.size :: Ts).Nodup := by
          refine List.nodup_cons.mpr ⟨fun z => ?_, told'.2.imp fun h => Nat.ne_of_lt h⟩
          obtain ⟨i, hi⟩ := List.mem_iff_getElem?.mp z
          obtain ⟨_, _, _, _, _, g, _⟩ := told'.1 i _ hi
          exact Nat.lt_irrefl _ g
        have frs' : ∀ c ∈ h'.objs.size :: Ts, H1 c = none := fun c hc => fr (nw c hc)
        have k : ∀ c o, s1.heap.get? c = some o → hh.get? c = some o := fun c o e => by
          have lt := Heap.lt_size e
          have ne : ∀ {d : Addr}, s1.heap.objs.size ≤ d → c ≠ d := fun hd z => Nat.lt_irrefl _ (Nat.lt_of_lt_of_le (z ▸ lt) hd)
          exact kp' c o (ne (Nat.le_add_right _ _)) (ne (Nat.le_add_right _ _)) (ne (Nat.le_refl _)) (ne (Nat.le_add_right _ _)) (ne hS) (hk c o e)
        have old : ∀ c, c < s1.heap.objs.size → upd (layT H1 Ts xs ys) h'.objs.size (.lst (Ts.map V.ref)) c = H1 c := fun c lt => by
          have ne : ∀ d ∈ h'.objs.size :: Ts, c ≠ d := fun d hd z => Nat.lt_irrefl _ (Nat.lt_of_lt_of_le (z ▸ lt) (nw d hd))
          rw [upd_ne (ne _ (List.mem_cons_self ..)), layT_old fun z => ne c (List.mem_cons_of_mem _ z) rfl]
        have hok : HOk X.prog X.w (upd (layT H1 Ts xs ys) h'.objs.size (.lst (Ts.map V.ref))) hh := by
          obtain ⟨n1, n2⟩ := List.nodup_cons.mp nd
          refine (layT_ok (I1.hok.kept k) n2 (fun T hT => frs' T (List.mem_cons_of_mem _ hT)) fun i T x y e1 e2 e3 => ?_).laidN (fun _ _ e => e) ?_ (show ObjOk X.prog X.w _ hh _ (.lst (Ts.map V.ref)) from ⟨?_, Ts.map Value.ref, c, vals_refs Ts, hL'⟩)
          · obtain ⟨u, v, f1, f2, pr, _, _⟩ := told'.1 i T e1
            obtain ⟨u', g1, g2⟩ := rv.get e2
            obtain ⟨v', g3, g4⟩ := rv2.get e3
            have f1' : its[i]? = some u := by simpa using f1
            have f2' : its2[i]? = some v := by simpa using f2
            rw [g1] at f1'
            rw [g3] at f2'
            cases f1'
            cases f2'
            exact ⟨_, _, g2, g4, pr⟩
          · rw [layT_old n1]
            exact frs' _ (List.mem_cons_self ..)
          · rw [List.length_map, hl, sizeLine_eq]
            simp only [List.size_toArray]
            omega
        refine ⟨.ref h'.objs.size, _, I1.un (h' := hh) (t' := s1.toks) ⟨fun c o e _ _ _ => k c o e, fun c o e _ _ _ => ⟨o.slots, k c o e⟩, fun c o e n _ => ?_, fun c o e _ => ⟨o, k c o e⟩, fun c vs e => ?_, fun c o u e => ?_, fun c ps e => ⟨#[], ?_⟩⟩ hok, rfl, q _ Ts nd frs' (by rw [hl]; simp only [List.size_toArray]; omega)⟩
        · rw [old c (Heap.lt_size e)]; exact n
        · rw [old c (I1.hok.lt e)]; exact e
        · rw [old c (I1.hok.lt e)]; exact e
        · rw [old c (I1.hok.lt e), e]; simp
/-! ### as data -/
theorem layT_dx {X : Addr → Prop} : ∀ {Ts : List Addr} {xs ys : List V} {ds es : List PyData} {H : Hp}, Trk X H → DXs X H xs ds → DXs X H ys es → Ts.Nodup → (∀ T ∈ Ts, H T = none) → Ts.length = min xs.length ys.length →
    Same H (layT H Ts xs ys) ∧ DXs X (layT H Ts xs ys) (Ts.map V.ref) (List.zipWith (fun a b => .tuple [a, b]) ds es)
  | [], xs, ys, ds, es, H, t, hx, hy, nd, fr, hl => by
    rw [layT_nil]
    refine ⟨Same.refl H, ?_⟩
    cases hx with
    | nil => exact .nil
    | cons _ _ =>
      cases hy with
      | nil => exact .nil
      | cons _ _ => simp at hl
  | T :: Ts, _, _, _, _, H, t, .nil, hy, nd, fr, hl => by simp at hl
  | T :: Ts, _, _, _, _, H, t, .cons _ _, .nil, nd, fr, hl => by simp at hl
  | T :: Ts, x :: _, y :: _, _, _, H, t, .cons h1 r1, .cons h2 r2, nd, fr, hl => by
    rw [layT]
    obtain ⟨n1, n2⟩ := List.nodup_cons.mp nd
    have hT := fr T (List.mem_cons_self ..)
    have s1 : Same H (upd H T (.tup [x, y])) := Same.upd hT
    have k1 := Kp.of (X := X) s1
    obtain ⟨s2, d2⟩ := layT_dx (t.mono s1) (r1.mono k1) (r2.mono k1) n2 (fun T' hT' => by
      rw [upd_ne (fun z => n1 (by rw [← z]; exact hT'))]
      exact fr T' (List.mem_cons_of_mem _ hT')) (by simp at hl ⊢; omega)
    exact ⟨s1.trans s2, .cons ((DX.newT t (.cons h1 (.cons h2 .nil)) hT).mono (Kp.of s2)) d2⟩
theorem g_listZip {X : Addr → Prop} {σ : L2.St} {H : Hp} {K : PySem.W.Frag} {ta tb : TE} {ds es : List PyData} (t : Trk X H) (h1 : G X ta σ H (.list ds)) (h2 : G X tb σ H (.list es)) (big : min ds.length es.length ≤ 1000000) :
    GN X (tLz K (tCons ta (tCons tb tNil))) σ H (.list (List.zipWith (fun a b => .tuple [a, b]) ds es)) := fun H1 s Q q =>
  ga_cons h1 (ga_cons h2 ga_nil) H1 s _ fun vs H2 s2 rs => by
    cases rs with
    | cons r1 rs =>
      cases rs with
      | cons r2 rs =>
        cases rs
        obtain ⟨a, xs, rfl, _, ea, da⟩ := r1.lst_inv
        obtain ⟨b, ys, rfl, _, eb, db⟩ := r2.lst_inv
        refine ⟨a, b, xs, ys, rfl, .of ea, .of eb, by rw [da.length, db.length]; exact big, fun L Ts nd fr hl => ?_⟩
        obtain ⟨n1, n2⟩ := List.nodup_cons.mp nd
        have t2 := (t.mono s).mono s2
        obtain ⟨s3, d3⟩ := layT_dx t2 da db n2 (fun T hT => fr T (List.mem_cons_of_mem _ hT)) hl
        have hL : layT H2 Ts xs ys L = none := by
          rw [layT_old n1]
          exact fr L (List.mem_cons_self ..)
        have hL0 := fr L (List.mem_cons_self ..)
        exact q _ _ ((s2.trans s3).trans (Same.upd hL)) (DX.newL (t2.mono s3) d3 hL) (Nw.back s2 (Nw.of hL0))
end KD

/-! Two changes that pass one another: the lines that they put, order and bury (lists alone). -/
namespace KP
open PySem
abbrev Ln := Str × Nat
def ownL (nm : Str) (b : Nat) : List Ln := (List.range b).map fun i => (nm, i)
def here0 (n : Nat) : List Ln := ownL "g0" (n + 2)
def stepH (nm : Str) (x a b : Nat) (l : List Ln) : List Ln := l.take (x + 1) ++ ownL nm b ++ l.drop (x + 1 + a)
def burH (x a : Nat) (l : List Ln) : List Ln := (l.drop (x + 1)).take a
def rowH (nm : Str) (x a b : Nat) (l : List Ln) : List Ln := if b = 0 then [] else l[x]?.toList ++ ownL nm b ++ l[x + 1 + a]?.toList
def prs (l : List Ln) : List (Ln × Ln) := l.zip l.tail
theorem own_get {nm : Str} {b k : Nat} : (ownL nm b)[k]? = if k < b then some (nm, k) else none := by
  unfold ownL
  rw [List.getElem?_map]
  by_cases h : k < b
  · rw [List.getElem?_range h, if_pos h]
    rfl
  · rw [if_neg h, List.getElem?_eq_none (by simp; omega)]
    rfl
theorem own_len {nm : Str} {b : Nat} : (ownL nm b).length = b := by simp [ownL]
theorem step_get {nm : Str} {x a b k : Nat} {l : List Ln} (h : x + 1 ≤ l.length) : (stepH nm x a b l)[k]? = if k ≤ x then l[k]? else if k ≤ x + b then some (nm, k - x - 1) else l[k - b + a]? := by
  unfold stepH
  have l1 : (l.take (x + 1)).length = x + 1 := by
    rw [List.length_take]
    omega
  by_cases h1 : k ≤ x
  · rw [if_pos h1, List.append_assoc, List.getElem?_append_left (by omega), List.getElem?_take_of_lt (by omega)]
  · rw [if_neg h1, List.append_assoc, List.getElem?_append_right (by omega), l1]
    by_cases h2 : k ≤ x + b
    · rw [if_pos h2, List.getElem?_append_left (by rw [own_len]; omega), own_get, if_pos (by omega)]
      congr 2
    · rw [if_neg h2, List.getElem?_append_right (by rw [own_len]; omega), own_len, List.getElem?_drop]
      congr 1
      omega
theorem bur_mem {x a : Nat} {l : List Ln} {e : Ln} : e ∈ burH x a l ↔ ∃ i, i < a ∧ l[x + 1 + i]? = some e := by
  unfold burH
  rw [List.mem_iff_getElem?]
  constructor
  · rintro ⟨i, h⟩
    by_cases hi : i < a
    · rw [List.getElem?_take_of_lt hi, List.getElem?_drop] at h
      exact ⟨i, hi, h⟩
    · rw [List.getElem?_eq_none (by rw [List.length_take]; omega)] at h
      cases h
  · rintro ⟨i, hi, h⟩
    exact ⟨i, by rw [List.getElem?_take_of_lt hi, List.getElem?_drop]; exact h⟩
theorem prs_mem {l : List Ln} {s t : Ln} : (s, t) ∈ prs l ↔ ∃ i, l[i]? = some s ∧ l[i + 1]? = some t := by
  unfold prs
  rw [List.mem_iff_getElem?]
  constructor
  · rintro ⟨i, h⟩
    rw [List.getElem?_zip_eq_some] at h
    exact ⟨i, h.1, by rw [← List.getElem?_tail]; exact h.2⟩
  · rintro ⟨i, h1, h2⟩
    exact ⟨i, by rw [List.getElem?_zip_eq_some]; exact ⟨h1, by rw [List.getElem?_tail]; exact h2⟩⟩
/-- a row's places -/
theorem row_get {nm : Str} {x a b : Nat} {l : List Ln} {u v : Ln} (hb : 0 < b) (hu : l[x]? = some u) (hv : l[x + 1 + a]? = some v) (k : Nat) : (rowH nm x a b l)[k]? = if k = 0 then some u else if k ≤ b then some (nm, k - 1) else if k = b + 1 then some v else none := by
  unfold rowH
  rw [if_neg (by omega), hu, hv]
  show (([u] ++ ownL nm b) ++ [v])[k]? = _
  by_cases h0 : k = 0
  · subst h0
    rfl
  · rw [if_neg h0, List.append_assoc, List.getElem?_append_right (by simp; omega)]
    by_cases h1 : k ≤ b
    · rw [if_pos h1, List.getElem?_append_left (by rw [own_len]; simp; omega), own_get, if_pos (by simp; omega)]
      rfl
    · rw [if_neg h1, List.getElem?_append_right (by rw [own_len]; simp; omega), own_len]
      by_cases h2 : k = b + 1
      · rw [if_pos h2]
        subst h2
        simp
      · rw [if_neg h2]
        rw [List.getElem?_eq_none (by simp; omega)]
/-- the ends of a row are told by its pairs -/
theorem row_ends {nm : Str} {x a x' a' b : Nat} {l l' : List Ln} {u v u' v' : Ln} (hb : 0 < b) (hu : l[x]? = some u) (hv : l[x + 1 + a]? = some v) (hu' : l'[x']? = some u') (hv' : l'[x' + 1 + a']? = some v')
    (n1 : u'.1 ≠ nm) (n2 : v'.1 ≠ nm) (h : ∀ e, e ∈ prs (rowH nm x a b l) → e ∈ prs (rowH nm x' a' b l')) : u = u' ∧ v = v' := by
  have r := row_get (nm := nm) hb hu hv
  have r' := row_get (nm := nm) hb hu' hv'
  constructor
  · have m : (u, (nm, 0)) ∈ prs (rowH nm x a b l) := prs_mem.mpr ⟨0, by rw [r]; rfl, by rw [r, if_neg (by omega), if_pos (by omega)]⟩
    obtain ⟨i, e1, e2⟩ := prs_mem.mp (h _ m)
    rw [r'] at e1 e2
    rw [if_neg (by omega)] at e2
    by_cases h1 : i + 1 ≤ b
    · rw [if_pos h1] at e2
      have : i = 0 := by
        have := congrArg Prod.snd (Option.some.inj e2)
        simpa using this
      subst this
      rw [if_pos rfl] at e1
      exact (Option.some.inj e1).symm
    · rw [if_neg h1] at e2
      by_cases h2 : i + 1 = b + 1
      · rw [if_pos h2] at e2
        exact absurd (congrArg Prod.fst (Option.some.inj e2)) n2
      · rw [if_neg h2] at e2
        cases e2
  · have m : ((nm, b - 1), v) ∈ prs (rowH nm x a b l) := prs_mem.mpr ⟨b, by rw [r, if_neg (by omega), if_pos (by omega)], by rw [r, if_neg (by omega), if_neg (by omega), if_pos rfl]⟩
    obtain ⟨i, e1, e2⟩ := prs_mem.mp (h _ m)
    rw [r'] at e1 e2
    by_cases h0 : i = 0
    · rw [if_pos h0] at e1
      exact absurd (congrArg Prod.fst (Option.some.inj e1)) n1
    · rw [if_neg h0] at e1
      by_cases h1 : i ≤ b
      · rw [if_pos h1] at e1
        have hi : i - 1 = b - 1 := congrArg Prod.snd (Option.some.inj e1)
        rw [if_neg (by omega), if_neg (by omega), if_pos (by omega)] at e2
        exact (Option.some.inj e2).symm
      · rw [if_neg h1] at e1
        by_cases h2 : i = b + 1
        · rw [if_pos h2] at e1
          exact absurd (congrArg Prod.fst (Option.some.inj e1)) n2
        · rw [if_neg h2] at e1
          cases e1
abbrev gr (k : Nat) : Ln := (("g0" : Str), k)
theorem here0_get {n k : Nat} : (here0 n)[k]? = if k < n + 2 then some (gr (k)) else none := own_get
theorem here0_len {n : Nat} : (here0 n).length = n + 2 := own_len
theorem st_get {n P A B i : Nat} {ot : Str} (h : P + A ≤ n) : (stepH ot P A B (here0 n))[i]? = if i ≤ P then some (gr (i)) else if i ≤ P + B then some ((ot, i - P - 1) : Ln) else if i - B + A < n + 2 then some (gr (i - B + A)) else none := by
  rw [step_get (by rw [here0_len]; omega)]
  by_cases h1 : i ≤ P
  · rw [if_pos h1, if_pos h1, here0_get, if_pos (by omega)]
  · rw [if_neg h1, if_neg h1]
    by_cases h2 : i ≤ P + B
    · rw [if_pos h2, if_pos h2]
    · rw [if_neg h2, if_neg h2, here0_get]
theorem st_g {n P A B i m : Nat} {ot : Str} (hot : ot ≠ "g0") (h : P + A ≤ n) (e : (stepH ot P A B (here0 n))[i]? = some (gr (m))) : (i ≤ P ∧ m = i) ∨ (P + B < i ∧ m = i - B + A) := by
  rw [st_get h] at e
  by_cases h1 : i ≤ P
  · rw [if_pos h1] at e
    exact .inl ⟨h1, (congrArg Prod.snd (Option.some.inj e)).symm⟩
  · rw [if_neg h1] at e
    by_cases h2 : i ≤ P + B
    · rw [if_pos h2] at e
      exact absurd (congrArg Prod.fst (Option.some.inj e)) hot
    · rw [if_neg h2] at e
      split at e
      · exact .inr ⟨by omega, (congrArg Prod.snd (Option.some.inj e)).symm⟩
      · cases e
theorem st_some {n P A B i : Nat} {ot : Str} (h : P + A ≤ n) (hi : i < n + 2 - A + B) : ∃ u, (stepH ot P A B (here0 n))[i]? = some u := by
  rw [st_get h]
  split
  · exact ⟨_, rfl⟩
  · split
    · exact ⟨_, rfl⟩
    · rw [if_pos (by omega)]
      exact ⟨_, rfl⟩
theorem side {n P A B k z a b : Nat} {nm ot : Str} (hot : ot ≠ "g0") (hnm : nm ≠ "g0") (hP : P + A ≤ n) (hk : k + a ≤ n - A + B) (hz : z + a ≤ n) (hAB : 0 < A + B)
    (hr : ∀ e, e ∈ prs (rowH nm k a b (stepH ot P A B (here0 n))) → e ∈ prs (rowH nm z a b (here0 n))) (hb : ∀ e, e ∈ burH k a (stepH ot P A B (here0 n)) → e ∈ burH z a (here0 n)) :
    (0 < b → (k + 1 + a ≤ P ∧ z = k) ∨ (P + B < k ∧ z = k - B + A)) ∧ (0 < a → (k + a ≤ P ∧ z = k) ∨ (P + B ≤ k ∧ z = k - B + A)) := by
  have gz : ∀ e, e ∈ burH z a (here0 n) → ∃ i, i < a ∧ e = (gr (z + 1 + i)) := fun e h => by
    obtain ⟨i, hi, e1⟩ := bur_mem.mp h
    rw [here0_get] at e1
    split at e1
    · exact ⟨i, hi, (Option.some.inj e1).symm⟩
    · cases e1
  -- what is buried is of the ground
  have bg : ∀ i, i < a → ∃ j, j < a ∧ (stepH ot P A B (here0 n))[k + 1 + i]? = some (gr (z + 1 + j)) := fun i hi => by
    obtain ⟨u, hu⟩ := st_some (ot := ot) hP (show k + 1 + i < n + 2 - A + B by omega)
    obtain ⟨j, hj, e⟩ := gz _ (hb _ (bur_mem.mpr ⟨i, hi, hu⟩))
    exact ⟨j, hj, by rw [hu, e]⟩
  -- no line of the other one is buried
  have noP : 0 < B → ¬ (k ≤ P ∧ P + 1 ≤ k + a) := fun hB h => by
    obtain ⟨j, _, e⟩ := bg (P - k) (by omega)
    have := st_g hot hP e
    omega
  refine ⟨fun hb0 => ?_, fun ha => ?_⟩
  · obtain ⟨u, hu⟩ := st_some (ot := ot) hP (show k < n + 2 - A + B by omega)
    obtain ⟨v, hv⟩ := st_some (ot := ot) hP (show k + 1 + a < n + 2 - A + B by omega)
    have hu' : (here0 n)[z]? = some (gr (z)) := by rw [here0_get, if_pos (by omega)]
    have hv' : (here0 n)[z + 1 + a]? = some (gr (z + 1 + a)) := by rw [here0_get, if_pos (by omega)]
    obtain ⟨eu, ev⟩ := row_ends hb0 hu hv hu' hv' (fun e => hnm e.symm) (fun e => hnm e.symm) hr
    rw [eu] at hu
    rw [ev] at hv
    have h1 := st_g hot hP hu
    have h2 := st_g hot hP hv
    by_cases hB : 0 < B
    · have := noP hB
      omega
    · omega
  · obtain ⟨j1, hj1, e1⟩ := bg 0 ha
    obtain ⟨j2, hj2, e2⟩ := bg (a - 1) (by omega)
    have h1 := st_g hot hP e1
    have h2 := st_g hot hP e2
    by_cases hB : 0 < B
    · have := noP hB
      omega
    · omega
/-- the places of the pair that puts, orders and buries the same -/
theorem places {n p a b q c d x y : Nat} (hp : p + a ≤ n) (hab : 0 < a + b) (hq : q + c ≤ n - a + b) (hcd : 0 < c + d) (hx : x + c ≤ n) (hy : y + a ≤ n - c + d)
    (h1 : ∀ e, e ∈ prs (rowH "q" q c d (stepH "p" p a b (here0 n))) → e ∈ prs (rowH "q" x c d (here0 n))) (h2 : ∀ e, e ∈ burH q c (stepH "p" p a b (here0 n)) → e ∈ burH x c (here0 n))
    (h3 : ∀ e, e ∈ prs (rowH "p" y a b (stepH "q" x c d (here0 n))) → e ∈ prs (rowH "p" p a b (here0 n))) (h4 : ∀ e, e ∈ burH y a (stepH "q" x c d (here0 n)) → e ∈ burH p a (here0 n)) :
    ((q + c < p ∨ (q + c = p ∧ b + d = 0)) ∧ x = q ∧ y + c = p + d) ∨ ((p + b < q ∨ (p + b = q ∧ b + d = 0)) ∧ x + b = q + a ∧ y = p) := by
  obtain ⟨q1, q2⟩ := side (nm := "q") (ot := "p") (by decide) (by decide) hp hq hx hab h1 h2
  obtain ⟨p1, p2⟩ := side (nm := "p") (ot := "q") (by decide) (by decide) hx hy hp hcd h3 h4
  by_cases ha : 0 < a <;> by_cases hb : 0 < b <;> by_cases hc : 0 < c <;> by_cases hd : 0 < d
  all_goals first
    | omega
    | (simp only [ha, hb, hc, hd, true_implies, false_implies] at q1 q2 p1 p2; omega)
theorem row_eq {nm : Str} {x a x' a' b : Nat} {l l' : List Ln} (h1 : 0 < b → l[x]? = l'[x']?) (h2 : 0 < b → l[x + 1 + a]? = l'[x' + 1 + a']?) : rowH nm x a b l = rowH nm x' a' b l' := by
  unfold rowH
  by_cases h : b = 0
  · rw [if_pos h, if_pos h]
  · rw [if_neg h, if_neg h, h1 (by omega), h2 (by omega)]
theorem bur_eq {x a x' : Nat} {l l' : List Ln} (h : ∀ i, i < a → l[x + 1 + i]? = l'[x' + 1 + i]?) : burH x a l = burH x' a l' := by
  unfold burH
  apply List.ext_getElem?
  intro i
  by_cases hi : i < a
  · rw [List.getElem?_take_of_lt hi, List.getElem?_take_of_lt hi, List.getElem?_drop, List.getElem?_drop]
    exact h i hi
  · rw [List.getElem?_eq_none (by rw [List.length_take]; omega), List.getElem?_eq_none (by rw [List.length_take]; omega)]
/-- a place apart from the other one's lines -/
def Apart (P A B k z a b : Nat) : Prop := ((k + a < P ∨ (k + a = P ∧ b = 0)) ∧ z = k) ∨ ((P + B < k ∨ (P + B = k ∧ b = 0)) ∧ z + B = k + A)
theorem same_of {n P A B k z a b : Nat} {nm ot : Str} (hP : P + A ≤ n) (hk : k + a ≤ n - A + B) (hz : z + a ≤ n) (ap : Apart P A B k z a b) :
    rowH nm k a b (stepH ot P A B (here0 n)) = rowH nm z a b (here0 n) ∧ burH k a (stepH ot P A B (here0 n)) = burH z a (here0 n) := by
  have at_ : ∀ i j, ((i ≤ P ∧ j = i) ∨ (P + B < i ∧ j + B = i + A)) → (stepH ot P A B (here0 n))[i]? = (here0 n)[j]? := fun i j h => by
    rw [st_get hP, here0_get]
    rcases h with ⟨h1, h2⟩ | ⟨h1, h2⟩
    · rw [if_pos h1, if_pos (by omega), h2]
    · rw [if_neg (by omega), if_neg (by omega)]
      have e : i - B + A = j := by omega
      rw [e]
  unfold Apart at ap
  refine ⟨row_eq (fun hb => at_ _ _ (by omega)) (fun hb => at_ _ _ (by omega)), bur_eq fun i hi => at_ _ _ (by omega)⟩
theorem same_all {n p a b q c d x y : Nat} (hp : p + a ≤ n) (hq : q + c ≤ n - a + b) (hx : x + c ≤ n) (hy : y + a ≤ n - c + d)
    (h : ((q + c < p ∨ (q + c = p ∧ b + d = 0)) ∧ x = q ∧ y + c = p + d) ∨ ((p + b < q ∨ (p + b = q ∧ b + d = 0)) ∧ x + b = q + a ∧ y = p)) :
    (rowH "q" q c d (stepH "p" p a b (here0 n)) = rowH "q" x c d (here0 n) ∧ burH q c (stepH "p" p a b (here0 n)) = burH x c (here0 n)) ∧
    (rowH "p" y a b (stepH "q" x c d (here0 n)) = rowH "p" p a b (here0 n) ∧ burH y a (stepH "q" x c d (here0 n)) = burH p a (here0 n)) :=
  ⟨same_of hp hq hx (by unfold Apart; omega), same_of hx hy hp (by unfold Apart; omega)⟩
end KP

/-! A step's record. -/
namespace K20
open PySem PySem.Spec PyProof.Rows L2 KD KP
variable {P : Program} {w : World} {K : PySem.W.Frag} {mg : Str → Option Value} {base : Heap}
def lnD (x : Ln) : PyData := .tuple [.str x.1, .int (x.2 : Int)]
def lsD (l : List Ln) : PyData := .list (l.map lnD)
def prD (x : Ln × Ln) : PyData := .tuple [lnD x.1, lnD x.2]
def recD (name : Str) (p : Int) (os ns : List Str) (l : List Ln) : PyData := .tuple [wsD ns, .list (sortD ((prs (rowH name p.toNat os.length ns.length l)).map prD)), .list (sortD ((burH p.toNat os.length l).map lnD))]
def stepD (name : Str) (p : Int) (os ns : List Str) (l : List Ln) : PyData := .tuple [recD name p os ns l, lsD (stepH name p.toNat os.length ns.length l)]
/-! ### slices of any list -/
theorem cutP_to (ds : List PyData) {q : Int} (hq : 0 ≤ q) : cutPD ds none (some q) = ds.take q.toNat := by
  unfold cutPD
  rw [sIx_nn hq, HT.sIx_none, List.drop_zero, Nat.sub_zero]
  by_cases h : q.toNat ≤ ds.length
  · rw [Nat.min_eq_left h]
  · rw [Nat.min_eq_right (by omega), List.take_of_length_le (Nat.le_refl _), List.take_of_length_le (by omega)]
theorem cutP_from (ds : List PyData) {p : Int} (hp : 0 ≤ p) : cutPD ds (some p) none = ds.drop p.toNat := by
  unfold cutPD
  rw [sIx_nn hp, HT.sIx_none]
  by_cases h : p.toNat ≤ ds.length
  · rw [Nat.min_eq_left h, List.take_of_length_le (by rw [List.length_drop]; omega)]
  · rw [Nat.min_eq_right (by omega), List.drop_eq_nil_of_le (Nat.le_refl _), List.drop_eq_nil_of_le (by omega), List.take_nil]
theorem cutP_mid (ds : List PyData) {p q : Int} (hp : 0 ≤ p) (hq : q.toNat ≤ ds.length) (hpq : p ≤ q) : cutPD ds (some p) (some q) = (ds.drop p.toNat).take (q.toNat - p.toNat) := by
  unfold cutPD
  rw [sIx_nn hp, sIx_nn (by omega), Nat.min_eq_left hq, Nat.min_eq_left (by omega)]
theorem cutP_last (ds : List PyData) : cutPD ds (some (-1)) none = ds.drop (ds.length - 1) := by
  unfold cutPD
  have e : HT.sIx ds.length 0 (some (-1)) = ds.length - 1 := by
    show (if (-1 : Int) < 0 then ((-1 : Int) + (ds.length : Int)).toNat else min (-1 : Int).toNat ds.length) = _
    rw [if_pos (by decide)]
    omega
  rw [e, HT.sIx_none, List.take_of_length_le (by rw [List.length_drop]; omega)]
theorem g_m1 {X : Addr → Prop} {σ : L2.St} {H : Hp} : G X (tUn (rU fun i => .int (-i)) (tC (.int 1))) σ H (.int (-1)) := fun H1 s Q q => ⟨1, rfl, q _ H1 (Same.refl H1) (.int _)⟩
theorem q_par3 {X : Addr → Prop} {H : Hp} {σ : L2.St} {Γ : List Sv} {ta : TA} {tz : TS} {D : Ends} {i j l : Nat} {d1 d2 d3 : PyData} (En : EnvOk X H σ Γ) (h : GA X ta σ H [d1, d2, d3])
    (k : ∀ H1 v1 v2 v3, Same H H1 → EnvOk X H1 (((σ.set i (some v1)).set j (some v2)).set l (some v3)) (((Γ.set i (.dat d1)).set j (.dat d2)).set l (.dat d3)) → tz D (((σ.set i (some v1)).set j (some v2)).set l (some v3)) H1) : tSeq (tPar3 i j l ta) tz D σ H :=
  h H (Same.refl H) _ fun vs H1 s rs => by
    cases rs with
    | cons r1 rs =>
      cases rs with
      | cons r2 rs =>
        cases rs with
        | cons r3 rs =>
          cases rs
          exact ⟨_, _, _, rfl, k H1 _ _ _ s ((((En.same s).set r1).set r2).set r3)⟩
theorem alike_ln (a b : Ln) : PySem.W.alike (lnD a) (lnD b) = true := by
  simp [lnD, PySem.W.alike, PySem.W.alikeAll]
theorem alike_pr (a b : Ln × Ln) : PySem.W.alike (prD a) (prD b) = true := by
  simp [prD, PySem.W.alike, PySem.W.alikeAll, alike_ln]
theorem noDict_ln (a : Ln) : noDict (lnD a) = true := by simp [lnD, noDict, noDicts]
theorem noDict_pr (a : Ln × Ln) : noDict (prD a) = true := by simp [prD, noDict, noDicts, noDict_ln]
theorem noDicts_map {α : Type} {f : α → PyData} (h : ∀ x, noDict (f x) = true) : ∀ l : List α, noDicts (l.map f) = true
  | [] => rfl
  | x :: l => by simp [noDicts, h x, noDicts_map h l]
theorem zip_prs (l : List Ln) : List.zipWith (fun a b => PyData.tuple [a, b]) (l.map lnD) ((l.map lnD).drop 1) = (prs l).map prD := by
  unfold prs
  rw [List.drop_one, ← List.map_tail, List.zip, List.zipWith_map, List.map_zipWith]
  rfl
theorem row_is {nm : Str} {x a b : Nat} {l : List Ln} (hb : 0 < b) (h : x + 1 + a < l.length) : (l.take (x + 1)).drop ((l.take (x + 1)).length - 1) ++ ownL nm b ++ (l.drop (x + 1 + a)).take 1 = rowH nm x a b l := by
  unfold rowH
  rw [if_neg (by omega)]
  have e1 : (l.take (x + 1)).drop ((l.take (x + 1)).length - 1) = l[x]?.toList := by
    apply List.ext_getElem?
    intro i
    rw [List.getElem?_drop, List.length_take, List.getElem?_take, Nat.min_eq_left (by omega)]
    have hx : l[x]? = some l[x] := by simp
    cases i with
    | zero =>
      rw [if_pos (by omega), hx]
      simp
    | succ i =>
      rw [if_neg (by omega), hx]
      simp
  have e2 : (l.drop (x + 1 + a)).take 1 = l[x + 1 + a]?.toList := by
    apply List.ext_getElem?
    intro i
    rw [List.getElem?_take, List.getElem?_drop]
    have hx : l[x + 1 + a]? = some l[x + 1 + a] := by simp
    cases i with
    | zero =>
      rw [if_pos (by omega), Nat.add_zero, hx]
      rfl
    | succ i =>
      rw [if_neg (by omega), hx]
      simp
  rw [e1, e2]
theorem canLay_lns : ∀ {l : List Ln}, (∀ z ∈ l, PyData.strOk z.1 = true) → PyData.canLayAll0 (l.map lnD) = true
  | [], _ => by simp [PyData.canLayAll0]
  | x :: l, h => by
    simp only [List.map_cons, PyData.canLayAll0, Bool.and_eq_true]
    exact ⟨by simp [lnD, PyData.canLay0, PyData.canLayAll0, h x List.mem_cons_self], canLay_lns fun z hz => h z (List.mem_cons_of_mem _ hz)⟩
theorem depth_lns : ∀ l : List Ln, PyData.depthAll (l.map lnD) ≤ 2
  | [] => by simp [PyData.depthAll]
  | x :: l => by
    have := depth_lns l
    simp only [List.map_cons, PyData.depthAll, PyData.depth, lnD]
    omega
theorem shaped_lns {l : List Ln} (h : ∀ z ∈ l, PyData.strOk z.1 = true) : SeqAt.shaped (lsD l) = true := by
  have h1 := depth_lns l
  have h2 : PyData.depth (lsD l) ≤ 64 := by
    simp only [lsD, PyData.depth]
    omega
  show ((lsD l).canLay0 && decide ((lsD l).depth ≤ 64)) = true
  rw [Bool.and_eq_true]
  exact ⟨by simp only [lsD, PyData.canLay0]; exact canLay_lns h, decide_eq_true h2⟩
end K20

/-! Dicts of data: by their keys; compared. -/
namespace KD
open PySem PySem.Spec PyProof.Rows L2
/-- a dict's data by keys -/
abbrev KDs := List (Key × PyData)
def dicD (ks : KDs) : PyData := .dict (ks.map fun p => (kd p.1, p.2))
def DK (X : Addr → Prop) (H : Hp) : List (Key × V) → KDs → Prop := Paired fun (p : Key × V) (q : Key × PyData) => p.1 = q.1 ∧ DX X H p.2 q.2
theorem kd_inj {a b : Key} (h : kd a = kd b) : a = b := by
  cases a <;> cases b <;> simp [kd] at h <;> rw [h]
section
variable {X0 : Addr → Prop} {H H' : Hp}
theorem DK.of : ∀ {kvs : List (Key × V)} {ks : KDs}, DXk X0 H kvs (ks.map fun p => (kd p.1, p.2)) → DK X0 H kvs ks
  | [], [], _ => .nil
  | [], _ :: _, h => by cases h
  | _ :: _, [], h => by cases h
  | (k, v) :: kvs, (k2, d) :: ks, h => by
    have h' : DXk X0 H ((k, v) :: kvs) ((kd k2, d) :: ks.map fun p => (kd p.1, p.2)) := h
    generalize hk : kd k2 = z at h'
    cases h' with
    | cons h1 h2 => exact .cons ⟨(kd_inj hk).symm, h1⟩ (DK.of h2)
theorem DK.to {kvs : List (Key × V)} {ks : KDs} (h : DK X0 H kvs ks) : DXk X0 H kvs (ks.map fun p => (kd p.1, p.2)) := by
  unfold DK at h
  induction h with
  | nil => exact .nil
  | @cons p q ps qs h t ih =>
    obtain ⟨h1, h2⟩ := h
    obtain ⟨k, v⟩ := p
    have h1 : k = q.1 := h1
    subst h1
    exact .cons h2 ih
theorem DK.mono (k : Kp X0 H H') {kvs : List (Key × V)} {ks : KDs} (h : DK X0 H kvs ks) : DK X0 H' kvs ks := DK.of (DXk.mono k h.to)
theorem DX.dic_inv {v : V} {ks : KDs} (h : DX X0 H v (dicD ks)) : ∃ a kvs, v = .ref a ∧ ¬ X0 a ∧ H a = some (.dK kvs) ∧ DK X0 H kvs ks := by
  unfold dicD at h
  generalize hz : ks.map (fun p => (kd p.1, p.2)) = z at h
  cases h with
  | dic n e r =>
    subst hz
    exact ⟨_, _, rfl, n, e, DK.of r⟩
theorem DX.dic_mk {a : Addr} {kvs : List (Key × V)} {ks : KDs} (n : ¬ X0 a) (e : H a = some (.dK kvs)) (h : DK X0 H kvs ks) : DX X0 H (.ref a) (dicD ks) := .dic n e h.to
/-- a store -/
def putD (ks : KDs) (k : Key) (d : PyData) : KDs := if (ks.any fun q => decide (q.1 = k)) = true then ks.map (fun q => if q.1 = k then (q.1, d) else q) else ks ++ [(k, d)]
end
def valD (ks : KDs) (k : Key) : Option PyData := (ks.find? fun q => decide (q.1 = k)).map (·.2)
def hitB (bs : KDs) : KDs → Bool
  | [] => true
  | p :: r => match valD bs p.1 with
    | some e => PyData.eqv p.2 e && hitB bs r
    | none => false
/-- == of dicts of data -/
def eqK (as bs : KDs) : Bool := decide (as.length = bs.length) && hitB bs as
/-- values that may be compared -/
def cmpD (d : PyData) : Prop := noDict d = true ∧ SeqAt.shaped d = true
section
variable {X0 : Addr → Prop} {H : Hp}
theorem DK.length {kvs : List (Key × V)} {ks : KDs} (h : DK X0 H kvs ks) : kvs.length = ks.length := Paired.length h
theorem DK.val {kvs : List (Key × V)} {ks : KDs} (h : DK X0 H kvs ks) (k : Key) : (∃ v d, valV kvs k = some v ∧ valD ks k = some d ∧ DX X0 H v d ∧ ∃ p ∈ ks, p.2 = d) ∨ (valV kvs k = none ∧ valD ks k = none) := by
  unfold DK at h
  induction h with
  | nil => exact .inr ⟨rfl, rfl⟩
  | @cons p q ps qs h t ih =>
    obtain ⟨h1, h2⟩ := h
    by_cases hk : q.1 = k
    · refine .inl ⟨p.2, q.2, ?_, ?_, h2, q, List.mem_cons_self, rfl⟩
      · unfold valV
        rw [List.find?_cons_of_pos (by rw [h1]; exact decide_eq_true hk)]
        rfl
      · simp [valD, List.find?_cons, hk]
    · have e1 : valV (p :: ps) k = valV ps k := by
        unfold valV
        rw [List.find?_cons_of_neg (by rw [h1]; simpa using hk)]
      have e2 : valD (q :: qs) k = valD qs k := by
        unfold valD
        rw [List.find?_cons_of_neg (by simpa using hk)]
      rw [e1, e2]
      rcases ih with ⟨v, d, a, b, c, r, hr, e⟩ | h
      · exact .inl ⟨v, d, a, b, c, r, List.mem_cons_of_mem _ hr, e⟩
      · exact .inr h
end
section
variable {X : Cx} {pins : List (Addr × Obj)} {σ : L2.St} {H : Hp} {s : Shared} {X0 : Addr → Prop}
theorem hits_dx {A : Around} (hu : A.in1.units + 64 < cLine) (I : L2.Inv X pins σ H s) {kb : List (Key × V)} {bs : KDs} {vb : List (Key × Value)} (rb : KV kb vb) (db : DK X0 H kb bs) (cb : ∀ p ∈ bs, cmpD p.2) :
    ∀ {ka : List (Key × V)} {as : KDs} {va : List (Key × Value)}, KV ka va → DK X0 H ka as → (∀ p ∈ as, cmpD p.2) → PySem.W.KeqHits A.in1 s vb va (hitB bs as)
  | [], [], _, ra, _, _ => by
    cases ra
    exact .nil
  | [], _ :: _, _, _, d, _ => by cases d
  | _ :: _, [], _, _, d, _ => by cases d
  | p :: ps, q :: qs, va, ra, d, c => by
    cases ra with
    | @cons _ r _ rs h t =>
      cases d with
      | cons d1 d2 =>
        obtain ⟨k, u⟩ := r
        obtain ⟨h1, h2⟩ := h
        obtain ⟨e1, e2⟩ := d1
        have hk : k = q.1 := h1.symm.trans e1
        subst hk
        have rest := hits_dx hu I rb db cb t d2 fun z hz => c z (List.mem_cons_of_mem _ hz)
        have rr := rb.val q.1
        rcases db.val q.1 with ⟨v, e, a1, a2, a3, z, hz, ez⟩ | ⟨a1, a2⟩
        · rw [a1] at rr
          obtain ⟨y, hy, ry⟩ := rr.some_of
          have cq := c q List.mem_cons_self
          have ce := cb z hz
          rw [ez] at ce
          obtain ⟨as1, r1⟩ := Dp.reads I q.2 p.2 u (e2.dp cq.1) h2
          obtain ⟨as2, r2⟩ := Dp.reads I e v y (a3.dp ce.1) ry
          have := PySem.W.keq_at (A := A) r1 r2 cq.2 ce.2 hu
          show PySem.W.KeqHits A.in1 s vb ((q.1, u) :: rs) (hitB bs (q :: qs))
          unfold hitB
          rw [a2]
          exact .hit hy this rest
        · rw [a1] at rr
          have hn : valueAt vb q.1 = none := by
            cases hv : valueAt vb q.1 with
            | none => rfl
            | some y => rw [hv] at rr; exact rr.elim
          show PySem.W.KeqHits A.in1 s vb ((q.1, u) :: rs) (hitB bs (q :: qs))
          unfold hitB
          rw [a2]
          exact .miss hn
def rEqK : R2 := fun x y H Q => ∃ (X0 : Addr → Prop) (as bs : KDs), DX X0 H x (dicD as) ∧ DX X0 H y (dicD bs) ∧ (∀ p ∈ as, cmpD p.2) ∧ (∀ p ∈ bs, cmpD p.2) ∧ Q (.bl (eqK as bs)) H
def rNeK : R2 := fun x y H Q => ∃ (X0 : Addr → Prop) (as bs : KDs), DX X0 H x (dicD as) ∧ DX X0 H y (dicD bs) ∧ (∀ p ∈ as, cmpD p.2) ∧ (∀ p ∈ bs, cmpD p.2) ∧ Q (.bl (!eqK as bs)) H
theorem op_eqK (hu : X.A.units + 65 < cLine) : OpR X (compareOp .Eq) rEqK := by
  intro pins s σ H x y v u Q I rx ry h
  obtain ⟨X0, as, bs, dx, dy, ca, cb, q⟩ := h
  obtain ⟨a, ka, rfl, _, ea, da⟩ := dx.dic_inv
  obtain ⟨b, kb, rfl, _, eb, db⟩ := dy.dic_inv
  cases rx
  cases ry
  obtain ⟨_, ya, va, ra, oa⟩ := I.hok a _ ea
  obtain ⟨_, yb, vb, rb, ob⟩ := I.hok b _ eb
  have la : va.length = as.length := by rw [← ra.length]; exact da.length
  have lb : vb.length = bs.length := by rw [← rb.length]; exact db.length
  refine PySem.W.keq_eq (knd := mixKind X.prog X.w) ya yb oa ob (by omega) (fun _ => hits_dx (by show X.A.units + 1 + 64 < cLine; omega) I rb db cb ra da ca) (fin_bl I q ?_)
  rw [la, lb]
  unfold eqK
  rw [Bool.eq_iff_iff]
  simp
theorem op_neK (hu : X.A.units + 65 < cLine) : OpR X (compareOp .NotEq) rNeK := by
  intro pins s σ H x y v u Q I rx ry h
  obtain ⟨X0, as, bs, dx, dy, ca, cb, q⟩ := h
  obtain ⟨a, ka, rfl, _, ea, da⟩ := dx.dic_inv
  obtain ⟨b, kb, rfl, _, eb, db⟩ := dy.dic_inv
  cases rx
  cases ry
  obtain ⟨_, ya, va, ra, oa⟩ := I.hok a _ ea
  obtain ⟨_, yb, vb, rb, ob⟩ := I.hok b _ eb
  have la : va.length = as.length := by rw [← ra.length]; exact da.length
  have lb : vb.length = bs.length := by rw [← rb.length]; exact db.length
  refine PySem.W.keq_ne (knd := mixKind X.prog X.w) ya yb oa ob (by omega) (fun _ => hits_dx (by show X.A.units + 1 + 64 < cLine; omega) I rb db cb ra da ca) (fin_bl I q ?_)
  rw [la, lb]
  unfold eqK
  rw [Bool.eq_iff_iff]
  simp
end
/-! ### a dict of one's own -/
section
variable {X0 : Addr → Prop} {H : Hp}
theorem DK.put {kvs : List (Key × V)} {ks : KDs} {k : Key} {v : V} {d : PyData} (h : DK X0 H kvs ks) (hd : DX X0 H v d) : DK X0 H (putK kvs k v) (putD ks k d) := by
  have an : (kvs.any fun kv => decide (kv.1 = k)) = (ks.any fun q => decide (q.1 = k)) := by
    clear hd
    unfold DK at h
    induction h with
    | nil => rfl
    | @cons p q ps qs h t ih => rw [List.any_cons, List.any_cons, ih, h.1]
  unfold putK putD
  rw [an]
  cases hb : ks.any fun q => decide (q.1 = k) with
  | true =>
    rw [if_pos rfl, if_pos rfl]
    clear an hb
    unfold DK at h ⊢
    induction h with
    | nil => exact .nil
    | @cons p q ps qs h t ih =>
      rw [List.map_cons, List.map_cons]
      refine .cons ?_ ih
      obtain ⟨h1, h2⟩ := h
      by_cases e : q.1 = k
      · rw [if_pos (h1.trans e), if_pos e]
        exact ⟨h1, hd⟩
      · rw [if_neg (fun z => e (h1.symm.trans z)), if_neg e]
        exact ⟨h1, h2⟩
  | false =>
    rw [if_neg (by simp), if_neg (by simp)]
    unfold DK at h ⊢
    clear an hb
    induction h with
    | nil => exact .cons ⟨rfl, hd⟩ .nil
    | cons h t ih => exact .cons h ih
end
end KD

/-! A run's records. -/
namespace K20
open PySem PySem.Spec PyProof.Rows L2 KD KP
variable {P : Program} {w : World} {K : PySem.W.Frag} {mg : Str → Option Value} {base : Heap}
structure Stp where
  name : Str
  p : Int
  os : List Str
  ns : List Str
def stpD (r : Stp) : PyData := .tuple [.str r.name, chD r.p r.os r.ns]
def goRec (s : KDs × List Ln) (r : Stp) : KDs × List Ln := (putD s.1 (.inr r.name) (recD r.name r.p r.os r.ns s.2), stepH r.name r.p.toNat r.os.length r.ns.length s.2)
def recs (n : Nat) (rs : List Stp) : KDs × List Ln := rs.foldl goRec ([], here0 n)
def fitAt (r : Stp) (l : List Ln) : Prop := PyData.strOk r.name = true ∧ 0 ≤ r.p ∧ WsOk r.os ∧ WsOk r.ns ∧ r.p.toNat + 1 + r.os.length < l.length ∧ l.length ≤ 100000
theorem recs_len (n : Nat) (rs : List Stp) : (recs n rs).1.length ≤ rs.length := by
  have key : ∀ (rs : List Stp) (s : KDs × List Ln), (rs.foldl goRec s).1.length ≤ s.1.length + rs.length := by
    intro rs
    induction rs with
    | nil => intro s; exact Nat.le_refl _
    | cons r rs ih =>
      intro s
      have h := ih (goRec s r)
      have h2 : (goRec s r).1.length ≤ s.1.length + 1 := by
        show (putD _ _ _).length ≤ _
        unfold putD
        split
        · rw [List.length_map]
          omega
        · rw [List.length_append]
          exact Nat.le_refl _
      rw [List.foldl_cons, List.length_cons]
      omega
  have := key rs ([], here0 n)
  simpa [recs] using this
theorem envUn {X : Addr → Prop} {H : Hp} {σ : L2.St} {Γ : List Sv} (E : EnvOk X H σ Γ) (i : Nat) : EnvOk X H σ (Γ.set i .un) := ⟨by rw [List.length_set]; exact E.len, fun j s e => by
  rw [List.getElem?_set] at e
  split at e
  · split at e
    · cases e
      trivial
    · cases e
  · exact E.get j s e⟩
end K20

/-! Equal records are the passed pair's. -/
namespace K20
open PySem PySem.Spec PyProof.Rows L2 KD KP
theorem pre_map {α : Type} {f : α → PyData} : ∀ {ds : List PyData}, (∀ d ∈ ds, ∃ x, d = f x) → ∃ l : List α, ds = l.map f
  | [], _ => ⟨[], rfl⟩
  | d :: ds, h => by
    obtain ⟨x, rfl⟩ := h d List.mem_cons_self
    obtain ⟨l, rfl⟩ := pre_map (f := f) fun d hd => h d (List.mem_cons_of_mem _ hd)
    exact ⟨x :: l, rfl⟩
theorem sort_map {α : Type} {f : α → PyData} (inj : ∀ x y, f x = f y → x = y) (l : List α) : ∃ l' : List α, sortD (l.map f) = l'.map f ∧ ∀ e, e ∈ l' ↔ e ∈ l := by
  have pm := sortD_perm (l.map f)
  obtain ⟨l', h⟩ := pre_map (f := f) (ds := sortD (l.map f)) fun d hd => by
    obtain ⟨x, _, rfl⟩ := List.mem_map.mp (pm.mem_iff.mp hd)
    exact ⟨x, rfl⟩
  have key : ∀ (e : α) (m : List α), f e ∈ m.map f ↔ e ∈ m := fun e m => ⟨fun h => by
    obtain ⟨x, hx, e1⟩ := List.mem_map.mp h
    rw [← inj _ _ e1]
    exact hx, fun h => List.mem_map.mpr ⟨e, h, rfl⟩⟩
  refine ⟨l', h, fun e => ?_⟩
  rw [← key e l', ← h, pm.mem_iff, key]
theorem eqv_sort {α : Type} [DecidableEq α] {f : α → PyData} (inj : ∀ x y, f x = f y → x = y) (ev : ∀ a b : List α, PyData.eqvAll (a.map f) (b.map f) = decide (a = b)) (l m : List α) :
    (l = m → PyData.eqv (.list (sortD (l.map f))) (.list (sortD (m.map f))) = true) ∧ (PyData.eqv (.list (sortD (l.map f))) (.list (sortD (m.map f))) = true → ∀ e, e ∈ l ↔ e ∈ m) := by
  obtain ⟨l', h1, h2⟩ := sort_map inj l
  obtain ⟨m', h3, h4⟩ := sort_map inj m
  constructor
  · rintro rfl
    rw [h1, PyData.eqv, ev]
    exact decide_eq_true rfl
  · intro h e
    rw [h1, h3, PyData.eqv, ev] at h
    have := of_decide_eq_true h
    rw [← h2, ← h4, this]
theorem lnD_inj (x y : Ln) (h : lnD x = lnD y) : x = y := by
  obtain ⟨a, i⟩ := x
  obtain ⟨b, j⟩ := y
  simp [lnD] at h
  obtain ⟨rfl, h2⟩ := h
  have : i = j := by omega
  rw [this]
theorem prD_inj (x y : Ln × Ln) (h : prD x = prD y) : x = y := by
  obtain ⟨a, b⟩ := x
  obtain ⟨c, d⟩ := y
  simp only [prD, PyData.tuple.injEq, List.cons.injEq, and_true] at h
  rw [lnD_inj _ _ h.1, lnD_inj _ _ h.2]
theorem eqv_ln (x y : Ln) : PyData.eqv (lnD x) (lnD y) = decide (x = y) := by
  obtain ⟨a, i⟩ := x
  obtain ⟨b, j⟩ := y
  show PyData.eqv (.tuple [.str a, .int (i : Int)]) (.tuple [.str b, .int (j : Int)]) = _
  rw [PyData.eqv, PyData.eqvAll, PyData.eqvAll, PyData.eqvAll, eqv_int, Bool.and_true, PyData.eqv, Bool.eq_iff_iff]
  simp
  omega
theorem eqv_pr (x y : Ln × Ln) : PyData.eqv (prD x) (prD y) = decide (x = y) := by
  obtain ⟨a, b⟩ := x
  obtain ⟨c, d⟩ := y
  show PyData.eqv (.tuple [lnD a, lnD b]) (.tuple [lnD c, lnD d]) = _
  rw [PyData.eqv, PyData.eqvAll, PyData.eqvAll, PyData.eqvAll, eqv_ln, eqv_ln, Bool.and_true, Bool.eq_iff_iff]
  simp
theorem eqvAll_map {α : Type} [DecidableEq α] {f : α → PyData} (h : ∀ x y, PyData.eqv (f x) (f y) = decide (x = y)) : ∀ a b : List α, PyData.eqvAll (a.map f) (b.map f) = decide (a = b)
  | [], [] => rfl
  | [], _ :: _ => rfl
  | _ :: _, [] => rfl
  | x :: a, y :: b => by
    rw [List.map_cons, List.map_cons, PyData.eqvAll, h, eqvAll_map h a b, Bool.eq_iff_iff]
    simp
/-- two records of one change -/
theorem eqv_rec {name : Str} {p q : Int} {os ns : List Str} {l m : List Ln} :
    ((prs (rowH name p.toNat os.length ns.length l) = prs (rowH name q.toNat os.length ns.length m) ∧ burH p.toNat os.length l = burH q.toNat os.length m) → PyData.eqv (recD name p os ns l) (recD name q os ns m) = true) ∧
    (PyData.eqv (recD name p os ns l) (recD name q os ns m) = true → (∀ e, e ∈ prs (rowH name p.toNat os.length ns.length l) ↔ e ∈ prs (rowH name q.toNat os.length ns.length m)) ∧ ∀ e, e ∈ burH p.toNat os.length l ↔ e ∈ burH q.toNat os.length m) := by
  have s1 := eqv_sort prD_inj (eqvAll_map eqv_pr) (prs (rowH name p.toNat os.length ns.length l)) (prs (rowH name q.toNat os.length ns.length m))
  have s2 := eqv_sort lnD_inj (eqvAll_map eqv_ln) (burH p.toNat os.length l) (burH q.toNat os.length m)
  have e : PyData.eqv (recD name p os ns l) (recD name q os ns m) = (PyData.eqv (wsD ns) (wsD ns) && (PyData.eqv (.list (sortD ((prs (rowH name p.toNat os.length ns.length l)).map prD))) (.list (sortD ((prs (rowH name q.toNat os.length ns.length m)).map prD))) && (PyData.eqv (.list (sortD ((burH p.toNat os.length l).map lnD))) (.list (sortD ((burH q.toNat os.length m).map lnD))) && true))) := by
    unfold recD
    simp only [PyData.eqv, PyData.eqvAll]
  have ew : PyData.eqv (wsD ns) (wsD ns) = true := by
    show PyData.eqv (.list _) (.list _) = true
    rw [PyData.eqv, eqv_strs]
    exact decide_eq_true rfl
  rw [e, ew]
  constructor
  · rintro ⟨h1, h2⟩
    rw [s1.1 h1, s2.1 h2]
    rfl
  · intro h
    simp only [Bool.true_and, Bool.and_true, Bool.and_eq_true] at h
    exact ⟨s1.2 h.1, s2.2 h.2⟩
theorem recs_two {n : Nat} {r s : Stp} (h : r.name ≠ s.name) : (recs n [r, s]).1 = [(.inr r.name, recD r.name r.p r.os r.ns (here0 n)), (.inr s.name, recD s.name s.p s.os s.ns (stepH r.name r.p.toNat r.os.length r.ns.length (here0 n)))] := by
  show putD (putD [] _ _) _ _ = _
  simp [putD, h]
  rfl
/-- the pair of places that passing leads to -/
def PassAt (p a b q c d x y : Nat) : Prop := ((q + c < p ∨ (q + c = p ∧ b + d = 0)) ∧ x = q ∧ y + c = p + d) ∨ ((p + b < q ∨ (p + b = q ∧ b + d = 0)) ∧ x + b = q + a ∧ y = p)
theorem eqK_pass {n p q x y : Nat} {os ns us vs : List Str} (hp : p + os.length ≤ n) (hab : 0 < os.length + ns.length) (hq : q + us.length ≤ n - os.length + ns.length) (hcd : 0 < us.length + vs.length) (hx : x + us.length ≤ n) (hy : y + os.length ≤ n - us.length + vs.length) :
    eqK (recs n [⟨"q", x, us, vs⟩, ⟨"p", y, os, ns⟩]).1 (recs n [⟨"p", p, os, ns⟩, ⟨"q", q, us, vs⟩]).1 = true ↔ PassAt p os.length ns.length q us.length vs.length x y := by
  have npq : ("p" : Str) ≠ "q" := by decide
  rw [recs_two (r := ⟨"q", x, us, vs⟩) (s := ⟨"p", y, os, ns⟩) (Ne.symm npq), recs_two (r := ⟨"p", p, os, ns⟩) (s := ⟨"q", q, us, vs⟩) npq]
  have ek : ∀ A B C D : PyData, eqK [(.inr "q", A), (.inr "p", B)] [(.inr "p", C), (.inr "q", D)] = (PyData.eqv A D && PyData.eqv B C) := fun A B C D => by
    have n1 : (Sum.inr ("p" : Str) : Key) ≠ Sum.inr ("q" : Str) := by decide
    have n2 : (Sum.inr ("q" : Str) : Key) ≠ Sum.inr ("p" : Str) := by decide
    simp [eqK, hitB, valD, List.find?_cons, n1, n2]
  rw [ek, Bool.and_eq_true]
  have r1 := eqv_rec (name := "q") (p := (x : Int)) (q := (q : Int)) (os := us) (ns := vs) (l := here0 n) (m := stepH "p" p os.length ns.length (here0 n))
  have r2 := eqv_rec (name := "p") (p := (y : Int)) (q := (p : Int)) (os := os) (ns := ns) (l := stepH "q" x us.length vs.length (here0 n)) (m := here0 n)
  simp only [Int.toNat_natCast] at r1 r2 ⊢
  constructor
  · rintro ⟨e1, e2⟩
    obtain ⟨a1, a2⟩ := r1.2 e1
    obtain ⟨b1, b2⟩ := r2.2 e2
    exact places hp hab hq hcd hx hy (fun e h => (a1 e).mpr h) (fun e h => (a2 e).mpr h) (fun e h => (b1 e).mp h) (fun e h => (b2 e).mp h)
  · intro h
    obtain ⟨⟨a1, a2⟩, b1, b2⟩ := same_all (n := n) hp hq hx hy h
    exact ⟨r1.1 ⟨by rw [a1], a2.symm⟩, r2.1 ⟨by rw [b1], b2⟩⟩
end K20

/-! The pairs found are the passed pair. -/
namespace K20
open PySem PySem.Spec PyProof.Rows L2 KD KP
theorem fit_iff {ws us : List Str} {x : Nat} : (ws.drop x).take us.length = us ↔ ∀ i, i < us.length → ws[x + i]? = us[i]? := by
  constructor
  · intro h i hi
    have := congrArg (fun l => l[i]?) h
    simp only [List.getElem?_take, List.getElem?_drop, hi, if_true] at this
    exact this
  · intro h
    apply List.ext_getElem?
    intro i
    rw [List.getElem?_take, List.getElem?_drop]
    split
    · exact h i ‹_›
    · exact (List.getElem?_eq_none (by omega)).symm
theorem put_get {ws os ns : List Str} {p i : Nat} (h : p + os.length ≤ ws.length) : (putB ws p os ns)[i]? = if i < p then ws[i]? else if i < p + ns.length then ns[i - p]? else ws[i - ns.length + os.length]? := by
  unfold putB
  simp only [Int.toNat_natCast]
  by_cases h1 : i < p
  · rw [if_pos h1, List.getElem?_append_left (by rw [List.length_append, List.length_take]; omega), List.getElem?_append_left (by rw [List.length_take]; omega), List.getElem?_take, if_pos h1]
  · rw [if_neg h1]
    by_cases h2 : i < p + ns.length
    · rw [if_pos h2, List.getElem?_append_left (by rw [List.length_append, List.length_take]; omega), List.getElem?_append_right (by rw [List.length_take]; omega), List.length_take, Nat.min_eq_left (by omega)]
    · rw [if_neg h2, List.getElem?_append_right (by rw [List.length_append, List.length_take]; omega), List.length_append, List.length_take, Nat.min_eq_left (by omega), List.getElem?_drop]
      congr 1
      omega
theorem put_len {ws os ns : List Str} {p : Nat} (h : p + os.length ≤ ws.length) : (putB ws p os ns).length = ws.length - os.length + ns.length := by
  unfold putB
  simp only [Int.toNat_natCast, List.length_append, List.length_take, List.length_drop]
  omega
theorem fit_le {ws us : List Str} {x : Nat} (hx : x ≤ ws.length) (h : (ws.drop x).take us.length = us) : x + us.length ≤ ws.length := by
  have := congrArg List.length h
  rw [List.length_take, List.length_drop] at this
  omega
theorem pass_fits {ws os ns us vs : List Str} {p q x y : Nat} (hp : p + os.length ≤ ws.length) (fp : (ws.drop p).take os.length = os) (hq : q + us.length ≤ ws.length - os.length + ns.length) (fq : ((putB ws p os ns).drop q).take us.length = us)
    (h : PassAt p os.length ns.length q us.length vs.length x y) : x + us.length ≤ ws.length ∧ (ws.drop x).take us.length = us ∧ y + os.length ≤ ws.length - us.length + vs.length ∧ ((putB ws x us vs).drop y).take os.length = os := by
  rw [fit_iff] at fp fq ⊢
  unfold PassAt at h
  have hx : x + us.length ≤ ws.length := by omega
  refine ⟨hx, fun i hi => ?_, by omega, ?_⟩
  · rw [← fq i hi, put_get hp]
    rcases h with ⟨h1, rfl, h3⟩ | ⟨h1, h2, rfl⟩
    · rw [if_pos (by omega)]
    · rw [if_neg (by omega), if_neg (by omega)]
      congr 1
      omega
  · rw [fit_iff]
    intro i hi
    rw [← fp i hi, put_get hx]
    rcases h with ⟨h1, rfl, h3⟩ | ⟨h1, h2, rfl⟩
    · rw [if_neg (by omega), if_neg (by omega)]
      congr 1
      omega
    · rw [if_pos (by omega)]
theorem flat_one {α : Type} {F : Nat → List α} {x0 : Nat} (h : ∀ x, x ≠ x0 → F x = []) : ∀ N, (List.range N).flatMap F = if x0 < N then F x0 else []
  | 0 => rfl
  | N + 1 => by
    rw [List.range_succ, List.flatMap_append, flat_one h N, List.flatMap_singleton]
    by_cases e : N = x0
    · subst e
      rw [if_neg (Nat.lt_irrefl _), if_pos (Nat.lt_succ_self _)]
      rfl
    · rw [h N e, List.append_nil]
      by_cases h2 : x0 < N
      · rw [if_pos h2, if_pos (by omega)]
      · rw [if_neg h2, if_neg (by omega)]
theorem flat_none {α : Type} {F : Nat → List α} (h : ∀ x, F x = []) (N : Nat) : (List.range N).flatMap F = [] := by
  rw [flat_one (x0 := 0) fun x _ => h x, h 0]
  split <;> rfl
/-- the pairs as the law finds them -/
def inB (ws : List Str) (p : Nat) (os ns : List Str) (q : Nat) (us vs : List Str) (x y : Nat) : List PyData :=
  if (fitsB (putB ws x us vs) y os && eqK (recs ws.length [⟨"q", x, us, vs⟩, ⟨"p", y, os, ns⟩]).1 (recs ws.length [⟨"p", p, os, ns⟩, ⟨"q", q, us, vs⟩]).1) = true then [.tuple [chD x us vs, chD y os ns]] else []
def outB (ws : List Str) (p : Nat) (os ns : List Str) (q : Nat) (us vs : List Str) (x : Nat) : List PyData :=
  if fitsB ws x us = true then (List.range ((putB ws x us vs).length + 1)).flatMap (inB ws p os ns q us vs x) else []
def pairsB (ws : List Str) (p : Nat) (os ns : List Str) (q : Nat) (us vs : List Str) : List PyData := (List.range (ws.length + 1)).flatMap (outB ws p os ns q us vs)
section
variable {ws os ns us vs : List Str} {p q : Nat} (hp : p ≤ ws.length) (fp : (ws.drop p).take os.length = os) (hab : 0 < os.length + ns.length) (hq : q ≤ (putB ws p os ns).length) (fq : ((putB ws p os ns).drop q).take us.length = us) (hcd : 0 < us.length + vs.length)
include hp fp hab hq fq hcd
theorem in_pass {x y : Nat} (hx : fitsB ws x us = true) : (PassAt p os.length ns.length q us.length vs.length x y → inB ws p os ns q us vs x y = [PyData.tuple [chD x us vs, chD y os ns]]) ∧ (¬ PassAt p os.length ns.length q us.length vs.length x y → inB ws p os ns q us vs x y = []) := by
  have p1 := fit_le hp fp
  have q1 := fit_le hq fq
  rw [put_len p1] at q1
  simp only [fitsB, Bool.and_eq_true, decide_eq_true_eq, Int.toNat_natCast] at hx
  have x1 : x + us.length ≤ ws.length := fit_le (by omega) hx.2
  constructor
  · intro h
    obtain ⟨g1, g2, g3, g4⟩ := pass_fits p1 fp q1 fq h
    have ek := (eqK_pass p1 hab q1 hcd g1 g3).mpr h
    have ef : fitsB (putB ws x us vs) y os = true := by
      simp only [fitsB, Bool.and_eq_true, decide_eq_true_eq, Int.toNat_natCast]
      rw [put_len x1]
      exact ⟨by omega, g4⟩
    unfold inB
    rw [ef, ek]
    rfl
  · intro h
    unfold inB
    rw [if_neg]
    intro hh
    rw [Bool.and_eq_true] at hh
    obtain ⟨ef, ek⟩ := hh
    simp only [fitsB, Bool.and_eq_true, decide_eq_true_eq, Int.toNat_natCast] at ef
    have y1 := fit_le (by omega) ef.2
    rw [put_len x1] at y1
    exact h ((eqK_pass p1 hab q1 hcd x1 y1).mp ek)
theorem pairs_none (h : ∀ x y, ¬ PassAt p os.length ns.length q us.length vs.length x y) : pairsB ws p os ns q us vs = [] := by
  refine flat_none (fun x => ?_) _
  unfold outB
  split
  · exact flat_none (fun y => (in_pass hp fp hab hq fq hcd ‹_›).2 (h x y)) _
  · rfl
theorem pairs_one {x0 y0 : Nat} (h : PassAt p os.length ns.length q us.length vs.length x0 y0) : pairsB ws p os ns q us vs = [PyData.tuple [chD x0 us vs, chD y0 os ns]] := by
  have p1 := fit_le hp fp
  have q1 := fit_le hq fq
  rw [put_len p1] at q1
  obtain ⟨g1, g2, g3, g4⟩ := pass_fits p1 fp q1 fq h
  have uniq : ∀ x y, PassAt p os.length ns.length q us.length vs.length x y → x = x0 ∧ y = y0 := fun x y h' => by
    unfold PassAt at h h'
    omega
  have ef : fitsB ws x0 us = true := by
    simp only [fitsB, Bool.and_eq_true, decide_eq_true_eq, Int.toNat_natCast]
    exact ⟨by omega, g2⟩
  unfold pairsB
  rw [flat_one (x0 := x0), if_pos (by omega)]
  · unfold outB
    rw [if_pos ef, flat_one (x0 := y0), if_pos (by rw [put_len g1]; omega)]
    · exact (in_pass hp fp hab hq fq hcd ef).1 h
    · intro y hy
      exact (in_pass hp fp hab hq fq hcd ef).2 fun z => hy (uniq _ _ z).2
  · intro x hx
    unfold outB
    split
    · exact flat_none (fun y => (in_pass hp fp hab hq fq hcd ‹_›).2 fun z => hx (uniq _ _ z).1) _
    · rfl
/-- the pairs are what passing tells -/
theorem pairs_pass : pairsB ws p os ns q us vs = (match passB p os ns q us vs with
    | .none => []
    | d => [d]) := by
  have p1 := fit_le hp fp
  have q1 := fit_le hq fq
  rw [put_len p1] at q1
  unfold passB
  have e1 : apartB ns vs ((p : Int) - q - us.length) = true ↔ (q + us.length < p ∨ (q + us.length = p ∧ ns.length + vs.length = 0)) := by
    unfold apartB
    simp only [Bool.or_eq_true, Bool.and_eq_true, decide_eq_true_eq]
    omega
  have e2 : apartB ns vs ((q : Int) - p - ns.length) = true ↔ (p + ns.length < q ∨ (p + ns.length = q ∧ ns.length + vs.length = 0)) := by
    unfold apartB
    simp only [Bool.or_eq_true, Bool.and_eq_true, decide_eq_true_eq]
    omega
  by_cases h1 : apartB ns vs ((p : Int) - q - us.length) = true
  · have h1' := e1.mp h1
    rw [if_pos h1, pairs_one hp fp hab hq fq hcd (x0 := q) (y0 := p + vs.length - us.length) (by unfold PassAt; omega)]
    show [PyData.tuple [_, chD ((p + vs.length - us.length : Nat) : Int) os ns]] = [PyData.tuple [_, _]]
    rw [show ((p + vs.length - us.length : Nat) : Int) = (p : Int) + vs.length - us.length from by omega]
  · rw [if_neg h1]
    by_cases h2 : apartB ns vs ((q : Int) - p - ns.length) = true
    · have h2' := e2.mp h2
      rw [if_pos h2, pairs_one hp fp hab hq fq hcd (x0 := q + os.length - ns.length) (y0 := p) (by unfold PassAt; omega)]
      show [PyData.tuple [chD ((q + os.length - ns.length : Nat) : Int) us vs, _]] = [PyData.tuple [_, _]]
      rw [show ((q + os.length - ns.length : Nat) : Int) = (q : Int) - ns.length + os.length from by omega]
    · rw [if_neg h2]
      refine pairs_none hp fp hab hq fq hcd fun x y z => ?_
      unfold PassAt at z
      rcases z with z | z
      · exact h1 (e1.mpr z.1)
      · exact h2 (e2.mpr z.1)
end
end K20

/-! Records may be compared. -/
namespace K20
open PySem PySem.Spec PyProof.Rows L2 KD KP
theorem depth_map {α : Type} {f : α → PyData} {k : Nat} (h : ∀ x, (f x).depth ≤ k) : ∀ l : List α, PyData.depthAll (l.map f) ≤ k
  | [] => by simp [PyData.depthAll]
  | x :: l => by
    have := depth_map h l
    have := h x
    simp only [List.map_cons, PyData.depthAll]
    omega
theorem lay_map {α : Type} {f : α → PyData} : ∀ {l : List α}, (∀ x ∈ l, (f x).canLay0 = true) → PyData.canLayAll0 (l.map f) = true
  | [], _ => by simp [PyData.canLayAll0]
  | x :: l, h => by
    simp only [List.map_cons, PyData.canLayAll0, Bool.and_eq_true]
    exact ⟨h x List.mem_cons_self, lay_map fun z hz => h z (List.mem_cons_of_mem _ hz)⟩
theorem depth_ln (x : Ln) : (lnD x).depth ≤ 2 := by simp [lnD, PyData.depth, PyData.depthAll]
theorem depth_pr (x : Ln × Ln) : (prD x).depth ≤ 3 := by
  have h1 := depth_ln x.1
  have h2 := depth_ln x.2
  simp only [prD, PyData.depth, PyData.depthAll]
  omega
theorem lay_ln {x : Ln} (h : PyData.strOk x.1 = true) : (lnD x).canLay0 = true := by simp [lnD, PyData.canLay0, PyData.canLayAll0, h]
def okL (l : List Ln) : Prop := ∀ z ∈ l, PyData.strOk z.1 = true
theorem okL_own {nm : Str} {b : Nat} (h : PyData.strOk nm = true) : okL (ownL nm b) := fun z hz => by
  obtain ⟨i, _, rfl⟩ := List.mem_map.mp hz
  exact h
theorem okL_step {nm : Str} {x a b : Nat} {l : List Ln} (h : PyData.strOk nm = true) (hl : okL l) : okL (stepH nm x a b l) := fun z hz => by
  rcases List.mem_append.mp hz with hz | hz
  · rcases List.mem_append.mp hz with hz | hz
    · exact hl z (List.mem_of_mem_take hz)
    · exact okL_own h z hz
  · exact hl z (List.mem_of_mem_drop hz)
theorem okL_row {nm : Str} {x a b : Nat} {l : List Ln} (h : PyData.strOk nm = true) (hl : okL l) : okL (rowH nm x a b l) := fun z hz => by
  unfold rowH at hz
  split at hz
  · cases hz
  · have key : ∀ i, z ∈ l[i]?.toList → PyData.strOk z.1 = true := fun i hi => by
      rw [Option.mem_toList] at hi
      exact hl z (List.mem_of_getElem? hi)
    rcases List.mem_append.mp hz with hz | hz
    · rcases List.mem_append.mp hz with hz | hz
      · exact key _ hz
      · exact okL_own h z hz
    · exact key _ hz
theorem cmp_rec {name : Str} {p : Int} {os ns : List Str} {l : List Ln} (hn : PyData.strOk name = true) (hl : okL l) (hw : ∀ z ∈ ns, PyData.strOk z = true) : cmpD (recD name p os ns l) := by
  obtain ⟨A, a1, a2⟩ := sort_map prD_inj (prs (rowH name p.toNat os.length ns.length l))
  obtain ⟨B, b1, b2⟩ := sort_map lnD_inj (burH p.toNat os.length l)
  unfold recD
  rw [a1, b1]
  have hrow := okL_row (x := p.toNat) (a := os.length) (b := ns.length) hn hl
  have hA : ∀ z ∈ A, (prD z).canLay0 = true := fun z hz => by
    obtain ⟨u, v⟩ := z
    have hz' := (a2 _).mp hz
    have m := List.of_mem_zip hz'
    simp [prD, PyData.canLay0, PyData.canLayAll0, lay_ln (hrow u m.1), lay_ln (hrow v (List.mem_of_mem_tail m.2))]
  have hB : ∀ z ∈ B, (lnD z).canLay0 = true := fun z hz => lay_ln (hl z (List.mem_of_mem_drop (List.mem_of_mem_take ((b2 _).mp hz))))
  have hW : ∀ z ∈ ns, (PyData.str z).canLay0 = true := fun z hz => by simp [PyData.canLay0, hw z hz]
  constructor
  · have h1 : noDicts (ns.map PyData.str) = true := noDicts_map (fun z => by simp [noDict]) _
    have h2 : noDicts (A.map prD) = true := noDicts_map noDict_pr _
    have h3 : noDicts (B.map lnD) = true := noDicts_map noDict_ln _
    simp [noDict, noDicts, wsD, h1, h2, h3]
  · have d1 := depth_map (f := PyData.str) (k := 1) (fun z => by simp [PyData.depth]) ns
    have d2 := depth_map depth_pr A
    have d3 := depth_map depth_ln B
    show (PyData.canLay0 _ && decide (PyData.depth _ ≤ 64)) = true
    rw [Bool.and_eq_true]
    refine ⟨?_, decide_eq_true ?_⟩
    · simp only [wsD, PyData.canLay0, PyData.canLayAll0, lay_map hW, lay_map hA, lay_map hB]
      rfl
    · simp only [wsD, PyData.depth, PyData.depthAll]
      omega
theorem okL_here0 (n : Nat) : okL (here0 n) := okL_own (by decide +kernel)
theorem cmp_recs {n : Nat} : ∀ {rs : List Stp}, (∀ r ∈ rs, PyData.strOk r.name = true ∧ ∀ z ∈ r.ns, PyData.strOk z = true) → ∀ p ∈ (recs n rs).1, cmpD p.2 := by
  have key : ∀ (rs : List Stp) (s : KDs × List Ln), (∀ r ∈ rs, PyData.strOk r.name = true ∧ ∀ z ∈ r.ns, PyData.strOk z = true) → okL s.2 → (∀ p ∈ s.1, cmpD p.2) → ∀ p ∈ (rs.foldl goRec s).1, cmpD p.2 := by
    intro rs
    induction rs with
    | nil => exact fun s _ _ h => h
    | cons r rs ih =>
      intro s hr hl hs
      obtain ⟨r1, r2⟩ := hr r List.mem_cons_self
      refine ih (goRec s r) (fun z hz => hr z (List.mem_cons_of_mem _ hz)) (okL_step r1 hl) fun p hp => ?_
      have hp' : p ∈ putD s.1 (.inr r.name) (recD r.name r.p r.os r.ns s.2) := hp
      have hc := cmp_rec (p := r.p) (os := r.os) r1 hl r2
      unfold putD at hp'
      split at hp'
      · obtain ⟨q, hq, rfl⟩ := List.mem_map.mp hp'
        split
        · exact hc
        · exact hs q hq
      · rcases List.mem_append.mp hp' with h | h
        · exact hs p h
        · rw [List.mem_singleton.mp h]
          exact hc
  intro rs h
  exact key rs ([], here0 n) h (okL_here0 n) fun p hp => by cases hp
end K20

/-! The pairs. -/
namespace K20
open PySem PySem.Spec PyProof.Rows L2 KD KP
variable {P : Program} {w : World} {K : PySem.W.Frag} {mg : Str → Option Value} {base : Heap}
theorem fits_of {ws us : List Str} {x : Int} : (Bool.and (decide (x ≤ ws.length)) (decide ((ws.drop x.toNat).take us.length = us))) = fitsB ws x us := rfl
theorem gt_eqK {X : Addr → Prop} {σ : L2.St} {H : Hp} {ta tb : TE} {as bs : KDs} (h1 : G X ta σ H (dicD as)) (h2 : G X tb σ H (dicD bs)) (c1 : ∀ p ∈ as, cmpD p.2) (c2 : ∀ p ∈ bs, cmpD p.2) : GT (tTest (tOp rEqK ta tb)) σ H (eqK as bs) := fun H1 s Q q =>
  h1 H1 s _ fun v H2 s2 r1 => h2 H2 (s.trans s2) _ fun u H3 s3 r2 => ⟨X, as, bs, r1.mono (Kp.of s3), r2, c1, c2, _, rfl, q H3 (s2.trans s3)⟩
theorem s_append {X : Addr → Prop} {σ : L2.St} {Γ : List Sv} {H : Hp} {te : TE} {D : Ends} {i : Nat} {L : Addr} {xs : List V} {ds : List PyData} {d : PyData} (En : EnvOk X H σ Γ) (hi : Γ[i]? = some (.val (.ref L))) (x : X L) (t : Trk X H) (hL : H L = some (.lst xs)) (hx : DXs X H xs ds) (h : G X te σ H d) (hl : ds.length < 1000000)
    (k : ∀ H1 H2 ys, Same H H1 → (∃ o, H2 = upd H1 L o) → H2 L = some (.lst ys) → DXs X H2 ys (ds ++ [d]) → EnvOk X H2 σ Γ → Trk X H2 → Kp X H H2 → D.nx σ H2) : tDrop (tBM K "list" rAppend (tVar i) (tCons te tNil)) D σ H := by
  refine ⟨.ref L, En.get i _ hi, .inl ⟨rfl, _, SqL.of hL⟩, ?_⟩
  refine h H (Same.refl H) _ fun v H1 s1 dv => ?_
  have hL1 := s1 _ _ hL
  have e1 : xs.length = ds.length := hx.length
  refine ⟨L, xs, v, rfl, rfl, hL1, by rw [sizeLine_eq]; omega, ?_⟩
  have kp : Kp X H1 (upd H1 L (.lst (xs ++ [v]))) := Kp.put x
  exact k _ _ _ s1 ⟨_, rfl⟩ upd_same (((hx.mono (Kp.of s1)).snoc dv).mono kp) ((En.same s1).mono kp) ((t.mono s1).put) ((Kp.of s1).trans kp)
theorem fit_two {n : Nat} {r s : Stp} (h1 : PyData.strOk r.name = true) (h2 : PyData.strOk s.name = true) (a1 : 0 ≤ r.p) (b1 : 0 ≤ s.p) (w1 : WsOk r.os) (w2 : WsOk r.ns) (w3 : WsOk s.os) (w4 : WsOk s.ns) (f1 : r.p.toNat + r.os.length ≤ n) (f2 : s.p.toNat + s.os.length ≤ n - r.os.length + r.ns.length) (hn : n ≤ 1000) :
    ∀ (i : Nat) (z : Stp), [r, s][i]? = some z → fitAt z (recs n ([r, s].take i)).2 := by
  intro i z h
  have l0 : (here0 n).length = n + 2 := here0_len
  have e1 := w1.1
  have e2 := w2.1
  match i, h with
  | 0, h =>
    cases h
    show fitAt r (here0 n)
    exact ⟨h1, a1, w1, w2, by rw [l0]; omega, by rw [l0]; omega⟩
  | 1, h =>
    cases h
    have l1 : (stepH r.name r.p.toNat r.os.length r.ns.length (here0 n)).length = n + 2 - r.os.length + r.ns.length := by
      unfold stepH
      rw [List.length_append, List.length_append, List.length_take, List.length_drop, own_len, l0]
      omega
    show fitAt s (stepH r.name r.p.toNat r.os.length r.ns.length (here0 n))
    exact ⟨h2, b1, w3, w4, by rw [l1]; omega, by rw [l1]; omega⟩
  | i + 2, h => cases h
-- HINT _law_pairs_old eq _law_due (op_eqK (Nat.lt_of_le_of_lt (Nat.add_le_add_left (by decide : 65 ≤ 16 * 2 + 200) _) (Nat.add_assoc _ _ _ ▸ hr.un)))
theorem k_name {i : Nat} {v : V} {σ : L2.St} {H : Hp} {Ψ : L2.St → Hp → Prop} (h : Ψ (σ.set i (some v)) H) : gName i v σ H Ψ := h
theorem flat_len {F : Nat → List PyData} {k : Nat} (h : ∀ x, (F x).length ≤ k) : ∀ N, ((List.range N).flatMap F).length ≤ N * k
  | 0 => by simp
  | N + 1 => by
    have := flat_len h N
    have := h N
    rw [List.range_succ, List.flatMap_append, List.length_append, List.flatMap_singleton, Nat.succ_mul]
    omega
theorem flat_next {F : Nat → List PyData} (N : Nat) : (List.range (N + 1)).flatMap F = (List.range N).flatMap F ++ F N := by
  rw [List.range_succ, List.flatMap_append, List.flatMap_singleton]
theorem inB_len {ws os ns us vs : List Str} {p q x y : Nat} : (inB ws p os ns q us vs x y).length ≤ 1 := by
  unfold inB
  split <;> simp
theorem outB_len {ws os ns us vs : List Str} {p q x : Nat} (h1 : ws.length ≤ 100) (h2 : vs.length ≤ 100) : (outB ws p os ns q us vs x).length ≤ 201 := by
  unfold outB
  split
  · have := flat_len (F := inB ws p os ns q us vs x) (k := 1) (fun y => inB_len) ((putB ws x us vs).length + 1)
    have e : (putB ws x us vs).length ≤ 200 := by
      unfold putB
      rw [List.length_append, List.length_append, List.length_take, List.length_drop]
      omega
    omega
  · simp
theorem put_ok {ws us vs : List Str} {x : Nat} (h : WsOk ws) (h2 : WsOk vs) (h3 : x + us.length ≤ ws.length) (l1 : ws.length ≤ 100) (l2 : vs.length ≤ 100) : WsOk (putB ws x us vs) := ⟨by rw [put_len h3]; omega, fun z hz => by
  unfold putB at hz
  rcases List.mem_append.mp hz with hz | hz
  · rcases List.mem_append.mp hz with hz | hz
    · exact h.2 z (List.mem_of_mem_take hz)
    · exact h2.2 z hz
  · exact h.2 z (List.mem_of_mem_drop hz)⟩
theorem g_fits {X : Addr → Prop} {σ : L2.St} {H : Hp} {ta tb : TE} {E : XK} {ws us vs : List Str} {x : Nat} (t : Trk X H) (h1 : G X ta σ H (wsD ws)) (h2 : G X tb σ H (chD x us vs)) (hw : WsOk ws) (hu : WsOk us) (hv : WsOk vs) : G X (tCall (sp2 TC fun a b => .bool (fitsB (wsOf a) (intOf (it b 0)) (wsOf (it b 1)))) [] E (tCons ta (tCons tb tNil))) σ H (.bool (fitsB ws x us)) :=
  g_is (g_call2 t h1 h2 ⟨ws, x, us, vs, rfl, rfl, hw, hu, hv, by omega⟩) (by
    show PyData.bool (fitsB (wsOf (wsD ws)) (x : Int) (wsOf (wsD us))) = _
    rw [wsOf_wsD, wsOf_wsD])
theorem g_made {X : Addr → Prop} {σ : L2.St} {H : Hp} {ta tb : TE} {E : XK} {ws us vs : List Str} {x : Nat} (t : Trk X H) (h1 : G X ta σ H (wsD ws)) (h2 : G X tb σ H (chD x us vs)) (hw : WsOk ws) (hu : WsOk us) (hv : WsOk vs) : G X (tCall (sp2N TC fun a b => wsD (putB (wsOf a) (intOf (it b 0)) (wsOf (it b 1)) (wsOf (it b 2)))) [] E (tCons ta (tCons tb tNil))) σ H (wsD (putB ws x us vs)) :=
  g_is (GN.g (gn_call2 t h1 h2 ⟨ws, x, us, vs, rfl, rfl, hw, hu, hv, by omega⟩)) (by
    show wsD (putB (wsOf (wsD ws)) (x : Int) (wsOf (wsD us)) (wsOf (wsD vs))) = _
    rw [wsOf_wsD, wsOf_wsD, wsOf_wsD])
end K20

/-! A run is drawn. -/
namespace K20
open PySem PySem.Spec PyProof.Rows L2 KD KP
variable {P : Program} {w : World} {K : PySem.W.Frag} {mg : Str → Option Value} {base : Heap}
def fitR (ws : List Str) (r : Stp) : Prop := 0 ≤ r.p ∧ r.p ≤ (ws.length : Int) ∧ r.os = (ws.drop r.p.toNat).take r.os.length ∧ (∀ z ∈ r.ns, z ∈ letters2) ∧ r.ns.length ≤ 2 ∧ 0 < r.os.length + r.ns.length
def okRun : List Str → List Stp → Prop
  | _, [] => True
  | ws, r :: rs => fitR ws r ∧ okRun (putB ws r.p r.os r.ns) rs
def hereOf : List Str → List Stp → List Str
  | ws, [] => ws
  | ws, r :: rs => hereOf (putB ws r.p r.os r.ns) rs
theorem okRun_snoc : ∀ {ws : List Str} {rs : List Stp} {r : Stp}, okRun ws rs → fitR (hereOf ws rs) r → okRun ws (rs ++ [r])
  | _, [], _, _, h => ⟨h, trivial⟩
  | _, _ :: _, _, ⟨h1, h2⟩, h => ⟨h1, okRun_snoc h2 h⟩
theorem hereOf_snoc : ∀ {ws : List Str} {rs : List Stp} {r : Stp}, hereOf ws (rs ++ [r]) = putB (hereOf ws rs) r.p r.os r.ns
  | _, [], _ => rfl
  | _, _ :: rs, _ => hereOf_snoc (rs := rs)
theorem k_forL {wi : TE} {g : TG} {tb : TS} {D : Ends} {σ : L2.St} {H : Hp} (h : wi σ H fun v H1 => tFor (iList K (tC v)) g tb D σ H1) : tFor (iList K wi) g tb D σ H := h
theorem k_sl {r : V → Option Int → Option Int → Hp → VK → Prop} {te : TE} {σ : L2.St} {H : Hp} {Q : VK} {tl th : TO} (h : te σ H fun v H1 => tSl r (tC v) tl th σ H1 Q) : tSl r te tl th σ H Q := h
theorem g_val {X : Addr → Prop} {σ : L2.St} {H : Hp} {v : V} {d : PyData} (h : DX X H v d) : G X (tC v) σ H d := fun H1 s Q q => q v H1 (Same.refl H1) (h.mono (Kp.of s))
theorem letters_ok {z : Str} (h : z ∈ letters2) : PyData.strOk z = true := by
  have : ∀ z ∈ letters2, PyData.strOk z = true := by decide +kernel
  exact this z h
theorem k_par3 {i j l : Nat} {ta tb tc : TE} {tz : TS} {D : Ends} {σ : L2.St} {H : Hp} (h : ta σ H fun x H1 => tb σ H1 fun y H2 => tc σ H2 fun z H3 => ∃ u v w, [x, y, z] = [u, v, w] ∧ tz D (((σ.set i (some u)).set j (some v)).set l (some w)) H3) : tSeq (tPar3 i j l (tCons ta (tCons tb (tCons tc tNil)))) tz D σ H := h
theorem k_forS {r : V → Option Int → Option Int → Hp → VK → Prop} {te : TE} {g : TG} {tb : TS} {D : Ends} {σ : L2.St} {H : Hp} {tl th : TO} (h : te σ H fun v H1 => tFor (iList K (tSl r (tC v) tl th)) g tb D σ H1) : tFor (iList K (tSl r te tl th)) g tb D σ H := h
theorem c_mixed {X : Addr → Prop} {st cl : Addr} {n : Nat} {H : Hp} {σ : L2.St} {ts tm : TE} {E : XK} {ds : List PyData} {Q : VK} (S : Sg X st cl n H) (hv : GV ts σ H (.ref st)) (hm : G X tm σ H (.list ds)) (hn : n + ds.length ≤ 1000000000) (h1 : ds.length < 1000000)
    (k : ∀ w es H', es.Perm ds → Sg X st cl (n + ds.length) H' → KpS st cl H H' → DX X H' w (.list es) → Q w H') : tCall spMixed [] E (tCons ts (tCons tm tNil)) σ H Q :=
  hv H (Same.refl H) _ (hm H (Same.refl H) _ fun v H1 s1 r => ⟨X, st, cl, n, v, ds, rfl, S.same s1, hn, r, h1, fun w es H' hp S2 kk dw _ => k w es H' hp S2 ((KpS.of s1).trans kk) dw⟩)
theorem c_change {X : Addr → Prop} {st cl : Addr} {n : Nat} {H : Hp} {σ : L2.St} {ta tb tc : TE} {E : XK} {ws : List Str} {ms : List PyData} {Q : VK} (S : Sg X st cl n H) (hv : GV ta σ H (.ref st)) (h1 : G X tb σ H (wsD ws)) (h2 : G X tc σ H (.list ms)) (hn : n + 10 ≤ 1000000000) (hw : WsOk ws) (hm : ∀ z ∈ ms, z = .bool false)
    (k : ∀ w (p : Nat) os ns H', (p : Int) ≤ (ws.length : Int) → os = (ws.drop p).take os.length → (∀ z ∈ ns, z ∈ letters2) → ns.length ≤ 2 → 0 < os.length + ns.length → Sg X st cl (n + 5) H' → KpS st cl H H' → DX X H' w (chD p os ns) → Q w H') : tCall spChange [] E (tCons ta (tCons tb (tCons tc tNil))) σ H Q :=
  hv H (Same.refl H) _ (h1 H (Same.refl H) _ fun v H1 s1 r1 => h2 H1 s1 _ fun u H2 s2 r2 => ⟨X, st, cl, n, v, u, ws, ms, rfl, (S.same s1).same s2, hn, r1.mono (Kp.of s2), r2, hw, hm, fun w p os ns H' p0 p1 p2 p3 p4 p5 S2 kk dw => by
    obtain ⟨p, rfl⟩ : ∃ q : Nat, p = (q : Int) := ⟨p.toNat, by omega⟩
    exact k w p os ns H' p1 p2 p3 p4 p5 S2 ((KpS.of (s1.trans s2)).trans kk) dw⟩)
abbrev s__law_p_run : Stmt := topS 42
abbrev n__law_p_run : List Str := ["_law_stream", "_law_words", "_law_many", "_law_is_plain", "_law_here", "_law_marks", "_law_found", "_law_name", "_law_change", "_law_place", "_law_old", "_law_new", "_law_one"]
theorem sc__law_p_run : FnScope n__law_p_run ["_law_stream", "_law_words", "_law_many", "_law_is_plain"] (defScope s__law_p_run) := ⟨rfl, rfl, rfl, by decide +kernel, rfl, by decide +kernel, by decide +kernel⟩
def runNames : List Str := ["p", "q1", "r", "s", "t", "u7"]
def spRun : Sp := fun vs H Q _ => ∃ (X : Addr → Prop) (st cl : Addr) (n m : Nat) (v1 : V) (ws : List Str), vs = [.ref st, v1, .int (m : Int), .bl false] ∧ m ≤ 6 ∧ Sg X st cl n H ∧ n + 100 ≤ 1000000000 ∧ DX X H v1 (wsD ws) ∧ WsOk ws ∧ ws.length ≤ 50 ∧
  ∀ w rs H', rs.length = m → okRun ws rs → (∀ r ∈ rs, r.name ∈ runNames) → (rs.map Stp.name).Nodup → Sg X st cl (n + 50) H' → KpS st cl H H' → DX X H' w (.list (rs.map stpD)) → Q w H'
theorem ok_p_run {f : Addr} {fd : FuncData} (F : Fun K "_law_p_run" "_law_p_run" s__law_p_run f fd) (T : Bl mg) (O__law_mixed : Own P w K mg base CX0 2 "_law_mixed" ["_law_stream", "_law_some"] spMixed) (O__law_p_change : Own P w K mg base CX0 3 "_law_p_change" ["_law_stream", "_law_words", "_law_marks"] spChange)
    (O__law_p_made : Own P w K mg base CX0 1 "_law_p_made" ["_law_words", "_law_change"] (sp2N TC fun a b => wsD (putB (wsOf a) (intOf (it b 0)) (wsOf (it b 1)) (wsOf (it b 2))))) : FnOk P w K mg base CX0 4 f fd ["_law_stream", "_law_words", "_law_many", "_law_is_plain"] spRun := by
  refine F.ok sc__law_p_run (fun vs H Q E h => ?_) (fun cdv A outer s H vs Q E hr h => ?_)
  · obtain ⟨X, st, cl, n, m, v1, ws, rfl, _⟩ := h
    rfl
  · obtain ⟨X, st, cl, n, m, v1, ws, rfl, hm6, S, hn, hd, hw, hl, k⟩ := h
    refine ⟨_, (pss_cons (ps_par3 (i := 4) (j := 5) (l := 6) (by rfl) sc__law_p_run.nd rfl rfl rfl (by decide) (by decide) (by decide) rfl rfl rfl (pa_cons (pe_callTy call_list_of (by rfl) T.b_list boot_list (pa_cons (pv 1) pa_nil)) (pa_cons (pe_lc (own := [("_law_one", 12)]) (g := (gName 12)) (tt := tYes) rfl sc__law_p_run.nd (pi_list (pv 1)) (blkOk_by (N := n__law_p_run) (sc := defScope s__law_p_run) (by decide +kernel)) (fun _ _ _ _ _ => (pg_name (i := 12) sc__law_p_run.nd rfl (by first | exact Or.inl rfl | exact Or.inr rfl))) (fun _ _ _ _ _ => pts_nil) (fun _ _ _ _ _ => pe_bl)) (pa_cons (pe_lst pa_nil) pa_nil))) (by rfl))
    (pss_cons (ps_for PassesOwn.never rfl (pi_list (pe_slice sl_list (pe_own O__law_mixed hr (by decide) (by rfl) (pa_cons (pv 0) (pa_cons (pe_lst (pa_cons pe_str (pa_cons pe_str (pa_cons pe_str (pa_cons pe_str (pa_cons pe_str (pa_cons pe_str pa_nil))))))) pa_nil))) po_none (po_some (pv 2)))) (pg_name (i := 7) sc__law_p_run.nd rfl (by first | exact Or.inl rfl | exact Or.inr rfl))
    (pss_cons (ps_set (i := 8) sc__law_p_run.nd rfl (by first | exact Or.inl rfl | exact Or.inr rfl) (pe_own O__law_p_change hr (by decide) (by rfl) (pa_cons (pv 0) (pa_cons (pv 4) (pa_cons (pv 5) pa_nil)))))
    (pss_cons (ps_asg (pv 8) (pg_tup (n := 3) rfl (pgs_cons (pg_name (i := 9) sc__law_p_run.nd rfl (by first | exact Or.inl rfl | exact Or.inr rfl)) (pgs_cons (pg_name (i := 10) sc__law_p_run.nd rfl (by first | exact Or.inl rfl | exact Or.inr rfl)) (pgs_cons (pg_name (i := 11) sc__law_p_run.nd rfl (by first | exact Or.inl rfl | exact Or.inr rfl)) pgs_nil)))))
    (pss_cons (ps_set (i := 5) sc__law_p_run.nd rfl (by first | exact Or.inl rfl | exact Or.inr rfl) (pe_op op_addA (pe_op op_addA (pe_slice sl_list (pv 5) po_none (po_some (pv 9))) (pe_lc (own := [("_law_one", 12)]) (g := (gName 12)) (tt := tYes) rfl sc__law_p_run.nd (pi_list (pv 11)) (blkOk_by (N := n__law_p_run) (sc := defScope s__law_p_run) (by decide +kernel)) (fun _ _ _ _ _ => (pg_name (i := 12) sc__law_p_run.nd rfl (by first | exact Or.inl rfl | exact Or.inr rfl))) (fun _ _ _ _ _ => pts_nil) (fun _ _ _ _ _ => (pv 3)))) (pe_slice sl_list (pv 5) (po_some (pe_op op_addA (pv 9) (pe_callB call_len (by rfl) T.b_len boot_len (pa_cons (pv 10) pa_nil)))) po_none)))
    (pss_cons (ps_set (i := 4) sc__law_p_run.nd rfl (by first | exact Or.inl rfl | exact Or.inr rfl) (pe_own O__law_p_made hr (by decide) (by rfl) (pa_cons (pv 4) (pa_cons (pv 8) pa_nil))))
    (pss_one (ps_expr (pe_bm PySem.F.plainAttrs_list PySem.F.slot_list_append PySem.F.type_list_append mt_append (pv 6) (pa_cons (pe_tup (pa_cons (pv 7) (pa_cons (pv 8) pa_nil))) pa_nil)))))))))
    (pss_one (ps_ret (pv 6))))), ?_⟩
    have En : EnvOk X H (L2.start n__law_p_run [.ref st, v1, .int (m : Int), .bl false]) [.val (.ref st), .dat (wsD ws), .dat (.int (m : Int)), .dat (.bool false), .un, .un, .un, .un, .un, .un, .un, .un, .un] := ⟨rfl, fun i s e => by
      match i, e with
      | 0, e => cases e; rfl
      | 1, e => cases e; exact ⟨_, rfl, hd⟩
      | 2, e => cases e; exact ⟨_, rfl, .int _⟩
      | 3, e => cases e; exact ⟨_, rfl, .bl false⟩
      | 4, e => cases e; trivial
      | 5, e => cases e; trivial
      | 6, e => cases e; trivial
      | 7, e => cases e; trivial
      | 8, e => cases e; trivial
      | 9, e => cases e; trivial
      | 10, e => cases e; trivial
      | 11, e => cases e; trivial
      | 12, e => cases e; trivial⟩
    have t0 := S.t
    refine k_par3 ?_
    refine g_listOf t0 (g_var (i := 1) (d := wsD ws) En rfl) rfl H (Same.refl H) _ fun x1 H1 s1 dx1 => ?_
    refine g_lc1 (fun d => .bool false) (t0.mono s1) (gi_list (g_var (i := 1) (d := wsD ws) (En.same s1) rfl)) (by rw [List.length_map]; omega) (fun H1 s d hd => tgt_name ((En.same s1).same s)) (fun X' H1 σ2 d hd t E => g_bl) H1 (Same.refl _) _ fun x2 H2 s2 dx2 => ?_
    refine ⟨by show 0 ≤ sizeLine; omega, fun L hL => ⟨_, _, _, rfl, ?_⟩⟩
    let X' : Addr → Prop := fun a => X a ∨ a = L
    let H3 := upd H2 L (.lst [])
    let Γ (here : List Str) (ms : List PyData) : List Sv := [.val (.ref st), .dat (wsD ws), .dat (.int (m : Int)), .dat (.bool false), .dat (wsD here), .dat (.list ms), .val (.ref L), .un, .un, .un, .un, .un, .un]
    have s12 := s1.trans s2
    have s3 : Same H2 H3 := Same.upd hL
    have t2 := t0.mono s12
    have nX : ¬ X L := t2.new hL
    have dx1' : DX X H1 x1 (wsD ws) := dx1
    have E3 : EnvOk X' H3 _ (Γ ws ((ws.map PyData.str).map fun d => .bool false)) := (((((En.same s12).set (i := 4) (dx1'.mono (Kp.of s2))).set (i := 5) dx2).more (More.one hL)).same s3).setV (i := 6)
    have S2 : Sg X st cl n H2 := S.same s12
    have n1 := S2.ne1 hL
    have n2 := S2.ne2 hL
    have S3 : Sg X' st cl n H3 := ⟨S.ok.same (s12.trans s3), .inl S.x1, .inl S.x2, t2.one hL⟩
    refine k_forS (c_mixed (ds := runNames.map PyData.str) S3 (gv_var (i := 0) E3 rfl) (g_lst S3.t (ga_cons g_str (ga_cons g_str (ga_cons g_str (ga_cons g_str (ga_cons g_str (ga_cons g_str ga_nil)))))) (by decide)) (by show n + 6 ≤ _; omega) (by decide) fun v es H4 hp S4 k4 dv => ?_)
    have E4 := E3.kps S3 k4
    have hes : ∀ d ∈ es, ∃ nm ∈ runNames, d = .str nm := fun d hd => by
      obtain ⟨z, hz, e⟩ := List.mem_map.mp (hp.mem_iff.mp hd)
      exact ⟨z, hz, e.symm⟩
    have les : es.length = 6 := hp.length_eq
    have hcut : cutPD es none (some (m : Int)) = es.take m := by rw [cutP_to es (by omega), Int.toNat_natCast]
    have keep0 : ∀ a o, a ≠ st → a ≠ cl → a ≠ L → H2 a = some o → H4 a = some o := fun a o m1 m2 m3 e => k4 a o m1 m2 (s3 a o e)
    refine s_forD (X := X') (ds := es.take m) (fun Ha sa R r => by
        have := gi_list (K := K) (g_sl (K := K) S4.t (g_val dv) go_none (go_some (g_var (i := 2) E4 rfl))) Ha sa R
        rw [hcut] at this
        exact this r)
      (fun Hb i σ' H' => Kp X' Hb H' ∧ Sg X' st cl (n + 6 + 5 * i) H' ∧ (∀ a o, a ≠ st → a ≠ cl → a ≠ L → H2 a = some o → H' a = some o) ∧ ∃ rs ms xs, rs.length = i ∧ okRun ws rs ∧ (rs.map fun r => PyData.str r.name) = es.take i ∧ H' L = some (.lst xs) ∧ DXs X' H' xs (rs.map stpD) ∧ EnvOk X' H' σ' (Γ (hereOf ws rs) ms) ∧ (∀ z ∈ ms, z = .bool false) ∧ ms.length ≤ 50 + 2 * i ∧ (hereOf ws rs).length ≤ 50 + 2 * i ∧ ∀ z ∈ hereOf ws rs, PyData.strOk z = true) ?_ ?_ ?_ ?_
    · intro Hb sb
      refine ⟨Kp.refl, S4.same sb, fun a o m1 m2 m3 e => sb a o (keep0 a o m1 m2 m3 e), [], _, [], rfl, trivial, by simp, sb L _ (k4 L _ (Ne.symm n1 ∘ Eq.symm) (Ne.symm n2 ∘ Eq.symm) upd_same), .nil, E4.same sb, fun z hz => ?_, by rw [List.length_map, List.length_map]; omega, hl, hw.2⟩
      obtain ⟨_, _, e⟩ := List.mem_map.mp hz
      exact e.symm
    · rintro Hb i σ' H' ⟨p1, p2, _⟩
      exact ⟨p1, p2.t⟩
    · rintro Hb i x d σ' H' H'' sb hd ⟨p1, p2, p3, rs, ms, xs, q1, q2, q3, q4, q5, E, q7, q8, q9, q10⟩ s5 dx
      have hi : i < m := by
        have := (List.getElem?_eq_some_iff.mp hd).1
        rw [List.length_take] at this
        omega
      have hdi : es[i]? = some d := by rw [List.getElem?_take_of_lt hi] at hd; exact hd
      obtain ⟨nm, hnm, rfl⟩ := hes d (List.mem_of_mem_take (List.mem_of_getElem? hd))
      refine k_name ?_
      have E5 := (E.same s5).set (i := 7) dx
      have S5 := p2.same s5
      have hwo : WsOk (hereOf ws rs) := ⟨by omega, q10⟩
      refine k_set (c_change S5 (gv_var (i := 0) E5 rfl) (g_var (i := 4) E5 rfl) (g_var (i := 5) E5 rfl) (by omega) hwo q7 fun y p os ns H6 f1 f2 f3 f4 f5 S6 k6 dy => ?_)
      have E6 := (E5.kps S5 k6).set (i := 8) dy
      have hos : WsOk os := by rw [f2]; exact (hwo.drop _).take _
      have hns : WsOk ns := ⟨by omega, fun z hz => letters_ok (f3 z hz)⟩
      have fle : p + os.length ≤ (hereOf ws rs).length := fit_le (by omega) f2.symm
      refine q_asg (g_var (i := 8) (d := chD p os ns) E6 rfl) fun H7 y7 s7 dv7 => ?_
      refine g_triple dv7 fun u1 u2 u3 r1 r2 r3 => ?_
      have E7 := (((E6.same s7).set (i := 9) r1).set (i := 10) r2).set (i := 11) r3
      have S7 := S6.same s7
      have t7 := S7.t
      refine q_set (i := 5) (d := .list (ms.take p ++ ns.map (fun _ => PyData.bool false) ++ ms.drop (p + os.length))) E7 (g_is (g_cat t7 (g_cat t7 (g_sl t7 (g_var (i := 5) E7 rfl) go_none (go_some (g_var (i := 9) E7 rfl))) (g_lc1 (fun d => .bool false) t7 (gi_list (g_var (i := 11) (d := wsD ns) E7 rfl)) (by rw [List.length_map]; omega) (fun H1 s d hd => tgt_name (E7.same s)) (fun X' H1 σ2 d hd t E => g_var (i := 3) E rfl)) ?_) (g_sl t7 (g_var (i := 5) E7 rfl) (go_some (g_addI t7 (g_var (i := 9) E7 rfl) (len_ws (K := K) t7 (g_var (i := 10) E7 rfl)))) go_none) ?_) ?_) fun H8 v8 s8 E8 => ?_
      · rw [cutP_to _ (by omega), List.length_take, List.length_map, List.length_map]
        omega
      · rw [cutP_to _ (by omega), cutP_from _ (by omega), List.length_append, List.length_take, List.length_map, List.length_map, List.length_drop]
        omega
      · rw [cutP_to _ (by omega), cutP_from _ (by omega), List.map_map, show ((p : Int) + (os.length : Int)).toNat = p + os.length from by omega, show (p : Int).toNat = p from by omega]
        rfl
      refine q_set (i := 4) (d := wsD (putB (hereOf ws rs) p os ns)) E8 (g_made (t7.mono s8) (g_var (i := 4) E8 rfl) (g_var (i := 8) E8 rfl) hwo hos hns) fun H9 v9 s9 E9 => ?_
      have s79 := (s7.trans s8).trans s9
      have S9 := S6.same s79
      have k59 : Kp X' H'' H9 := (S5.kp k6).trans (Kp.of s79)
      have L9 : H9 L = some (.lst xs) := s79 L _ (k6 L _ n1 n2 (s5 L _ q4))
      refine s_append (i := 6) (L := L) (d := stpD ⟨nm, p, os, ns⟩) E9 rfl (.inr rfl) S9.t L9 ((q5.mono (Kp.of s5)).mono k59) (g_tup S9.t (ga_cons (g_var (i := 7) E9 rfl) (ga_cons (g_var (i := 8) E9 rfl) ga_nil)) (by simp)) (by rw [List.length_map]; omega) fun H10 H11 zs s10 hu h11 d11 E11 t11 k11 => ?_
      obtain ⟨o, rfl⟩ := hu
      have fr : fitR (hereOf ws rs) ⟨nm, p, os, ns⟩ := ⟨by show (0 : Int) ≤ (p : Int); omega, f1, by simpa using f2, f3, f4, f5⟩
      refine ⟨((p1.trans (Kp.of s5)).trans k59).trans k11, ((S9.same s10).put (Ne.symm (Ne.symm n1)) (Ne.symm (Ne.symm n2))).le (by omega), fun a oo m1 m2 m3 e => ?_, rs ++ [⟨nm, p, os, ns⟩], ms.take p ++ ns.map (fun _ => PyData.bool false) ++ ms.drop (p + os.length), zs, by rw [List.length_append, q1]; rfl, okRun_snoc q2 fr, by rw [List.map_append, q3, List.take_succ, hdi]; rfl, h11, by rw [List.map_append]; exact d11, ?_, fun z hz => ?_, ?_, ?_, ?_⟩
      · rw [upd_ne m3]
        exact s10 a oo (s79 a oo (k6 a oo m1 m2 (s5 a oo (p3 a oo m1 m2 m3 e))))
      · rw [hereOf_snoc]
        exact envUn (envUn (envUn (envUn (envUn E11 7) 8) 9) 10) 11
      · rcases List.mem_append.mp hz with h | h
        · rcases List.mem_append.mp h with h | h
          · exact q7 z (List.mem_of_mem_take h)
          · obtain ⟨_, _, e⟩ := List.mem_map.mp h
            exact e.symm
        · exact q7 z (List.mem_of_mem_drop h)
      · rw [List.length_append, List.length_append, List.length_take, List.length_map, List.length_drop]
        omega
      · rw [hereOf_snoc]
        show (putB (hereOf ws rs) p os ns).length ≤ _
        rw [put_len fle]
        omega
      · rw [hereOf_snoc]
        show ∀ z ∈ putB (hereOf ws rs) p os ns, _
        intro z hz
        unfold putB at hz
        rcases List.mem_append.mp hz with hz | hz
        · rcases List.mem_append.mp hz with hz | hz
          · exact q10 z (List.mem_of_mem_take hz)
          · exact hns.2 z hz
        · exact q10 z (List.mem_of_mem_drop hz)
    · rintro Hb σ' H' sb ⟨p1, p2, p3, rs, ms, xs, q1, q2, q3, q4, q5, E, _⟩
      have e2 : (es.take m).length = m := by rw [List.length_take]; omega
      rw [e2] at q1 p2 q3
      have nd : ((rs.map Stp.name).map PyData.str).Nodup := by
        rw [List.map_map]
        show (rs.map fun r => PyData.str r.name).Nodup
        rw [q3]
        exact List.Nodup.sublist (List.take_sublist _ _) (hp.nodup_iff.mpr (List.Pairwise.map PyData.str (fun a b h e => h (by cases e; rfl)) (by decide : runNames.Nodup)))
      have nd2 : (rs.map Stp.name).Nodup := List.Pairwise.of_map PyData.str (fun a b h e => h (by rw [e])) nd
      have q3' : ∀ r ∈ rs, r.name ∈ runNames := fun r hr => by
        have : PyData.str r.name ∈ es.take m := q3 ▸ List.mem_map_of_mem (f := fun r => PyData.str r.name) hr
        obtain ⟨nm, h1, h2⟩ := hes _ (List.mem_of_mem_take this)
        cases h2
        exact h1
      refine ⟨.ref L, E.get 6 (.val (.ref L)) rfl, k _ rs H' q1 q2 q3' nd2 ⟨(p2.le (by omega : n + 6 + 5 * m ≤ n + 50)).ok, S.x1, S.x2, fun a h => p2.t a (.inl h)⟩ (fun a o m1 m2 e => p3 a o m1 m2 (fun z => ?_) (s12 a o e)) (.lst nX q4 (DXs.less (fun a => .inl) q5))⟩
      have := s12 a o e
      rw [z, hL] at this
      cases this
end K20

/-! Lists of one's own. -/
namespace K20
open PySem PySem.Spec PyProof.Rows L2 KD
variable {P : Program} {w : World} {K : PySem.W.Frag} {mg : Str → Option Value} {base : Heap}
/-! ### a list of one's own that is made longer -/
section
variable {X : Addr → Prop} {σ : L2.St} {H : Hp} {te : TE} {Γ : List Sv} {D : Ends} {tz : TS} {L : Addr} {xs : List V} {ds es : List PyData} {d : PyData} {i : Nat}
/-- all but L stays -/
def KpL (L : Addr) (H H' : Hp) : Prop := ∀ a o, a ≠ L → H a = some o → H' a = some o
theorem KpL.of (s : Same H H') : KpL L H H' := fun a o _ e => s a o e
theorem KpL.trans {H H1 H2 : Hp} (h : KpL L H H1) (k : KpL L H1 H2) : KpL L H H2 := fun a o n e => k a o n (h a o n e)
theorem KpL.put {o : HO} : KpL L H (upd H L o) := fun a u n e => by rw [upd_ne n]; exact e
theorem q_extend (En : EnvOk X H σ Γ) (hi : Γ[i]? = some (.val (.ref L))) (x : X L) (t : Trk X H) (hL : H L = some (.lst xs)) (hx : DXs X H xs ds) (h : G X te σ H (.list es)) (hl : ds.length + es.length ≤ 1000000)
    (k : ∀ H2 ys, H2 L = some (.lst ys) → DXs X H2 ys (ds ++ es) → EnvOk X H2 σ Γ → Trk X H2 → KpL L H H2 → tz D σ H2) : tSeq (tDrop (tBM K "list" rExtend (tVar i) (tCons te tNil))) tz D σ H := by
  refine ⟨.ref L, En.get i _ hi, .inl ⟨rfl, _, SqL.of hL⟩, ?_⟩
  refine h H (Same.refl H) _ fun v H1 s1 dv => ?_
  obtain ⟨b, zs, rfl, nb, hb, hz⟩ := dv.lst_inv
  have hL1 := s1 _ _ hL
  have e1 : xs.length = ds.length := hx.length
  have e2 : zs.length = es.length := hz.length
  refine ⟨L, b, xs, zs, rfl, rfl, hL1, hb, by rw [sizeLine_eq]; omega, ?_⟩
  have kp : Kp X H1 (upd H1 L (.lst (xs ++ zs))) := Kp.put x
  exact k _ _ upd_same (((hx.mono (Kp.of s1)).append hz).mono kp) ((En.same s1).mono kp) ((t.mono s1).put) ((KpL.of s1).trans KpL.put)
theorem q_append (En : EnvOk X H σ Γ) (hi : Γ[i]? = some (.val (.ref L))) (x : X L) (t : Trk X H) (hL : H L = some (.lst xs)) (hx : DXs X H xs ds) (h : G X te σ H d) (hl : ds.length < 1000000)
    (k : ∀ H2 ys, H2 L = some (.lst ys) → DXs X H2 ys (ds ++ [d]) → EnvOk X H2 σ Γ → Trk X H2 → KpL L H H2 → tz D σ H2) : tSeq (tDrop (tBM K "list" rAppend (tVar i) (tCons te tNil))) tz D σ H := by
  refine ⟨.ref L, En.get i _ hi, .inl ⟨rfl, _, SqL.of hL⟩, ?_⟩
  refine h H (Same.refl H) _ fun v H1 s1 dv => ?_
  have hL1 := s1 _ _ hL
  have e1 : xs.length = ds.length := hx.length
  refine ⟨L, xs, v, rfl, rfl, hL1, by rw [sizeLine_eq]; omega, ?_⟩
  have kp : Kp X H1 (upd H1 L (.lst (xs ++ [v]))) := Kp.put x
  exact k _ _ upd_same (((hx.mono (Kp.of s1)).snoc dv).mono kp) ((En.same s1).mono kp) ((t.mono s1).put) ((KpL.of s1).trans KpL.put)
/-- a new list becomes one's own -/
theorem k_own (En : EnvOk X H σ Γ) (t : Trk X H) (h : GN X te σ H (.list ds)) (k : ∀ L H1 xs, H L = none → Same H H1 → H1 L = some (.lst xs) → DXs (fun b => X b ∨ b = L) H1 xs ds → EnvOk (fun b => X b ∨ b = L) H1 (σ.set i (some (.ref L))) (Γ.set i (.val (.ref L))) → Trk (fun b => X b ∨ b = L) H1 → tz D (σ.set i (some (.ref L))) H1) :
    tSeq (tAsg te (gName i)) tz D σ H := by
  refine k_set (h H (Same.refl H) _ fun v H1 s1 dv nw => ?_)
  obtain ⟨L, xs, rfl, nL, hL, hx⟩ := dv.inner
  have h0 := nw L rfl
  exact k L H1 xs h0 s1 hL hx (((En.more (More.one h0)).same s1).setV) (fun a e => e.elim (fun z => t.mono s1 a z) fun z => ⟨_, z ▸ hL⟩)

theorem g_dict (t : Trk X H) : G X tDNewK σ H (.dict []) := fun H1 s Q q => fun p hp => q _ _ (Same.upd hp) (.dic ((t.mono s).new hp) upd_same .nil)
theorem _root_.KD.EnvOk.less {X' : Addr → Prop} (m : ∀ a, X a → X' a) (E : EnvOk X' H σ Γ) : EnvOk X H σ Γ := ⟨E.len, fun i s e => by
  have h := E.get i s e
  cases s with
  | dat d =>
    obtain ⟨v, e1, r⟩ := h
    exact ⟨v, e1, r.less m⟩
  | val v => exact h
  | un => trivial⟩
/-- one's own list is a datum again -/
theorem _root_.KD.EnvOk.give (En : EnvOk (fun b => X b ∨ b = L) H σ Γ) (hi : Γ[i]? = some (.val (.ref L))) (n : ¬ X L) (hL : H L = some (.lst xs)) (hx : DXs (fun b => X b ∨ b = L) H xs ds) : EnvOk X H σ (Γ.set i (.dat (.list ds))) := by
  have E2 : EnvOk X H σ Γ := En.less fun _ => .inl
  refine ⟨by rw [List.length_set]; exact E2.len, fun j s e => ?_⟩
  by_cases hj : i = j
  · subst hj
    have hl : i < Γ.length := (List.getElem?_eq_some_iff.mp hi).1
    rw [List.getElem?_set_self hl] at e
    cases e
    exact ⟨.ref L, En.get i _ hi, .lst n hL (hx.less fun _ => .inl)⟩
  · rw [List.getElem?_set_ne hj] at e
    exact E2.get j s e
end
end K20

/-! repr of data over the abstract heap. -/
namespace KD
open PySem PySem.Spec PyProof.Rows L2
mutual
/-- shown in short: its ints are small, its dicts are empty -/
def shw : PyData → Bool
  | .int i => decide (i.natAbs.log2 < 1920)
  | .list ds => shws ds
  | .tuple ds => shws ds
  | .dict ks => ks.isEmpty
  | _ => true
def shws : List PyData → Bool
  | [] => true
  | d :: ds => shw d && shws ds
end
section
variable {X : Cx} {pins : List (Addr × Obj)} {σ : L2.St} {H : Hp} {s : Shared} {X0 : Addr → Prop}
/-- addresses of data that are so deep at most -/
def Low (X0 : Addr → Prop) (H : Hp) (n : Nat) (bs : List Addr) : Prop := ∀ b ∈ bs, ∃ d, DX X0 H (.ref b) d ∧ d.depth ≤ n
theorem Low.mono {n m : Nat} {bs : List Addr} (h : Low X0 H n bs) (k : n ≤ m) : Low X0 H m bs := fun b hb => by
  obtain ⟨d, r, e⟩ := h b hb
  exact ⟨d, r, Nat.le_trans e k⟩
theorem Low.app {n : Nat} {bs cs : List Addr} (h : Low X0 H n bs) (k : Low X0 H n cs) : Low X0 H n (bs ++ cs) := fun b hb => (List.mem_append.mp hb).elim (h b) (k b)
theorem Low.not {n : Nat} {bs : List Addr} {a : Addr} {d : PyData} (h : Low X0 H n bs) (r : DX X0 H (.ref a) d) (k : n < d.depth) : a ∉ bs := fun hm => by
  obtain ⟨e, r2, q⟩ := h a hm
  rw [← r.fn r2] at q
  omega
theorem Low.cons {n : Nat} {bs : List Addr} {a : Addr} {d : PyData} (h : Low X0 H n bs) (r : DX X0 H (.ref a) d) (k : n ≤ d.depth) : Low X0 H d.depth (a :: bs) := fun b hb => by
  rcases List.mem_cons.mp hb with rfl | hb
  · exact ⟨d, r, Nat.le_refl _⟩
  · exact h.mono k b hb
mutual
theorem reprK_dx (I : L2.Inv X pins σ H s) : ∀ {v : V} {d : PyData} {u : Value}, DX X0 H v d → RelV v u → shw d = true → d.shown.length ≤ sizeLine → ∃ bs, Low X0 H d.depth bs ∧ ReprK X.prog X.w bs s.heap d.depth u d.shown
  | _, _, _, .non, r, _, _ => by
    cases r
    exact ⟨[], (fun _ h => by cases h), by simp only [PyData.shown]; exact .of_is ReprIs.none _ _ _⟩
  | _, _, _, .bl b, r, _, _ => by
    cases r
    exact ⟨[], (fun _ h => by cases h), by simp only [PyData.shown]; exact .of_is (ReprIs.bool b) _ _ _⟩
  | _, _, _, .int i, r, h, _ => by
    obtain ⟨t, rfl⟩ := r
    exact ⟨[], (fun _ h => by cases h), by simp only [PyData.shown]; exact .of_is (ReprIs.int t (by simpa [shw] using h)) _ _ _⟩
  | _, _, _, .str x, r, _, hz => by
    obtain ⟨t, rfl⟩ := r
    exact ⟨[], (fun _ h => by cases h), by simp only [PyData.shown]; exact .of_is (ReprIs.str x t (by simpa only [PyData.shown] using hz)) _ _ _⟩
  | _, _, _, .lst (a := a) (xs := xs) (ds := ds) n e r, ru, h, hz => by
    cases ru
    obtain ⟨its, rv, ⟨o, k, ho, hc, _, hd⟩, _⟩ := I.list (SqL.of e)
    have long : (listText (PyData.shownAll ds)).length ≤ sizeLine := by simpa only [PyData.shown] using hz
    obtain ⟨bs, low, all⟩ := reprAll_dx I r rv (by simpa [shw] using h) fun t ht => Nat.le_trans (listText_mem_le ht) long
    have whole : DX X0 H (.ref a) (.list ds) := .lst n e r
    have fresh : a ∉ bs := low.not whole (by simp only [PyData.depth]; omega)
    refine ⟨a :: bs, low.cons whole (by simp only [PyData.depth]; omega), ?_⟩
    simp only [PyData.depth, PyData.shown]
    cases its with
    | nil =>
      cases ds with
      | nil =>
        simp only [PyData.shownAll, listText_nil]
        exact ReprK.listEmpty ho hc hd
      | cons d ds => cases r; cases rv
    | cons y its => exact ReprK.list ho hc hd fresh (by simpa using all.length_eq) fun i z q => all.item i z (by simpa using q)
  | _, _, _, .tup (a := a) (xs := xs) (ds := ds) n e r, ru, h, hz => by
    cases ru
    obtain ⟨its, rv, ⟨o, ho, hc, k, hd⟩, _⟩ := I.tuple (SqT.of e)
    have long : (tupleText (PyData.shownAll ds)).length ≤ sizeLine := by simpa only [PyData.shown] using hz
    obtain ⟨bs, low, all⟩ := reprAll_dx I r rv (by simpa [shw] using h) fun t ht => Nat.le_trans (tupleText_mem_le ht) long
    have whole : DX X0 H (.ref a) (.tuple ds) := .tup n e r
    have fresh : a ∉ bs := low.not whole (by simp only [PyData.depth]; omega)
    refine ⟨a :: bs, low.cons whole (by simp only [PyData.depth]; omega), ?_⟩
    simp only [PyData.depth, PyData.shown]
    exact ReprK.tuple ho hc hd fresh all
  | _, _, _, .dic (a := a) (kvs := kvs) (ks := ks) n e r, ru, h, hz => by
    cases ru
    have e0 : ks = [] := by simpa [shw] using h
    subst e0
    cases r
    obtain ⟨_, hsys, vs, kv, o, es, ep, ho, ex, hd, _, pr, _⟩ := I.hok a _ e
    cases kv
    have whole : DX X0 H (.ref a) (.dict []) := .dic n e .nil
    refine ⟨a :: [], Low.cons (n := 0) (fun _ h => by cases h) whole (Nat.zero_le _), ?_⟩
    have he : es.toList = [] := by
      generalize es.toList = l at pr
      cases pr
      rfl
    have R : ReprEntriesK X.prog X.w [] s.heap 0 es.toList [] := by
      rw [he]
      exact .nil
    have := ReprK.dict ho ex.1 hd hsys (as := []) (by simp) R
    simpa [PyData.depth, PyData.depthKv, PyData.shown, PyData.shownKv] using this
theorem reprAll_dx (I : L2.Inv X pins σ H s) : ∀ {vs : List V} {ds : List PyData} {us : List Value}, DXs X0 H vs ds → Vals vs us → shws ds = true → (∀ t ∈ PyData.shownAll ds, t.length ≤ sizeLine) → ∃ bs, Low X0 H (PyData.depthAll ds) bs ∧ ReprAllK X.prog X.w bs s.heap (PyData.depthAll ds) us (PyData.shownAll ds)
  | _, _, _, .nil, r, _, _ => by
    cases r
    exact ⟨[], (fun _ h => by cases h), by simp only [PyData.shownAll]; exact .nil⟩
  | _, _, _, .cons (d := d) (ds := ds) h rs, r, hs, hz => by
    cases r with
    | cons r1 r2 =>
      have hs' : shw d = true ∧ shws ds = true := by simpa [shws] using hs
      obtain ⟨b1, l1, k1⟩ := reprK_dx I h r1 hs'.1 (hz _ (by simp only [PyData.shownAll]; exact List.mem_cons_self))
      obtain ⟨b2, l2, k2⟩ := reprAll_dx I rs r2 hs'.2 fun t ht => hz t (by simp only [PyData.shownAll]; exact List.mem_cons_of_mem _ ht)
      refine ⟨b1 ++ b2, ?_, ?_⟩
      · simp only [PyData.depthAll]
        exact (l1.mono (Nat.le_max_left _ _)).app (l2.mono (Nat.le_max_right _ _))
      · simp only [PyData.depthAll, PyData.shownAll]
        exact .cons ((k1.more fun b hb => List.mem_append_left _ hb).level_le (Nat.le_max_left _ _)) (k2.more_le (fun b hb => List.mem_append_right _ hb) (Nat.le_max_right _ _))
end
end
/-- repr of a list of data -/
def rReprL : List V → Hp → VK → Prop := fun xs H Q => ∃ (X0 : Addr → Prop) (v : V) (ds : List PyData), xs = [v] ∧ DX X0 H v (.list ds) ∧ ds ≠ [] ∧ shws ds = true ∧ PyData.depthAll ds ≤ 40 ∧ (PyData.shown (.list ds)).length ≤ sizeLine ∧ Q (.str (PyData.shown (.list ds))) H
theorem call_reprL {X : Cx} (hg : X.A.guards = some []) (hu : X.A.units + 64 < cLine) : CallR X (.builtin "repr") rReprL := by
  intro pins s σ H xs us Q I r h
  obtain ⟨X0, v, ds, rfl, hd, hne, hs, hdp, hz, q⟩ := h
  cases r with
  | cons ru rn =>
    cases rn
    cases hd with
    | @lst a xs _ n e rx =>
      cases ru
      obtain ⟨its, rv, ⟨o, k, ho, hc, _, hd⟩, _⟩ := I.list (SqL.of e)
      have long : (listText (PyData.shownAll ds)).length ≤ sizeLine := by simpa only [PyData.shown] using hz
      obtain ⟨bs, low, all⟩ := reprAll_dx I rx rv hs fun t ht => Nat.le_trans (listText_mem_le ht) long
      have whole : DX X0 H (.ref a) (.list ds) := .lst n e rx
      have fresh : a ∉ bs := low.not whole (by simp only [PyData.depth]; omega)
      cases its with
      | nil =>
        cases rv
        cases rx
        exact absurd rfl hne
      | cons y its =>
        refine call_repr_slot (T := "list") (idr := "list.__repr__") (by omega) ⟨o, ho, hc⟩ F.slot_list_repr.toG ?_
        refine call_list_reprK ho hc hd fresh (by simpa using all.length_eq) (fun i z q => all.item i z (by simpa using q)) hg (fun b _ => Clear.nil b) (by show X.A.units + 1 + (PyData.depthAll ds + 1) < cLine; omega) (fun _ _ z => z) (fun h' t tk hk => ?_) long
        refine ⟨_, _, rfl, .str (PyData.shown (.list ds)), H, I.kept hk, ⟨t, ?_⟩, q⟩
        simp only [PyData.shown]
end KD

/-! Facts of the things drawn. -/
namespace K20
open PySem PySem.Spec PyProof.Rows L2 KD
/-- all words that the law writes -/
def allW : List Str := ["a", "b", "c", "d e", "", "x", "y", "z", "q", "ab", "0", "a\nb", "a\n", "change", "words", "fit"]
/-- .. of which these are words of a text -/
def goodW : List Str := ["a", "b", "c", "d e", "", "x", "y", "z", "q"]
theorem good_all : ∀ s ∈ goodW, s ∈ allW := by decide +kernel
theorem allW_str : ∀ s ∈ allW, PyData.strOk s = true := by decide +kernel
theorem allW_len : ∀ s ∈ allW, s.length ≤ 201 := by decide +kernel
theorem allW_rep : ∀ s ∈ allW, (reprText s).length ≤ 210 := by decide +kernel
theorem goodW_is : ∀ s ∈ goodW, isWordsD (.str s) = true := by decide +kernel
theorem letters_good : ∀ s ∈ letters, s ∈ goodW := by decide +kernel
theorem letters2_good : ∀ s ∈ letters2, s ∈ goodW := by decide +kernel
def smallI (i : Int) : Prop := -1 ≤ i ∧ i ≤ 9
theorem small_rep {i : Int} (h : smallI i) : i.natAbs.log2 < 1920 ∧ (Str.ofString (toString i)).length ≤ 210 := by
  obtain ⟨h1, h2⟩ := h
  have : i = -1 ∨ i = 0 ∨ i = 1 ∨ i = 2 ∨ i = 3 ∨ i = 4 ∨ i = 5 ∨ i = 6 ∨ i = 7 ∨ i = 8 ∨ i = 9 := by omega
  rcases this with rfl | rfl | rfl | rfl | rfl | rfl | rfl | rfl | rfl | rfl | rfl <;> exact ⟨by decide +kernel, by decide +kernel⟩
/-- small things: what may be shown, what may be asked -/
def okD : Nat → PyData → Prop
  | _, .none => True
  | _, .bool _ => True
  | _, .int i => smallI i
  | _, .str s => s ∈ allW
  | 0, _ => False
  | n + 1, .list ds => ds.length ≤ 9 ∧ ∀ z ∈ ds, okD n z
  | n + 1, .tuple ds => ds.length ≤ 9 ∧ ∀ z ∈ ds, okD n z
  | _, .dict ks => ks = []
def lv : Nat → Nat
  | 0 => 210
  | n + 1 => 9 * (lv n) + 30
theorem lv_big : ∀ n, 210 ≤ lv n
  | 0 => Nat.le_refl _
  | n + 1 => by
    have := lv_big n
    show 210 ≤ 9 * lv n + 30
    omega
theorem lv_mono (n : Nat) : lv n ≤ lv (n + 1) := by
  show lv n ≤ 9 * lv n + 30
  omega
theorem lv_le : ∀ {n m : Nat}, n ≤ m → lv n ≤ lv m
  | n, 0, h => by
    have : n = 0 := by omega
    subst this
    exact Nat.le_refl _
  | n, m + 1, h => by
    by_cases e : n = m + 1
    · subst e
      exact Nat.le_refl _
    · exact Nat.le_trans (lv_le (by omega)) (lv_mono m)
def Sh (n : Nat) (d : PyData) : Prop := shw d = true ∧ d.shown.length ≤ lv n ∧ d.depth ≤ n
theorem sh_all {n : Nat} : ∀ {ds : List PyData}, (∀ z ∈ ds, Sh n z) → shws ds = true ∧ ((PyData.shownAll ds).map (·.length)).sum ≤ ds.length * lv n ∧ (PyData.shownAll ds).length = ds.length ∧ PyData.depthAll ds ≤ n
  | [], _ => by simp [shws, PyData.shownAll, PyData.depthAll]
  | d :: ds, h => by
    obtain ⟨a1, a2, a3⟩ := h d List.mem_cons_self
    obtain ⟨b1, b2, b3, b4⟩ := sh_all fun z hz => h z (List.mem_cons_of_mem _ hz)
    refine ⟨by simp [shws, a1, b1], ?_, by simp only [PyData.shownAll, List.length_cons, b3], by simp only [PyData.depthAll]; omega⟩
    simp only [PyData.shownAll, List.map_cons, List.sum_cons, List.length_cons]
    rw [Nat.add_mul]
    omega
theorem sh_list {n : Nat} {ds : List PyData} (hl : ds.length ≤ 9) (h : ∀ z ∈ ds, Sh n z) : Sh (n + 1) (.list ds) := by
  obtain ⟨b1, b2, b3, b4⟩ := sh_all h
  refine ⟨by simp only [shw]; exact b1, ?_, by simp only [PyData.depth]; omega⟩
  have e : (PyData.list ds).shown = listText (PyData.shownAll ds) := by simp only [PyData.shown]
  rw [e]
  have q := listText_len_le (PyData.shownAll ds)
  have m : ds.length * lv n ≤ 9 * lv n := Nat.mul_le_mul_right _ hl
  show _ ≤ 9 * lv n + 30
  omega
theorem sh_tuple {n : Nat} {ds : List PyData} (hl : ds.length ≤ 9) (h : ∀ z ∈ ds, Sh n z) : Sh (n + 1) (.tuple ds) := by
  obtain ⟨b1, b2, b3, b4⟩ := sh_all h
  refine ⟨by simp only [shw]; exact b1, ?_, by simp only [PyData.depth]; omega⟩
  have e : (PyData.tuple ds).shown = tupleText (PyData.shownAll ds) := by simp only [PyData.shown]
  rw [e]
  have q := tupleText_len_le (PyData.shownAll ds)
  have m : ds.length * lv n ≤ 9 * lv n := Nat.mul_le_mul_right _ hl
  show _ ≤ 9 * lv n + 30
  omega
theorem sh_leaf (n : Nat) {d : PyData} (hs : shw d = true) (hl : d.shown.length ≤ 210) (hd : d.depth = 0) : Sh n d := ⟨hs, Nat.le_trans hl (lv_big n), by omega⟩
theorem okD_sh : ∀ (n : Nat) {d : PyData}, okD n d → Sh n d
  | n, .none, _ => sh_leaf n (by simp [shw]) (by simp only [PyData.shown]; decide +kernel) (by simp [PyData.depth])
  | n, .bool b, _ => sh_leaf n (by simp [shw]) (by cases b <;> simp only [PyData.shown] <;> decide +kernel) (by simp [PyData.depth])
  | n, .int i, h => by
    have h : smallI i := by cases n <;> exact h
    exact sh_leaf n (by simp only [shw]; exact decide_eq_true (small_rep h).1) (by simp only [PyData.shown]; exact (small_rep h).2) (by simp [PyData.depth])
  | n, .str s, h => by
    have h : s ∈ allW := by cases n <;> exact h
    exact sh_leaf n (by simp [shw]) (by simp only [PyData.shown]; exact allW_rep s h) (by simp [PyData.depth])
  | n + 1, .list ds, h => sh_list h.1 fun z hz => okD_sh n (h.2 z hz)
  | n + 1, .tuple ds, h => sh_tuple h.1 fun z hz => okD_sh n (h.2 z hz)
  | n + 1, .dict ks, h => by
    have h : ks = [] := h
    subst h
    refine ⟨by simp [shw], ?_, by simp [PyData.depth, PyData.depthKv]⟩
    refine Nat.le_trans ?_ (lv_big (n + 1))
    simp only [PyData.shown, PyData.shownKv]
    decide +kernel
  | 0, .list ds, h => h.elim
  | 0, .tuple ds, h => h.elim
  | 0, .dict ks, h => h.elim
/-- what may be asked of such things -/
theorem okD_words : ∀ {n : Nat} {d : PyData}, okD n d → wordsPre d
  | n, .str s, h => by
    have h : s ∈ allW := by cases n <;> exact h
    have := allW_len s h
    show s.length ≤ 1000000
    omega
  | _, .none, _ => trivial
  | _, .bool _, _ => trivial
  | _, .int _, _ => trivial
  | _, .list _, _ => trivial
  | _, .tuple _, _ => trivial
  | _, .dict _, _ => trivial
theorem okD_items {n : Nat} {d : PyData} (h : okD n d) (hs : isSeq d = true) : (itemsD d).length ≤ 9 ∧ ∃ m, ∀ z ∈ itemsD d, okD m z := by
  cases n with
  | zero => cases d <;> first | exact (show False from h).elim | cases hs
  | succ n =>
    cases d with
    | list ds => exact ⟨h.1, n, h.2⟩
    | tuple ds => exact ⟨h.1, n, h.2⟩
    | _ => cases hs
theorem okD_wordsAll {n : Nat} {d : PyData} (h : okD n d) : wordsAll d := fun hs => by
  obtain ⟨h1, m, h2⟩ := okD_items h hs
  exact ⟨by omega, fun z hz => okD_words (h2 z hz)⟩
theorem okD_chPre {n : Nat} {d : PyData} (h : okD n d) : chPre d := fun hs => by
  obtain ⟨h1, m, h2⟩ := okD_items h hs
  exact ⟨by omega, fun z hz => okD_wordsAll (h2 z hz)⟩
/-! ### words -/
def Gs (ws : List Str) : Prop := ws.length ≤ 9 ∧ ∀ z ∈ ws, z ∈ goodW
theorem Gs.ok {ws : List Str} (h : Gs ws) : WsOk ws := ⟨by have := h.1; omega, fun z hz => allW_str z (good_all z (h.2 z hz))⟩
theorem ff_all : ∀ {ds : List PyData} {i : Nat}, (∀ z ∈ ds, isWordsD z = true) → ffD i (ds.map fun z => .bool (isWordsD z)) = .none
  | [], _, _ => by simp [ffD]
  | d :: ds, i, h => by
    rw [List.map_cons, h d List.mem_cons_self, ff_true]
    exact ff_all fun z hz => h z (List.mem_cons_of_mem _ hz)
theorem ff_first : ∀ {ds : List PyData} {i : Nat} {d : PyData} {es : List PyData}, (∀ z ∈ ds, isWordsD z = true) → isWordsD d = false → ffD i ((ds ++ d :: es).map fun z => .bool (isWordsD z)) = .int ((i + ds.length : Nat) : Int)
  | [], i, d, es, _, hd => by
    rw [List.nil_append, List.map_cons, hd]
    simp [ffD]
  | c :: ds, i, d, es, h, hd => by
    rw [List.cons_append, List.map_cons, h c List.mem_cons_self, ff_true, ff_first (fun z hz => h z (List.mem_cons_of_mem _ hz)) hd]
    congr 1
    rw [List.length_cons]
    omega
theorem Gs.words {ws : List Str} (h : Gs ws) : ∀ z ∈ ws.map PyData.str, isWordsD z = true := fun z hz => by
  obtain ⟨s, hs, rfl⟩ := List.mem_map.mp hz
  exact goodW_is s (h.2 s hs)
/-- a text, as a list or as a tuple -/
def TextOf (ws : List Str) (d : PyData) : Prop := isSeq d = true ∧ itemsD d = ws.map PyData.str
theorem TextOf.list (ws : List Str) : TextOf ws (wsD ws) := ⟨rfl, rfl⟩
theorem TextOf.tuple (ws : List Str) : TextOf ws (.tuple (ws.map PyData.str)) := ⟨rfl, rfl⟩
theorem TextOf.wrong {ws : List Str} {d : PyData} (h : TextOf ws d) (g : Gs ws) : wrongD d = .none := by
  unfold wrongD
  rw [h.1, if_pos rfl, h.2]
  exact ff_all g.words
theorem TextOf.ws {ws : List Str} {d : PyData} (h : TextOf ws d) : wsOf d = ws := by
  have e := wsOf_wsD ws
  unfold wsOf at e ⊢
  rw [h.2]
  exact e
theorem okD_wsD {ws : List Str} (n : Nat) (g : Gs ws) : okD (n + 1) (wsD ws) := by
  refine ⟨by rw [List.length_map]; exact g.1, fun z hz => ?_⟩
  obtain ⟨s, hs, rfl⟩ := List.mem_map.mp hz
  cases n <;> exact good_all s (g.2 s hs)
theorem TextOf.okD {ws : List Str} {d : PyData} (h : TextOf ws d) (g : Gs ws) (n : Nat) : okD (n + 1) d := by
  have k := okD_wsD n g
  obtain ⟨h1, h2⟩ := h
  cases d with
  | list ds =>
    have e : ds = ws.map PyData.str := h2
    subst e
    exact k
  | tuple ds =>
    have e : ds = ws.map PyData.str := h2
    subst e
    exact k
  | _ => cases h1
/-! ### changes -/
def ChOf (p : Int) (os ns : List Str) (d : PyData) : Prop := isSeq d = true ∧ ∃ d1 d2, itemsD d = [.int p, d1, d2] ∧ TextOf os d1 ∧ TextOf ns d2
section
variable {p : Int} {os ns : List Str} {d : PyData}
theorem ChOf.it0 (h : ChOf p os ns d) : it d 0 = .int p := by
  obtain ⟨_, d1, d2, e, _, _⟩ := h
  unfold it
  rw [e]
  rfl
theorem ChOf.it1 (h : ChOf p os ns d) : TextOf os (it d 1) := by
  obtain ⟨_, d1, d2, e, t, _⟩ := h
  unfold it
  rw [e]
  exact t
theorem ChOf.it2 (h : ChOf p os ns d) : TextOf ns (it d 2) := by
  obtain ⟨_, d1, d2, e, _, t⟩ := h
  unfold it
  rw [e]
  exact t
theorem TextOf.len {ws : List Str} (h : TextOf ws d) : lenD d = ws.length := by
  rw [lenD_seq h.1, h.2, List.length_map]
theorem ChOf.is (h : ChOf p os ns d) (h0 : 0 ≤ p) (g1 : Gs os) (g2 : Gs ns) (hl : 0 < os.length + ns.length) : isChangeD d = true := by
  have e0 := h.it0
  have e1 := h.it1
  have e2 := h.it2
  unfold isChangeD ch3
  rw [h.1, e0, e1.wrong g1, e2.wrong g2, e1.len, e2.len]
  obtain ⟨_, d1, d2, e, _, _⟩ := h
  rw [e]
  simp [isNumD, isNone, h0]
  omega
theorem ChOf.okD (h : ChOf p os ns d) (hp : smallI p) (g1 : Gs os) (g2 : Gs ns) (n : Nat) : okD (n + 2) d := by
  obtain ⟨h1, d1, d2, e, t1, t2⟩ := h
  have all : ∀ z ∈ itemsD d, K20.okD (n + 1) z := fun z hz => by
    rw [e] at hz
    simp at hz
    rcases hz with rfl | rfl | rfl
    · exact hp
    · exact t1.okD g1 n
    · exact t2.okD g2 n
  have len : (itemsD d).length ≤ 9 := by rw [e]; simp
  cases d with
  | list ds => exact ⟨len, all⟩
  | tuple ds => exact ⟨len, all⟩
  | _ => cases h1
theorem ChOf.told (p : Int) (os ns : List Str) : ChOf p os ns (chD p os ns) := ⟨rfl, _, _, rfl, .list os, .list ns⟩
end
/-! ### odds -/
theorem not_words {d : PyData} {z : PyData} (h : isSeq d = true) (hz : z ∈ itemsD d) (hw : isWordsD z = false) : isNone (wrongD d) = false := by
  cases e : isNone (wrongD d) with
  | false => rfl
  | true =>
    unfold wrongD at e
    rw [h, if_pos rfl] at e
    have := ffD_none e z hz
    rw [hw] at this
    cases this
theorem not_seq {d : PyData} (h : isSeq d = false) : isNone (wrongD d) = false := by
  unfold wrongD
  rw [h]
  rfl
theorem feed_not : isWordsD (.str "a\nb") = false := by decide +kernel
theorem not_ch {d : PyData} (h : isChangeD d = true → False) : isChangeD d = false := by
  cases e : isChangeD d with
  | false => rfl
  | true => exact (h e).elim
end K20

/-! The end of a law whose def is known for the caller of claims alone (its guards are empty). -/
namespace KD
open PySem PySem.Spec PyProof.Rows L2 LamX
/-- a def's promise, called from A -/
def FnAt (P : Program) (w : World) (K : PySem.W.Frag) (mg : Str → Option Value) (base : Heap) (CX : CXT) (A : Around) (f : Addr) (fd : FuncData) (x : Str) (sp : Sp) : Prop :=
  ∀ (s : Shared) (H : Hp) (u : Value) (v : V) (Q : VK) (E : XK), Env0 P w K mg base A [] s H → BindsTo s fd ⟨[u], []⟩ [(x, u)] → RelV v u → sp [v] H Q E → codeAny (model P w) A (.call (.ref f) ⟨[u], []⟩) (CR CX [] P w H s Q E) s
/-- where the law begins: the script as it is passed, tables without code -/
def beginH (K : PySem.W.Frag) (T : List Addr) (a : Addr) (o : Obj) (ns : List Int) : Hp := fun b => if b ∈ T then some (.tbl #[]) else if b = a ∧ K.lookup a = none then some (.frz o (.lst (ns.map V.int))) else none
section
variable {K : PySem.W.Frag} {T : List Addr} {a b : Addr} {o : Obj} {ns : List Int}
theorem beginH_tab (h : b ∈ T) : beginH K T a o ns b = some (.tbl #[]) := if_pos h
theorem beginH_arg (h : a ∉ T) (k : K.lookup a = none) : beginH K T a o ns a = some (.frz o (.lst (ns.map V.int))) := (if_neg h).trans (if_pos ⟨rfl, k⟩)
theorem beginH_none (h : b ∉ T) (k : b = a → K.lookup a ≠ none) : beginH K T a o ns b = none := (if_neg h).trans (if_neg fun z => k z.1 z.2)
theorem beginH_some {u : HO} (h : beginH K T a o ns b = some u) : (b ∈ T ∧ u = .tbl #[]) ∨ (b ∉ T ∧ b = a ∧ K.lookup a = none ∧ u = .frz o (.lst (ns.map V.int))) := by
  unfold beginH at h
  by_cases h1 : b ∈ T
  · rw [if_pos h1] at h
    exact .inl ⟨h1, (Option.some.inj h).symm⟩
  · rw [if_neg h1] at h
    by_cases h2 : b = a ∧ K.lookup a = none
    · rw [if_pos h2] at h
      exact .inr ⟨h1, h2.1, h2.2, (Option.some.inj h).symm⟩
    · rw [if_neg h2] at h
      cases h
end
theorem law_callG {P : Program} {w : World} {K : PySem.W.Frag} {mg mb : Str → Option Value} {CX : CXT} {fa a : Addr} {cs : List (Addr × Addr)} {fd : FuncData} {x : Str} {sp : Sp} {s : Shared} {vs : List Value} {ns : List Int}
    (kin : K.In s.heap) (glob : s.heap.Ns mainGlobals mg) (blt : s.heap.Ns builtinsNs mb) (boot : ∀ y : Str, y ≠ "__name__" → mb y = bootBuiltins y) (nolim : s.heap.NoLimit) (gens : s.gens = #[])
    (tabs : ∀ p ∈ cs, s.heap.get? p.2 = some { cls := .none, data := .fields #[] }) (tabK : ∀ p ∈ cs, K.lookup p.2 = none) (codes : ∀ p ∈ cs, PySem.W.CodeHd s.heap p.1 p.2)
    (bmod : ∃ bm ob, mg "__builtins__" = some (.ref bm) ∧ bm ≠ builtinsNs ∧ s.heap.get? bm = some ob ∧ ob.cls = .type "module" ∧ ob.dict = some builtinsNs ∧ ob.data = .plain)
    (arg : s.heap.get? a = some { cls := .type "list", data := .seq vs.toArray }) (intsA : IntsAre vs ns) (few : ns.length ≤ sizeLine)
    (F : ∀ base : Heap, K.In base → base.Ns mainGlobals mg → (∀ p ∈ cs, TabB base mg p.1 p.2) → FnAt P w K mg base CX callerA fa fd x sp) (bind : ∀ (s : Shared) (u : Value), BindsTo s fd ⟨[u], []⟩ [(x, u)])
    (begin_ : ∀ H : Hp, (∀ p ∈ cs, H p.2 = some (.tbl #[])) → SqL K H a (ns.map V.int) → sp [.ref a] H (fun v _ => v = .bl true) fun _ _ _ => False) (noerr : ∀ H e s', CX [] H s (fun _ _ _ => False) e s' → False) :
    codeAny (model P w) callerA (.call (.ref fa) ⟨[.ref a], []⟩) (fun r s' => r = .ok (.ret (.bool true)) ∧ OldK s.heap s'.heap ∧ s'.os = s.os ∧ AllBare s'.gens) s := by
  have vals := vals_ints intsA
  have many := intsA.length
  let T : List Addr := cs.map (·.2)
  let ao : Obj := { cls := .type "list", data := .seq vs.toArray }
  let H : Hp := beginH K T a ao ns
  have inT : ∀ {b : Addr}, b ∈ T → ∃ p ∈ cs, p.2 = b := fun hb => List.mem_map.mp hb
  have emp : ∀ {b : Addr}, b ∈ T → s.heap.get? b = some { cls := .none, data := .fields #[] } := fun hb => by
    obtain ⟨p, hp, rfl⟩ := inT hb
    exact tabs p hp
  have toT : ∀ {p : Addr × Addr}, p ∈ cs → p.2 ∈ T := fun hp => List.mem_map.mpr ⟨_, hp, rfl⟩
  have aT : a ∉ T := fun hb => by
    have e := (emp hb).symm.trans arg
    cases e
  have HT : ∀ p ∈ cs, H p.2 = some (.tbl #[]) := fun p hp => beginH_tab (toT hp)
  have script : SqL K H a (ns.map V.int) := by
    cases k : K.lookup a with
    | none => exact .inl (.inr ⟨ao, beginH_arg aT k⟩)
    | some o =>
      have same := (kin a o k).symm.trans arg
      cases same
      exact .inr ⟨_, vs.toArray, _, k, rfl, rfl, rfl, by rw [List.size_toArray, many]; exact few, by simpa using vals⟩
  have ok : HOk P w H s.heap := fun b u e => by
    rcases beginH_some e with ⟨hb, rfl⟩ | ⟨_, rfl, _, rfl⟩
    · exact emp hb
    · exact ⟨arg, by rw [List.length_map]; exact few, vs, _, vals, arg⟩
  -- what is neither a list nor an empty table is not of H
  have other : ∀ {b : Addr} {o : Obj}, s.heap.get? b = some o → (∀ q n, o.data ≠ .seq q n) → o.data ≠ .fields #[] → H b = none := fun {b o} e h1 h2 => by
    cases q : H b with
    | none => rfl
    | some u =>
      rcases beginH_some q with ⟨hb, _⟩ | ⟨_, rfl, _, _⟩
      · rw [emp hb] at e
        cases e
        exact absurd rfl h2
      · rw [arg] at e
        cases e
        exact absurd rfl (h1 _ _)
  have hid : ∀ {b : Addr} {o : Obj}, s.heap.get? b = some o → (∀ q n, o.data ≠ .seq q n) → o.data ≠ .fields #[] → (hidT s.heap H).get? b = some o := fun e h1 h2 => hidT_get e (other e h1 h2)
  have names : ∀ {b : Addr} {m : Str → Option Value}, s.heap.Ns b m → (hidT s.heap H).Ns b m := fun {b m} z => by
    obtain ⟨o, es, ep, e, hd, r⟩ := z
    refine ⟨o, es, ep, hid e (fun _ _ q => ?_) (fun q => ?_), hd, r⟩ <;> (rw [hd] at q; cases q)
  have kin2 : K.In (hidT s.heap H) := fun b o e => hidT_get (kin b o e) (by
    cases q : H b with
    | none => rfl
    | some u =>
      rcases beginH_some q with ⟨hb, _⟩ | ⟨_, rfl, k, _⟩
      · obtain ⟨p, hp, rfl⟩ := inT hb
        rw [tabK p hp] at e
        cases e
      · rw [k] at e
        cases e)
  have glob2 := names glob
  have notGlob : ∀ {b : Addr} {o : Obj}, s.heap.get? b = some o → (∀ es ep, o.data ≠ .dict es ep) → b ≠ mainGlobals := fun {b o} e h q => by
    obtain ⟨o2, es, ep, e2, hd, _⟩ := glob
    rw [q, e2] at e
    cases e
    exact h _ _ hd
  have tabB : ∀ p ∈ cs, TabB (hidT s.heap H) mg p.1 p.2 := fun p hp => by
    refine ⟨?_, ?_, fun q => notGlob (tabs p hp) (fun _ _ z => by cases z) q.symm⟩
    · obtain ⟨o, us, file, tf, flags, tg, inF, text, tt, e1, r1, r2, r3, r4, r5, r6, r7, r8, r9⟩ := codes p hp
      refine ⟨o, us, file, tf, flags, tg, inF, text, tt, hid e1 (fun _ _ q => ?_) (fun q => ?_), r1, r2, r3, r4, r5, r6, r7, r8, r9⟩
      · rw [r2] at q
        cases q
      · rw [r2] at q
        cases q
        simp at r3
    · obtain ⟨bm, ob, b1, b2, b3, b4, b5, b6⟩ := bmod
      have n1 : bm ≠ mainGlobals := notGlob b3 fun _ _ q => by rw [b6] at q; cases q
      have n2 : bm ≠ p.2 := fun q => by
        rw [q, tabs p hp] at b3
        cases b3
        cases b6
      refine ⟨bm, ob, b1, b2, n1, n2, hid b3 (fun _ _ q => ?_) (fun q => ?_), b4, b5, b6⟩ <;> (rw [b6] at q; cases q)
  have md : L2.Mod K mg (hidT s.heap H) := by
    obtain ⟨mc, h1, h2⟩ := nolim
    exact ⟨kin2, glob2, ⟨mb, names blt, boot⟩, ⟨mc, names h1, h2⟩⟩
  have env : Env0 P w K mg (hidT s.heap H) callerA [] s H := ⟨rfl, md, fun _ _ e => of_hidT e, Nat.le_of_eq (hidT_size _ _), trivial, fun _ hb => (nomatch hb), ok, .of_eq gens⟩
  have run := F _ kin2 glob2 tabB s H (.ref a) (.ref a) _ _ env (bind s (.ref a)) rfl (begin_ H HT script)
  refine codeAny_mono run fun r s' hr => ?_
  match r, hr with
  | .error e, hr => exact (noerr H e s' hr).elim
  | .ok .next, hr => exact hr.elim
  | .ok .brk, hr => exact hr.elim
  | .ok .cont, hr => exact hr.elim
  | .ok (.ret u), hr =>
    obtain ⟨v, H2, os, bare, un, ok2, rel, hv⟩ := hr
    have hv : v = V.bl true := hv
    subst hv
    obtain rfl : u = Value.bool true := rel
    have still : ∀ {b : Addr} {o : Obj}, b ∉ T → s.heap.get? b = some o → s'.heap.get? b = some o := fun {b o} nb e => by
      cases q : H b with
      | none => exact un.keep b o e q (by intro z; exact (nomatch (show b ∈ ([] : List Addr) from z))) (by simp)
      | some u =>
        rcases beginH_some q with ⟨hb, _⟩ | ⟨_, rfl, k, rfl⟩
        · exact absurd hb nb
        · have q2 := un.frzs b _ _ q
          have e2 : s'.heap.get? b = some ao := (ok2 b _ q2).1
          rw [arg] at e
          cases e
          exact e2
    have more : ∀ {b : Addr}, b ∈ T → ∃ m : Array Value, s'.heap.get? b = some { cls := .none, data := .fields m } := fun {b} hb => by
      obtain ⟨m, z⟩ := un.tbls b #[] (beginH_tab hb)
      exact ⟨_, ok2 b _ z⟩
    refine ⟨rfl, ⟨fun b o e => ?_, fun b o e => ?_⟩, os, bare⟩
    · by_cases hb : b ∈ T
      · obtain ⟨m, hm⟩ := more hb
        obtain ⟨p, hp, rfl⟩ := inT hb
        rw [tabs p hp] at e
        cases e
        exact .inr (.inl ⟨((codes p hp).tab (tabs p hp)).isCodeTable, rfl, #[], m, rfl, by rw [Array.empty_append]; exact hm⟩)
      · exact .inl (still hb e)
    · by_cases hb : b ∈ T
      · obtain ⟨m, hm⟩ := more hb
        exact ⟨_, hm⟩
      · exact ⟨o, still hb e⟩
/-- what is known of the law at the head's heap -/
def LawG (l : PySem.W.OpenLaw) (w : World) (K : PySem.W.Frag) (CX : CXT) (n : Nat) (x : Str) (mg : Str → Option Value) (fa : Addr) (h : Heap) : Prop :=
  ∃ (fd : FuncData) (cs : List (Addr × Addr)) (sp : Sp), (∀ p ∈ cs, h.get? p.2 = some { cls := .none, data := .fields #[] }) ∧ (∀ p ∈ cs, K.lookup p.2 = none) ∧ (∀ p ∈ cs, PySem.W.CodeHd h p.1 p.2) ∧ (∀ s u, BindsTo s fd ⟨[u], []⟩ [(x, u)]) ∧
    (∀ (H : Hp) (a : Addr) (ns : List Int), ns.length ≤ n → (∀ z ∈ ns, Builtin.Int.intBits z ≤ 1048576) → (∀ p ∈ cs, H p.2 = some (.tbl #[])) → SqL K H a (ns.map V.int) → sp [.ref a] H (fun v _ => v = .bl true) fun _ _ _ => False) ∧
    ∀ base : Heap, K.In base → base.Ns mainGlobals mg → (∀ p ∈ cs, TabB base mg p.1 p.2) → FnAt l.prog w K mg base CX callerA fa fd x sp
theorem walk_ofG {l : PySem.W.OpenLaw} {n : Nat} {q : Program} {loose : List Str} {XP : (Str → Option Value) → Heap → Prop} {YP : World → Heap → Prop} {d : DefRec} {K : Params → PySem.W.Frag} {CX : World → CXT} {x : Str}
    (hn : l.most = some n) (few : n ≤ sizeLine) (nodef : d.params.defaults = []) (kin : ∀ w h, YP w h → (K w.params).In h)
    (F : ∀ w mg fa h, YP w h → (K w.params).In h → h.Ns mainGlobals mg → mg d.name = some (.ref fa) → LawG l w (K w.params) (CX w) n x mg fa h) (noerr : ∀ w H s e s', CX w [] H s (fun _ _ _ => False) e s' → False) :
    PySem.W.WalkO q loose XP YP l.row.toRowW d [] (fun f vs => PySem.call f vs) :=
  Att.attach_callB hn nodef fun w s0 s1 mg mb fa o pm cd doc a vs ns G Y _ _ _ hmg hobj hints hlen hbits hg => by
    obtain ⟨fd, cs, sp, h1, h2, h3, h4, h5, h6⟩ := F w mg fa _ Y (kin w _ Y) G.T.g hmg
    exact law_callG (kin w _ Y) G.T.g G.T.b G.T.builtins G.T.nolimit hg h1 h2 h3 G.T.bmain hobj hints (Nat.le_trans hlen few) h6 h4 (fun H a1 a2 => h5 H a ns hlen hbits a1 a2) fun H e s' => noerr w H s1 e s'
end KD

/-! What a law's frame keeps. -/
namespace K20
open PySem PySem.Spec PyProof.Rows L2 KD LamX
/-- all that is no table and not of X stays -/
def Kq (X : Addr → Prop) (H H' : Hp) : Prop := ∀ a o, ¬ X a → (∀ ps, o ≠ .tbl ps) → H a = some o → H' a = some o
section
variable {X X' : Addr → Prop} {H H' H1 H2 : Hp} {σ : L2.St} {Γ : List Sv} {T : List (Addr × Str)} {st cl L : Addr} {n m : Nat}
theorem Kq.of (h : Kp X H H') : Kq X H H' := fun a o n _ e => h a o n e
theorem Kq.same (h : Same H H') : Kq X H H' := fun a o _ _ e => h a o e
theorem Kq.refl : Kq X H H := fun _ _ _ _ e => e
theorem Kq.trans (h : Kq X H H1) (k : Kq X H1 H2) : Kq X H H2 := fun a o n t e => k a o n t (h a o n t e)
theorem Kq.ext (h : ExtN H H') : Kq X H H' := fun a o _ t e => h a o e t
mutual
theorem DX.kq (k : Kq X H H') : ∀ {v : V} {d : PyData}, DX X H v d → DX X H' v d
  | _, _, .non => .non
  | _, _, .bl b => .bl b
  | _, _, .int i => .int i
  | _, _, .str x => .str x
  | _, _, .lst n h r => .lst n (k _ _ n (fun _ e => by cases e) h) (DXs.kq k r)
  | _, _, .tup n h r => .tup n (k _ _ n (fun _ e => by cases e) h) (DXs.kq k r)
  | _, _, .dic n h r => .dic n (k _ _ n (fun _ e => by cases e) h) (DXk.kq k r)
theorem DXs.kq (k : Kq X H H') : ∀ {vs : List V} {ds : List PyData}, DXs X H vs ds → DXs X H' vs ds
  | _, _, .nil => .nil
  | _, _, .cons h r => .cons (DX.kq k h) (DXs.kq k r)
theorem DXk.kq (k : Kq X H H') : ∀ {vs : List (Key × V)} {ds : List (PyData × PyData)}, DXk X H vs ds → DXk X H' vs ds
  | _, _, .nil => .nil
  | _, _, .cons h r => .cons (DX.kq k h) (DXk.kq k r)
end
theorem _root_.KD.EnvOk.kq (k : Kq X H H') (E : EnvOk X H σ Γ) : EnvOk X H' σ Γ := ⟨E.len, fun i s e => by
  have h := E.get i s e
  cases s with
  | dat d =>
    obtain ⟨v, e1, r⟩ := h
    exact ⟨v, e1, DX.kq k r⟩
  | val v => exact h
  | un => trivial⟩
/-- less is known of the slots -/
theorem _root_.KD.EnvOk.weak {Δ : List Sv} (E : EnvOk X H σ Γ) (hl : Γ.length = Δ.length) (h : ∀ (i : Nat) (s : Sv), Δ[i]? = some s → s = .un ∨ Γ[i]? = some s) : EnvOk X H σ Δ := ⟨E.len.trans hl, fun i s e => by
  rcases h i s e with rfl | q
  · trivial
  · exact E.get i s q⟩
/-- the spring, the tables; X are lists -/
structure Zt (X : Addr → Prop) (st cl : Addr) (n : Nat) (T : List (Addr × Str)) (H : Hp) : Prop where
  sg : Sg X st cl n H
  tabs : Tabs T H
  lst : ∀ a, X a → ∃ xs, H a = some (.lst xs)
theorem tabs_lst (t : Tabs T H) (k : ∀ b o, H b = some o → (∀ xs, o ≠ .lst xs) → H' b = some o) : Tabs T H' := fun p hp => by
  obtain ⟨ps, h1, h2, h3⟩ := t p hp
  refine ⟨ps, k _ _ h1 (fun _ e => by cases e), h2, fun pos cv hc => ?_⟩
  obtain ⟨c, e1, e2⟩ := h3 pos cv hc
  exact ⟨c, e1, k _ _ e2 fun _ e => by unfold CodeO at e; cases e⟩
theorem Zt.same (Z : Zt X st cl n T H) (s : Same H H') : Zt X st cl n T H' := ⟨Z.sg.same s, Z.tabs.ext s, fun a x => let ⟨xs, e⟩ := Z.lst a x; ⟨xs, s _ _ e⟩⟩
theorem Zt.draw (Z : Zt X st cl n T H) (S : Sg X st cl m H') (k : KpS st cl H H') : Zt X st cl m T H' := by
  obtain ⟨xs1, e1⟩ := Z.lst st Z.sg.x1
  obtain ⟨xs2, e2⟩ := Z.lst cl Z.sg.x2
  refine ⟨S, tabs_lst Z.tabs fun b o e hn => k b o (fun q => ?_) (fun q => ?_) e, fun a x => ?_⟩
  · rw [q, e1] at e
    exact hn xs1 (Option.some.inj e).symm
  · rw [q, e2] at e
    exact hn xs2 (Option.some.inj e).symm
  · obtain ⟨ms, a', b, c, S', _⟩ := S.ok
    by_cases q1 : a = st
    · exact ⟨_, q1 ▸ S'.hs⟩
    · by_cases q2 : a = cl
      · exact ⟨_, q2 ▸ S'.hc⟩
      · obtain ⟨xs, e⟩ := Z.lst a x
        exact ⟨xs, k a _ q1 q2 e⟩
theorem Zt.lam (Z : Zt X st cl n T H) (e : ExtN H H') (t : Tabs T H') : Zt X st cl n T H' := by
  have keep : ∀ a, X a → ∃ xs, H a = some (.lst xs) ∧ H' a = some (.lst xs) := fun a x => by
    obtain ⟨xs, q⟩ := Z.lst a x
    exact ⟨xs, q, e a _ q fun _ z => by cases z⟩
  obtain ⟨ms, a, b, c, S, hb⟩ := Z.sg.ok
  exact ⟨⟨⟨ms, a, b, c, ⟨e _ _ S.hs (fun _ z => by cases z), e _ _ S.hc (fun _ z => by cases z), S.ne, S.a0, S.b0, S.c0, S.c1, S.ml⟩, hb⟩, Z.sg.x1, Z.sg.x2, fun a x => let ⟨xs, _, q⟩ := keep a x; ⟨_, q⟩⟩, t, fun a x => let ⟨xs, _, q⟩ := keep a x; ⟨xs, q⟩⟩
theorem Zt.le (Z : Zt X st cl n T H) (h : n ≤ m) : Zt X st cl m T H := ⟨Z.sg.le h, Z.tabs, Z.lst⟩
/-- one more list of one's own -/
theorem Zt.more {xs : List V} (Z : Zt X st cl n T H) (h : H L = some (.lst xs)) : Zt (fun b => X b ∨ b = L) st cl n T H :=
  ⟨⟨Z.sg.ok, .inl Z.sg.x1, .inl Z.sg.x2, fun a e => e.elim (Z.sg.t a) fun q => ⟨_, q ▸ h⟩⟩, Z.tabs, fun a e => e.elim (Z.lst a) fun q => ⟨_, q ▸ h⟩⟩
theorem Zt.less (m : ∀ a, X a → X' a) (x1 : X st) (x2 : X cl) (Z : Zt X' st cl n T H) : Zt X st cl n T H := ⟨⟨Z.sg.ok, x1, x2, fun a e => Z.sg.t a (m a e)⟩, Z.tabs, fun a e => Z.lst a (m a e)⟩
/-- a list of one's own is changed -/
theorem Zt.put {xs : List V} (Z : Zt X st cl n T H) (k : KpL L H H') (h : H' L = some (.lst xs)) (x : X L) (n1 : L ≠ st) (n2 : L ≠ cl) : Zt X st cl n T H' := by
  obtain ⟨ys, eL⟩ := Z.lst L x
  obtain ⟨ms, a, b, c, S, hb⟩ := Z.sg.ok
  refine ⟨⟨⟨ms, a, b, c, ⟨k _ _ (Ne.symm n1) S.hs, k _ _ (Ne.symm n2) S.hc, S.ne, S.a0, S.b0, S.c0, S.c1, S.ml⟩, hb⟩, Z.sg.x1, Z.sg.x2, fun a e => ?_⟩, tabs_lst Z.tabs fun b o e hn => k b o (fun q => ?_) e, fun a e => ?_⟩
  · by_cases q : a = L
    · exact ⟨_, q ▸ h⟩
    · obtain ⟨xs, z⟩ := Z.lst a e
      exact ⟨_, k a _ q z⟩
  · rw [q, eL] at e
    exact hn ys (Option.some.inj e).symm
  · by_cases q : a = L
    · exact ⟨_, q ▸ h⟩
    · obtain ⟨xs, z⟩ := Z.lst a e
      exact ⟨_, k a _ q z⟩
theorem Kq.put (k : KpL L H H') (x : X L) : Kq X H H' := fun a o n _ e => k a o (fun q => n (q ▸ x)) e
end
/-! ### calls -/
theorem rd_addL {X : Addr → Prop} {xs ys : List PyData} (h : xs.length + ys.length ≤ 1000000) : RD X rAddA (.list xs) (.list ys) (.list (xs ++ ys)) := RD.or2 (RD.or1 (rd_cat h))
section
variable {X : Addr → Prop} {H : Hp} {σ : L2.St} {Γ : List Sv} {T : List (Addr × Str)} {st cl : Addr} {n : Nat} {ta tb : TE} {E : XK} {d d1 d2 r : PyData} {Q : VK} {C C1 C2 C3 : Addr} {f1 f2 f3 t1 t2 t3 fl tag : Str}
theorem g_same {m : Nat} (t : Trk X H) (h1 : G X ta σ H d) (h2 : G X tb σ H d) (hs : sm m d) : G X (tCall (spSame m) [] E (tCons ta (tCons tb tNil))) σ H (.bool true) := fun H1 s Q q =>
  h1 H1 s _ fun v H2 s2 r1 => h2 H2 (s.trans s2) _ fun v2 H3 s3 r2 => ⟨X, v, v2, d, rfl, ((t.mono s).mono s2).mono s3, r1.mono (Kp.of s3), r2, hs, fun H' s4 => q _ H' ((s2.trans s3).trans s4) (.bl true)⟩
/-- repr as a datum -/
theorem g_repr {ds : List PyData} {m : Nat} (h : G X ta σ H (.list ds)) (hne : ds ≠ []) (hs : Sh m (.list ds)) (hm : m ≤ 5) : G X (tCB rReprL (tCons ta tNil)) σ H (.str (PyData.shown (.list ds))) := fun H1 s Q q =>
  h H1 s _ fun v H2 s2 r => ⟨X, v, ds, rfl, r, hne, by have := hs.1; simpa [shw] using this, by have := hs.2.2; simp only [PyData.depth] at this; omega, Nat.le_trans hs.2.1 (Nat.le_trans (lv_le hm) (by decide)), q _ H2 s2 (.str _)⟩
theorem gt_neS {a b : Str} (h1 : G X ta σ H (.str a)) (h2 : G X tb σ H (.str b)) : GT (tTest (tOp rNe ta tb)) σ H (!decide (a = b)) := fun H1 s Q q =>
  h1 H1 s _ fun u H2 s2 r => h2 H2 (s.trans s2) _ fun v H3 s3 r2 => by
    rw [r.str_inv, r2.str_inv]
    refine ⟨rfl, _, rfl, ?_⟩
    have e : decide (V.str a = V.str b) = decide (a = b) := by
      by_cases z : a = b
      · rw [z]
        simp
      · rw [decide_eq_false z, decide_eq_false fun q => z (by cases q; rfl)]
    rw [e]
    exact q H3 (s2.trans s3)
theorem r_repr {ds : List PyData} {m : Nat} {w : V} (r : DX X H w (.list ds)) (hne : ds ≠ []) (hs : Sh m (.list ds)) (hm : m ≤ 5) (q : Q (.str (PyData.shown (.list ds))) H) : rReprL [w] H Q :=
  ⟨X, w, ds, rfl, r, hne, by have := hs.1; simpa [shw] using this, by have := hs.2.2; simp only [PyData.depth] at this; omega, Nat.le_trans hs.2.1 (Nat.le_trans (lv_le hm) (by decide)), q⟩
end
section
variable {σ : L2.St} {H : Hp} {te ta tb : TE} {D : Ends} {r : R2} {Q : VK} {g : TG} {tz tu tw : TS} {tt tv : TT} {tl : TA} {K : PySem.W.Frag} {to th : TO} {Qb : Bool → Hp → Prop} {rs : V → Option Int → Option Int → Hp → VK → Prop}
theorem k_lst (h : tl σ H fun vs H1 => vs.length ≤ sizeLine ∧ ∀ p, H1 p = none → Q (.ref p) (upd H1 p (.lst vs))) : tLst tl σ H Q := h
theorem k_if (h : tt σ H fun b H1 => if b = true then tu { D with nx := tz D } σ H1 else tz D σ H1) : tSeq (tIfS tt tu tNext) tz D σ H := h
theorem k_if1 (h : tt σ H fun b H1 => if b = true then tu D σ H1 else D.nx σ H1) : tIfS tt tu tNext D σ H := h
theorem k_nil {Qa : List V → Hp → Prop} (h : Qa [] H) : tNil σ H Qa := h
theorem k_test (h : te σ H fun v H1 => ∃ b, v = V.bl b ∧ Qb b H1) : tTest te σ H Qb := h
theorem k_or (h : GT tt σ H false) (k : ∀ H1, Same H H1 → tv σ H1 Qb) : tOr tt tv σ H Qb := h H (Same.refl H) _ fun H1 s => k H1 s
end
end K20

/-! Three changes: by one way or by the other, the same. -/
namespace KP
/-- the places behind a passing, told on -/
def passK {α : Type} (p a b q c d : Int) (k : Int → Int → Option α) : Option α :=
  if q + c < p ∨ (q + c = p ∧ b + d = 0) then k q (p + d - c) else if p + b < q ∨ (p + b = q ∧ b + d = 0) then k (q - b + a) p else none
def oneZ (p a b q c d r e f : Int) : Option (Int × Int × Int) := passK p a b q c d fun x2 y1 => passK y1 a b r e f fun x3 z1 => passK x2 c d x3 e f fun u3 u2 => some (u3, u2, z1)
def othZ (p a b q c d r e f : Int) : Option (Int × Int × Int) := passK q c d r e f fun x3 y2 => passK p a b x3 e f fun u3 y1 => passK y1 a b y2 c d fun u2 u1 => some (u3, u2, u1)
theorem cube (p a b q c d r e f : Int) (a0 : 0 ≤ a) (b0 : 0 ≤ b) (c0 : 0 ≤ c) (d0 : 0 ≤ d) (e0 : 0 ≤ e) (f0 : 0 ≤ f) (ab : 0 < a + b) (cd : 0 < c + d) (ef : 0 < e + f) : oneZ p a b q c d r e f = othZ p a b q c d r e f := by
  unfold oneZ othZ passK
  repeat' ((split <;> try (exfalso; omega)) <;> try dsimp only)
  all_goals first | rfl | (refine congrArg some (Prod.ext ?_ (Prod.ext ?_ ?_)) <;> dsimp only <;> omega)
/-- side by side -/
def sideP (p a b q c d : Int) (k : Int → Int → Prop) (n : Prop) : Prop :=
  if q + c < p ∨ (q + c = p ∧ b + d = 0) then k q (p + d - c) else if p + a < q ∨ (p + a = q ∧ b + d = 0) then k (q + b - a) p else n
theorem sideP_in {p a b q c d : Int} {k : Int → Int → Prop} {n : Prop} (h1 : (q + c < p ∨ (q + c = p ∧ b + d = 0)) → k q (p + d - c)) (h2 : ¬ (q + c < p ∨ (q + c = p ∧ b + d = 0)) → (p + a < q ∨ (p + a = q ∧ b + d = 0)) → k (q + b - a) p)
    (h3 : ¬ (q + c < p ∨ (q + c = p ∧ b + d = 0)) → ¬ (p + a < q ∨ (p + a = q ∧ b + d = 0)) → n) : sideP p a b q c d k n := by
  unfold sideP
  split
  · exact h1 ‹_›
  · split
    · exact h2 ‹_› ‹_›
    · exact h3 ‹_› ‹_›
/-- three side by side: the last one behind both others, either way -/
theorem beside3 (p a b q c d r e f : Int) (a0 : 0 ≤ a) (b0 : 0 ≤ b) (c0 : 0 ≤ c) (d0 : 0 ≤ d) (e0 : 0 ≤ e) (f0 : 0 ≤ f) (ab : 0 < a + b) (cd : 0 < c + d) (ef : 0 < e + f) :
    sideP p a b q c d (fun x2 x1 => sideP p a b r e f (fun y3 _ => sideP q c d r e f (fun z3 _ => sideP x2 c d y3 e f (fun u _ => sideP x1 a b z3 e f (fun u' _ => u = u') False) False) True) True) True := by
  repeat' ((apply sideP_in <;> intros) <;> try (exfalso; omega))
  all_goals first | trivial | omega
def passZ (p a b q c d : Int) : Option (Int × Int) := passK p a b q c d fun x y => some (x, y)
def sideZ (p a b q c d : Int) : Option (Int × Int) := if q + c < p ∨ (q + c = p ∧ b + d = 0) then some (q, p + d - c) else if p + a < q ∨ (p + a = q ∧ b + d = 0) then some (q + b - a, p) else none
theorem passK_eq {α : Type} {p a b q c d : Int} {k : Int → Int → Option α} : passK p a b q c d k = (passZ p a b q c d).bind fun xy => k xy.1 xy.2 := by
  unfold passZ passK
  split
  · rfl
  · split <;> rfl
theorem sideP_some {p a b q c d x y : Int} {k : Int → Int → Prop} {n : Prop} (h : sideP p a b q c d k n) (e : sideZ p a b q c d = some (x, y)) : k x y := by
  unfold sideP at h
  unfold sideZ at e
  split at e
  · rename_i h1
    cases e
    rwa [if_pos h1] at h
  · rename_i h1
    rw [if_neg h1] at h
    split at e
    · rename_i h2
      cases e
      rwa [if_pos h2] at h
    · cases e
theorem sideP_none {p a b q c d : Int} {k : Int → Int → Prop} {n : Prop} (h : sideP p a b q c d k n) (e : sideZ p a b q c d = none) : n := by
  unfold sideP at h
  unfold sideZ at e
  split at e
  · cases e
  · rename_i h1
    rw [if_neg h1] at h
    split at e
    · cases e
    · rename_i h2
      rwa [if_neg h2] at h
end KP

/-! What passing tells: facts of texts. -/
namespace K20
open PySem PySem.Spec PyProof.Rows L2 KD KP
theorem pass_texts {ws os ns us vs : List Str} {p q x y : Nat} (hp : p + os.length ≤ ws.length) (hq : q + us.length ≤ ws.length - os.length + ns.length) (hx : x + us.length ≤ ws.length) (hy : y + os.length ≤ ws.length - us.length + vs.length)
    (h : PassAt p os.length ns.length q us.length vs.length x y) : putB (putB ws x us vs) y os ns = putB (putB ws p os ns) q us vs := by
  apply List.ext_getElem?
  intro i
  rw [put_get (ws := putB ws x us vs) (by rw [put_len hx]; exact hy), put_get (ws := putB ws p os ns) (by rw [put_len hp]; exact hq)]
  simp only [put_get hx, put_get hp]
  unfold PassAt at h
  rcases h with ⟨h1, rfl, h3⟩ | ⟨h1, h2, rfl⟩
  · repeat' split
    all_goals first | rfl | (exfalso; omega) | (congr 1; omega)
  · repeat' split
    all_goals first | rfl | (exfalso; omega) | (congr 1; omega)
/-! ### passing by numbers -/
theorem apart_iff {P Q : Int} {b d c : List Str} : apartB b d (P - Q - c.length) = true ↔ (Q + c.length < P ∨ (Q + c.length = P ∧ (b.length : Int) + d.length = 0)) := by
  unfold apartB
  simp only [Bool.or_eq_true, Bool.and_eq_true, decide_eq_true_eq]
  omega
theorem passB_Z {p q : Int} {os ns us vs : List Str} : passB p os ns q us vs = (match passZ p os.length ns.length q us.length vs.length with
    | none => .none
    | some (x, y) => .tuple [chD x us vs, chD y os ns]) := by
  unfold passB passZ passK
  by_cases h1 : apartB ns vs (p - q - us.length) = true
  · rw [if_pos h1, if_pos (apart_iff.mp h1)]
  · rw [if_neg h1, if_neg (fun z => h1 (apart_iff.mpr z))]
    by_cases h2 : apartB ns vs (q - p - ns.length) = true
    · rw [if_pos h2, if_pos (apart_iff.mp h2)]
    · rw [if_neg h2, if_neg (fun z => h2 (apart_iff.mpr z))]
theorem besideB_Z {p q : Int} {os ns us vs : List Str} : besideB p os ns q us vs = (match sideZ p os.length ns.length q us.length vs.length with
    | none => .none
    | some (x, y) => .tuple [chD x us vs, chD y os ns]) := by
  unfold besideB sideZ
  by_cases h1 : apartB ns vs (p - q - us.length) = true
  · rw [if_pos h1, if_pos (apart_iff.mp h1)]
  · rw [if_neg h1, if_neg (fun z => h1 (apart_iff.mpr z))]
    by_cases h2 : apartB ns vs (q - p - os.length) = true
    · rw [if_pos h2, if_pos (apart_iff.mp h2)]
    · rw [if_neg h2, if_neg (fun z => h2 (apart_iff.mpr z))]
theorem passZ_nat {p a b q c d : Nat} {X Y : Int} (h : passZ p a b q c d = some (X, Y)) : ∃ x y : Nat, X = x ∧ Y = y ∧ PassAt p a b q c d x y := by
  unfold passZ passK at h
  split at h
  · cases h
    exact ⟨q, p + d - c, rfl, by omega, .inl ⟨by omega, rfl, by omega⟩⟩
  · split at h
    · cases h
      exact ⟨q + a - b, p, by omega, rfl, .inr ⟨by omega, by omega, rfl⟩⟩
    · cases h
theorem sideZ_nat {p a b q c d : Nat} {X Y : Int} (h : sideZ p a b q c d = some (X, Y)) : 0 ≤ X ∧ 0 ≤ Y := by
  unfold sideZ at h
  split at h
  · cases h
    omega
  · split at h
    · cases h
      omega
    · cases h
/-! ### two neighbours that pass leave the same records -/
theorem stepH_len {s : Str} {p a b : Nat} {l : List Ln} (h : p + 1 + a ≤ l.length) : (stepH s p a b l).length = l.length - a + b := by
  unfold stepH
  rw [List.length_append, List.length_append, List.length_take, List.length_drop, own_len]
  omega
theorem step_pass {s t : Str} {p a b q c d x y : Nat} {l : List Ln} (hp : p + 1 + a < l.length) (hq : q + 1 + c < l.length - a + b) (h : PassAt p a b q c d x y) :
    x + 1 + c < l.length ∧ y + 1 + a < l.length - c + d ∧ stepH s y a b (stepH t x c d l) = stepH t q c d (stepH s p a b l) ∧ rowH t x c d l = rowH t q c d (stepH s p a b l) ∧ burH x c l = burH q c (stepH s p a b l) ∧
    rowH s y a b (stepH t x c d l) = rowH s p a b l ∧ burH y a (stepH t x c d l) = burH p a l := by
  have hx : x + 1 + c < l.length := by unfold PassAt at h; omega
  have hy : y + 1 + a < l.length - c + d := by unfold PassAt at h; omega
  have l1 : (stepH s p a b l).length = l.length - a + b := stepH_len (by omega)
  have l2 : (stepH t x c d l).length = l.length - c + d := stepH_len (by omega)
  have g1 : ∀ k, (stepH s p a b l)[k]? = if k ≤ p then l[k]? else if k ≤ p + b then some (s, k - p - 1) else l[k - b + a]? := fun k => step_get (by omega)
  have g2 : ∀ k, (stepH t x c d l)[k]? = if k ≤ x then l[k]? else if k ≤ x + d then some (t, k - x - 1) else l[k - d + c]? := fun k => step_get (by omega)
  unfold PassAt at h
  refine ⟨hx, hy, ?_, row_eq (fun z => ?_) (fun z => ?_), bur_eq (fun i hi => ?_), row_eq (fun z => ?_) (fun z => ?_), bur_eq (fun i hi => ?_)⟩
  · apply List.ext_getElem?
    intro k
    rw [step_get (l := stepH t x c d l) (by omega), step_get (l := stepH s p a b l) (by omega)]
    simp only [g1, g2]
    rcases h with ⟨h1, rfl, h3⟩ | ⟨h1, h2, rfl⟩
    · repeat' split
      all_goals first | rfl | (exfalso; omega) | (congr 1; omega) | (congr 2; omega)
    · repeat' split
      all_goals first | rfl | (exfalso; omega) | (congr 1; omega) | (congr 2; omega)
  · rw [g1]
    rcases h with ⟨h1, rfl, h3⟩ | ⟨h1, h2, rfl⟩
    · rw [if_pos (by omega)]
    · rw [if_neg (by omega), if_neg (by omega)]
      congr 1
      omega
  · rw [g1]
    rcases h with ⟨h1, rfl, h3⟩ | ⟨h1, h2, rfl⟩
    · rw [if_pos (by omega)]
    · rw [if_neg (by omega), if_neg (by omega)]
      congr 1
      omega
  · rw [g1]
    rcases h with ⟨h1, rfl, h3⟩ | ⟨h1, h2, rfl⟩
    · rw [if_pos (by omega)]
    · rw [if_neg (by omega), if_neg (by omega)]
      congr 1
      omega
  · rw [g2]
    rcases h with ⟨h1, rfl, h3⟩ | ⟨h1, h2, rfl⟩
    · rw [if_neg (by omega), if_neg (by omega)]
      congr 1
      omega
    · rw [if_pos (by omega)]
  · rw [g2]
    rcases h with ⟨h1, rfl, h3⟩ | ⟨h1, h2, rfl⟩
    · rw [if_neg (by omega), if_neg (by omega)]
      congr 1
      omega
    · rw [if_pos (by omega)]
  · rw [g2]
    rcases h with ⟨h1, rfl, h3⟩ | ⟨h1, h2, rfl⟩
    · rw [if_neg (by omega), if_neg (by omega)]
      congr 1
      omega
    · rw [if_pos (by omega)]
/-! ### words -/
def Wd (ws : List Str) : Prop := ws.length ≤ 100 ∧ ∀ z ∈ ws, isWordsD (.str z) = true ∧ PyData.strOk z = true
theorem Wd.ok {ws : List Str} (h : Wd ws) : WsOk ws := ⟨by have := h.1; omega, fun z hz => (h.2 z hz).2⟩
theorem Wd.of {ws : List Str} (hl : ws.length ≤ 100) (h : ∀ z ∈ ws, z ∈ goodW) : Wd ws := ⟨hl, fun z hz => ⟨goodW_is z (h z hz), allW_str z (good_all z (h z hz))⟩⟩
theorem Wd.wrong {ws : List Str} (h : Wd ws) : wrongD (wsD ws) = .none := by
  unfold wrongD
  rw [show isSeq (wsD ws) = true from rfl, if_pos rfl]
  exact ff_all fun z hz => by
    obtain ⟨s, hs, rfl⟩ := List.mem_map.mp hz
    exact (h.2 s hs).1
theorem Wd.all {ws : List Str} (h : Wd ws) : wordsAll (wsD ws) := fun _ => ⟨by show (ws.map PyData.str).length ≤ _; rw [List.length_map]; have := h.1; omega, fun z hz => by
  obtain ⟨s, hs, rfl⟩ := List.mem_map.mp hz
  have := (h.2 s hs).1
  simp only [isWordsD, Bool.and_eq_true, decide_eq_true_eq] at this
  show s.length ≤ 1000000
  omega⟩
def ChX (p : Int) (os ns : List Str) (d : PyData) : Prop := d = chD p os ns ∨ d = .list [.int p, wsD os, wsD ns]
section
variable {p q : Int} {os ns us vs ws : List Str} {a b d : PyData} {C : Addr}
theorem ChX.its (h : ChX p os ns d) : isSeq d = true ∧ itemsD d = [.int p, wsD os, wsD ns] := by
  rcases h with rfl | rfl <;> exact ⟨rfl, rfl⟩
theorem ChX.parts (h : ChX p os ns d) : it d 0 = .int p ∧ it d 1 = wsD os ∧ it d 2 = wsD ns := by
  obtain ⟨_, e⟩ := h.its
  unfold it
  rw [e]
  exact ⟨rfl, rfl, rfl⟩
theorem len_wsD : lenD (wsD ws) = ws.length := by
  show (ws.map PyData.str).length = _
  rw [List.length_map]
theorem ChX.is (h : ChX p os ns d) (h0 : 0 ≤ p) (g1 : Wd os) (g2 : Wd ns) (hl : 0 < os.length + ns.length) : isChangeD d = true := by
  obtain ⟨s, e⟩ := h.its
  obtain ⟨e0, e1, e2⟩ := h.parts
  unfold isChangeD ch3
  rw [s, e0, e1, e2, e, g1.wrong, g2.wrong, len_wsD, len_wsD]
  simp [isNumD, isNone, h0]
  omega
theorem ChX.pre (h : ChX p os ns d) (g1 : Wd os) (g2 : Wd ns) : chPre d := fun _ => by
  obtain ⟨s, e⟩ := h.its
  rw [e]
  refine ⟨by simp, fun z hz => ?_⟩
  simp at hz
  rcases hz with rfl | rfl | rfl
  · exact fun h => by cases h
  · exact g1.all
  · exact g2.all
theorem ChX.ok (h : ChX p os ns d) (g1 : Wd os) (g2 : Wd ns) : WsOk (wsOf (it d 1)) ∧ WsOk (wsOf (it d 2)) := by
  obtain ⟨_, e1, e2⟩ := h.parts
  rw [e1, e2, wsOf_wsD, wsOf_wsD]
  exact ⟨g1.ok, g2.ok⟩
theorem two_pre (ha : ChX p os ns a) (hb : ChX q us vs b) (g1 : Wd os) (g2 : Wd ns) (g3 : Wd us) (g4 : Wd vs) : twoPre a b := ⟨ha.pre g1 g2, hb.pre g3 g4, fun _ => ha.ok g1 g2, fun _ => hb.ok g3 g4⟩
theorem two_val {g : Int → List Str → List Str → Int → List Str → List Str → PyData} (ha : ChX p os ns a) (hb : ChX q us vs b) (i1 : isChangeD a = true) (i2 : isChangeD b = true) : twoOut g C a b = .val (g p os ns q us vs) := by
  obtain ⟨a0, a1, a2⟩ := ha.parts
  obtain ⟨b0, b1, b2⟩ := hb.parts
  unfold twoOut
  rw [i1, i2, a0, a1, a2, b0, b1, b2, wsOf_wsD, wsOf_wsD, wsOf_wsD, wsOf_wsD]
  rfl
theorem two_no1 {g : Int → List Str → List Str → Int → List Str → List Str → PyData} (i1 : isChangeD a = false) : twoOut g C a b = .err C "thing" a := by
  unfold twoOut
  rw [i1]
  rfl
theorem two_no2 {g : Int → List Str → List Str → Int → List Str → List Str → PyData} (i1 : isChangeD a = true) (i2 : isChangeD b = false) : twoOut g C a b = .err C "thing" b := by
  unfold twoOut
  rw [i1, i2]
  rfl
end
/-! ### small data are the same -/
theorem sm_leaf {d : PyData} (n : Nat) (h : leaf d = true) : sm n d := by
  cases n with
  | zero => exact h
  | succ n => cases d <;> first | exact h | cases h
theorem sm_ws {ws : List Str} (n : Nat) (h : WsOk ws) : sm (n + 1) (wsD ws) := ⟨by rw [List.length_map]; have := h.1; omega, fun z hz => by
  obtain ⟨x, hx, rfl⟩ := List.mem_map.mp hz
  exact sm_leaf n (h.2 x hx)⟩
theorem sm_ch {p : Int} {os ns : List Str} (n : Nat) (h1 : WsOk os) (h2 : WsOk ns) : sm (n + 2) (chD p os ns) := ⟨by simp, fun z hz => by
  simp at hz
  rcases hz with rfl | rfl | rfl
  · exact sm_leaf _ rfl
  · exact sm_ws n h1
  · exact sm_ws n h2⟩
theorem sm_two {p q : Int} {os ns us vs : List Str} (n : Nat) (h1 : WsOk os) (h2 : WsOk ns) (h3 : WsOk us) (h4 : WsOk vs) : sm (n + 3) (.tuple [chD p os ns, chD q us vs]) := ⟨by simp, fun z hz => by
  simp at hz
  rcases hz with rfl | rfl
  · exact sm_ch n h1 h2
  · exact sm_ch n h3 h4⟩
/-! ### what is drawn -/
theorem take_mem {α : Type} {l r : List α} {a b : Nat} (e : r = (l.drop a).take b) : ∀ z ∈ r, z ∈ l := fun z hz => by
  rw [e] at hz
  exact List.mem_of_mem_drop (List.mem_of_mem_take hz)
theorem put_in {ws ns os : List Str} {p : Int} {z : Str} (hz : z ∈ putB ws p os ns) : z ∈ ws ∨ z ∈ ns := by
  unfold putB at hz
  rcases List.mem_append.mp hz with h | h
  · rcases List.mem_append.mp h with h | h
    · exact .inl (List.mem_of_mem_take h)
    · exact .inr h
  · exact .inl (List.mem_of_mem_drop h)
end K20

/-! Runs of several steps: texts and records. -/
namespace K20
open PySem PySem.Spec PyProof.Rows L2 KD KP
/-! ### texts -/
def fitN (ws : List Str) (p : Nat) (os : List Str) : Prop := p + os.length ≤ ws.length ∧ (ws.drop p).take os.length = os
theorem swap2 {ws os ns us vs : List Str} {p q x y : Nat} (f1 : fitN ws p os) (f2 : fitN (putB ws p os ns) q us) (h : PassAt p os.length ns.length q us.length vs.length x y) :
    fitN ws x us ∧ fitN (putB ws x us vs) y os ∧ putB (putB ws x us vs) y os ns = putB (putB ws p os ns) q us vs := by
  obtain ⟨a1, a2⟩ := f1
  obtain ⟨b1, b2⟩ := f2
  rw [put_len a1] at b1
  obtain ⟨c1, c2, c3, c4⟩ := pass_fits a1 a2 b1 b2 h
  exact ⟨⟨c1, c2⟩, ⟨by rw [put_len c1]; exact c3, c4⟩, pass_texts a1 b1 c1 c3 h⟩
theorem swap3 {ws os ns us vs as bs : List Str} {p q r x2 y1 x3 z1 u3 u2 : Nat} (f1 : fitN ws p os) (f2 : fitN (putB ws p os ns) q us) (f3 : fitN (putB (putB ws p os ns) q us vs) r as)
    (h1 : PassAt p os.length ns.length q us.length vs.length x2 y1) (h2 : PassAt y1 os.length ns.length r as.length bs.length x3 z1) (h3 : PassAt x2 us.length vs.length x3 as.length bs.length u3 u2) :
    fitN ws u3 as ∧ fitN (putB ws u3 as bs) u2 us ∧ fitN (putB (putB ws u3 as bs) u2 us vs) z1 os ∧ putB (putB (putB ws u3 as bs) u2 us vs) z1 os ns = putB (putB (putB ws p os ns) q us vs) r as bs := by
  obtain ⟨a1, a2, a3⟩ := swap2 f1 f2 h1
  rw [← a3] at f3
  obtain ⟨b1, b2, b3⟩ := swap2 a2 f3 h2
  obtain ⟨c1, c2, c3⟩ := swap2 a1 b1 h3
  exact ⟨c1, c2, c3 ▸ b2, by rw [c3, b3, a3]⟩
/-! ### records -/
def okLn : Nat → List Stp → Prop
  | _, [] => True
  | n, r :: rs => (PyData.strOk r.name = true ∧ 0 ≤ r.p ∧ WsOk r.os ∧ WsOk r.ns ∧ r.p.toNat + r.os.length ≤ n) ∧ okLn (n - r.os.length + r.ns.length) rs
theorem fit_run : ∀ {rs : List Stp} {s : KDs × List Ln} {n : Nat}, s.2.length = n + 2 → n + 1000 * rs.length ≤ 90000 → okLn n rs → ∀ (i : Nat) (r : Stp), rs[i]? = some r → fitAt r ((rs.take i).foldl goRec s).2
  | [], _, _, _, _, _, i, r, h => by cases i <;> cases h
  | r0 :: rs, s, n, hl, hn, ⟨⟨o1, o2, o3, o4, o5⟩, ho⟩, i, r, h => by
    rw [List.length_cons] at hn
    have e4 := o4.1
    match i, h with
    | 0, h =>
      cases h
      exact ⟨o1, o2, o3, o4, by rw [List.take_zero, List.foldl_nil, hl]; omega, by rw [List.take_zero, List.foldl_nil, hl]; omega⟩
    | i + 1, h =>
      rw [List.take_succ_cons, List.foldl_cons]
      refine fit_run (n := n - r0.os.length + r0.ns.length) ?_ (by omega) ho i r h
      show (stepH r0.name r0.p.toNat r0.os.length r0.ns.length s.2).length = _
      rw [stepH_len (by omega), hl]
      omega
def recL : List Ln → List Stp → KDs
  | _, [] => []
  | l, r :: rs => (.inr r.name, recD r.name r.p r.os r.ns l) :: recL (stepH r.name r.p.toNat r.os.length r.ns.length l) rs
theorem recL_keys : ∀ {rs : List Stp} {l : List Ln}, (recL l rs).map Prod.fst = rs.map fun r => (Sum.inr r.name : Key)
  | [], _ => rfl
  | r :: rs, l => by
    unfold recL
    rw [List.map_cons, List.map_cons, recL_keys]
theorem recs_fold : ∀ {rs : List Stp} {d : KDs} {l : List Ln}, (rs.map Stp.name).Nodup → (∀ r ∈ rs, ∀ p ∈ d, p.1 ≠ .inr r.name) → (rs.foldl goRec (d, l)).1 = d ++ recL l rs
  | [], d, l, _, _ => by simp [recL]
  | r :: rs, d, l, nd, hd => by
    rw [List.map_cons, List.nodup_cons] at nd
    rw [List.foldl_cons]
    have e : goRec (d, l) r = (d ++ [(.inr r.name, recD r.name r.p r.os r.ns l)], stepH r.name r.p.toNat r.os.length r.ns.length l) := by
      show (putD d (.inr r.name) _, _) = _
      unfold putD
      rw [if_neg]
      intro z
      obtain ⟨p, hp, hq⟩ := List.any_eq_true.mp z
      exact hd r List.mem_cons_self p hp (of_decide_eq_true hq)
    rw [e, recs_fold nd.2, recL, List.append_assoc]
    · rfl
    · intro r2 h2 p hp
      rcases List.mem_append.mp hp with h | h
      · exact hd r2 (List.mem_cons_of_mem _ h2) p h
      · rw [List.mem_singleton.mp h]
        intro z
        have z' : r.name = r2.name := Sum.inr.inj z
        exact nd.1 (z' ▸ List.mem_map_of_mem (f := Stp.name) h2)
theorem recs_is {n : Nat} {rs : List Stp} (nd : (rs.map Stp.name).Nodup) : (recs n rs).1 = recL (here0 n) rs := by
  have := recs_fold (d := []) (l := here0 n) nd (fun r _ p hp => by cases hp)
  exact this
theorem valD_mem : ∀ {bs : KDs} {k : Key} {d : PyData}, (bs.map Prod.fst).Nodup → (k, d) ∈ bs → valD bs k = some d
  | [], _, _, _, h => by cases h
  | (k0, d0) :: bs, k, d, nd, h => by
    rw [List.map_cons, List.nodup_cons] at nd
    unfold valD
    rw [List.find?_cons]
    rcases List.mem_cons.mp h with e | e
    · cases e
      simp
    · have ne : k0 ≠ k := fun z => nd.1 (by show k0 ∈ _; rw [z]; exact List.mem_map_of_mem (f := Prod.fst) e)
      simp only [ne, decide_false]
      have := valD_mem nd.2 e
      unfold valD at this
      exact this
theorem hitB_all {bs : KDs} : ∀ {as : KDs}, (∀ p ∈ as, valD bs p.1 = some p.2 ∧ PyData.eqv p.2 p.2 = true) → hitB bs as = true
  | [], _ => rfl
  | p :: as, h => by
    obtain ⟨h1, h2⟩ := h p List.mem_cons_self
    unfold hitB
    rw [h1]
    show (PyData.eqv p.2 p.2 && hitB bs as) = true
    rw [h2, hitB_all fun q hq => h q (List.mem_cons_of_mem _ hq)]
    rfl
theorem eqK_perm {as bs : KDs} (hp : as.Perm bs) (nd : (bs.map Prod.fst).Nodup) (h : ∀ p ∈ as, PyData.eqv p.2 p.2 = true) : eqK as bs = true := by
  unfold eqK
  rw [Bool.and_eq_true]
  exact ⟨decide_eq_true hp.length_eq, hitB_all fun p m => ⟨valD_mem nd (hp.mem_iff.mp m), h p m⟩⟩
theorem recL_eqv : ∀ {rs : List Stp} {l : List Ln}, ∀ p ∈ recL l rs, PyData.eqv p.2 p.2 = true
  | [], _, p, h => by cases h
  | r :: rs, l, p, h => by
    unfold recL at h
    rcases List.mem_cons.mp h with e | e
    · rw [e]
      exact (eqv_rec (name := r.name) (p := r.p) (q := r.p) (os := r.os) (ns := r.ns) (l := l) (m := l)).1 ⟨rfl, rfl⟩
    · exact recL_eqv p e
/-- a run with a change of order: the records are the same -/
theorem rec_same {nm : Str} {p q : Nat} {os ns : List Str} {l m : List Ln} (h1 : rowH nm p os.length ns.length l = rowH nm q os.length ns.length m) (h2 : burH p os.length l = burH q os.length m) : recD nm (p : Int) os ns l = recD nm (q : Int) os ns m := by
  unfold recD
  rw [Int.toNat_natCast, Int.toNat_natCast, h1, h2]
theorem recs3 {n : Nat} {a b c : Str} {os ns us vs as bs : List Str} {p q r x2 y1 x3 z1 u3 u2 : Nat} (nd : [a, b, c].Nodup) (hp : p + os.length ≤ n) (hq : q + us.length ≤ n - os.length + ns.length) (hr : r + as.length ≤ n - os.length + ns.length - us.length + vs.length)
    (h1 : PassAt p os.length ns.length q us.length vs.length x2 y1) (h2 : PassAt y1 os.length ns.length r as.length bs.length x3 z1) (h3 : PassAt x2 us.length vs.length x3 as.length bs.length u3 u2) :
    eqK (recs n [⟨c, u3, as, bs⟩, ⟨b, u2, us, vs⟩, ⟨a, z1, os, ns⟩]).1 (recs n [⟨a, p, os, ns⟩, ⟨b, q, us, vs⟩, ⟨c, r, as, bs⟩]).1 = true := by
  have nd' : [c, b, a].Nodup := (List.reverse_perm [a, b, c]).nodup_iff.mpr nd
  rw [recs_is (rs := [⟨a, p, os, ns⟩, ⟨b, q, us, vs⟩, ⟨c, r, as, bs⟩]) nd, recs_is (rs := [⟨c, u3, as, bs⟩, ⟨b, u2, us, vs⟩, ⟨a, z1, os, ns⟩]) nd']
  have l0 : (here0 n).length = n + 2 := here0_len
  obtain ⟨A1, A2, A3, A4, A5, A6, A7⟩ := step_pass (s := a) (t := b) (l := here0 n) (by omega) (by omega) h1
  have l1 : (stepH a p os.length ns.length (here0 n)).length = n + 2 - os.length + ns.length := by rw [stepH_len (by omega), l0]
  have l2 : (stepH b x2 us.length vs.length (here0 n)).length = n + 2 - us.length + vs.length := by rw [stepH_len (by omega), l0]
  obtain ⟨B1, B2, B3, B4, B5, B6, B7⟩ := step_pass (s := a) (t := c) (l := stepH b x2 us.length vs.length (here0 n)) (by omega) (by omega) h2
  obtain ⟨C1, C2, C3, C4, C5, C6, C7⟩ := step_pass (s := b) (t := c) (l := here0 n) (by omega) (by omega) h3
  have e : recL (here0 n) [⟨c, u3, as, bs⟩, ⟨b, u2, us, vs⟩, ⟨a, z1, os, ns⟩] = (recL (here0 n) [⟨a, p, os, ns⟩, ⟨b, q, us, vs⟩, ⟨c, r, as, bs⟩]).reverse := by
    simp only [recL, Int.toNat_natCast, List.reverse_cons, List.reverse_nil, List.nil_append, List.cons_append]
    rw [C3]
    rw [rec_same (C4.trans (B4.trans (by rw [A3]))) (C5.trans (B5.trans (by rw [A3]))), rec_same (C6.trans A4) (C7.trans A5), rec_same (B6.trans A6) (B7.trans A7)]
  rw [e]
  refine eqK_perm (List.reverse_perm _) ?_ fun p hp => recL_eqv p (List.mem_reverse.mp hp)
  rw [recL_keys]
  exact List.Pairwise.map (fun (r : Stp) => (Sum.inr r.name : Key)) (R := fun r s => r.name ≠ s.name) (fun r s h z => h (Sum.inr.inj z)) (List.Pairwise.of_map Stp.name (fun r s h => h) nd)
end K20

/-! Two runs, one beside the other: the grid of what each step becomes, and the ways through it. -/
namespace KGr
variable {C : Type} (s : C → C → Option (C × C))
def rowP : C → List C → Option (List C × C)
  | m, [] => some ([], m)
  | m, t :: ts => (s m t).bind fun p => (rowP p.2 ts).bind fun q => some (p.1 :: q.1, q.2)
def colP : List C → C → Option (C × List C)
  | [], t => some (t, [])
  | m :: ms, t => (s m t).bind fun p => (colP ms p.1).bind fun q => some (q.1, p.2 :: q.2)
/-- by theirs, one after another -/
def besF : List C → List C → Option (List C × List C)
  | ms, [] => some ([], ms)
  | ms, t :: ts => (colP s ms t).bind fun p => (besF p.2 ts).bind fun q => some (p.1 :: q.1, q.2)
/-- by mine -/
def colF : List C → List C → Option (List C × List C)
  | [], ts => some (ts, [])
  | m :: ms, ts => (rowP s m ts).bind fun p => (colF ms p.1).bind fun q => some (q.1, p.2 :: q.2)
theorem bes_cons (m : C) (ms : List C) : ∀ (ts : List C) (m0 : C) (ms0 : List C), m0 = m → ms0 = ms → besF s (m0 :: ms0) ts = (rowP s m0 ts).bind fun p => (besF s ms0 p.1).bind fun q => some (q.1, p.2 :: q.2) := by
  intro ts
  induction ts generalizing m ms with
  | nil =>
    intro m0 ms0 _ _
    simp [besF, rowP]
  | cons t ts ih =>
    intro m0 ms0 _ _
    simp only [besF, rowP, colP]
    cases h : s m0 t with
    | none => simp
    | some p =>
      simp only [Option.bind_some]
      cases h1 : colP s ms0 p.1 with
      | none =>
        cases h2 : rowP s p.2 ts with
        | none => simp
        | some q => simp [besF, h1]
      | some c =>
        simp only [Option.bind_some]
        rw [ih p.2 c.2 p.2 c.2 rfl rfl]
        cases h2 : rowP s p.2 ts with
        | none => simp
        | some q =>
          simp only [Option.bind_some, besF, h1]
          cases besF s c.2 q.1 with
          | none => simp
          | some r => simp
theorem bes_nil : ∀ ts : List C, besF s [] ts = some (ts, [])
  | [] => rfl
  | t :: ts => by simp [besF, colP, bes_nil ts]
theorem bes_col : ∀ (ms ts : List C), besF s ms ts = colF s ms ts
  | [], ts => by rw [bes_nil]; rfl
  | m :: ms, ts => by
    rw [bes_cons s m ms ts m ms rfl rfl, colF]
    congr 1
    funext p
    rw [bes_col ms p.1]
section
variable {s}
variable (sym : ∀ a b b' a', s a b = some (b', a') → s b a = some (a', b'))
include sym
theorem sym_none {a b : C} (h : s a b = none) : s b a = none := by
  cases e : s b a with
  | none => rfl
  | some p =>
    have := sym b a p.1 p.2 e
    rw [h] at this
    cases this
theorem col_row (m : C) : ∀ (ts : List C) (m0 : C), colP s ts m0 = (rowP s m0 ts).map fun p => (p.2, p.1)
  | [], m0 => rfl
  | t :: ts, m0 => by
    simp only [colP, rowP]
    cases h : s m0 t with
    | none => rw [sym_none sym h]; rfl
    | some p =>
      rw [sym m0 t p.1 p.2 h]
      simp only [Option.bind_some]
      rw [col_row m ts p.2]
      cases rowP s p.2 ts with
      | none => rfl
      | some q => rfl
theorem back_col : ∀ (ms ts : List C), besF s ts ms = (colF s ms ts).map fun p => (p.2, p.1)
  | [], ts => rfl
  | m :: ms, ts => by
    simp only [besF, colF]
    rw [col_row sym m ts m]
    cases rowP s m ts with
    | none => rfl
    | some p =>
      simp only [Option.map_some, Option.bind_some]
      rw [back_col ms p.1]
      cases colF s ms p.1 with
      | none => rfl
      | some q => rfl
end
/-! ### ways through the grid -/
inductive Way : List C → List C → List C → Prop
  | nil : Way [] [] []
  | mine {m m' : C} {ms ts ts' L : List C} : rowP s m ts = some (ts', m') → Way ms ts' L → Way (m :: ms) ts (m :: L)
  | theirs {t t' : C} {ms ms' ts L : List C} : colP s ms t = some (t', ms') → Way ms' ts L → Way ms (t :: ts) (t :: L)
theorem way_ts : ∀ ts : List C, Way s [] ts ts
  | [] => .nil
  | t :: ts => .theirs (t' := t) (ms' := []) rfl (way_ts ts)
theorem way_ms : ∀ ms : List C, Way s ms [] ms
  | [] => .nil
  | m :: ms => .mine (ts' := []) (m' := m) rfl (way_ms ms)
theorem way_first : ∀ (ms ts f g : List C), colF s ms ts = some (f, g) → Way s ms ts (ms ++ f)
  | [], ts, f, g, h => by
    simp only [colF] at h
    cases h
    exact way_ts s ts
  | m :: ms, ts, f, g, h => by
    simp only [colF] at h
    cases h1 : rowP s m ts with
    | none => rw [h1] at h; cases h
    | some p =>
      rw [h1] at h
      simp only [Option.bind_some] at h
      cases h2 : colF s ms p.1 with
      | none => rw [h2] at h; cases h
      | some q =>
        rw [h2] at h
        cases h
        exact .mine h1 (way_first ms p.1 q.1 q.2 h2)
theorem way_last : ∀ (ts ms f g : List C), besF s ms ts = some (f, g) → Way s ms ts (ts ++ g)
  | [], ms, f, g, h => by
    simp only [besF] at h
    cases h
    exact way_ms s ms
  | t :: ts, ms, f, g, h => by
    simp only [besF] at h
    cases h1 : colP s ms t with
    | none => rw [h1] at h; cases h
    | some p =>
      rw [h1] at h
      simp only [Option.bind_some] at h
      cases h2 : besF s p.2 ts with
      | none => rw [h2] at h; cases h
      | some q =>
        rw [h2] at h
        cases h
        exact .theirs h1 (way_last ts p.2 q.1 q.2 h2)
section
variable {s} (isM : C → Bool) (keep : ∀ a b b' a', s a b = some (b', a') → isM b' = isM b ∧ isM a' = isM a)
include keep
theorem row_kind {m : C} : ∀ {ts ts' : List C} {m' : C} {m0 : C}, rowP s m0 ts = some (ts', m') → isM m' = isM m0 ∧ ts'.map isM = ts.map isM
  | [], ts', m', m0, h => by
    simp only [rowP] at h
    cases h
    exact ⟨rfl, rfl⟩
  | t :: ts, ts', m', m0, h => by
    simp only [rowP] at h
    cases h1 : s m0 t with
    | none => rw [h1] at h; cases h
    | some p =>
      rw [h1] at h
      simp only [Option.bind_some] at h
      cases h2 : rowP s p.2 ts with
      | none => rw [h2] at h; cases h
      | some q =>
        rw [h2] at h
        cases h
        obtain ⟨k1, k2⟩ := keep m0 t p.1 p.2 h1
        obtain ⟨k3, k4⟩ := row_kind (m := m) h2
        exact ⟨k3.trans k2, by rw [List.map_cons, List.map_cons, k1, k4]⟩
theorem col_kind : ∀ {ms ms' : List C} {t t' : C}, colP s ms t = some (t', ms') → isM t' = isM t ∧ ms'.map isM = ms.map isM
  | [], ms', t, t', h => by
    simp only [colP] at h
    cases h
    exact ⟨rfl, rfl⟩
  | m :: ms, ms', t, t', h => by
    simp only [colP] at h
    cases h1 : s m t with
    | none => rw [h1] at h; cases h
    | some p =>
      rw [h1] at h
      simp only [Option.bind_some] at h
      cases h2 : colP s ms p.1 with
      | none => rw [h2] at h; cases h
      | some q =>
        rw [h2] at h
        cases h
        obtain ⟨k1, k2⟩ := keep m t p.1 p.2 h1
        obtain ⟨k3, k4⟩ := col_kind h2
        exact ⟨k3.trans k1, by rw [List.map_cons, List.map_cons, k2, k4]⟩
/-- a corner turned -/
theorem way_flip (pass : C → C → Option (C × C)) (po : ∀ a b b' a', s a b = some (b', a') → pass a b' = some (b, a')) : ∀ {A ms ts B : List C} {a b : C}, (∀ m ∈ ms, isM m = true) → (∀ t ∈ ts, isM t = false) → Way s ms ts (A ++ a :: b :: B) → isM a = true → isM b = false →
    ∃ b0 a', pass a b = some (b0, a') ∧ isM b0 = false ∧ isM a' = true ∧ Way s ms ts (A ++ b0 :: a' :: B) := by
  intro A
  induction A with
  | nil =>
    intro ms ts B a b hm ht w ha hb
    cases w with
    | theirs h w => exact absurd ha (by rw [ht a List.mem_cons_self]; simp)
    | @mine m m' ms ts ts' L h w =>
      obtain ⟨_, k2⟩ := row_kind (m := a) isM keep h
      cases w with
      | mine h2 w2 => exact absurd hb (by rw [hm b (List.mem_cons_of_mem _ List.mem_cons_self)]; simp)
      | @theirs t t' ms2 ms' ts2 L h2 w2 =>
        cases ts with
        | nil => simp at k2
        | cons t0 ts0 =>
          simp only [rowP] at h
          cases h1 : s a t0 with
          | none => rw [h1] at h; cases h
          | some p =>
            rw [h1] at h
            simp only [Option.bind_some] at h
            cases h3 : rowP s p.2 ts0 with
            | none => rw [h3] at h; cases h
            | some q =>
              rw [h3] at h
              cases h
              refine ⟨t0, p.2, po a t0 p.1 p.2 h1, ht t0 List.mem_cons_self, by rw [(keep a t0 p.1 p.2 h1).2]; exact ha, .theirs (t' := t') (ms' := p.2 :: ms') ?_ (.mine h3 w2)⟩
              simp only [colP, h1, Option.bind_some, h2]
  | cons x A ih =>
    intro ms ts B a b hm ht w ha hb
    cases w with
    | @mine m m' ms ts ts' L h w =>
      obtain ⟨_, k2⟩ := row_kind (m := x) isM keep h
      have ht' : ∀ t ∈ ts', isM t = false := fun t h3 => by
        have : isM t ∈ ts'.map isM := List.mem_map.mpr ⟨t, h3, rfl⟩
        rw [k2] at this
        obtain ⟨u, hu, e⟩ := List.mem_map.mp this
        rw [← e]
        exact ht u hu
      obtain ⟨b0, a', p1, p2, p3, p4⟩ := ih (fun m h3 => hm m (List.mem_cons_of_mem _ h3)) ht' w ha hb
      exact ⟨b0, a', p1, p2, p3, .mine h p4⟩
    | @theirs t t' ms ms' ts L h w =>
      obtain ⟨_, k2⟩ := col_kind isM keep h
      have hm' : ∀ m ∈ ms', isM m = true := fun m h3 => by
        have : isM m ∈ ms'.map isM := List.mem_map.mpr ⟨m, h3, rfl⟩
        rw [k2] at this
        obtain ⟨u, hu, e⟩ := List.mem_map.mp this
        rw [← e]
        exact hm u hu
      obtain ⟨b0, a', p1, p2, p3, p4⟩ := ih hm' (fun t h3 => ht t (List.mem_cons_of_mem _ h3)) w ha hb
      exact ⟨b0, a', p1, p2, p3, .theirs h p4⟩
/-- nothing of theirs is left -/
theorem way_all : ∀ {ms ts L : List C}, (∀ t ∈ ts, isM t = false) → Way s ms ts L → (∀ x ∈ L, isM x = true) → ts = [] ∧ L = ms := by
  intro ms ts L ht w
  induction w with
  | nil => exact fun _ => ⟨rfl, rfl⟩
  | @mine m m' ms ts ts' L h w ih =>
    intro hL
    obtain ⟨_, k2⟩ := row_kind (m := m) isM keep h
    have ht' : ∀ t ∈ ts', isM t = false := fun t h3 => by
      have : isM t ∈ ts'.map isM := List.mem_map.mpr ⟨t, h3, rfl⟩
      rw [k2] at this
      obtain ⟨u, hu, e⟩ := List.mem_map.mp this
      rw [← e]
      exact ht u hu
    obtain ⟨e1, e2⟩ := ih ht' fun x hx => hL x (List.mem_cons_of_mem _ hx)
    subst e1
    refine ⟨?_, by rw [e2]⟩
    cases ts with
    | nil => rfl
    | cons _ _ => simp at k2
  | @theirs t t' ms ms' ts L h w ih =>
    intro hL
    have := hL t List.mem_cons_self
    rw [ht t List.mem_cons_self] at this
    cases this
/-- no corner is left -/
def NoInv : List C → Prop
  | a :: b :: r => (isM a = true → isM b = true) ∧ NoInv (b :: r)
  | _ => True
omit keep in
theorem noinv_all : ∀ {r : List C} {a : C}, NoInv isM (a :: r) → isM a = true → ∀ x ∈ a :: r, isM x = true
  | [], a, _, ha, x, hx => by rw [List.mem_singleton.mp hx]; exact ha
  | b :: r, a, h, ha, x, hx => by
    rcases List.mem_cons.mp hx with rfl | hx
    · exact ha
    · exact noinv_all h.2 (h.1 ha) x hx
omit keep in
theorem noinv_tail {r : List C} {a : C} (h : NoInv isM (a :: r)) : NoInv isM r := by
  cases r with
  | nil => trivial
  | cons b r => exact h.2
theorem way_done : ∀ {ms ts L : List C}, (∀ m ∈ ms, isM m = true) → (∀ t ∈ ts, isM t = false) → Way s ms ts L → NoInv isM L → ∃ f g, besF s ms ts = some (f, g) ∧ L = ts ++ g := by
  intro ms ts L hm ht w
  induction w with
  | nil => exact fun _ => ⟨[], [], rfl, rfl⟩
  | @mine m m' ms ts ts' L h w ih =>
    intro hL
    have all := noinv_all isM hL (hm m List.mem_cons_self)
    obtain ⟨e1, e2⟩ := way_all (s := s) isM keep ht (.mine h w) all
    subst e1
    exact ⟨[], m :: ms, rfl, by rw [e2]; rfl⟩
  | @theirs t t' ms ms' ts L h w ih =>
    intro hL
    obtain ⟨_, k2⟩ := col_kind isM keep h
    have hm' : ∀ m ∈ ms', isM m = true := fun m h3 => by
      have : isM m ∈ ms'.map isM := List.mem_map.mpr ⟨m, h3, rfl⟩
      rw [k2] at this
      obtain ⟨u, hu, e⟩ := List.mem_map.mp this
      rw [← e]
      exact hm u hu
    obtain ⟨f, g, e1, e2⟩ := ih hm' (fun u hu => ht u (List.mem_cons_of_mem _ hu)) (noinv_tail isM hL)
    exact ⟨t' :: f, g, by simp only [besF, h, Option.bind_some, e1], by rw [e2]; rfl⟩
end
/-! ### how many corners are left -/
def invB : List Bool → Nat
  | [] => 0
  | true :: r => (r.filter fun b => !b).length + invB r
  | false :: r => invB r
theorem inv_flip : ∀ (A B : List Bool), invB (A ++ true :: false :: B) = invB (A ++ false :: true :: B) + 1
  | [], B => by simp [invB]; omega
  | true :: A, B => by
    have h := inv_flip A B
    simp only [List.cons_append, invB, h, List.filter_append, List.filter_cons, List.length_append]
    simp
    omega
  | false :: A, B => inv_flip A B
/-! ### texts -/
section
variable {s} {W : Type} (fit : W → C → Prop) (put : W → C → W) (sw : ∀ w a b b' a', fit w a → fit w b → s a b = some (b', a') → fit (put w a) b' ∧ fit (put w b) a' ∧ put (put w a) b' = put (put w b) a')
def runs : W → List C → Prop
  | _, [] => True
  | w, c :: cs => fit w c ∧ runs (put w c) cs
def endW (w : W) (cs : List C) : W := cs.foldl put w
include sw
theorem row_runs : ∀ {ts ts' : List C} {m m' : C} {w : W}, fit w m → runs fit put w ts → rowP s m ts = some (ts', m') → runs fit put (put w m) ts' ∧ fit (endW put w ts) m' ∧ endW put (put w m) ts' = put (endW put w ts) m'
  | [], ts', m, m', w, h1, h2, h => by
    simp only [rowP] at h
    cases h
    exact ⟨trivial, h1, rfl⟩
  | t :: ts, ts', m, m', w, h1, h2, h => by
    simp only [rowP] at h
    cases h3 : s m t with
    | none => rw [h3] at h; cases h
    | some p =>
      rw [h3] at h
      simp only [Option.bind_some] at h
      cases h4 : rowP s p.2 ts with
      | none => rw [h4] at h; cases h
      | some q =>
        rw [h4] at h
        cases h
        obtain ⟨k1, k2, k3⟩ := sw w m t p.1 p.2 h1 h2.1 h3
        obtain ⟨k4, k5, k6⟩ := row_runs k2 h2.2 h4
        exact ⟨⟨k1, k3 ▸ k4⟩, k5, by
          show endW put (put (put w m) p.1) q.1 = _
          rw [k3]
          exact k6⟩
theorem col_runs : ∀ {ms ms' : List C} {t t' : C} {w : W}, runs fit put w ms → fit w t → colP s ms t = some (t', ms') → runs fit put (put w t) ms' ∧ fit (endW put w ms) t' ∧ endW put (put w t) ms' = put (endW put w ms) t'
  | [], ms', t, t', w, h1, h2, h => by
    simp only [colP] at h
    cases h
    exact ⟨trivial, h2, rfl⟩
  | m :: ms, ms', t, t', w, h1, h2, h => by
    simp only [colP] at h
    cases h3 : s m t with
    | none => rw [h3] at h; cases h
    | some p =>
      rw [h3] at h
      simp only [Option.bind_some] at h
      cases h4 : colP s ms p.1 with
      | none => rw [h4] at h; cases h
      | some q =>
        rw [h4] at h
        cases h
        obtain ⟨k1, k2, k3⟩ := sw w m t p.1 p.2 h1.1 h2 h3
        obtain ⟨k4, k5, k6⟩ := col_runs h1.2 k1 h4
        exact ⟨⟨k2, k3 ▸ k4⟩, k5, by
          show endW put (put (put w t) p.2) q.2 = _
          rw [← k3]
          exact k6⟩
/-- each way runs, and to the same text -/
theorem way_runs : ∀ {ms ts L : List C}, Way s ms ts L → ∀ {w : W}, runs fit put w ms → runs fit put w ts → runs fit put w L ∧ ∀ f g, besF s ms ts = some (f, g) → endW put w L = endW put w (ms ++ f) := by
  intro ms ts L wy
  induction wy with
  | nil =>
    intro w _ _
    exact ⟨trivial, fun f g h => by simp only [besF] at h; cases h; rfl⟩
  | @mine m m' ms ts ts' L h wy ih =>
    intro w h1 h2
    obtain ⟨k1, k2, k3⟩ := row_runs fit put sw h1.1 h2 h
    obtain ⟨k4, k5⟩ := ih h1.2 k1
    refine ⟨⟨h1.1, k4⟩, fun f g hb => ?_⟩
    rw [bes_cons s m ms ts m ms rfl rfl, h] at hb
    simp only [Option.bind_some] at hb
    cases h4 : besF s ms ts' with
    | none => rw [h4] at hb; cases hb
    | some q =>
      rw [h4] at hb
      cases hb
      exact k5 q.1 q.2 h4
  | @theirs t t' ms ms' ts L h wy ih =>
    intro w h1 h2
    obtain ⟨k1, k2, k3⟩ := col_runs fit put sw h1 h2.1 h
    obtain ⟨k4, k5⟩ := ih k1 h2.2
    refine ⟨⟨h2.1, k4⟩, fun f g hb => ?_⟩
    simp only [besF, h, Option.bind_some] at hb
    cases h4 : besF s ms' ts with
    | none => rw [h4] at hb; cases hb
    | some q =>
      rw [h4] at hb
      cases hb
      have := k5 q.1 q.2 h4
      show endW put (put w t) L = _
      rw [this]
      unfold endW at k3 ⊢
      rw [List.foldl_append, List.foldl_append, List.foldl_cons, k3]
end
/-! ### one more at the end -/
section
theorem col_snoc (m : C) : ∀ (ms : List C) (t : C), colP s (ms ++ [m]) t = (colP s ms t).bind fun p => (s m p.1).bind fun q => some (q.1, p.2 ++ [q.2])
  | [], t => by
    show (s m t).bind _ = _
    simp only [colP, Option.bind_some]
    cases s m t <;> rfl
  | x :: ms, t => by
    rw [List.cons_append]
    simp only [colP]
    cases h : s x t with
    | none => rfl
    | some p =>
      simp only [Option.bind_some]
      rw [col_snoc m ms p.1]
      cases colP s ms p.1 with
      | none => rfl
      | some q =>
        simp only [Option.bind_some]
        cases s m q.1 with
        | none => rfl
        | some r => rfl
theorem bes_snoc (t : C) : ∀ (ts ms : List C), besF s ms (ts ++ [t]) = (besF s ms ts).bind fun p => (colP s p.2 t).bind fun q => some (p.1 ++ [q.1], q.2)
  | [], ms => by
    show (colP s ms t).bind _ = _
    simp only [besF, Option.bind_some]
    cases colP s ms t <;> rfl
  | x :: ts, ms => by
    rw [List.cons_append]
    simp only [besF]
    cases h : colP s ms x with
    | none => rfl
    | some p =>
      simp only [Option.bind_some]
      rw [bes_snoc t ts p.2]
      cases besF s p.2 ts with
      | none => rfl
      | some q =>
        simp only [Option.bind_some]
        cases colP s q.2 t with
        | none => rfl
        | some r => rfl
/-- what fails early fails -/
theorem col_none : ∀ {ms ns : List C} {t : C}, colP s ms t = none → colP s (ms ++ ns) t = none
  | [], ns, t, h => by cases h
  | x :: ms, ns, t, h => by
    rw [List.cons_append]
    simp only [colP] at h ⊢
    cases h1 : s x t with
    | none => rfl
    | some p =>
      rw [h1] at h
      simp only [Option.bind_some] at h ⊢
      cases h2 : colP s ms p.1 with
      | none =>
        rw [show colP s (ms ++ ns) p.1 = none from col_none h2]
        rfl
      | some q => rw [h2] at h; cases h
theorem bes_none : ∀ {ts us ms : List C}, besF s ms ts = none → besF s ms (ts ++ us) = none
  | [], us, ms, h => by cases h
  | x :: ts, us, ms, h => by
    rw [List.cons_append]
    simp only [besF] at h ⊢
    cases h1 : colP s ms x with
    | none => rfl
    | some p =>
      rw [h1] at h
      simp only [Option.bind_some] at h ⊢
      cases h2 : besF s p.2 ts with
      | none =>
        rw [show besF s p.2 (ts ++ us) = none from bes_none h2]
        rfl
      | some q => rw [h2] at h; cases h
theorem row_snoc (t : C) : ∀ (ts : List C) (m : C), rowP s m (ts ++ [t]) = (rowP s m ts).bind fun p => (s p.2 t).bind fun q => some (p.1 ++ [q.1], q.2)
  | [], m => by
    show (s m t).bind _ = _
    simp only [rowP, Option.bind_some]
    cases s m t <;> rfl
  | x :: ts, m => by
    rw [List.cons_append]
    simp only [rowP]
    cases h : s m x with
    | none => rfl
    | some p =>
      simp only [Option.bind_some]
      rw [row_snoc t ts p.2]
      cases rowP s p.2 ts with
      | none => rfl
      | some q =>
        simp only [Option.bind_some]
        cases s q.2 t with
        | none => rfl
        | some r => rfl
theorem colF_snoc (m : C) : ∀ (ms ts : List C), colF s (ms ++ [m]) ts = (colF s ms ts).bind fun p => (rowP s m p.1).bind fun q => some (q.1, p.2 ++ [q.2])
  | [], ts => by
    show (rowP s m ts).bind _ = _
    simp only [colF, Option.bind_some]
    cases rowP s m ts <;> rfl
  | x :: ms, ts => by
    rw [List.cons_append]
    simp only [colF]
    cases h : rowP s x ts with
    | none => rfl
    | some p =>
      simp only [Option.bind_some]
      rw [colF_snoc m ms p.1]
      cases colF s ms p.1 with
      | none => rfl
      | some q =>
        simp only [Option.bind_some]
        cases rowP s m q.1 with
        | none => rfl
        | some r => rfl
theorem row_none : ∀ {ts us : List C} {m : C}, rowP s m ts = none → rowP s m (ts ++ us) = none
  | [], us, m, h => by cases h
  | x :: ts, us, m, h => by
    rw [List.cons_append]
    simp only [rowP] at h ⊢
    cases h1 : s m x with
    | none => rfl
    | some p =>
      rw [h1] at h
      simp only [Option.bind_some] at h ⊢
      cases h2 : rowP s p.2 ts with
      | none =>
        rw [show rowP s p.2 (ts ++ us) = none from row_none h2]
        rfl
      | some q => rw [h2] at h; cases h
theorem colF_none : ∀ {ms ns ts : List C}, colF s ms ts = none → colF s (ms ++ ns) ts = none
  | [], ns, ts, h => by cases h
  | x :: ms, ns, ts, h => by
    rw [List.cons_append]
    simp only [colF] at h ⊢
    cases h1 : rowP s x ts with
    | none => rfl
    | some p =>
      rw [h1] at h
      simp only [Option.bind_some] at h ⊢
      cases h2 : colF s ms p.1 with
      | none =>
        rw [show colF s (ms ++ ns) p.1 = none from colF_none h2]
        rfl
      | some q => rw [h2] at h; cases h
end
end KGr

/-! Steps beside steps, by numbers and by texts. -/
namespace K20
open PySem PySem.Spec PyProof.Rows L2 KD KP KGr
def besS (a b : Stp) : Option (Stp × Stp) := if 0 < a.os.length + a.ns.length ∧ 0 < b.os.length + b.ns.length then (sideZ a.p a.os.length a.ns.length b.p b.os.length b.ns.length).map fun z => ({ b with p := z.1 }, { a with p := z.2 }) else none
def pasS (a b : Stp) : Option (Stp × Stp) := (passZ a.p a.os.length a.ns.length b.p b.os.length b.ns.length).map fun z => ({ b with p := z.1 }, { a with p := z.2 })
/-- a step that changes something -/
def Lv (r : Stp) : Prop := 0 < r.os.length + r.ns.length
theorem bes_lv {a b b' a' : Stp} (h : besS a b = some (b', a')) : Lv a ∧ Lv b := by
  unfold besS at h
  split at h
  · assumption
  · cases h
theorem bes_live {a b : Stp} (ha : Lv a) (hb : Lv b) : besS a b = (sideZ a.p a.os.length a.ns.length b.p b.os.length b.ns.length).map fun z => ({ b with p := z.1 }, { a with p := z.2 }) := by
  unfold besS
  rw [if_pos ⟨ha, hb⟩]
theorem bes_get {a b b' a' : Stp} (h : besS a b = some (b', a')) : ∃ x y, sideZ a.p a.os.length a.ns.length b.p b.os.length b.ns.length = some (x, y) ∧ b' = { b with p := x } ∧ a' = { a with p := y } := by
  obtain ⟨ha, hb⟩ := bes_lv h
  rw [bes_live ha hb] at h
  cases e : sideZ a.p a.os.length a.ns.length b.p b.os.length b.ns.length with
  | none => rw [e] at h; cases h
  | some z =>
    rw [e] at h
    cases h
    exact ⟨z.1, z.2, rfl, rfl, rfl⟩
theorem side_pass {p q x y : Int} {a b c d : Nat} (h2 : 0 < c + d) (h : sideZ p a b q c d = some (x, y)) : passZ p a b x c d = some (q, y) := by
  unfold sideZ at h
  unfold passZ passK
  split at h
  · rename_i h3
    cases h
    rw [if_pos h3]
  · split at h
    · rename_i h3 h4
      cases h
      rw [if_neg (by omega), if_pos (by omega)]
      congr 2
      omega
    · cases h
theorem side_sym {p q x y : Int} {a b c d : Nat} (h1 : 0 < a + b) (h2 : 0 < c + d) (h : sideZ p a b q c d = some (x, y)) : sideZ q c d p a b = some (y, x) := by
  unfold sideZ at h ⊢
  split at h
  · rename_i h3
    cases h
    rw [if_neg (by omega), if_pos (by omega)]
  · split at h
    · rename_i h3 h4
      cases h
      rw [if_pos (by omega)]
    · cases h
theorem bes_pas {a b b' a' : Stp} (h : besS a b = some (b', a')) : pasS a b' = some (b, a') := by
  have hb := (bes_lv h).2
  obtain ⟨x, y, e, rfl, rfl⟩ := bes_get h
  unfold pasS
  rw [side_pass hb e]
  rfl
theorem bes_sym {a b b' a' : Stp} (h : besS a b = some (b', a')) : besS b a = some (a', b') := by
  obtain ⟨ha, hb⟩ := bes_lv h
  obtain ⟨x, y, e, rfl, rfl⟩ := bes_get h
  rw [bes_live hb ha, side_sym ha hb e]
  rfl
def fitS (ws : List Str) (r : Stp) : Prop := ∃ p : Nat, r.p = (p : Int) ∧ fitN ws p r.os
def putS (ws : List Str) (r : Stp) : List Str := putB ws r.p r.os r.ns
theorem side_fits {ws os ns us : List Str} {p q : Nat} (f1 : fitN ws p os) (f2 : fitN ws q us) : (q + us.length ≤ p → fitN (putB ws p os ns) q us) ∧ (p + os.length ≤ q → fitN (putB ws p os ns) (q + ns.length - os.length) us) := by
  obtain ⟨a1, a2⟩ := f1
  obtain ⟨b1, b2⟩ := f2
  have len := put_len (ns := ns) a1
  have cell : ∀ (l : List Str) (k : Nat), k + us.length ≤ l.length → (∀ i, i < us.length → l[k + i]? = us[i]?) → (l.drop k).take us.length = us := fun l k hk h => by
    apply List.ext_getElem?
    intro i
    rw [List.getElem?_take, List.getElem?_drop]
    by_cases c : i < us.length
    · rw [if_pos c, h i c]
    · rw [if_neg c, List.getElem?_eq_none (by omega)]
  have old : ∀ i, i < us.length → ws[q + i]? = us[i]? := fun i hi => by
    have := congrArg (fun l : List Str => l[i]?) b2
    simp only [List.getElem?_take, List.getElem?_drop, if_pos hi] at this
    exact this
  refine ⟨fun h => ⟨by rw [len]; omega, cell _ _ (by rw [len]; omega) fun i hi => ?_⟩, fun h => ⟨by rw [len]; omega, cell _ _ (by rw [len]; omega) fun i hi => ?_⟩⟩
  · rw [put_get a1, if_pos (by omega)]
    exact old i hi
  · rw [put_get a1, if_neg (by omega), if_neg (by omega), ← old i hi]
    congr 1
    omega
theorem bes_swap {ws : List Str} {a b b' a' : Stp} (f1 : fitS ws a) (f2 : fitS ws b) (h : besS a b = some (b', a')) : fitS (putS ws a) b' ∧ fitS (putS ws b) a' ∧ putS (putS ws a) b' = putS (putS ws b) a' := by
  obtain ⟨p, ep, f1⟩ := f1
  obtain ⟨q, eq, f2⟩ := f2
  have hb := (bes_lv h).2
  obtain ⟨x, y, e, rfl, rfl⟩ := bes_get h
  rw [ep, eq] at e
  have e2 := side_pass hb e
  obtain ⟨s1, s2⟩ := side_fits (ns := a.ns) f1 f2
  have a1 := f1.1
  have fx : ∃ x' : Nat, x = (x' : Int) ∧ fitN (putB ws p a.os a.ns) x' b.os := by
    unfold sideZ at e
    split at e
    · rename_i h3
      cases e
      exact ⟨q, rfl, s1 (by omega)⟩
    · split at e
      · rename_i h3 h4
        cases e
        exact ⟨q + a.ns.length - a.os.length, by omega, s2 (by omega)⟩
      · cases e
  obtain ⟨x', rfl, f3⟩ := fx
  obtain ⟨q2, y', e3, rfl, pa⟩ := passZ_nat e2
  have e3 : q = q2 := by omega
  subst e3
  obtain ⟨g1, g2, g3⟩ := swap2 f1 f3 pa
  unfold fitS putS
  rw [ep, eq]
  exact ⟨⟨x', rfl, f3⟩, ⟨y', rfl, g2⟩, g3.symm⟩
end K20

/-! All names of the law's runs. -/
namespace K20
open PySem PySem.Spec PyProof.Rows L2 KD KP KGr
def eightN : List Str := ["a1", "b1", "c1", "d1", "e1", "f1", "g1", "h1"]
def allNames : List Str := ["p", "q1", "r", "s", "t", "u7", "a1", "b1", "c1", "d1", "e1", "f1", "g1", "h1"]
theorem run_all : ∀ s ∈ runNames, s ∈ allNames := by decide +kernel
theorem eight_all : ∀ s ∈ eightN, s ∈ allNames := by decide +kernel
end K20

/-! Names, pairs; three changes turned about. -/
namespace K20
open PySem PySem.Spec PyProof.Rows L2 KD KP
-- RAISES change_of checked_text passed side_by_side
variable {P : Program} {w : World} {K : PySem.W.Frag} {mg : Str → Option Value} {base : Heap}
def SIGNS_S : Str := "abcdefghijklmnopqrstuvwxyz0123456789"
abbrev s_is_pair : Stmt := topS 11
abbrev n_is_pair : List Str := ["thing"]
theorem sc_is_pair : FnScope n_is_pair ["thing"] (defScope s_is_pair) := ⟨rfl, rfl, rfl, by decide +kernel, rfl, by decide +kernel, by decide +kernel⟩
theorem ok_is_pair {f : Addr} {fd : FuncData} (F : Fun K "is_pair" "is_pair" s_is_pair f fd) (T : Bl mg) (O_is_list : Own P w K mg base CX0 1 "is_list" ["thing"] (sp1 (fun _ => True) fun d => .bool (isSeq d))) : FnOk P w K mg base CX0 2 f fd ["thing"] (sp1 (fun _ => True) fun d => .bool (isSeq d && decide (lenD d = 2))) := by
  refine ok1 F sc_is_pair (by decide) fun cdv A outer s H E X d Q hr t _ q => ⟨_, (pss_one (ps_ret (pe_and (pe_own O_is_list hr (by decide) (by rfl) (pa_cons (pv 0) pa_nil)) (pe_one (pe_cmpR (op_eqD hr.units) (pe_callB call_len (by rfl) T.b_len boot_len (pa_cons (pv 0) pa_nil)) pe_int (nomark _)))))), fun σ En => ?_⟩
  refine s_ret (g_and (g_call1 t (g_var En rfl) trivial) fun hb => g_is (g_eqD t (g_len t (g_var (i := 0) En rfl) (hasLen_seq hb)) g_int rfl rfl (shaped_int _) (shaped_int _)) (by rw [eqv_int]; congr 1; exact decide_eq_decide.mpr (by omega))) q
/-! ### texts, sign by sign -/
section
variable {X : Addr → Prop} {σ : L2.St} {H : Hp} {ta tb tc te : TE} {x y z : PyData} {r r' : R2} {a b : Bool}
theorem g_chain (t : Trk X H) (ha : G X ta σ H x) (hb : G X tb σ H y) (hc : a = true → G X tc σ H z) (h1 : RB X r x y a) (h2 : RB X r' y z b) : G X (tChain r r' ta tb tc) σ H (.bool (a && b)) := fun H1 s Q q =>
  ha H1 s _ fun u H2 s2 ru => hb H2 (s.trans s2) _ fun v H3 s3 rv => by
    have t3 := ((t.mono s).mono s2).mono s3
    refine h1 H3 u v t3 (ru.mono (Kp.of s3)) rv _ ⟨a, rfl, ?_⟩
    cases a with
    | false => exact q _ H3 (s2.trans s3) (.bl _)
    | true =>
      refine hc rfl H3 ((s.trans s2).trans s3) _ fun w' H4 s4 rw' => ?_
      exact h2 H4 v w' (t3.mono s4) (rv.mono (Kp.of s4)) rw' _ (q _ H4 ((s2.trans s3).trans s4) (.bl _))
theorem rb_leS {i j : Str} : RB X (fun x y H Q => ∃ i j, x = V.str i ∧ y = V.str j ∧ Q (V.bl (!decide (j.cps.toList < i.cps.toList))) H) (.str i) (.str j) (!decide (j.cps.toList < i.cps.toList)) := fun H u v _ ru rv Q q => ⟨i, j, ru.str_inv, rv.str_inv, q⟩
theorem rb_inS {c : Nat} {z : Str} : RB X rInS (.str ⟨#[c]⟩) (.str z) (decide (c ∈ z.cps.toList)) := fun H u v _ ru rv Q q => ⟨c, z, ru.str_inv, rv.str_inv, q⟩
theorem g_ixS {z : Str} {i : Int} {c : Nat} (ha : G X ta σ H (.str z)) (hb : G X tb σ H (.int i)) (hl : z.length ≤ 1000000) (h : atI z.cps.toList i = some c) : G X (tOp rIxS ta tb) σ H (.str ⟨#[c]⟩) := fun H1 s Q q =>
  ha H1 s _ fun u H2 s2 ru => hb H2 (s.trans s2) _ fun v H3 s3 rv => ⟨z, i, c, ru.str_inv, rv.int_inv, by rw [sizeLine_eq]; omega, h, q _ H3 (s2.trans s3) (.str _)⟩
theorem gi_str {z : Str} (h : G X te σ H (.str z)) : GI X (iStr te) σ H (z.cps.toList.map fun c => .str ⟨#[c]⟩) := fun H1 s R rr => h H1 s _ fun v H2 s2 rv =>
  ⟨z, rv.str_inv, rr _ H2 s2 ⟨_, _, by rw [List.length_map, Array.length_toList]; exact walk_str, fun X' m H3 k t => ⟨trivial, fun i x H4 yy => by
    obtain ⟨rfl, c, hc, rfl⟩ := yy
    exact ⟨Same.refl _, .str ⟨#[c]⟩, by rw [List.getElem?_map, Array.getElem?_toList, hc]; rfl, .str _⟩⟩⟩⟩
theorem g_all {bs : List Bool} (t : Trk X H) (h : G X te σ H (.list (bs.map PyData.bool))) : G X (tCB (rAll K) (tCons te tNil)) σ H (.bool (bs.all id)) := g_cb t (ga_cons h ga_nil) rf_all
theorem g_any {bs : List Bool} (t : Trk X H) (h : G X te σ H (.list (bs.map PyData.bool))) : G X (tCB (rAny K) (tCons te tNil)) σ H (.bool (bs.any id)) := fun H1 s Q q =>
  h H1 s _ fun v H2 s2 rv => by
    obtain ⟨p, xs, rfl, n, e, rx⟩ := rv.lst_inv
    have ex : xs = bs.map V.bl := by
      clear q e rv h
      induction bs generalizing xs with
      | nil => cases rx; rfl
      | cons b bs ih =>
        cases rx with
        | cons h1 h2 => rw [h1.bl_inv, ih _ h2]; rfl
    exact ⟨p, bs, rfl, SqL.of (ex ▸ e), q _ H2 s2 (.bl _)⟩
end
-- HINT is_name ix ix_str
-- HINT is_name it pi_str
-- HINT is_name in op_inS
abbrev s_is_name : Stmt := topS 12
abbrev n_is_name : List Str := ["thing", "sign"]
theorem sc_is_name : FnScope n_is_name ["thing"] (defScope s_is_name) := ⟨rfl, rfl, rfl, by decide +kernel, rfl, by decide +kernel, by decide +kernel⟩
theorem names_ok : ∀ s ∈ allNames, (decide ((1 : Int) ≤ (s.length : Int)) && decide ((s.length : Int) ≤ 12)) = true ∧ s.length ≤ 1000000 ∧ (∃ c, atI s.cps.toList 0 = some c ∧ (!decide ((⟨#[c]⟩ : Str).cps.toList < ("a" : Str).cps.toList)) = true ∧ (!decide (("z" : Str).cps.toList < (⟨#[c]⟩ : Str).cps.toList)) = true) ∧ (s.cps.toList.map fun c => decide (c ∈ SIGNS_S.cps.toList)).all id = true := by
  intro s hs
  simp only [allNames, List.mem_cons, List.not_mem_nil, or_false] at hs
  first | (rcases hs with rfl | rfl | rfl | rfl | rfl | rfl | rfl | rfl | rfl | rfl | rfl | rfl | rfl | rfl) | (rcases hs with rfl | rfl | rfl | rfl | rfl | rfl | rfl | rfl | rfl | rfl | rfl | rfl) | (rcases hs with rfl | rfl | rfl | rfl | rfl | rfl)
  all_goals exact ⟨by decide +kernel, by decide +kernel, ⟨_, rfl, by decide +kernel, by decide +kernel⟩, by decide +kernel⟩
theorem ok_is_name {f : Addr} {fd : FuncData} {tS : Tok} (F : Fun K "is_name" "is_name" s_is_name f fd) (T : Bl mg) (g_SIGNS : mg "SIGNS" = some (.str SIGNS_S tS)) : FnOk P w K mg base CX0 1 f fd ["thing"] (sp1 (fun d => ∃ s ∈ allNames, d = .str s) fun _ => .bool true) := by
  refine ok1 F sc_is_name (by decide) fun cdv A outer s H E X d Q hr t hp q => ⟨_, (pss_cons (ps_if (PW.pt (pw_or (pt_not (pt_val (pe_callB call_isi (by rfl) T.b_isinstance boot_isinstance (pa_cons (pv 0) (pa_cons (pe_bltn (v := .ty "str") (by rfl) T.b_str boot_str rfl) pa_nil))))) (pw_or1 (pt_not (pt_chain op_le op_le pe_int (pe_callB call_len (by rfl) T.b_len boot_len (pa_cons (pv 0) pa_nil)) pe_int)))))
    (pss_one (ps_ret pe_bl)) pss_nil)
    (pss_one (ps_ret (pe_and (pe_chain op_le_str op_le_str pe_str (pe_ix ix_str (pv 0) pe_int (fun _ _ => rfl)) pe_str) (pe_one (pe_callB (cr_all rfl) (by rfl) T.b_all boot_all (pa_cons (pe_lc (own := [("sign", 1)]) (g := (gName 1)) (tt := tYes) rfl sc_is_name.nd (pi_str (pv 0)) (blkOk_by (N := n_is_name) (sc := defScope s_is_name) (by decide +kernel)) (fun _ _ _ _ _ => (pg_name (i := 1) sc_is_name.nd rfl (by first | exact Or.inl rfl | exact Or.inr rfl))) (fun _ _ _ _ _ => pts_nil) (fun _ _ _ _ _ => (pe_cmpR op_inS (pv 1) (pe_glob (v := .str SIGNS_S) (by rfl) g_SIGNS ⟨_, rfl⟩) (by rfl)))) pa_nil))))))), fun σ En => ?_⟩
  obtain ⟨z, hz, rfl⟩ := hp
  obtain ⟨n1, n2, ⟨c, n3, n4, n5⟩, n6⟩ := names_ok z hz
  refine q_if (b := false) (gt_is (gt_or (gt_not (gt_B (g_isStr (g_var (i := 0) En rfl)))) fun _ => gt_not (gt_test (g_is (g_chain t g_int (g_len t (g_var (i := 0) En rfl) (by simpa [hasLen] using n2)) (fun _ => g_int) rb_I0 rb_I0) (by
    show PyData.bool (decide ((1 : Int) ≤ (z.length : Int)) && decide ((z.length : Int) ≤ 12)) = _
    rw [n1])))) rfl) (fun h => by cases h) fun _ H1 s1 => ?_
  have E1 := En.same s1
  have t1 := t.mono s1
  refine s_ret (X := X) (d := .bool true) (g_is (g_and (g_is (g_chain t1 g_str (g_ixS (g_var (i := 0) E1 rfl) g_int n2 n3) (fun _ => g_str) rb_leS rb_leS) (by rw [n4, n5])) fun _ => g_is (g_all t1 (bs := z.cps.toList.map fun c => decide (c ∈ SIGNS_S.cps.toList)) (g_is (g_lc1 (fun d => match d with | .str s => .bool (decide (s.cps.getD 0 0 ∈ SIGNS_S.cps.toList)) | _ => .none) t1 (gi_str (g_var (i := 0) E1 rfl)) (by rw [List.length_map, Array.length_toList]; exact n2) (fun H1 s d hd => tgt_name (E1.same s)) (fun X' H1 σ2 d hd t E => ?_)) ?_)) (by rw [n6])) rfl) fun w H2 s2 dw => q w H2 (s1.trans s2) dw
  · obtain ⟨c, hc, rfl⟩ := List.mem_map.mp hd
    exact g_op t (g_var (i := 1) E rfl) g_str (RB.rd (b := decide (c ∈ SIGNS_S.cps.toList)) rb_inS)
  · rw [List.map_map, List.map_map]
    rfl
/-! ### by the one way, by the other -/
def triD (as bs us vs os ns : List Str) : Option (Int × Int × Int) → PyData
  | none => .none
  | some (u3, u2, z1) => .list [chD u3 as bs, chD u2 us vs, chD z1 os ns]
theorem oneZ_eq {p a b q c d r e f : Int} : oneZ p a b q c d r e f = (passZ p a b q c d).bind fun xy => (passZ xy.2 a b r e f).bind fun uv => (passZ xy.1 c d uv.1 e f).bind fun st => some (st.1, st.2, uv.2) := by
  unfold oneZ
  rw [passK_eq]
  congr 1
  funext xy
  rw [passK_eq]
  congr 1
  funext uv
  rw [passK_eq]
theorem othZ_eq {p a b q c d r e f : Int} : othZ p a b q c d r e f = (passZ q c d r e f).bind fun xy => (passZ p a b xy.1 e f).bind fun uv => (passZ uv.2 a b xy.2 c d).bind fun st => some (uv.1, st.1, st.2) := by
  unfold othZ
  rw [passK_eq]
  congr 1
  funext xy
  rw [passK_eq]
  congr 1
  funext uv
  rw [passK_eq]
def spTri (g : Int → Int → Int → Int → Int → Int → Int → Int → Int → Option (Int × Int × Int)) : Sp := fun vs H Q _ => ∃ (X : Addr → Prop) (v1 v2 v3 : V) (p q r : Nat) (os ns us ws as bs : List Str), vs = [v1, v2, v3] ∧ Trk X H ∧ DX X H v1 (chD p os ns) ∧ DX X H v2 (chD q us ws) ∧ DX X H v3 (chD r as bs) ∧
  Wd os ∧ Wd ns ∧ Wd us ∧ Wd ws ∧ Wd as ∧ Wd bs ∧ 0 < os.length + ns.length ∧ 0 < us.length + ws.length ∧ 0 < as.length + bs.length ∧
  ∀ w H', Same H H' → DX X H' w (triD as bs us ws os ns (g p os.length ns.length q us.length ws.length r as.length bs.length)) → Q w H'
section
variable {X : Addr → Prop} {σ : L2.St} {H : Hp} {ta tb : TE} {E : XK} {p q : Nat} {os ns us vs : List Str} {C : Addr}
/-- a passing of told changes -/
theorem g_pass (t : Trk X H) (h1 : G X ta σ H (chD p os ns)) (h2 : G X tb σ H (chD q us vs)) (g1 : Wd os) (g2 : Wd ns) (g3 : Wd us) (g4 : Wd vs) (l1 : 0 < os.length + ns.length) (l2 : 0 < us.length + vs.length) :
    G X (tCall (spX2 twoPre (twoOut passB C)) [] E (tCons ta (tCons tb tNil))) σ H (match passZ p os.length ns.length q us.length vs.length with
    | none => .none
    | some (x, y) => .tuple [chD x us vs, chD y os ns]) := by
  have c1 : ChX (p : Int) os ns (chD p os ns) := .inl rfl
  have c2 : ChX (q : Int) us vs (chD q us vs) := .inl rfl
  exact g_X2 t h1 h2 (two_pre c1 c2 g1 g2 g3 g4) ((two_val c1 c2 (c1.is (by omega) g1 g2 l1) (c2.is (by omega) g3 g4 l2)).trans (congrArg Out.val passB_Z))
/-- if it is not None -/
theorem g_unless {i : Nat} {Γ : List Sv} {te : TE} {d e : PyData} (t : Trk X H) (En : EnvOk X H σ Γ) (hi : Γ[i]? = some (.dat d)) (h : isNone d = false → G X te σ H e) (hn : isNone d = true → e = .none) :
    G X (tIf (tTest (tOp (fun x y H Q => y = V.non ∧ Q (V.bl (!decide (x = V.non))) H) (tVar i) (tC .non))) te (tC .non)) σ H e :=
  g_if (gt_op t (g_var En hi) g_non rb_notN) (fun hb => h (by simpa using hb)) fun hb => by rw [hn (by simpa using hb)]; exact g_non
end
end K20

/-! Steps of a run, the text behind it. -/
namespace K20
open PySem PySem.Spec PyProof.Rows L2 KD KP
-- RAISES change_of checked_text passed side_by_side
variable {P : Program} {w : World} {K : PySem.W.Frag} {mg : Str → Option Value} {base : Heap}
/-- each step fits the text behind those ahead -/
def okT : List Str → List Stp → Prop
  | _, [] => True
  | ws, r :: rs => (∃ p : Nat, r.p = (p : Int) ∧ fitN ws p r.os) ∧ okT (putB ws r.p r.os r.ns) rs
def okS (r : Stp) : Prop := r.name ∈ allNames ∧ Wd r.os ∧ Wd r.ns ∧ 0 < r.os.length + r.ns.length
theorem okT_at : ∀ {rs : List Stp} {ws : List Str} {i : Nat} {r : Stp}, okT ws rs → rs[i]? = some r → ∃ p : Nat, r.p = (p : Int) ∧ fitN (hereOf ws (rs.take i)) p r.os
  | [], _, i, r, _, h => by cases i <;> cases h
  | r0 :: rs, ws, 0, r, ⟨h1, _⟩, h => by cases h; exact h1
  | r0 :: rs, ws, i + 1, r, ⟨_, h2⟩, h => by
    rw [List.take_succ_cons]
    exact okT_at h2 h
theorem here_len : ∀ {rs : List Stp} {ws : List Str}, (∀ r ∈ rs, r.ns.length ≤ 100) → (hereOf ws rs).length ≤ ws.length + 100 * rs.length
  | [], _, _ => by simp [hereOf]
  | r :: rs, ws, h => by
    have h1 := here_len (ws := putB ws r.p r.os r.ns) fun z hz => h z (List.mem_cons_of_mem _ hz)
    have h2 := h r List.mem_cons_self
    have h3 : (putB ws r.p r.os r.ns).length ≤ ws.length + r.ns.length := by
      unfold putB
      rw [List.length_append, List.length_append, List.length_take, List.length_drop]
      omega
    show (hereOf (putB ws r.p r.os r.ns) rs).length ≤ _
    rw [List.length_cons]
    omega
theorem here_mem : ∀ {rs : List Stp} {ws : List Str} {pr : Str → Prop}, (∀ z ∈ ws, pr z) → (∀ r ∈ rs, ∀ z ∈ r.ns, pr z) → ∀ z ∈ hereOf ws rs, pr z
  | [], _, _, h, _ => h
  | r :: rs, ws, pr, h, k => here_mem (ws := putB ws r.p r.os r.ns) (fun z hz => (put_in hz).elim (h z) (k r List.mem_cons_self z)) fun s hs => k s (List.mem_cons_of_mem _ hs)
theorem strs_inv {X : Addr → Prop} {H : Hp} : ∀ {xs : List V} {nms : List Str}, DXs X H xs (nms.map PyData.str) → xs = nms.map V.str
  | _, [], .nil => rfl
  | _, _ :: _, .cons h r => by rw [h.str_inv, strs_inv r]; rfl
theorem gt_inNames {X : Addr → Prop} {σ : L2.St} {H : Hp} {Γ : List Sv} {ta : TE} {i : Nat} {L : Addr} {nm : Str} {nms : List Str} (h : G X ta σ H (.str nm)) (En : EnvOk X H σ Γ) (hi : Γ[i]? = some (.val (.ref L))) (hL : H L = some (.lst (nms.map V.str))) (hn : nm ∉ nms) : GT (tTest (tOp (rIn K false) ta (tVar i))) σ H false := fun H1 s Q q =>
  h H1 s _ fun v H2 s2 r => ⟨.ref L, (En.same (s.trans s2)).get i _ hi, L, nms.map V.str, rfl, .inl (SqL.of (s2 _ _ (s _ _ hL))), by rw [r.str_inv]; rfl, by
    rw [List.all_eq_true]
    intro z hz
    obtain ⟨_, _, rfl⟩ := List.mem_map.mp hz
    rfl, false, by
    have e : inV v (nms.map V.str) = false := by
      rw [r.str_inv]
      unfold inV
      rw [List.any_eq_false]
      intro z hz
      obtain ⟨m, hm, rfl⟩ := List.mem_map.mp hz
      intro e
      have e' : m = nm := by simpa [eqV] using e
      exact hn (e' ▸ hm)
    rw [e]
    rfl, q H2 s2⟩
def spSteps : Sp := fun vs H Q _ => ∃ (X : Addr → Prop) (v1 v2 v3 : V) (ws : List Str) (rs : List Stp), vs = [v1, v2, v3] ∧ Trk X H ∧ DX X H v1 (wsD ws) ∧ DX X H v2 (.list (rs.map stpD)) ∧ DX X H v3 (.list []) ∧ (∀ r ∈ rs, okS r) ∧ (rs.map Stp.name).Nodup ∧ okT ws rs ∧ Wd ws ∧ rs.length ≤ 8 ∧
  ∀ w H', Same H H' → DX X H' w (.list (rs.map stpD)) → Q w H'
-- HINT steps_of in op_in_seq
end K20

/-! The text behind a run; three changes side by side. -/
namespace K20
open PySem PySem.Spec PyProof.Rows L2 KD KP
-- RAISES change_of checked_text passed side_by_side
variable {P : Program} {w : World} {K : PySem.W.Frag} {mg : Str → Option Value} {base : Heap}
/-- draws in a list, each of which takes several -/
theorem lc_drawsC (c : Nat) {X : Addr → Prop} {st cl : Addr} {n : Nat} {H : Hp} {σ : L2.St} {Γ : List Sv} {te : TE} {i m : Nat} {Q : VK} (pr : PyData → Prop) (S : Sg X st cl n H) (En : EnvOk X H σ Γ) (hm : m ≤ 100000)
    (he : ∀ X' H1 σ2 k Q1, k < m → EnvOk X' H1 σ2 ((Γ.set i .un).set i (.dat (.int (k : Nat)))) → Sg X' st cl (n + c * k) H1 → (∀ w d H', pr d → Sg X' st cl (n + c * k + c) H' → KpS st cl H1 H' → DX X' H' w d → Q1 w H') → te σ2 H1 Q1)
    (q : ∀ w ds H', ds.length = m → (∀ d ∈ ds, pr d) → Sg X st cl (n + c * m) H' → KpS st cl H H' → DX X H' w (.list ds) → Nw H w → Q w H') : tLc (fun σ H R => R (Itr 0 m) H) (gName i) tYes te [i] σ H Q := by
  intro D hD
  have m2 : More X (fun a => X a ∨ a = D) H := More.one hD
  have d1 := S.ne1 hD
  have d2 := S.ne2 hD
  obtain ⟨Gd, Y, w1, w2⟩ := walkD_range (X := X) (H := H) (lo := 0) (n := m)
  rw [rangeD_len] at w1
  have key : ∀ H3, Kp (fun a => X a ∨ a = D) H H3 ∧ Trk (fun a => X a ∨ a = D) H3 → Gd H3 := fun H3 p => (w2 _ m2.2 H3 p.1 p.2).1
  let I : Nat → Hp → Prop := fun k H3 => KpS st cl H H3 ∧ Sg (fun a => X a ∨ a = D) st cl (n + c * k) H3 ∧ ∃ acc ds, H3 D = some (.lst acc) ∧ DXs (fun a => X a ∨ a = D) H3 acc ds ∧ ds.length = k ∧ ∀ d ∈ ds, pr d
  have ik : ∀ {k H3}, I k H3 → Kp (fun a => X a ∨ a = D) H H3 ∧ Trk (fun a => X a ∨ a = D) H3 := fun {k H3} p => ⟨p.1.kp (.inl S.x1) (.inl S.x2), p.2.1.t⟩
  refine lc_it w1 I ?_ (fun i H3 _ p => key H3 (ik p)) ?_ ?_
  · exact ⟨KpS.of (Same.upd hD), ⟨(S.ok).same (Same.upd hD), .inl S.x1, .inl S.x2, S.t.one hD⟩, [], [], upd_same, .nil, rfl, fun d h => by cases h⟩
  · rintro k x H3 H4 hk p y
    obtain ⟨s4, d, hd, dx⟩ := (w2 _ m2.2 H3 (ik p).1 (ik p).2).2 k x H4 y
    obtain ⟨p1, p2, acc, ds, p3, p4, p5, p6⟩ := p
    rw [rangeD_get hk] at hd
    cases hd
    have S4 := p2.same s4
    have k4 : Kp (fun a => X a ∨ a = D) H H4 := (p1.kp (.inl S.x1) (.inl S.x2)).trans (Kp.of s4)
    refine tgt_name (X := X) (i := i) En _ H4 m2 k4 S4.t x dx _ fun σ2 E2 hw => ⟨hw, ?_⟩
    refine k_yes ?_
    rw [show (0 : Int) + (k : Int) = (k : Nat) from by omega] at E2
    refine he _ H4 σ2 k _ hk E2 S4 fun w d H5 hp S5 k5 dw => ?_
    refine ⟨acc, k5 D _ d1 d2 (s4 D _ p3), by rw [p4.length, p5, sizeLine_eq]; omega, ?_, ?_, acc ++ [w], ds ++ [d], upd_same, ?_, by rw [List.length_append, p5]; rfl, fun z hz => ?_⟩
    · exact fun a o n1 n2 e => by
        have := k5 a o n1 n2 (s4 a _ (p1 a o n1 n2 e))
        rw [upd_ne (ne_of_none e hD)]
        exact this
    · rw [Nat.mul_succ, ← Nat.add_assoc]
      exact S5.put d1 d2
    · exact (((p4.mono (Kp.of s4)).mono (S4.kp k5)).snoc dw).mono (Kp.put (.inr rfl))
    · rcases List.mem_append.mp hz with h | h
      · exact p6 z h
      · rw [List.mem_singleton.mp h]
        exact hp
  · rintro H3 ⟨p1, p2, acc, ds, p3, p4, p5, p6⟩
    have nXD : ¬ X D := S.t.new hD
    exact q (.ref D) ds H3 p5 p6 ⟨p2.ok, S.x1, S.x2, fun a h => p2.t a (.inl h)⟩ p1 (.lst nXD p3 (p4.less fun a => .inl)) (Nw.of hD)

theorem g_steps {X : Addr → Prop} {σ : L2.St} {H : Hp} {ta tb tc : TE} {E : XK} {ws : List Str} {rs : List Stp} (t : Trk X H) (h1 : G X ta σ H (wsD ws)) (h2 : G X tb σ H (.list (rs.map stpD))) (h3 : G X tc σ H (.list [])) (a1 : ∀ r ∈ rs, okS r) (a2 : (rs.map Stp.name).Nodup) (a3 : okT ws rs) (a4 : Wd ws) (a5 : rs.length ≤ 8) :
    G X (tCall spSteps [] E (tCons ta (tCons tb (tCons tc tNil)))) σ H (.list (rs.map stpD)) :=
  g_call (ga_cons h1 (ga_cons h2 (ga_cons h3 ga_nil))) fun vs H1 s rs' Q k => by
    cases rs' with
    | cons r1 r2 =>
      cases r2 with
      | cons r2 r3 =>
        cases r3 with
        | cons r3 r4 =>
          cases r4
          exact ⟨X, _, _, _, ws, rs, rfl, t.mono s, r1, r2, r3, a1, a2, a3, a4, a5, k⟩
def spBehind : Sp := fun vs H Q _ => ∃ (X : Addr → Prop) (v1 v2 : V) (ws : List Str) (rs : List Stp), vs = [v1, v2] ∧ Trk X H ∧ DX X H v1 (wsD ws) ∧ DX X H v2 (.list (rs.map stpD)) ∧ (∀ r ∈ rs, okS r) ∧ (rs.map Stp.name).Nodup ∧ okT ws rs ∧ Wd ws ∧ rs.length ≤ 8 ∧
  ∀ w H', Same H H' → DX X H' w (wsD (hereOf ws rs)) → Q w H'
end K20

/-! enumerate of a tuple, and of what is a list or a tuple. -/
namespace KD
open PySem PySem.Spec PyProof.Rows L2
open AutoSeq1 (wpAny_loadPart')
theorem newT (l : Addr) (its : Array Value) (n : Nat) (dc : Option Addr) (sl : Array (Option Value)) : Meets (Builtin.«enumerate.__new__» ⟨[.type "enumerate", .ref l], []⟩) (fun _ R s =>
    s.heap.get? l = some ⟨.type "tuple", dc, .seq its n, sl⟩ ∧ R (.ok (.ret (.ref (s.heap.push ⟨.type "tuple_iterator", none, .fields #[.ref l, .int 0 0], #[]⟩).objs.size))) { s with heap := (s.heap.push ⟨.type "tuple_iterator", none, .fields #[.ref l, .int 0 0], #[]⟩).push ⟨.type "enumerate", none, .fields #[.none, .bool false, .ref s.heap.objs.size, rawInt 0, .none, .none], #[]⟩ }) :=
  .of_wp fun prog w A R s q => by
    obtain ⟨hp, g, d, tk, os⟩ := s
    obtain ⟨e, q⟩ := q
    have hs := sub_enumerate
    have T : Heap.IsTuple (Shared.heap ⟨hp, g, d, tk, os⟩) l its := ⟨_, e, rfl, n, rfl⟩
    wp_walk using wpAny_loadPart' e
    refine wpAny_stack_any fun st => wpAny_pure ?_
    split
    · rename_i c _ _ _ _ _
      cases c == Value.type "enumerate" <;> (wp_walk using wpAny_loadPart' e, wpAny_pyIter_tuple T; exact ⟨_, rfl, q⟩)
    · wp_walk using wpAny_loadPart' e, wpAny_pyIter_tuple T
      exact ⟨_, rfl, q⟩
section
variable {P : Program} {w : World} {A : Around} {E : Value → Shared → Prop} {s : Shared} {l : Addr} {its : Array Value} {Q : Value → Shared → Prop}
theorem call_enumT (T : s.heap.IsTuple l its) (k : ∀ h', IsEnum h' (s.heap.objs.size + 1) s.heap.objs.size 0 .none → h'.IsTupleIter s.heap.objs.size l 0 → (∀ b o, s.heap.get? b = some o → h'.get? b = some o) → Q (.ref (s.heap.objs.size + 1)) { s with heap := h' }) :
    wpAny (model P w) A (call (.type "enumerate") [.ref l]) Q E s := by
  obtain ⟨⟨c, dc, dt, sl⟩, e, hc, n, hd⟩ := T
  simp only at hc hd
  subst hc
  subst hd
  refine callType_new F.called_enumerate (by decide) (F.typeCall_enumerate_1 _) (F.newCall_enumerate_1 _) (fun v => F.args_object_init_2 v _) F.entry_enumerate_new (newT l its n dc sl) ⟨e, (?_ : _ ∧ _)⟩
  have sz : (s.heap.push ⟨.type "tuple_iterator", none, .fields #[.ref l, .int 0 0], #[]⟩).objs.size = s.heap.objs.size + 1 := Heap.size_push ..
  rw [sz]
  have en := Heap.get?_push_size (s.heap.push ⟨.type "tuple_iterator", none, .fields #[.ref l, .int 0 0], #[]⟩) (o := ⟨.type "enumerate", none, .fields #[.none, .bool false, .ref s.heap.objs.size, rawInt 0, .none, .none], #[]⟩) rfl
  rw [sz] at en
  exact ⟨⟨_, en, rfl⟩, k _ en ⟨_, Heap.get?_push_of_some _ (Heap.get?_push_size _ rfl), rfl, rfl⟩ fun b o q => Heap.get?_push_of_some _ (Heap.get?_push_of_some _ q)⟩
end
/-- the tuple at a, each item in a new pair with its place -/
def ItEt (K : PySem.W.Frag) (a : Addr) (n : Nat) : It where
  go := fun i H => ∃ (xs : List V) (x : V), SqT K H a xs ∧ xs.length = n ∧ xs[i]? = some x
  yld := fun i H v H' => ∃ (T : Addr) (x : V), v = .ref T ∧ H T = none ∧ H' = upd H T (.tup [.int (i : Nat), x]) ∧ ∀ xs, SqT K H a xs → xs[i]? = some x
  stop := fun i H => ∃ xs : List V, SqT K H a xs ∧ xs.length = n ∧ xs.length ≤ i
theorem turn_enumT {P : Program} {w : World} {K : PySem.W.Frag} {elts : List Expr} {kk : Nat} {tpos : Pos} (a e it : Addr) (n : Nat) :
    Turn P w K (.Tuple elts kk tpos) (ItEt K a n) [e, it] e (fun i h => (∃ old, IsEnum h e it ((i : Nat) : Int) old) ∧ h.IsTupleIter it a i ∧ e ≠ it ∧ a ≠ it ∧ i ≤ n) where
  mem := List.mem_cons_self
  obj := fun i h st b hb => by
    obtain ⟨⟨old, he⟩, ⟨o, ho, hc, hd⟩, _⟩ := st
    rcases List.mem_cons.mp hb with z | z
    · subst z
      exact ⟨_, he, fun v q => nomatch q⟩
    · rw [List.mem_singleton.mp z]
      exact ⟨o, ho, fun v q => by rw [hd] at q; cases q⟩
  keep := fun i h h' st k => by
    obtain ⟨⟨old, he⟩, hi, h2, h3⟩ := st
    exact ⟨⟨old, k e List.mem_cons_self _ he⟩, hi.at fun o q => k it (.tail _ List.mem_cons_self) o q, h2, h3⟩
  item := by
    intro X hP hw hK hc i pins s σ H E I hf st hg
    subst hP hw hK
    obtain ⟨⟨old, he⟩, hit, hne, hne2, hle⟩ := st
    obtain ⟨xs, x, hq, hn, hx⟩ := hg
    obtain ⟨its, rv, p, hz⟩ := I.tuple hq
    obtain ⟨u, hu, ru⟩ := rv.get hx
    have hel : e < s.heap.objs.size := Heap.lt_size he
    have hil : it < s.heap.objs.size := by
      obtain ⟨_, q, _⟩ := hit
      exact Heap.lt_size q
    have nea : e ∉ [it, a] := fun q => by
      rcases List.mem_cons.mp q with q | q
      · exact hne q
      · obtain ⟨o, e1, e2, _⟩ := p
        rw [← List.mem_singleton.mp q, he] at e1
        cases e1
        exact absurd (show Value.type "enumerate" = Value.type "tuple" from e2) (by decide)
    have hlt : i < its.toArray.size := by
      rw [List.size_toArray]
      exact (List.getElem?_eq_some_iff.mp hu).1
    have D : Draws X.prog X.w X.A.in1 it [it, a] its.toArray.size _ _ := Draws.tuple (A := X.A.in1) (I.ok.hd hc) it a hne2 its.toArray
    refine wpAny_pyNext_enum_itemD D he ⟨hit, p⟩ hlt hne nea fun y h1 tk hy ho st1 hT hsz hk => ?_
    have ey : y = u := by
      rw [List.getElem?_toArray, hu] at hy
      exact (Option.some.inj hy).symm
    subst ey
    refine ⟨_, rfl, wpAny_letOwnedTupleGo_enum (s := { s with heap := h1, toks := tk + 1 }) ho fun h2 he' sb => ?_⟩
    have hT2 : h2.get? s.heap.objs.size = some { cls := .type "tuple", data := .seq #[.int i tk, y] } := (sb.2 _ (Nat.ne_of_gt hel)).trans hT
    have new : ObjOk X.prog X.w (upd H s.heap.objs.size (.tup [.int (i : Nat), x])) h2 s.heap.objs.size (.tup [.int (i : Nat), x]) := ⟨by show 2 ≤ sizeLine; decide, [.int i tk, y], .cons ⟨_, rfl⟩ (.cons ru .nil), ⟨_, hT2, rfl, _, rfl⟩⟩
    have no : ∀ b, b ∉ [e, it] → b ≠ e ∧ b ≠ it := fun b q => ⟨fun z => q (z ▸ List.mem_cons_self), fun z => q (z ▸ .tail _ List.mem_cons_self)⟩
    have I1 := I.turnedNew (t' := tk + 1) (ch := [e, it]) (fun b ob hb q => (sb.2 b (no b hb).1).trans (hk b ob (no b hb).1 (no b hb).2 q)) hf (Nat.le_refl _) new
    refine ⟨.ref s.heap.objs.size, _, I1, rfl, ⟨_, x, rfl, I.hok.fresh (Nat.le_refl _), rfl, fun ys hy => by rw [I.tuple_inj hy hq]; exact hx⟩, ⟨⟨y, ?_⟩, st1.1.at fun o q => (sb.2 it (Ne.symm hne)).trans q, hne, hne2, by
      have := (List.getElem?_eq_some_iff.mp hx).1
      omega⟩, fun b hb => ?_⟩
    · rw [show ((i + 1 : Nat) : Int) = (i : Int) + 1 by omega]
      exact he'
    · have lt : b < s.heap.objs.size := by
        rcases List.mem_cons.mp hb with z | z
        · rw [z]
          exact hel
        · rw [List.mem_singleton.mp z]
          exact hil
      rw [upd_ne (Nat.ne_of_lt lt)]
      exact (hf b hb).1
  done := by
    intro X hP hw hK hc i pins s σ H E I hf st hg
    subst hP hw hK
    obtain ⟨⟨old, he⟩, hit, hne, hne2, hle⟩ := st
    obtain ⟨xs, hq, hn, hx⟩ := hg
    obtain ⟨its, rv, p, hz⟩ := I.tuple hq
    obtain ⟨f0, f1, f2, f3, f4, f5⟩ := hf it (.tail _ List.mem_cons_self)
    have hl := rv.length
    have nea : e ∉ [it, a] := fun q => by
      rcases List.mem_cons.mp q with q | q
      · exact hne q
      · obtain ⟨o, e1, e2, _⟩ := p
        rw [← List.mem_singleton.mp q, he] at e1
        cases e1
        exact absurd (show Value.type "enumerate" = Value.type "tuple" from e2) (by decide)
    have ei : i = its.toArray.size := by
      rw [List.size_toArray]
      omega
    have D : Draws X.prog X.w X.A.in1 it [it, a] its.toArray.size _ _ := Draws.tuple (A := X.A.in1) (I.ok.hd hc) it a hne2 its.toArray
    exact wpAny_pyNext_enum_endD D he (ei ▸ ⟨hit, p⟩) fun h' eb => ⟨rfl, I.turned (t' := s.toks) (fun b o hb q => eb b o hb q) f0 f1 f3 f4 f5⟩
  self := fun A i s Q E st h => let ⟨⟨_, he⟩, _⟩ := st; wpAny_pyIter_enum he h
/-- a list or a tuple, each item with its place -/
def iEnumQ (K : PySem.W.Frag) (ta : TA) : TI := fun σ H R => ta σ H fun vs H1 => ∃ (a : Addr) (xs : List V), vs = [.ref a] ∧ ((SqL K H1 a xs ∧ R (Ite K a) H1) ∨ (SqT K H1 a xs ∧ R (ItEt K a xs.length) H1))
theorem pi_enumQ {X : Cx} {e : Expr} {ta : TA} {p pos tpos : Pos} {elts : List Expr} {kk : Nat} (hg : Gl X "enumerate") (hm : X.mg "enumerate" = none) (ha : PA X [e] ta) (hs : starEach [e] X.env = [(false, eval e X.env)] := by rfl) :
    PI X (.Tuple elts kk tpos) (.Call (.Name "enumerate" p) [e] [] pos) (iEnumQ X.K ta) := by
  refine ⟨fun pins s σ H R I h => Call_ (ld_blt I hg hm boot_enumerate (PyProof.Rows.callWith_type1 (thn (ha.run pos pins s σ H _ I h) fun us s1 w => ?_) hs rfl))⟩
  obtain ⟨vs, H1, I1, r1, a, xs, rfl, q⟩ := w
  cases r1 with
  | cons r rr =>
    cases rr
    cases r
    have fresh : ∀ b, b ∈ [s1.heap.objs.size + 1, s1.heap.objs.size] → s1.heap.objs.size ≤ b := fun b hb => by
      rcases List.mem_cons.mp hb with z | z
      · rw [z]
        exact Nat.le_succ _
      · rw [List.mem_singleton.mp z]
        exact Nat.le_refl _
    rcases q with ⟨hq, q⟩ | ⟨hq, q⟩
    · obtain ⟨its, rv, p', _⟩ := I1.list hq
      refine call_enumerate_list p'.isList fun h' he hit hz hk => wpAny_pyIter_enum he ?_
      exact ⟨_, [s1.heap.objs.size + 1, s1.heap.objs.size], _, _, H1, rfl, I1.kept (t' := s1.toks) hk, turn_enum a _ _, ⟨⟨.none, he⟩, hit, Nat.succ_ne_self _⟩, fun b hb => I1.fpOk (fresh b hb) (I1.hok.fresh (fresh b hb)), q⟩
    · obtain ⟨its, rv, p', _⟩ := I1.tuple hq
      have na : a ≠ s1.heap.objs.size := by
        obtain ⟨o, e1, _⟩ := p'
        exact Nat.ne_of_lt (Heap.lt_size e1)
      refine call_enumT p' fun h' he hit hk => wpAny_pyIter_enum he ?_
      exact ⟨_, [s1.heap.objs.size + 1, s1.heap.objs.size], _, _, H1, rfl, I1.kept (t' := s1.toks) hk, turn_enumT a _ _ xs.length, ⟨⟨.none, he⟩, hit, Nat.succ_ne_self _, na, Nat.zero_le _⟩, fun b hb => I1.fpOk (fresh b hb) (I1.hok.fresh (fresh b hb)), q⟩
section
variable {K : PySem.W.Frag} {a : Addr} {xs : List V}
theorem walk_enumT : Walk (ItEt K a xs.length) xs.length (fun H => SqT K H a xs) (YPair (fun i => some (.int (i : Nat))) (fun i => xs[i]?)) := by
  refine ⟨fun i _ hi q => ⟨xs, xs[i], q, rfl, by simp [hi]⟩, fun _ q => ⟨xs, q, rfl, Nat.le_refl _⟩, fun i H v H' _ q y => ?_⟩
  obtain ⟨T, x, h1, h2, h3, h4⟩ := y
  exact ⟨T, .int (i : Nat), x, h1, h2, h3, rfl, h4 xs q⟩
end
section
variable {X : Addr → Prop} {H : Hp} {σ : L2.St} {te : TE} {K : PySem.W.Frag} {d : PyData}
theorem gi_enumQ (h : G X te σ H d) (hs : isSeq d = true) : GI X (iEnumQ K (tCons te tNil)) σ H (enumD (itemsD d)) := by
  cases d with
  | list ds =>
    exact fun H1 s R r => h H1 s _ fun v H2 s2 rv => by
      obtain ⟨a, xs, rfl, n, e, rx⟩ := rv.lst_inv
      refine ⟨a, xs, rfl, .inl ⟨SqL.of e, r _ H2 s2 ⟨_, _, by rw [enumD_len, show (itemsD (PyData.list ds)).length = ds.length from rfl, ← rx.length]; exact walk_enum, fun X' m H3 k t => ?_⟩⟩⟩
      have n' : ¬ X' a := fun z => (m a z).elim n fun q => by rw [e] at q; cases q
      refine ⟨SqL.of (k a _ n' e), fun i x H4 y => ?_⟩
      obtain ⟨T, u, w, rfl, hT, rfl, hu, hw⟩ := y
      cases hu
      obtain ⟨d, h1, h2⟩ := rx.getV hw
      exact ⟨Same.upd hT, _, enumD_get h1, DX.newT t (.cons (.int _) (.cons ((h2.grow m).mono k) .nil)) hT⟩
  | tuple ds =>
    exact fun H1 s R r => h H1 s _ fun v H2 s2 rv => by
      obtain ⟨a, xs, rfl, n, e, rx⟩ := rv.tup_inv
      refine ⟨a, xs, rfl, .inr ⟨SqT.of e, r _ H2 s2 ⟨_, _, by rw [enumD_len, show (itemsD (PyData.tuple ds)).length = ds.length from rfl, ← rx.length]; exact walk_enumT, fun X' m H3 k t => ?_⟩⟩⟩
      have n' : ¬ X' a := fun z => (m a z).elim n fun q => by rw [e] at q; cases q
      refine ⟨SqT.of (k a _ n' e), fun i x H4 y => ?_⟩
      obtain ⟨T, u, w, rfl, hT, rfl, hu, hw⟩ := y
      cases hu
      obtain ⟨d, h1, h2⟩ := rx.getV hw
      exact ⟨Same.upd hT, _, enumD_get h1, DX.newT t (.cons (.int _) (.cons ((h2.grow m).mono k) .nil)) hT⟩
  | _ => cases hs
end
end KD

/-! Steps of a run that is handed in any form, some names taken. -/
namespace K20
open PySem PySem.Spec PyProof.Rows L2 KD KP KGr
-- RAISES change_of checked_text passed side_by_side
variable {P : Program} {w : World} {K : PySem.W.Frag} {mg : Str → Option Value} {base : Heap}
/-- words, in a list or a tuple -/
def TxH (d : PyData) (ws : List Str) : Prop := isSeq d = true ∧ itemsD d = ws.map PyData.str
/-- a change, as it is handed -/
def ChH (p : Int) (os ns : List Str) (c : PyData) : Prop := isSeq c = true ∧ ∃ o n, itemsD c = [.int p, o, n] ∧ TxH o os ∧ TxH n ns
/-- a run, as it is handed -/
def Hnd (hd : PyData) (rs : List Stp) : Prop := isSeq hd = true ∧ (itemsD hd).length = rs.length ∧ ∀ (i : Nat) (z : PyData) (r : Stp), (itemsD hd)[i]? = some z → rs[i]? = some r → isSeq z = true ∧ ∃ c, itemsD z = [.str r.name, c] ∧ ChH r.p r.os r.ns c
theorem TxH.wrong {d : PyData} {ws : List Str} (h : TxH d ws) (g : Wd ws) : wrongD d = .none := by
  have := g.wrong
  unfold wrongD at this ⊢
  rw [if_pos h.1, h.2]
  rw [if_pos (show isSeq (wsD ws) = true from rfl)] at this
  exact this
theorem TxH.all {d : PyData} {ws : List Str} (h : TxH d ws) (g : Wd ws) : wordsAll d := fun _ => by
  have := g.all rfl
  rw [h.2]
  exact this
theorem TxH.ws {d : PyData} {ws : List Str} (h : TxH d ws) : wsOf d = ws := by
  have := wsOf_wsD ws
  unfold wsOf at this ⊢
  rw [h.2]
  exact this
theorem TxH.len {d : PyData} {ws : List Str} (h : TxH d ws) : lenD d = ws.length := by rw [lenD_seq h.1, h.2, List.length_map]
section
variable {p : Int} {os ns : List Str} {c : PyData} {C : Addr}
theorem ChH.is (h : ChH p os ns c) (h0 : 0 ≤ p) (g1 : Wd os) (g2 : Wd ns) (hl : 0 < os.length + ns.length) : isChangeD c = true := by
  obtain ⟨s, o, n, e, ho, hn⟩ := h
  have e0 : it c 0 = .int p := by unfold it; rw [e]; rfl
  have e1 : it c 1 = o := by unfold it; rw [e]; rfl
  have e2 : it c 2 = n := by unfold it; rw [e]; rfl
  unfold isChangeD ch3
  rw [s, e0, e1, e2, e, ho.wrong g1, hn.wrong g2, ho.len, hn.len]
  simp [isNumD, isNone, h0]
  omega
theorem ChH.pre (h : ChH p os ns c) (g1 : Wd os) (g2 : Wd ns) : chPre c := fun _ => by
  obtain ⟨s, o, n, e, ho, hn⟩ := h
  rw [e]
  refine ⟨by simp, fun z hz => ?_⟩
  simp at hz
  rcases hz with rfl | rfl | rfl
  · exact fun h => by cases h
  · exact ho.all g1
  · exact hn.all g2
theorem ChH.told (h : ChH p os ns c) (h0 : 0 ≤ p) (g1 : Wd os) (g2 : Wd ns) (hl : 0 < os.length + ns.length) : changeOut C c = .val (chD p os ns) := by
  have ic := h.is h0 g1 g2 hl
  unfold changeOut
  rw [if_pos ic]
  obtain ⟨s, o, n, e, ho, hn⟩ := h
  have e0 : it c 0 = .int p := by unfold it; rw [e]; rfl
  have e1 : it c 1 = o := by unfold it; rw [e]; rfl
  have e2 : it c 2 = n := by unfold it; rw [e]; rfl
  unfold toldD
  rw [e0, e1, e2, ho.2, hn.2]
  rfl
end
theorem hnd_list (rs : List Stp) : Hnd (.list (rs.map stpD)) rs := ⟨rfl, List.length_map _, fun i z r h1 h2 => by
  have h1 : (rs.map stpD)[i]? = some z := h1
  rw [List.getElem?_map, h2] at h1
  cases h1
  exact ⟨rfl, chD r.p r.os r.ns, rfl, rfl, wsD r.os, wsD r.ns, rfl, ⟨rfl, rfl⟩, ⟨rfl, rfl⟩⟩⟩
def spStepsG : Sp := fun vs H Q _ => ∃ (X : Addr → Prop) (v1 v2 v3 : V) (ws : List Str) (rs : List Stp) (hd : PyData) (tk : List Str), vs = [v1, v2, v3] ∧ Trk X H ∧ DX X H v1 (wsD ws) ∧ DX X H v2 hd ∧ Hnd hd rs ∧ DX X H v3 (wsD tk) ∧ (∀ r ∈ rs, okS r) ∧ (rs.map Stp.name).Nodup ∧ (∀ r ∈ rs, r.name ∉ tk) ∧ okT ws rs ∧ Wd ws ∧ rs.length ≤ 8 ∧ tk.length ≤ 8 ∧
  ∀ w H', Same H H' → DX X H' w (.list (rs.map stpD)) → Q w H'
-- HINT steps_of in op_in_seq
-- HINT steps_of enum pi_enumQ
-- HINT steps_of ix ix_seq
abbrev s_steps_of : Stmt := topS 31
abbrev n_steps_of : List Str := ["text", "run", "taken", "steps", "names", "words", "index", "thing", "change"]
theorem sc_steps_of : FnScope n_steps_of ["text", "run", "taken"] (defScope s_steps_of) := ⟨rfl, rfl, rfl, by decide +kernel, rfl, by decide +kernel, by decide +kernel⟩
theorem ok_steps_ofG {f Cc : Addr} {fd : FuncData} (F : Fun K "steps_of" "steps_of" s_steps_of f fd) (T : Bl mg) (O_is_list : Own P w K mg base CX0 1 "is_list" ["thing"] (sp1 (fun _ => True) fun d => .bool (isSeq d))) (O_is_pair : Own P w K mg base CX0 2 "is_pair" ["thing"] (sp1 (fun _ => True) fun d => .bool (isSeq d && decide (lenD d = 2))))
    (O_is_name : Own P w K mg base CX0 1 "is_name" ["thing"] (sp1 (fun d => ∃ s ∈ allNames, d = .str s) fun _ => .bool true)) (O_is_change : Own P w K mg base CX0 3 "is_change" ["thing"] (sp1 chPre fun d => .bool (isChangeD d)))
    (O_fits : Own P w K mg base CX0 1 "fits" ["text", "change"] (sp2 TC fun a b => .bool (fitsB (wsOf a) (intOf (it b 0)) (wsOf (it b 1))))) (O_change_of : Own P w K mg base (L2.CX P w) 4 "change_of" ["thing"] (spX1 chPre (changeOut Cc)))
    (O_put_in : Own P w K mg base CX0 1 "put_in" ["text", "change"] (sp2N TC fun a b => wsD (putB (wsOf a) (intOf (it b 0)) (wsOf (it b 1)) (wsOf (it b 2))))) : FnOk P w K mg base CX0 5 f fd ["text", "run", "taken"] spStepsG := by
  refine F.ok sc_steps_of (fun vs H Q E h => ?_) (fun cdv A outer s H vs Q E hr h => ?_)
  · obtain ⟨X, v1, v2, v3, ws, rs, hd, tk, rfl, _⟩ := h
    rfl
  · obtain ⟨X, v1, v2, v3, ws, rs, hd, tk, rfl, t, d1, d2, hh, d3, hs, nd, ntk, ho, hw, hl, htk, k⟩ := h
    obtain ⟨hsq, hlen, hits⟩ := hh
    refine ⟨_, (pss_cons (ps_if (pt_not (pt_val (pe_own O_is_list hr (by decide) (by rfl) (pa_cons (pv 1) pa_nil))))
    (pss_one ps_never) pss_nil)
    (pss_cons (ps_set (i := 3) sc_steps_of.nd rfl (by first | exact Or.inl rfl | exact Or.inr rfl) (pe_lst pa_nil))
    (pss_cons (ps_set (i := 4) sc_steps_of.nd rfl (by first | exact Or.inl rfl | exact Or.inr rfl) (pe_callTy call_list_of (by rfl) T.b_list boot_list (pa_cons (pv 2) pa_nil)))
    (pss_cons (ps_set (i := 5) sc_steps_of.nd rfl (by first | exact Or.inl rfl | exact Or.inr rfl) (pv 0))
    (pss_cons (ps_for PassesOwn.never rfl (pi_enumQ (by rfl) T.b_enumerate (pa_cons (pv 1) pa_nil)) (pg_tup (n := 2) rfl (pgs_cons (pg_name (i := 6) sc_steps_of.nd rfl (by first | exact Or.inl rfl | exact Or.inr rfl)) (pgs_cons (pg_name (i := 7) sc_steps_of.nd rfl (by first | exact Or.inl rfl | exact Or.inr rfl)) pgs_nil)))
    (pss_cons (ps_if (PW.pt (pw_or (pt_not (pt_val (pe_own O_is_pair hr (by decide) (by rfl) (pa_cons (pv 7) pa_nil)))) (pw_or (pt_not (pt_val (pe_own O_is_name hr (by decide) (by rfl) (pa_cons (pe_ix ix_seq (pv 7) pe_int (fun _ _ => rfl)) pa_nil)))) (pw_or1 (pt_cmpR op_in_seq (pe_ix ix_seq (pv 7) pe_int (fun _ _ => rfl)) (pv 4) (by rfl))))))
    (pss_one ps_never) pss_nil)
    (pss_cons (ps_if (PW.pt (pw_or (pt_not (pt_val (pe_own O_is_change hr (by decide) (by rfl) (pa_cons (pe_ix ix_seq (pv 7) pe_int (fun _ _ => rfl)) pa_nil)))) (pw_or1 (pt_not (pt_val (pe_own O_fits hr (by decide) (by rfl) (pa_cons (pv 5) (pa_cons (pe_ownX O_change_of hr (by decide) LamX.takes0 (by rfl) (pa_cons (pe_ix ix_seq (pv 7) pe_int (fun _ _ => rfl)) pa_nil)) pa_nil))))))))
    (pss_one ps_never) pss_nil)
    (pss_cons (ps_set (i := 8) sc_steps_of.nd rfl (by first | exact Or.inl rfl | exact Or.inr rfl) (pe_ownX O_change_of hr (by decide) LamX.takes0 (by rfl) (pa_cons (pe_ix ix_seq (pv 7) pe_int (fun _ _ => rfl)) pa_nil)))
    (pss_cons (ps_expr (pe_bm PySem.F.plainAttrs_list PySem.F.slot_list_append PySem.F.type_list_append mt_append (pv 3) (pa_cons (pe_tup (pa_cons (pe_ix ix_seq (pv 7) pe_int (fun _ _ => rfl)) (pa_cons (pv 8) pa_nil))) pa_nil)))
    (pss_cons (ps_expr (pe_bm PySem.F.plainAttrs_list PySem.F.slot_list_append PySem.F.type_list_append mt_append (pv 4) (pa_cons (pe_ix ix_seq (pv 7) pe_int (fun _ _ => rfl)) pa_nil)))
    (pss_one (ps_set (i := 5) sc_steps_of.nd rfl (by first | exact Or.inl rfl | exact Or.inr rfl) (pe_own O_put_in hr (by decide) (by rfl) (pa_cons (pv 5) (pa_cons (pv 8) pa_nil)))))))))))
    (pss_one (ps_ret (pv 3)))))))), ?_⟩
    have En : EnvOk X H (L2.start n_steps_of [v1, v2, v3]) (pad n_steps_of [.dat (wsD ws), .dat hd, .dat (wsD tk)]) := env3 d1 d2 d3 (by decide)
    refine q_if (b := false) (gt_is (gt_not (gt_B (g_call1 t (g_var (i := 1) (d := hd) En rfl) trivial))) (by rw [hsq]; rfl)) (fun h => by cases h) fun _ H1 s1 => ?_
    have E1 := En.same s1
    have t1 := t.mono s1
    refine k_own (i := 3) E1 t1 (gn_lst t1 ga_nil (by simp)) fun LA H2 xs2 f2 s2 h2 x2 E2 t2 => ?_
    refine k_own (i := 4) E2 t2 (gn_listOf t2 (g_var (i := 2) (d := wsD tk) E2 rfl) rfl) fun LB H3 xs3 f3 s3 h3 x3 E3 t3 => ?_
    refine q_set (i := 5) E3 (g_var (i := 0) (d := wsD ws) E3 rfl) fun H4 v4 s4 E4 => ?_
    let X' : Addr → Prop := fun b => X b ∨ b = LA
    let X'' : Addr → Prop := fun b => X' b ∨ b = LB
    let Γ (here : List Str) : List Sv := [.dat (wsD ws), .dat hd, .dat (wsD tk), .val (.ref LA), .val (.ref LB), .dat (wsD here), .un, .un, .un]
    have t4 : Trk X'' H4 := t3.mono s4
    have nX : ¬ X LA := t1.new f2
    have ne12 : LA ≠ LB := fun e => by rw [← e, h2] at f3; cases f3
    have f3' : H1 LB = none := s2.free f3
    have s14 : Same H1 H4 := (s2.trans s3).trans s4
    have a2 := s3 LA _ h2
    refine s_forD (X := X'') (gi_enumQ (g_var (i := 1) (d := hd) E4 rfl) hsq) (fun Hb i σ' H' => Kp X'' Hb H' ∧ Trk X'' H' ∧ Same H1 H' ∧ (∃ xs, H' LA = some (.lst xs) ∧ DXs X'' H' xs ((rs.take i).map stpD)) ∧ (∃ ys, H' LB = some (.lst ys) ∧ DXs X'' H' ys ((tk ++ (rs.take i).map Stp.name).map PyData.str)) ∧ EnvOk X'' H' σ' (Γ (hereOf ws (rs.take i)))) ?_ ?_ ?_ ?_
    · intro Hb sb
      refine ⟨Kp.refl, t4.mono sb, s14.trans sb, ⟨xs2, sb _ _ (s4 _ _ a2), ?_⟩, ⟨xs3, sb _ _ (s4 _ _ h3), ?_⟩, E4.same sb⟩
      · cases x2
        exact .nil
      · rw [List.take_zero, List.map_nil, List.append_nil]
        exact (x3.mono (Kp.of s4)).mono (Kp.of sb)
    · rintro Hb i σ' H' ⟨p1, p2, _⟩
      exact ⟨p1, p2⟩
    · rintro Hb i x d σ' H' H'' sb hdd ⟨p1, p2, p3, ⟨xs, p4, p5⟩, ⟨ys, p6, p7⟩, E⟩ s5 dx
      have hi : i < rs.length := by
        have := (List.getElem?_eq_some_iff.mp hdd).1
        rw [enumD_len, hlen] at this
        exact this
      obtain ⟨r, hri⟩ : ∃ r, rs[i]? = some r := ⟨_, List.getElem?_eq_getElem hi⟩
      obtain ⟨z, hzi⟩ : ∃ z, (itemsD hd)[i]? = some z := ⟨_, List.getElem?_eq_getElem (by rw [hlen]; exact hi)⟩
      obtain ⟨zs', c, zi, cr⟩ := hits i z r hzi hri
      rw [enumD_get hzi] at hdd
      cases hdd
      obtain ⟨g1, g2, g3, g4⟩ := hs r (List.mem_of_getElem? hri)
      obtain ⟨p, ep, fp⟩ := okT_at ho hri
      have tkn : rs.take (i + 1) = rs.take i ++ [r] := by rw [List.take_succ, hri]; rfl
      have hsn : ∀ z ∈ rs.take i, okS z := fun z hz => hs z (List.mem_of_mem_take hz)
      have lh := here_len (rs := rs.take i) (ws := ws) fun z hz => (hsn z hz).2.2.1.1
      have lt : (rs.take i).length ≤ 8 := Nat.le_trans (List.length_take_le' _ _) hl
      have wl := hw.1
      have who : WsOk (hereOf ws (rs.take i)) := ⟨by omega, here_mem (fun z hz => (hw.2 z hz).2) fun z hz y hy => ((hsn z hz).2.2.1.2 y hy).2⟩
      have nin : r.name ∉ tk ++ (rs.take i).map Stp.name := by
        intro hm
        rcases List.mem_append.mp hm with hm | hm
        · exact ntk r (List.mem_of_getElem? hri) hm
        have n2 : ((rs.take (i + 1)).map Stp.name).Nodup := nd.sublist ((List.take_sublist _ _).map _)
        rw [tkn, List.map_append] at n2
        exact (List.nodup_append.mp n2).2.2 _ hm _ (by simp) rfl
      refine g_pair (d := .int (i : Int)) (e := z) dx fun u v q1 q2 => ?_
      have E6 := ((E.same s5).set (i := 6) q1).set (i := 7) q2
      have t6 := p2.mono s5
      have ic := cr.is (by omega) g2 g3 g4
      have ch : G X'' (tOp (rIx K) (tVar 7) (tC (.int 1))) _ H'' c := g_ix t6 (g_var (i := 7) (d := z) E6 rfl) zs' g_int (by rw [zi]; rfl)
      have toldc : changeOut Cc c = .val (chD r.p r.os r.ns) := cr.told (by omega) g2 g3 g4
      have tc : TC (wsD (hereOf ws (rs.take i))) (chD r.p r.os r.ns) := ⟨_, _, _, _, rfl, rfl, who, g2.ok, g3.ok, by omega⟩
      have nm : ∀ {H1 : Hp} {σ : L2.St} {Γ' : List Sv}, EnvOk X'' H1 σ Γ' → Γ'[7]? = some (.dat z) → Trk X'' H1 → G X'' (tOp (rIx K) (tVar 7) (tC (.int 0))) σ H1 (.str r.name) := fun E e t => g_ix t (g_var (i := 7) (d := z) E e) zs' g_int (by rw [zi]; rfl)
      refine q_if (b := false) (gt_is (gt_or (b := false) (gt_is (gt_not (gt_B (g_call1 t6 (g_var (i := 7) (d := z) E6 rfl) trivial))) (by rw [zs', lenD_seq zs', zi]; first | done | rfl)) fun _ => gt_is (gt_or (b := false) (gt_not (gt_B (g_call1 t6 (nm E6 rfl t6) ⟨_, g1, rfl⟩))) fun _ => gt_inNames (nms := tk ++ (rs.take i).map Stp.name) (nm E6 rfl t6) E6 rfl (by rw [← strs_inv p7]; exact s5 _ _ p6) nin) rfl) rfl) (fun h => by cases h) fun _ H7 s7 => ?_
      have E7 := E6.same s7
      have t7 := t6.mono s7
      have fb : PyData.bool (fitsB (wsOf (wsD (hereOf ws (rs.take i)))) (intOf (it (chD r.p r.os r.ns) 0)) (wsOf (it (chD r.p r.os r.ns) 1))) = .bool true := by
        show PyData.bool (fitsB (wsOf (wsD (hereOf ws (rs.take i)))) r.p (wsOf (wsD r.os))) = .bool true
        rw [wsOf_wsD, wsOf_wsD, ep]
        unfold fitsB
        rw [Int.toNat_natCast, fp.2]
        have := fp.1
        simp
        omega
      refine q_if (b := false) (gt_is (gt_or (gt_is (gt_not (gt_B (g_call1 t7 (ch.mono s7) (cr.pre g2 g3)))) (b := false) (by rw [ic]; rfl)) fun _ => gt_not (gt_B (g_is (g_call2 t7 (g_var (i := 5) E7 rfl) (g_X1 t7 (ch.mono s7) (cr.pre g2 g3) toldc) tc) fb))) rfl) (fun h => by cases h) fun _ H8 s8 => ?_
      have E8 := E7.same s8
      have t8 := t7.mono s8
      refine q_set (i := 8) (d := chD r.p r.os r.ns) E8 (g_X1 t8 (ch.mono (s7.trans s8)) (cr.pre g2 g3) toldc) fun H9 v9 s9 E9 => ?_
      have t9 := t8.mono s9
      have s59 := ((s5.trans s7).trans s8).trans s9
      have lx : (rs.take i).map stpD = (rs.take i).map stpD := rfl
      refine q_append (i := 3) (L := LA) (d := stpD r) E9 rfl (.inl (.inr rfl)) t9 (s59 _ _ p4) (p5.mono (Kp.of s59)) (g_tup t9 (ga_cons (nm E9 rfl t9) (ga_cons (g_var (i := 8) E9 rfl) ga_nil)) (by simp)) (by rw [List.length_map]; omega) fun H10 zs h10 x10 E10 t10 k10 => ?_
      have b10 : H10 LB = some (.lst ys) := k10 _ _ (Ne.symm ne12) (s59 _ _ p6)
      have kx10 : Kp X'' H9 H10 := fun a o n e => k10 a o (fun z => n (.inl (.inr z))) e
      refine q_append (i := 4) (L := LB) (d := .str r.name) E10 rfl (.inr rfl) t10 b10 ((p7.mono (Kp.of s59)).mono kx10) (nm E10 rfl t10) (by rw [List.length_map, List.length_append, List.length_map]; omega) fun H11 zs2 h11 x11 E11 t11 k11 => ?_
      have b11 : H11 LA = some (.lst zs) := k11 _ _ ne12 h10
      have kx11 : Kp X'' H10 H11 := fun a o n e => k11 a o (fun z => n (.inr z)) e
      have same11 : Same H1 H11 := fun a o e => by
        have n1 : a ≠ LA := fun z => by rw [z, f2] at e; cases e
        have n2 : a ≠ LB := fun z => by rw [z, f3'] at e; cases e
        exact k11 a o n2 (k10 a o n1 (s59 a o (p3 a o e)))
      refine (GN.g (gn_call2 t11 (g_var (i := 5) E11 rfl) (g_var (i := 8) E11 rfl) tc)) H11 (Same.refl _) _ fun w12 H12 s12 d12 => ?_
      refine ⟨((p1.trans (Kp.of s59)).trans (kx10.trans kx11)).trans (Kp.of s12), t11.mono s12, same11.trans s12, ⟨zs, s12 _ _ b11, ?_⟩, ⟨zs2, s12 _ _ h11, ?_⟩, ?_⟩
      · rw [tkn, List.map_append]
        exact (x10.mono kx11).mono (Kp.of s12)
      · rw [tkn, List.map_append (l₁ := rs.take i), ← List.append_assoc, List.map_append]
        exact x11.mono (Kp.of s12)
      · rw [tkn, hereOf_snoc]
        have d12' : DX X'' H12 w12 (wsD (putB (hereOf ws (rs.take i)) r.p r.os r.ns)) := by
          have e : wsD (putB (wsOf (wsD (hereOf ws (rs.take i)))) (intOf (it (chD r.p r.os r.ns) 0)) (wsOf (it (chD r.p r.os r.ns) 1)) (wsOf (it (chD r.p r.os r.ns) 2))) = wsD (putB (hereOf ws (rs.take i)) r.p r.os r.ns) := by
            show wsD (putB (wsOf (wsD (hereOf ws (rs.take i)))) r.p (wsOf (wsD r.os)) (wsOf (wsD r.ns))) = _
            rw [wsOf_wsD, wsOf_wsD, wsOf_wsD]
          rw [← e]
          exact d12
        exact envUn (envUn (envUn ((E11.same s12).set (i := 5) d12') 6) 7) 8
    · rintro Hb σ' H' sb ⟨p1, p2, p3, ⟨xs, p4, p5⟩, _, E⟩
      rw [enumD_len, hlen, List.take_length] at p5
      exact ⟨.ref LA, E.get 3 (.val (.ref LA)) rfl, k _ H' (s1.trans p3) (.lst nX p4 (DXs.less (fun a h => .inl (.inl h)) p5))⟩
end K20

/-! len(set(xs)), xs a list of unlike texts. -/
namespace KD
open PySem PySem.Spec PyProof.Rows L2
section
variable {P : Program} {w : World} {A : Around} {I S : Addr} {fp wr : List Addr} {G : Array GenState → Array GenState → Prop} {n : Nat} {Pv : Nat → Value → Prop} {St : Nat → Shared → Prop} {R : Result → Shared → Prop}
/-- the loop of set(..) over unlike texts -/
theorem loopU (W : WalksS P w A.in1 I fp wr G n Pv St) (nS : S ∉ fp) {xs : List Str} (nd : xs.Nodup) (ln : xs.length = n) (few : n + 1 < scanBound) (hv : ∀ i v, Pv i v → ∃ t, v = .str (xs.getD i Str.empty) t) :
    ∀ (m i : Nat) (s : Shared), i + m = n → St i s → s.heap.SetOf (PySem.strKind P w) S (fun z => decide (z ∈ xs.take i)) i → (∀ s', Moved (S :: wr) G s s' → s'.heap.SetOf (PySem.strKind P w) S (fun z => decide (z ∈ xs.take n)) n → R (.ok (.ret .none)) s') →
      codeAny (model P w) A (.builtin "set.update.loop" ⟨[.ref S, .ref I], []⟩) R s := by
  have nW : S ∉ wr := fun q => nS (W.sub _ q)
  have up : ∀ b ∈ wr, b ∈ S :: wr := fun b q => .tail _ q
  have kept : ∀ {s s' : Shared} {f : Str → Bool} {c : Nat}, Moved wr G s s' → s.heap.SetOf (PySem.strKind P w) S f c → s'.heap.SetOf (PySem.strKind P w) S f c := fun {s s' f c} mv so => by
    obtain ⟨o, es, ep, t, e1, e2⟩ := so
    exact ⟨o, es, ep, t, mv.heap S _ nW e1, e2⟩
  intro m
  induction m with
  | zero =>
    intro i s hi st so k
    have ei : i = n := by omega
    subst ei
    refine codeAny_builtin PyProof.Rows.F.entry_set_update_loop (?_ : wpAny _ (A.under _) _ _ _ s)
    rw [Around.under_plainId PyProof.Rows.F.plain_set_update_loop]
    exact wpAny_bind (W.done s _ _ st fun s' mv => wpAny_pure (k s' (mv.mono up) (kept mv so)))
  | succ m ih =>
    intro i s hi st so k
    have lt : i < n := by omega
    refine codeAny_builtin PyProof.Rows.F.entry_set_update_loop (?_ : wpAny _ (A.under _) _ _ _ s)
    rw [Around.under_plainId PyProof.Rows.F.plain_set_update_loop]
    refine wpAny_bind (W.item i s _ _ lt st fun v s1 pv st1 mv => ?_)
    obtain ⟨t, rfl⟩ := hv i v pv
    have li : i < xs.length := ln ▸ lt
    have ex : xs.getD i Str.empty = xs[i] := by simp [List.getD_eq_getElem?_getD, List.getElem?_eq_getElem li]
    rw [ex]
    have so1 := kept mv so
    have new : xs[i] ∉ xs.take i := fun q => by
      obtain ⟨j, hj, e⟩ := List.mem_iff_getElem.mp q
      rw [List.length_take] at hj
      rw [List.getElem_take] at e
      have lt2 : j < i := by omega
      exact (List.pairwise_iff_getElem.mp nd j i (by omega) li lt2) e
    show wpAny _ A.in1 (holding [Value.str xs[i] t] (setAdd S (.str xs[i] t)) >>= fun _ => _) _ _ s1
    refine wpAny_bind (wpAny_holding ((?_ : wpAny _ _ (holding _ _) _ _ _)))
    refine wpAny_holding (wpAny_bind ((PySem.strKind P w).pyHash (strKind_is _ _ _ _) ?_))
    refine wpAny_setAddHashed_of (k := xs[i]) (knd := PySem.strKind P w) (s := { s1 with toks := s1.toks + 1 }) (strKind_is _ _ _ _) rfl so1 (by omega) fun h' same so2 => ?_
    have so3 : h'.SetOf (PySem.strKind P w) S (fun z => decide (z ∈ xs.take (i + 1))) (i + 1) := by
      refine PyProof.Rows.SetOf_congr so2 (fun z => ?_) (by rw [if_neg (by simpa using new)])
      rw [List.take_succ, List.getElem?_eq_getElem li, ← Bool.decide_or]
      exact decide_eq_decide.mpr (by rw [List.mem_append]; simp)
    have oth : ∀ b o, b ≠ S → s1.heap.get? b = some o → h'.get? b = some o := fun b o q e => by rw [same.2 b q]; exact e
    refine wpAny_pure ⟨plainId_quiet PyProof.Rows.F.plain_set_update_loop _, ih (i + 1) _ (by omega) (W.frame _ s1 _ _ st1 (Nat.le_succ _) fun b q o e => oth b o (fun z => nS (z ▸ q)) e) so3 fun s2 mv2 so4 => k s2 ?_ so4⟩
    exact Moved.trans W.gtrans ((mv.mono up).then_heap (Nat.le_succ _) fun b o q e => oth b o (fun z => q (z ▸ List.mem_cons_self)) e) mv2
end
section
variable {P : Program} {w : World} {A : Around} {E : Value → Shared → Prop} {s : Shared} {l : Addr} {its : Array Value} {xs : List Str} {Q : Value → Shared → Prop}
/-- set(l), l a list of unlike texts -/
theorem call_setU (hh : A.handled = none) (hl : s.heap.IsList l its) (hx : StrsAre its.toList xs) (nd : xs.Nodup) (few : xs.length + 1 < scanBound)
    (k : ∀ (h' : Heap) (tk : Nat), h'.SetOf (PySem.strKind P w) s.heap.objs.size (fun z => decide (z ∈ xs)) xs.length → (∀ b o, s.heap.get? b = some o → h'.get? b = some o) → Q (.ref s.heap.objs.size) { s with heap := h', toks := tk }) :
    wpAny (model P w) A (call (.type "set") [.ref l]) Q E s := by
  have T := PySem.F.called_set
  obtain ⟨c, tl, e0⟩ := T.mro
  have e1 := T.made
  have e2 := T.sub
  have e3 := T.notType
  have e4 := T.canCreate
  have e5 := PySem.F.typeCall_set_1 (.ref l)
  refine wpAny_call (codeAny_of_tree ((?_ : wpAny _ _ (callAny (.type "set") _) _ _ _)))
  refine wpAny_pure ⟨Code.quiet_builtin _ (by decide +kernel), codeAny_builtin PySem.F.entry_type_call ?_⟩
  rw [Around.under_plain (weight_type_call_type "set" [.ref l] []) rfl]
  repeat (any_goals (first | assumption | wp_step))
  generalize hN : s.heap.objs.size = N at *
  let e : Bool → Heap := fun led => s.heap.push { cls := .type "set", dict := none, data := .set #[] 0 (.fresh 0 0 led) }
  refine codeAny_mono (code_set_new_1 (.ref l) (E := E) (Q₁ := fun v t => ∃ led : Bool, v = .ref N ∧ t = { s with heap := e led }) fun led => ⟨led, by rw [hN], rfl⟩) fun r t hr => ?_
  match r, hr with
  | .error _, hr => exact hr
  | .ok .next, hr => exact hr.elim
  | .ok .brk, hr => exact hr.elim
  | .ok .cont, hr => exact hr.elim
  | .ok (.ret v), hr =>
    obtain ⟨led, rfl, rfl⟩ := hr
    have g0 : (e led).get? N = some { cls := .type "set", dict := none, data := .set #[] 0 (.fresh 0 0 led) } := by rw [← hN]; exact Heap.get?_push_size _ rfl
    have ty : Shared.TypeIs { s with heap := e led } (.ref N) "set" := ⟨_, g0, rfl⟩
    have e6 := T.init.lookup
    have e7 := T.init.bind (.ref N)
    repeat (any_goals (first | assumption | wp_step))
    refine codeAny_mono (codeAny_call_builtin (R := wants (fun r t => r = .none ∧ ∃ h' tk, t = { s with heap := h', toks := tk } ∧ h'.SetOf (PySem.strKind P w) N (fun z => decide (z ∈ xs)) xs.length ∧ ∀ b o, s.heap.get? b = some o → h'.get? b = some o) E) T.init.plain PySem.F.entry_set_init (check_set_init_1 ty ?_)) fun r t hr => ?_
    rotate_left
    · match r, hr with
      | .error _, hr => exact hr
      | .ok .next, hr => exact hr.elim
      | .ok .brk, hr => exact hr.elim
      | .ok .cont, hr => exact hr.elim
      | .ok (.ret v), hr =>
        obtain ⟨rfl, h', tk, rfl, q1, q2⟩ := hr
        repeat (any_goals (first | assumption | wp_step))
        exact k h' tk q1 q2
    · have hl1 : (e led).IsList l its := hl.push _
      obtain ⟨o, ho, hc, nl, hd⟩ := hl1
      have c1 := PySem.F.sub_list_set
      have c2 := PySem.F.sub_list_frozenset
      have c3 : (Value.type "list" == Value.type "dict") = false := by decide
      have hl2 : (e led).IsList l its := ⟨o, ho, hc, nl, hd⟩
      obtain ⟨cl, dc, dt, sl⟩ := o
      simp only at hc hd
      subst hc
      subst hd
      unfold Builtin.«set.__init__» noKeywords Builtin.Frozenset.updateFrom
      generalize hI : pyIter = it
      wp_walk
      subst hI
      refine wpAny_pyIter_list hl2 (wpAny_bind (wpAny_runValue ?_))
      have sz : (e led).objs.size = N + 1 := by rw [← hN]; exact Heap.size_push _ _
      have lN : l < N := by
        obtain ⟨o2, ho2, _⟩ := hl
        rw [← hN]
        exact Heap.lt_size ho2
      have ln : xs.length = its.size := by rw [← StrsAre.len_eq hx, Array.length_toList]
      have hh3 : A.in1.in1.in1.handled = none := hh
      refine loopU ((Walks.list hh3 (e led).objs.size l (by rw [sz]; exact Nat.ne_of_lt (Nat.lt_succ_of_lt lN)) its).toS) (S := N) (fun q => by
        rw [sz] at q
        rcases List.mem_cons.mp q with q | q
        · exact absurd q (Nat.ne_of_lt (Nat.lt_succ_self _))
        · exact absurd (List.mem_singleton.mp q) (Nat.ne_of_gt lN)) nd ln (by omega) (fun i v q => SS.strs_at hx i v (by rw [Array.getElem?_toList]; exact q)) its.size 0 _ (by omega) ⟨⟨_, Heap.get?_push_size _ rfl, rfl, rfl⟩, hl2.push _⟩ ?_ fun t mv so => ?_
      · have g1 : ((e led).push { cls := .type "list_iterator", data := .fields #[.ref l, .int 0 0] }).get? N = some { cls := .type "set", dict := none, data := .set #[] 0 (.fresh 0 0 led) } := Heap.get?_push_of_some _ g0
        exact PyProof.Rows.SetOf_congr ((PyProof.Rows.setObjOf_fresh (knd := PySem.strKind P w) led).setOf g1 (by unfold scanBound; omega)) (fun z => by simp) rfl
      · obtain ⟨h', gs, dr, tk, os⟩ := t
        have m1 : gs = s.gens := mv.gens
        have m2 : dr = s.drawn := mv.drawn
        have m3 : os = s.os := mv.os
        subst m1
        subst m2
        subst m3
        refine wpAny_pure (wpAny_pure ⟨rfl, h', tk, rfl, ?_, fun b o q => ?_⟩)
        · rw [← ln, List.take_length] at so
          exact so
        · have hb : b < N := by rw [← hN]; exact Heap.lt_size q
          exact mv.heap b o (fun z => by
            rw [sz] at z
            rcases List.mem_cons.mp z with z | z
            · exact absurd z (Nat.ne_of_lt hb)
            · exact absurd (List.mem_singleton.mp z) (Nat.ne_of_lt (Nat.lt_succ_of_lt hb))) (Heap.get?_push_of_some _ (Heap.get?_push_of_some _ q))
end
end KD

namespace KD
open PySem PySem.Spec PyProof.Rows L2
/-- how many unlike texts a list has -/
def tUnlike (K : PySem.W.Frag) (ta : TE) : TE := fun σ H Q => ta σ H fun x H1 => ∃ (l : Addr) (xs : List Str), x = .ref l ∧ SqL K H1 l (xs.map V.str) ∧ xs.Nodup ∧ xs.length ≤ 1000 ∧ Q (.int xs.length) H1
section
variable {X : Cx} {a : Expr} {ta : TE} {p p2 q pos : Pos}
theorem pe_unlike (hc : X.calm = true) (g1 : Gl X "len") (m1 : X.mg "len" = none) (g2 : Gl X "set") (m2 : X.mg "set" = none) (ha : PE X a ta)
    (na : starEach [a] X.env = (false, eval a X.env) :: starEach [] X.env := by rfl) : PE X (.Call (.Name "len" p) [.Call (.Name "set" p2) [a] [] q] [] pos) (tUnlike X.K ta) := by
  refine ⟨fun pins s σ H Q I h => Call_ (ld_blt I g1 m1 boot_len (PyProof.Rows.callWith_builtin1 (PyProof.Rows.args_cons (Call_ (ld_blt I g2 m2 boot_set ?_)) rfl) rfl rfl))⟩
  refine PyProof.Rows.callWith_type1 (PyProof.Rows.args_cons (thn (ha.run pins s σ H _ I h) fun v t w => PyProof.Rows.args_nil ?_) na) na rfl
  obtain ⟨x, H1, I1, r1, l, xs, rfl, hq, nd, few, q1⟩ := w
  cases r1
  obtain ⟨its, r, pl, _⟩ := I1.list hq
  refine call_setU (I1.ok.hd hc) pl.isList (by simpa using strsAre_of r) nd (by unfold scanBound; omega) fun h' tk so kp => PyProof.Rows.args_nil ?_
  obtain ⟨o, es, ep, tb, e1, e2, e3, _, _, _, e7, e8⟩ := so
  have I2 : Inv X pins σ H1 { t with heap := h', toks := tk } := I1.kept kp
  exact call_len_set e1 e2 e3 e7 (by rw [e8] <;> omega) ⟨.int xs.length, H1, I2.tok _, ⟨_, by rw [e8]⟩, q1⟩
end
section
variable {X : Addr → Prop} {H : Hp} {σ : L2.St} {te : TE} {K : PySem.W.Frag} {ns : List Str}
theorem g_unlike (h : G X te σ H (.list (ns.map PyData.str))) (nd : ns.Nodup) (few : ns.length ≤ 1000) : G X (tUnlike K te) σ H (.int (ns.length : Nat)) := fun H1 s Q q =>
  h H1 s _ fun v H2 s2 rv => by
    obtain ⟨a, xs, rfl, _, e, rx⟩ := rv.lst_inv
    exact ⟨a, ns, rfl, SqL.of (by rw [← rx.strs]; exact e), nd, few, q _ H2 s2 (.int _)⟩
end
end KD

/-! Longest common rows: how long they are, which matches are on one. -/
namespace KL
variable (M : Nat → Nat → Bool)
def nxt (m : Nat → Bool) (b : Nat → Nat) : Nat → Nat
  | 0 => 0
  | j + 1 => max (max (b (j + 1)) (nxt m b j)) (if m j = true then b j + 1 else 0)
/-- how long a common row of the first i and the first j can be -/
def L : Nat → Nat → Nat
  | 0 => fun _ => 0
  | i + 1 => nxt (M i) (L i)
abbrev Pr := Nat × Nat
def bh (a b : Pr) : Prop := a.1 < b.1 ∧ a.2 < b.2
/-- a common row -/
def Ch (l : List Pr) : Prop := l.Pairwise bh ∧ ∀ p ∈ l, M p.1 p.2 = true
def Bd (i j : Nat) (l : List Pr) : Prop := ∀ p ∈ l, p.1 < i ∧ p.2 < j
variable {M}
theorem ch_nil : Ch M [] := ⟨.nil, fun p h => by cases h⟩
theorem ch_left {l k : List Pr} (h : Ch M (l ++ k)) : Ch M l := ⟨(List.pairwise_append.mp h.1).1, fun p hp => h.2 p (List.mem_append_left _ hp)⟩
theorem ch_right {l k : List Pr} (h : Ch M (l ++ k)) : Ch M k := ⟨(List.pairwise_append.mp h.1).2.1, fun p hp => h.2 p (List.mem_append_right _ hp)⟩
theorem ch_app {l k : List Pr} (h : Ch M l) (g : Ch M k) (c : ∀ a ∈ l, ∀ b ∈ k, bh a b) : Ch M (l ++ k) := ⟨List.pairwise_append.mpr ⟨h.1, g.1, c⟩, fun p hp => (List.mem_append.mp hp).elim (h.2 p) (g.2 p)⟩
theorem ch_one {p : Pr} (h : M p.1 p.2 = true) : Ch M [p] := ⟨List.pairwise_singleton _ _, fun q hq => by rw [List.mem_singleton.mp hq]; exact h⟩
theorem ch_last {l : List Pr} {p : Pr} (h : Ch M (l ++ [p])) : Bd p.1 p.2 l := fun a ha => (List.pairwise_append.mp h.1).2.2 a ha p (List.mem_singleton.mpr rfl)
theorem snoc {l : List Pr} : l = [] ∨ ∃ k p, l = k ++ [p] := by
  rcases List.eq_nil_or_concat l with h | ⟨k, p, h⟩
  · exact .inl h
  · exact .inr ⟨k, p, by rw [h]; simp⟩
theorem L_up : ∀ (i j : Nat) (l : List Pr), Ch M l → Bd i j l → l.length ≤ L M i j
  | 0, j, l, h, b => by
    cases l with
    | nil => simp
    | cons p l => exact absurd (b p List.mem_cons_self).1 (by omega)
  | i + 1, 0, l, h, b => by
    cases l with
    | nil => simp
    | cons p l => exact absurd (b p List.mem_cons_self).2 (by omega)
  | i + 1, j + 1, l, h, b => by
    have e : L M (i + 1) (j + 1) = max (max (L M i (j + 1)) (L M (i + 1) j)) (if M i j = true then L M i j + 1 else 0) := rfl
    rw [e]
    rcases snoc (l := l) with rfl | ⟨k, p, rfl⟩
    · simp
    have hp := b p (by simp)
    have hk := ch_last h
    by_cases h1 : p.1 < i
    · have := L_up i (j + 1) (k ++ [p]) h fun q hq => by
        rcases List.mem_append.mp hq with hq | hq
        · have := hk q hq
          omega
        · rw [List.mem_singleton.mp hq]
          omega
      omega
    · by_cases h2 : p.2 < j
      · have := L_up (i + 1) j (k ++ [p]) h fun q hq => by
          rcases List.mem_append.mp hq with hq | hq
          · have := hk q hq
            omega
          · rw [List.mem_singleton.mp hq]
            omega
        omega
      · have e1 : p.1 = i := by omega
        have e2 : p.2 = j := by omega
        have hm := h.2 p (by simp)
        rw [e1, e2] at hm
        have := L_up i j k (ch_left h) fun q hq => by
          have := hk q hq
          omega
        rw [if_pos hm, List.length_append]
        simp
        omega
theorem bd_le {i j i' j' : Nat} {l : List Pr} (h : Bd i j l) (hi : i ≤ i') (hj : j ≤ j') : Bd i' j' l := fun p hp => by
  have := h p hp
  omega
theorem L_is : ∀ (i j : Nat), ∃ l, Ch M l ∧ Bd i j l ∧ l.length = L M i j
  | 0, j => ⟨[], ch_nil, (fun p h => by cases h), rfl⟩
  | i + 1, 0 => ⟨[], ch_nil, (fun p h => by cases h), rfl⟩
  | i + 1, j + 1 => by
    have e : L M (i + 1) (j + 1) = max (max (L M i (j + 1)) (L M (i + 1) j)) (if M i j = true then L M i j + 1 else 0) := rfl
    obtain ⟨l1, a1, b1, c1⟩ := L_is i (j + 1)
    obtain ⟨l2, a2, b2, c2⟩ := L_is (i + 1) j
    obtain ⟨l3, a3, b3, c3⟩ := L_is i j
    by_cases hm : M i j = true
    · rw [if_pos hm] at e
      by_cases h1 : L M (i + 1) (j + 1) = L M i (j + 1)
      · exact ⟨l1, a1, bd_le b1 (by omega) (by omega), by omega⟩
      · by_cases h2 : L M (i + 1) (j + 1) = L M (i + 1) j
        · exact ⟨l2, a2, bd_le b2 (by omega) (by omega), by omega⟩
        · refine ⟨l3 ++ [(i, j)], ch_app a3 (ch_one hm) fun a ha b hb => ?_, fun q hq => ?_, ?_⟩
          · rw [List.mem_singleton.mp hb]
            exact b3 a ha
          · rcases List.mem_append.mp hq with hq | hq
            · have := b3 q hq
              omega
            · rw [List.mem_singleton.mp hq]
              exact ⟨by simp, by simp⟩
          · rw [List.length_append]
            simp
            omega
    · rw [if_neg hm] at e
      by_cases h1 : L M (i + 1) (j + 1) = L M i (j + 1)
      · exact ⟨l1, a1, bd_le b1 (by omega) (by omega), by omega⟩
      · exact ⟨l2, a2, bd_le b2 (by omega) (by omega), by omega⟩
theorem L_mono {i j i' j' : Nat} (hi : i ≤ i') (hj : j ≤ j') : L M i j ≤ L M i' j' := by
  obtain ⟨l, a, b, c⟩ := L_is (M := M) i j
  rw [← c]
  exact L_up _ _ l a (bd_le b hi hj)
/-! ### turned round -/
variable (M) in
def rv (n m : Nat) : Nat → Nat → Bool := fun i j => M (n - 1 - i) (m - 1 - j)
def tp (n m : Nat) (p : Pr) : Pr := (n - 1 - p.1, m - 1 - p.2)
theorem ch_turn {n m : Nat} {l : List Pr} (h : Ch M l) (b : Bd n m l) : Ch (rv M n m) (l.map (tp n m)).reverse := by
  refine ⟨?_, fun p hp => ?_⟩
  · rw [List.pairwise_reverse, List.pairwise_map]
    refine h.1.imp_of_mem fun {x y} hx hy hxy => ?_
    have := b x hx
    have := b y hy
    unfold bh tp at *
    omega
  · rw [List.mem_reverse] at hp
    obtain ⟨q, hq, rfl⟩ := List.mem_map.mp hp
    have := b q hq
    show M (n - 1 - (n - 1 - q.1)) (m - 1 - (m - 1 - q.2)) = true
    rw [show n - 1 - (n - 1 - q.1) = q.1 by omega, show m - 1 - (m - 1 - q.2) = q.2 by omega]
    exact h.2 q hq
theorem rv_rv {n m i j : Nat} (hi : i < n) (hj : j < m) : rv (rv M n m) n m i j = M i j := by
  show M (n - 1 - (n - 1 - i)) (m - 1 - (m - 1 - j)) = M i j
  rw [show n - 1 - (n - 1 - i) = i by omega, show m - 1 - (m - 1 - j) = j by omega]
theorem ch_turn' {n m : Nat} {l : List Pr} (h : Ch (rv M n m) l) (b : Bd n m l) : Ch M (l.map (tp n m)).reverse := by
  have h2 := ch_turn h b
  refine ⟨h2.1, fun p hp => ?_⟩
  have := h2.2 p hp
  rw [List.mem_reverse] at hp
  obtain ⟨q, hq, rfl⟩ := List.mem_map.mp hp
  have hb := b q hq
  rwa [rv_rv (by unfold tp; omega) (by unfold tp; omega)] at this
/-- the longest row that ends with p, the longest one that begins with it -/
def lev (M : Nat → Nat → Bool) (p : Pr) : Nat := L M p.1 p.2 + 1
def rst (M : Nat → Nat → Bool) (n m : Nat) (p : Pr) : Nat := L (rv M n m) (n - 1 - p.1) (m - 1 - p.2) + 1
theorem lev_up {l : List Pr} {p : Pr} (h : Ch M (l ++ [p])) : l.length + 1 ≤ lev M p := by
  have := L_up _ _ l (ch_left h) (ch_last h)
  unfold lev
  omega
theorem lev_is (p : Pr) (hp : M p.1 p.2 = true) : ∃ l, Ch M (l ++ [p]) ∧ Bd p.1 p.2 l ∧ l.length + 1 = lev M p := by
  obtain ⟨l, a, b, c⟩ := L_is (M := M) p.1 p.2
  exact ⟨l, ch_app a (ch_one hp) fun x hx y hy => by rw [List.mem_singleton.mp hy]; exact b x hx, b, by unfold lev; omega⟩
theorem ch_first {l : List Pr} {p : Pr} (h : Ch M (p :: l)) : ∀ q ∈ l, bh p q := (List.pairwise_cons.mp h.1).1
theorem rst_up {n m : Nat} {l : List Pr} {p : Pr} (h : Ch M (p :: l)) (b : Bd n m (p :: l)) : l.length + 1 ≤ rst M n m p := by
  have hp := b p List.mem_cons_self
  have h2 := ch_turn h b
  rw [List.map_cons, List.reverse_cons] at h2
  have := L_up _ _ _ (ch_left h2) (ch_last h2)
  rw [List.length_reverse, List.length_map] at this
  unfold rst
  unfold tp at this
  exact Nat.succ_le_succ this
theorem rst_is {n m : Nat} (p : Pr) (hp : M p.1 p.2 = true) (hn : p.1 < n) (hm : p.2 < m) : ∃ l, Ch M (p :: l) ∧ Bd n m (p :: l) ∧ l.length + 1 = rst M n m p := by
  obtain ⟨l, a, b, c⟩ := L_is (M := rv M n m) (n - 1 - p.1) (m - 1 - p.2)
  have b' : Bd n m l := bd_le b (by omega) (by omega)
  have a' := ch_turn' a b'
  have bb : ∀ q ∈ (l.map (tp n m)).reverse, bh p q ∧ q.1 < n ∧ q.2 < m := fun q hq => by
    rw [List.mem_reverse] at hq
    obtain ⟨r, hr, rfl⟩ := List.mem_map.mp hq
    have := b r hr
    unfold bh tp
    omega
  refine ⟨(l.map (tp n m)).reverse, ch_app (ch_one hp) a' fun x hx y hy => by rw [List.mem_singleton.mp hx]; exact (bb y hy).1, fun q hq => ?_, by unfold rst; rw [List.length_reverse, List.length_map]; omega⟩
  rcases List.mem_cons.mp hq with rfl | hq
  · exact ⟨hn, hm⟩
  · exact (bb q hq).2
/-! ### on a longest one -/
section
variable {n m : Nat}
theorem sum_le {p : Pr} (hp : M p.1 p.2 = true) (hn : p.1 < n) (hm : p.2 < m) : lev M p + rst M n m p ≤ L M n m + 1 := by
  obtain ⟨l, a1, b1, c1⟩ := lev_is p hp
  obtain ⟨k, a2, b2, c2⟩ := rst_is (n := n) (m := m) p hp hn hm
  have h : Ch M (l ++ p :: k) := ch_app (ch_left a1) a2 fun x hx y hy => by
    have h1 := b1 x hx
    rcases List.mem_cons.mp hy with rfl | hy
    · exact h1
    · have h2 := ch_first a2 y hy
      unfold bh at *
      omega
  have := L_up n m _ h fun q hq => by
    rcases List.mem_append.mp hq with hq | hq
    · have := b1 q hq
      omega
    · exact b2 q hq
  rw [List.length_append, List.length_cons] at this
  omega
/-- on a longest row, at its place -/
def On (M : Nat → Nat → Bool) (n m k : Nat) (p : Pr) : Prop := M p.1 p.2 = true ∧ p.1 < n ∧ p.2 < m ∧ lev M p = k ∧ lev M p + rst M n m p = L M n m + 1
theorem on_next {k : Nat} {p : Pr} (h : On M n m k p) (hk : k < L M n m) : ∃ q, On M n m (k + 1) q ∧ bh p q := by
  obtain ⟨h1, h2, h3, h4, h5⟩ := h
  obtain ⟨l, a, b, c⟩ := rst_is (n := n) (m := m) p h1 h2 h3
  cases l with
  | nil =>
    simp at c
    omega
  | cons q l =>
    have a' : Ch M (q :: l) := ch_right (l := [p]) a
    have hq := ch_first a q List.mem_cons_self
    have bq := b q (by simp)
    have mq := a.2 q (by simp)
    have r1 := rst_up (n := n) (m := m) a' fun x hx => b x (List.mem_cons_of_mem _ hx)
    have s1 := sum_le (n := n) (m := m) mq bq.1 bq.2
    obtain ⟨l2, a2, b2, c2⟩ := lev_is p h1
    have lq : l2.length + 1 + 1 ≤ lev M q := by
      have : Ch M ((l2 ++ [p]) ++ [q]) := ch_app a2 (ch_one mq) fun x hx y hy => by
        rw [List.mem_singleton.mp hy]
        rcases List.mem_append.mp hx with hx | hx
        · have := b2 x hx
          unfold bh at *
          omega
        · rw [List.mem_singleton.mp hx]
          exact hq
      have := lev_up this
      rw [List.length_append] at this
      simpa using this
    rw [List.length_cons] at c
    exact ⟨q, ⟨mq, bq.1, bq.2, by omega, by omega⟩, hq⟩
theorem on_first (h : 0 < L M n m) : ∃ q, On M n m 1 q := by
  obtain ⟨l, a, b, c⟩ := L_is (M := M) n m
  cases l with
  | nil =>
    simp at c
    omega
  | cons q l =>
    have bq := b q (by simp)
    have mq := a.2 q (by simp)
    have r1 := rst_up a b
    have s1 := sum_le (n := n) (m := m) mq bq.1 bq.2
    have l1 : 1 ≤ lev M q := by unfold lev; omega
    rw [List.length_cons] at c
    exact ⟨q, mq, bq.1, bq.2, by omega, by omega⟩
theorem on_le {k : Nat} {p : Pr} (h : On M n m k p) : 1 ≤ k ∧ k ≤ L M n m := by
  obtain ⟨h1, h2, h3, h4, h5⟩ := h
  have : 1 ≤ lev M p := by unfold lev; omega
  have : 1 ≤ rst M n m p := by unfold rst; omega
  omega
end
end KL

/-! Longest common rows: all of them by going on; turned texts; texts of one word. -/
namespace KL
variable {M : Nat → Nat → Bool}
theorem len_fst : ∀ {l : List Pr} {lo hi : Nat}, Ch M l → (∀ p ∈ l, lo ≤ p.1 ∧ p.1 < hi) → l.length ≤ hi - lo
  | [], lo, hi, _, _ => by simp
  | p :: l, lo, hi, h, b => by
    have hp := b p List.mem_cons_self
    have := len_fst (lo := p.1 + 1) (hi := hi) (ch_right (l := [p]) h) fun q hq => by
      have h1 := ch_first h q hq
      have h2 := b q (List.mem_cons_of_mem _ hq)
      unfold bh at h1
      omega
    rw [List.length_cons]
    omega
theorem len_snd : ∀ {l : List Pr} {lo hi : Nat}, Ch M l → (∀ p ∈ l, lo ≤ p.2 ∧ p.2 < hi) → l.length ≤ hi - lo
  | [], lo, hi, _, _ => by simp
  | p :: l, lo, hi, h, b => by
    have hp := b p List.mem_cons_self
    have := len_snd (lo := p.2 + 1) (hi := hi) (ch_right (l := [p]) h) fun q hq => by
      have h1 := ch_first h q hq
      have h2 := b q (List.mem_cons_of_mem _ hq)
      unfold bh at h1
      omega
    rw [List.length_cons]
    omega
/-- a straight row: c of them, from (i, j) on -/
def str (i j : Nat) : Nat → List Pr
  | 0 => []
  | c + 1 => (i, j) :: str (i + 1) (j + 1) c
theorem str_len : ∀ {c i j : Nat}, (str i j c).length = c
  | 0, _, _ => rfl
  | c + 1, i, j => by rw [str, List.length_cons, str_len]
theorem str_mem : ∀ {c i j : Nat} {p : Pr}, p ∈ str i j c → ∃ k, k < c ∧ p = (i + k, j + k)
  | 0, _, _, p, h => by cases h
  | c + 1, i, j, p, h => by
    rcases List.mem_cons.mp h with rfl | h
    · exact ⟨0, by omega, rfl⟩
    · obtain ⟨k, hk, rfl⟩ := str_mem h
      exact ⟨k + 1, by omega, by rw [show i + 1 + k = i + (k + 1) by omega, show j + 1 + k = j + (k + 1) by omega]⟩
theorem str_ch : ∀ {c i j : Nat}, (∀ k < c, M (i + k) (j + k) = true) → Ch M (str i j c)
  | 0, _, _, _ => ch_nil
  | c + 1, i, j, h => by
    refine ch_app (l := [(i, j)]) (ch_one (h 0 (by omega))) (str_ch fun k hk => ?_) fun a ha b hb => ?_
    · have := h (k + 1) (by omega)
      rwa [show i + (k + 1) = i + 1 + k by omega, show j + (k + 1) = j + 1 + k by omega] at this
    · rw [List.mem_singleton.mp ha]
      obtain ⟨k, _, rfl⟩ := str_mem hb
      exact ⟨by show i < i + 1 + k; omega, by show j < j + 1 + k; omega⟩
/-- a text of unlike words, turned round -/
theorem L_turned {n a : Nat} (ha : a ≤ n) (h : ∀ i j, i < n → j < n → (M i j = true ↔ i = (if j < n - a then j + a else j - (n - a)))) : L M n n = max (n - a) a := by
  have up : ∀ l, Ch M l → Bd n n l → l.length ≤ max (n - a) a := fun l hl b => by
    have at_ : ∀ p ∈ l, (a ≤ p.1 ∧ p.2 + a = p.1) ∨ (p.1 < a ∧ p.2 = p.1 + (n - a)) := fun p hp => by
      have bp := b p hp
      have := (h p.1 p.2 bp.1 bp.2).mp (hl.2 p hp)
      split at this <;> omega
    cases l with
    | nil => simp
    | cons p l =>
      have first := ch_first hl
      rcases at_ p List.mem_cons_self with hp | hp
      · have := len_fst (lo := a) (hi := n) hl fun q hq => by
          have bq := b q hq
          rcases List.mem_cons.mp hq with rfl | hq
          · omega
          · have := first q hq
            unfold bh at this
            omega
        omega
      · have := len_fst (lo := 0) (hi := a) hl fun q hq => by
          have bq := b q hq
          rcases List.mem_cons.mp hq with rfl | hq'
          · omega
          · have h1 := first q hq'
            have h2 := at_ q hq
            unfold bh at h1
            omega
        omega
  obtain ⟨l, x, y, z⟩ := L_is (M := M) n n
  have h1 := up l x y
  have h2 := L_up n n (str a 0 (n - a)) (str_ch (M := M) fun k hk => (h _ _ (by omega) (by omega)).mpr (by rw [if_pos (by omega)]; omega)) fun p hp => by
    obtain ⟨k, hk, rfl⟩ := str_mem hp
    show a + k < n ∧ 0 + k < n
    omega
  have h3 := L_up n n (str 0 (n - a) a) (str_ch (M := M) fun k hk => (h _ _ (by omega) (by omega)).mpr (by rw [if_neg (by omega)]; omega)) fun p hp => by
    obtain ⟨k, hk, rfl⟩ := str_mem hp
    show 0 + k < n ∧ n - a + k < n
    omega
  rw [str_len] at h2 h3
  omega
/-- texts of one word -/
theorem L_all {n m : Nat} (h : ∀ i j, i < n → j < m → M i j = true) : L M n m = min n m := by
  obtain ⟨l, x, y, z⟩ := L_is (M := M) n m
  have h1 := len_fst (lo := 0) (hi := n) x fun p hp => ⟨by omega, (y p hp).1⟩
  have h2 := len_snd (lo := 0) (hi := m) x fun p hp => ⟨by omega, (y p hp).2⟩
  have h3 := L_up n m (str 0 0 (min n m)) (str_ch (M := M) fun k hk => h _ _ (by omega) (by omega)) fun p hp => by
    obtain ⟨k, hk, rfl⟩ := str_mem hp
    show 0 + k < n ∧ 0 + k < m
    omega
  rw [str_len] at h3
  omega
/-! ### all rows of so many, one longer each time -/
def bhB (a b : Pr) : Bool := decide (a.1 < b.1) && decide (a.2 < b.2)
theorem bhB_iff {a b : Pr} : bhB a b = true ↔ bh a b := by
  unfold bhB bh
  rw [Bool.and_eq_true, decide_eq_true_eq, decide_eq_true_eq]
/-- what may stand behind a row -/
def okNext (row : List Pr) (p : Pr) : Bool := match row.getLast? with
  | none => true
  | some q => bhB q p
def longer (ps : List Pr) (rows : List (List Pr)) : List (List Pr) := rows.flatMap fun row => (ps.filter (okNext row)).map fun p => row ++ [p]
def rowsOf (ps : List Pr) : Nat → List (List Pr)
  | 0 => [[]]
  | k + 1 => longer ps (rowsOf ps k)
section
variable {n m : Nat} {ps : List Pr} (hps : ∀ p : Pr, p ∈ ps ↔ (p.1 < n ∧ p.2 < m ∧ M p.1 p.2 = true))
include hps
theorem rows_sound : ∀ (k : Nat) (l : List Pr), l ∈ rowsOf ps k → Ch M l ∧ Bd n m l ∧ l.length = k
  | 0, l, h => by
    rw [rowsOf, List.mem_singleton] at h
    subst h
    exact ⟨ch_nil, (fun p h => by cases h), rfl⟩
  | k + 1, l, h => by
    rw [rowsOf, longer, List.mem_flatMap] at h
    obtain ⟨row, hr, hl⟩ := h
    obtain ⟨p, hp, rfl⟩ := List.mem_map.mp hl
    rw [List.mem_filter] at hp
    obtain ⟨a, b, c⟩ := rows_sound k row hr
    obtain ⟨q1, q2, q3⟩ := (hps p).mp hp.1
    refine ⟨ch_app a (ch_one q3) fun x hx y hy => ?_, fun q hq => ?_, by rw [List.length_append, c]; rfl⟩
    · rw [List.mem_singleton.mp hy]
      rcases snoc (l := row) with rfl | ⟨r, z, rfl⟩
      · cases hx
      · have hz : bh z p := by
          have := hp.2
          unfold okNext at this
          rw [List.getLast?_append] at this
          simpa [bhB_iff] using this
        rcases List.mem_append.mp hx with hx | hx
        · have := ch_last a x hx
          unfold bh at *
          omega
        · rw [List.mem_singleton.mp hx]
          exact hz
    · rcases List.mem_append.mp hq with hq | hq
      · exact b q hq
      · rw [List.mem_singleton.mp hq]
        exact ⟨q1, q2⟩
theorem rows_full : ∀ (k : Nat) (l : List Pr), Ch M l → Bd n m l → l.length = k → l ∈ rowsOf ps k
  | 0, l, _, _, h => by
    rw [List.length_eq_zero_iff.mp h, rowsOf]
    exact List.mem_singleton.mpr rfl
  | k + 1, l, h, b, e => by
    rcases snoc (l := l) with rfl | ⟨r, p, rfl⟩
    · cases e
    · rw [rowsOf, longer, List.mem_flatMap]
      refine ⟨r, rows_full k r (ch_left h) (fun q hq => b q (List.mem_append_left _ hq)) (by rw [List.length_append] at e; simp at e; exact e), List.mem_map.mpr ⟨p, List.mem_filter.mpr ⟨?_, ?_⟩, rfl⟩⟩
      · have := b p (by simp)
        exact (hps p).mpr ⟨this.1, this.2, h.2 p (by simp)⟩
      · unfold okNext
        rcases snoc (l := r) with rfl | ⟨s, z, rfl⟩
        · rfl
        · rw [List.getLast?_append]
          show bhB z p = true
          rw [bhB_iff]
          exact (List.pairwise_append.mp h.1).2.2 z (by simp) p (by simp)
theorem rows_none {k : Nat} : rowsOf ps k = [] ↔ L M n m < k := by
  constructor
  · intro h
    by_cases hk : k ≤ L M n m
    · obtain ⟨l, x, y, z⟩ := L_is (M := M) n m
      have : l.take k ∈ rowsOf ps k := rows_full hps k _ (ch_left (k := l.drop k) (by rw [List.take_append_drop]; exact x)) (fun p hp => y p (List.mem_of_mem_take hp)) (by rw [List.length_take]; omega)
      rw [h] at this
      cases this
    · omega
  · intro h
    cases e : rowsOf ps k with
    | nil => rfl
    | cons l r =>
      obtain ⟨x, y, z⟩ := rows_sound hps k l (by rw [e]; exact List.mem_cons_self)
      have := L_up n m l x y
      omega
end
end KL

/-! How many common rows there can be. -/
namespace KL
def sm : Nat → (Nat → Nat) → Nat
  | 0, _ => 0
  | n + 1, f => sm n f + f n
theorem sm_le : ∀ {n : Nat} {f g : Nat → Nat}, (∀ i, i < n → f i ≤ g i) → sm n f ≤ sm n g
  | 0, _, _, _ => Nat.le_refl _
  | n + 1, f, g, h => Nat.add_le_add (sm_le fun i hi => h i (by omega)) (h n (by omega))
theorem sm_eq {n : Nat} {f g : Nat → Nat} (h : ∀ i, i < n → f i = g i) : sm n f = sm n g := Nat.le_antisymm (sm_le fun i hi => Nat.le_of_eq (h i hi)) (sm_le fun i hi => Nat.le_of_eq (h i hi).symm)
theorem sm_zero : ∀ {n : Nat}, sm n (fun _ => 0) = 0
  | 0 => rfl
  | n + 1 => by rw [sm, sm_zero]
theorem sm_left : ∀ {n : Nat} {f : Nat → Nat}, sm (n + 1) f = f 0 + sm n fun i => f (i + 1)
  | 0, f => by simp [sm]
  | n + 1, f => by
    rw [sm, sm_left (n := n), sm]
    omega
theorem sm_rev : ∀ {n : Nat} {f : Nat → Nat}, sm n (fun i => f (n - 1 - i)) = sm n f
  | 0, _ => rfl
  | n + 1, f => by
    rw [sm_left, sm]
    have : sm n (fun i => f (n + 1 - 1 - (i + 1))) = sm n fun i => f (n - 1 - i) := sm_eq fun i hi => by
      show f (n + 1 - 1 - (i + 1)) = f (n - 1 - i)
      rw [show n + 1 - 1 - (i + 1) = n - 1 - i by omega]
    rw [this, sm_rev]
    show f (n + 1 - 1 - 0) + sm n f = sm n f + f n
    rw [show n + 1 - 1 - 0 = n by omega]
    omega
/-- those behind q alone -/
theorem sm_behind {q : Nat} : ∀ {n : Nat} {f : Nat → Nat}, sm n (fun i => if q < i then f i else 0) = sm (n - 1 - q) fun k => f (q + 1 + k)
  | 0, f => by
    show 0 = sm (0 - 1 - q) _
    rw [show 0 - 1 - q = 0 by omega]
    rfl
  | n + 1, f => by
    rw [sm, sm_behind (n := n)]
    by_cases h : q < n
    · rw [if_pos h, show n + 1 - 1 - q = (n - 1 - q) + 1 by omega, sm, show q + 1 + (n - 1 - q) = n by omega]
    · rw [if_neg h, show n + 1 - 1 - q = 0 by omega, show n - 1 - q = 0 by omega]
      rfl
/-- all rows but the empty one, in a field of a and b -/
def S : Nat → Nat → Nat
  | 0 => fun _ => 0
  | a + 1 => fun b => S a b + sm b fun j => 1 + S a j
theorem S_is : ∀ (a b : Nat), S a b = sm a fun i => sm b fun j => 1 + S i j
  | 0, _ => rfl
  | a + 1, b => by
    show S a b + _ = sm a _ + _
    rw [S_is a b]
theorem S_left : ∀ (i j a b : Nat), i ≤ a → j ≤ b → S i j ≤ S a b := by
  have one : ∀ (b : Nat) (f : Nat → Nat) (j : Nat), j ≤ b → sm j f ≤ sm b f := by
    intro b f j h
    induction b with
    | zero => rw [show j = 0 by omega]; exact Nat.le_refl _
    | succ b ih =>
      by_cases e : j = b + 1
      · rw [e]; exact Nat.le_refl _
      · have := ih (by omega)
        rw [sm]
        omega
  intro i j a b hi hj
  rw [S_is, S_is]
  exact Nat.le_trans (sm_le fun k _ => one b _ j hj) (one a _ i hi)
variable {M : Nat → Nat → Bool} {n m : Nat}
/-- the matches -/
def rowM (m : Nat) (c : Nat → Bool) (i : Nat) : List Pr := ((List.range m).filter c).map fun j => (i, j)
def psL (M : Nat → Nat → Bool) (n m : Nat) : List Pr := (List.range n).flatMap fun i => rowM m (M i) i
theorem psL_mem (p : Pr) : p ∈ psL M n m ↔ (p.1 < n ∧ p.2 < m ∧ M p.1 p.2 = true) := by
  obtain ⟨i, j⟩ := p
  unfold psL rowM
  simp only [List.mem_flatMap, List.mem_range, List.mem_map, List.mem_filter]
  constructor
  · rintro ⟨i', h1, j', ⟨h2, h3⟩, e⟩
    cases e
    exact ⟨h1, h2, h3⟩
  · rintro ⟨h1, h2, h3⟩
    exact ⟨i, h1, j, ⟨h2, h3⟩, rfl⟩
theorem sum_row {c : Nat → Bool} {d : Pr → Bool} {w : Pr → Nat} {i : Nat} : ∀ {m : Nat}, (((rowM m c i).filter d).map w).sum ≤ sm m fun j => if d (i, j) = true then w (i, j) else 0
  | 0 => by simp [rowM, sm]
  | m + 1 => by
    have ih := sum_row (c := c) (d := d) (w := w) (i := i) (m := m)
    have e : rowM (m + 1) c i = rowM m c i ++ (if c m = true then [(i, m)] else []) := by
      unfold rowM
      rw [List.range_succ, List.filter_append, List.map_append]
      congr 1
      by_cases h : c m = true
      · rw [if_pos h]
        simp [h]
      · rw [if_neg h]
        simp [h]
    rw [e, List.filter_append, List.map_append, List.sum_append, sm]
    refine Nat.add_le_add ih ?_
    by_cases h : c m = true
    · rw [if_pos h]
      by_cases h2 : d (i, m) = true
      · rw [if_pos h2]
        simp [h2]
      · rw [if_neg h2]
        simp [h2]
    · rw [if_neg h]
      simp
theorem sum_all {d : Pr → Bool} {w : Pr → Nat} : ∀ {n : Nat}, (((psL M n m).filter d).map w).sum ≤ sm n fun i => sm m fun j => if d (i, j) = true then w (i, j) else 0
  | 0 => by simp [psL, sm]
  | n + 1 => by
    have ih := sum_all (d := d) (w := w) (n := n)
    have e : psL M (n + 1) m = psL M n m ++ rowM m (M n) n := by
      unfold psL
      rw [List.range_succ, List.flatMap_append]
      simp
    rw [e, List.filter_append, List.map_append, List.sum_append, sm]
    exact Nat.add_le_add ih sum_row
/-- how many rows a row can still become, itself too -/
def wt (n m : Nat) (row : List Pr) : Nat := match row.getLast? with
  | none => 1 + S n m
  | some q => 1 + S (n - 1 - q.1) (m - 1 - q.2)
theorem wt_snoc {row : List Pr} {p : Pr} : wt n m (row ++ [p]) = 1 + S (n - 1 - p.1) (m - 1 - p.2) := by
  unfold wt
  rw [List.getLast?_append]
  rfl
theorem wt_next (row : List Pr) : (((psL M n m).filter (okNext row)).map fun p => wt n m (row ++ [p])).sum + 1 ≤ wt n m row := by
  have e : (fun p : Pr => wt n m (row ++ [p])) = fun p => 1 + S (n - 1 - p.1) (m - 1 - p.2) := funext fun p => wt_snoc
  rw [e]
  refine Nat.le_trans (Nat.succ_le_succ sum_all) ?_
  rcases snoc (l := row) with rfl | ⟨r, q, rfl⟩
  · show sm n (fun i => sm m fun j => if true = true then 1 + S (n - 1 - i) (m - 1 - j) else 0) + 1 ≤ 1 + S n m
    rw [S_is n m]
    have : sm n (fun i => sm m fun j => if true = true then 1 + S (n - 1 - i) (m - 1 - j) else 0) = sm n fun i => sm m fun j => 1 + S i j := by
      rw [← sm_rev (n := n) (f := fun i => sm m fun j => 1 + S i j)]
      refine sm_eq fun i _ => ?_
      rw [← sm_rev (n := m) (f := fun j => 1 + S (n - 1 - i) j)]
      exact sm_eq fun j _ => if_pos rfl
    omega
  · have hd : ∀ p, okNext (r ++ [q]) p = bhB q p := fun p => by
      unfold okNext
      rw [List.getLast?_append]
      rfl
    rw [wt_snoc, S_is (n - 1 - q.1)]
    have : sm n (fun i => sm m fun j => if okNext (r ++ [q]) (i, j) = true then 1 + S (n - 1 - i) (m - 1 - j) else 0) = sm (n - 1 - q.1) fun i => sm (m - 1 - q.2) fun j => 1 + S i j := by
      have h1 : ∀ i, i < n → (sm m fun j => if okNext (r ++ [q]) (i, j) = true then 1 + S (n - 1 - i) (m - 1 - j) else 0) = if q.1 < i then sm (m - 1 - q.2) (fun j => 1 + S (n - 1 - i) j) else 0 := fun i _ => by
        by_cases hi : q.1 < i
        · rw [if_pos hi, ← sm_rev (n := m - 1 - q.2), show (sm (m - 1 - q.2) fun j => 1 + S (n - 1 - i) (m - 1 - q.2 - 1 - j)) = sm (m - 1 - q.2) fun k => (fun j => 1 + S (n - 1 - i) (m - 1 - j)) (q.2 + 1 + k) from sm_eq fun j _ => by
            show 1 + S (n - 1 - i) (m - 1 - q.2 - 1 - j) = 1 + S (n - 1 - i) (m - 1 - (q.2 + 1 + j))
            rw [show m - 1 - q.2 - 1 - j = m - 1 - (q.2 + 1 + j) by omega], ← sm_behind (q := q.2) (n := m) (f := fun j => 1 + S (n - 1 - i) (m - 1 - j))]
          refine sm_eq fun j _ => ?_
          rw [hd]
          by_cases hj : q.2 < j
          · rw [if_pos hj, if_pos (by simp [bhB, hi, hj])]
          · rw [if_neg hj, if_neg (by simp [bhB, hj])]
        · rw [if_neg hi]
          rw [show (fun j => if okNext (r ++ [q]) (i, j) = true then 1 + S (n - 1 - i) (m - 1 - j) else 0) = fun _ => 0 from funext fun j => if_neg (by rw [hd]; simp [bhB, hi])]
          exact sm_zero
      rw [sm_eq h1, sm_behind, ← sm_rev (n := n - 1 - q.1) (f := fun i => sm (m - 1 - q.2) fun j => 1 + S i j)]
      refine sm_eq fun i hi => sm_eq fun j _ => ?_
      rw [show n - 1 - (q.1 + 1 + i) = n - 1 - q.1 - 1 - i by omega]
    rw [this]
    omega
theorem rows_wt : ∀ k : Nat, ((rowsOf (psL M n m) k).map (wt n m)).sum ≤ 1 + S n m
  | 0 => by
    rw [rowsOf]
    simp [wt]
  | k + 1 => by
    refine Nat.le_trans ?_ (rows_wt k)
    rw [rowsOf]
    generalize rowsOf (psL M n m) k = rows
    induction rows with
    | nil => simp [longer]
    | cons row rows ih =>
      have h := wt_next (M := M) (n := n) (m := m) row
      have e : longer (psL M n m) (row :: rows) = ((psL M n m).filter (okNext row)).map (fun p => row ++ [p]) ++ longer (psL M n m) rows := by
        unfold longer
        rw [List.flatMap_cons]
      rw [e, List.map_append, List.sum_append, List.map_map, List.map_cons, List.sum_cons]
      have h' : (((psL M n m).filter (okNext row)).map (wt n m ∘ fun p => row ++ [p])).sum + 1 ≤ wt n m row := h
      omega
theorem rows_many (k : Nat) : (rowsOf (psL M n m) k).length ≤ 1 + S n m := by
  refine Nat.le_trans ?_ (rows_wt (M := M) (n := n) (m := m) k)
  generalize rowsOf (psL M n m) k = rows
  induction rows with
  | nil => simp
  | cons row rows ih =>
    rw [List.map_cons, List.sum_cons, List.length_cons]
    have : 1 ≤ wt n m row := by
      unfold wt
      split <;> omega
    omega
theorem S_seven : S 7 7 = 3431 := by decide +kernel
end KL

/-! Gaps between two rows of one base, and what is merged: the mathematics. -/
namespace KL
variable {α : Type}
abbrev Tr := Nat × Nat × Nat
/-- what a row has at a place -/
def look (l : List Pr) (p : Nat) : Option Nat := (l.find? fun x => decide (x.1 = p)).map (·.2)
def ends (l r : List Pr) : List Tr := l.filterMap fun x => (look r x.1).map fun q => (x.1, x.2, q)
def cut (ws : List α) (a b : Nat) : List α := (ws.drop a).take (b - a)
def gapL (ws us vs : List α) : Tr → List Tr → List (List α × List α × List α)
  | _, [] => []
  | s, e :: r => (cut ws s.1 e.1, cut us s.2.1 e.2.1, cut vs s.2.2 e.2.2) :: gapL ws us vs (e.1 + 1, e.2.1 + 1, e.2.2 + 1) r
def swT (e : Tr) : Tr := (e.1, e.2.2, e.2.1)
def swG (g : List α × List α × List α) : List α × List α × List α := (g.1, g.2.2, g.2.1)
/-- strictly growing, both ways -/
def Inc (l : List Pr) : Prop := l.Pairwise bh
theorem look_some {l : List Pr} (h : Inc l) {p q : Nat} : look l p = some q ↔ (p, q) ∈ l := by
  unfold look
  constructor
  · intro e
    obtain ⟨x, hx, rfl⟩ := Option.map_eq_some_iff.mp e
    have h1 := List.find?_some hx
    have h2 := List.mem_of_find?_eq_some hx
    rw [decide_eq_true_iff] at h1
    subst h1
    exact h2
  · intro hm
    cases e : l.find? fun x => decide (x.1 = p) with
    | none =>
      have := List.find?_eq_none.mp e (p, q) hm
      simp at this
    | some x =>
      have h1 := List.find?_some e
      have h2 := List.mem_of_find?_eq_some e
      rw [decide_eq_true_iff] at h1
      have : x = (p, q) := by
        obtain ⟨i, hi, e1⟩ := List.mem_iff_getElem.mp h2
        obtain ⟨j, hj, e2⟩ := List.mem_iff_getElem.mp hm
        rcases Nat.lt_trichotomy i j with z | z | z
        · have := List.pairwise_iff_getElem.mp h i j hi hj z
          rw [e1, e2] at this
          have h3 := this.1
          simp only at h3
          omega
        · subst z
          rw [← e1, e2]
        · have := List.pairwise_iff_getElem.mp h j i hj hi z
          rw [e1, e2] at this
          have h3 := this.1
          simp only at h3
          omega
      rw [this]
      rfl
theorem ends_mem {l r : List Pr} (hl : Inc l) (hr : Inc r) {e : Tr} : e ∈ ends l r ↔ (e.1, e.2.1) ∈ l ∧ (e.1, e.2.2) ∈ r := by
  unfold ends
  rw [List.mem_filterMap]
  constructor
  · rintro ⟨x, hx, h⟩
    obtain ⟨q, hq, rfl⟩ := Option.map_eq_some_iff.mp h
    exact ⟨hx, (look_some hr).mp hq⟩
  · rintro ⟨h1, h2⟩
    exact ⟨(e.1, e.2.1), h1, by rw [(look_some hr).mpr h2]; rfl⟩
def bh3 (a b : Tr) : Prop := a.1 < b.1 ∧ a.2.1 < b.2.1 ∧ a.2.2 < b.2.2
theorem ends_inc {l r : List Pr} (hl : Inc l) (hr : Inc r) : (ends l r).Pairwise bh3 := by
  unfold ends
  rw [List.pairwise_filterMap]
  refine hl.imp fun {a b} hab x hx y hy => ?_
  obtain ⟨q, hq, rfl⟩ := Option.map_eq_some_iff.mp hx
  obtain ⟨s, hs, rfl⟩ := Option.map_eq_some_iff.mp hy
  have m1 := (look_some hr).mp hq
  have m2 := (look_some hr).mp hs
  refine ⟨hab.1, hab.2, ?_⟩
  obtain ⟨i, hi, e1⟩ := List.mem_iff_getElem.mp m1
  obtain ⟨j, hj, e2⟩ := List.mem_iff_getElem.mp m2
  rcases Nat.lt_trichotomy i j with z | z | z
  · have := List.pairwise_iff_getElem.mp hr i j hi hj z
    rw [e1, e2] at this
    exact this.2
  · subst z
    rw [e1] at e2
    have h1 : a.1 = b.1 := (Prod.mk.inj e2).1
    have := hab.1
    omega
  · have := List.pairwise_iff_getElem.mp hr j i hj hi z
    rw [e1, e2] at this
    have h1 := this.1
    have h2 := hab.1
    simp only at h1
    omega
/-- two growing rows of the same members are one -/
theorem inc_ext {R : Tr → Tr → Prop} (irr : ∀ a, ¬ R a a) (asy : ∀ a b, R a b → ¬ R b a) : ∀ {l r : List Tr}, l.Pairwise R → r.Pairwise R → (∀ x, x ∈ l ↔ x ∈ r) → l = r
  | [], [], _, _, _ => rfl
  | [], b :: r, _, _, h => absurd ((h b).mpr List.mem_cons_self) (by simp)
  | a :: l, [], _, _, h => absurd ((h a).mp List.mem_cons_self) (by simp)
  | a :: l, b :: r, h1, h2, h => by
    rw [List.pairwise_cons] at h1 h2
    have e : a = b := by
      rcases List.mem_cons.mp ((h a).mp List.mem_cons_self) with e | m
      · exact e
      · rcases List.mem_cons.mp ((h b).mpr List.mem_cons_self) with e | m2
        · exact e.symm
        · exact absurd (h1.1 b m2) (asy _ _ (h2.1 a m))
    subst e
    rw [inc_ext irr asy h1.2 h2.2 fun x => ?_]
    have na : a ∉ l := fun m => irr _ (h1.1 a m)
    have nb : a ∉ r := fun m => irr _ (h2.1 a m)
    constructor
    · intro hx
      rcases List.mem_cons.mp ((h x).mp (List.mem_cons_of_mem _ hx)) with e | m
      · exact absurd (e ▸ hx) na
      · exact m
    · intro hx
      rcases List.mem_cons.mp ((h x).mpr (List.mem_cons_of_mem _ hx)) with e | m
      · exact absurd (e ▸ hx) nb
      · exact m
theorem ends_swap {l r : List Pr} (hl : Inc l) (hr : Inc r) : ends r l = (ends l r).map swT := by
  refine inc_ext (R := bh3) (fun a h => absurd h.1 (by omega)) (fun a b h k => absurd h.1 (by have := k.1; omega)) (ends_inc hr hl) ?_ fun x => ?_
  · rw [List.pairwise_map]
    exact (ends_inc hl hr).imp fun {a b} h => ⟨h.1, h.2.2, h.2.1⟩
  · rw [ends_mem hr hl, List.mem_map]
    constructor
    · rintro ⟨h1, h2⟩
      exact ⟨(x.1, x.2.2, x.2.1), (ends_mem hl hr).mpr ⟨h2, h1⟩, rfl⟩
    · rintro ⟨y, hy, rfl⟩
      have := (ends_mem hl hr).mp hy
      exact ⟨this.2, this.1⟩
theorem gap_swap (ws us vs : List α) : ∀ (es : List Tr) (s : Tr), gapL ws vs us (swT s) (es.map swT) = (gapL ws us vs s es).map swG
  | [], _ => rfl
  | e :: r, s => by
    show _ :: gapL ws vs us (swT (e.1 + 1, e.2.1 + 1, e.2.2 + 1)) (r.map swT) = _
    rw [gap_swap ws us vs r]
    rfl
theorem gap_len (ws us vs : List α) : ∀ (es : List Tr) (s : Tr), (gapL ws us vs s es).length = es.length
  | [], _ => rfl
  | e :: r, s => by
    show (gapL ws us vs _ r).length + 1 = _
    rw [gap_len ws us vs r]
    rfl
/-! ### what is merged -/
def givenS [DecidableEq α] (g : List α × List α × List α) : Option (List α) := if g.2.1 = g.1 then some g.2.2 else if g.2.2 = g.1 ∨ g.2.2 = g.2.1 then some g.2.1 else none
theorem given_swap [DecidableEq α] (g : List α × List α × List α) : givenS (swG g) = givenS g := by
  obtain ⟨o, m, t⟩ := g
  unfold givenS swG
  simp only
  by_cases h1 : m = o <;> by_cases h2 : t = o <;> by_cases h3 : t = m <;> simp_all
  · intro e
    exact absurd e.symm h3
/-- the parts with the held words between them -/
def inter : List (List α) → List α → List α
  | [], _ => []
  | p :: _, [] => p
  | p :: ps, w :: ws => p ++ w :: inter ps ws
def mergeS [DecidableEq α] (gs : List (List α × List α × List α)) (hs : List α) : Option (List α) := if gs.all fun g => (givenS g).isSome then some (inter (gs.map fun g => (givenS g).getD []) hs) else none
theorem merge_swap [DecidableEq α] (gs : List (List α × List α × List α)) (hs : List α) : mergeS (gs.map swG) hs = mergeS gs hs := by
  unfold mergeS
  rw [List.all_map, List.map_map]
  have e : (fun g => (givenS g).isSome) ∘ swG = fun (g : List α × List α × List α) => (givenS g).isSome := funext fun g => by
    show (givenS (swG g)).isSome = _
    rw [given_swap]
  have e2 : (fun g => (givenS g).getD []) ∘ swG = fun (g : List α × List α × List α) => (givenS g).getD [] := funext fun g => by
    show (givenS (swG g)).getD [] = _
    rw [given_swap]
  rw [e, e2]
theorem cut_all (vs : List α) {a : Nat} : cut vs a vs.length = vs.drop a := by
  unfold cut
  rw [List.take_of_length_le (by rw [List.length_drop]; exact Nat.le_refl _)]
theorem cut_step (vs : List α) {a b : Nat} {w : α} (h : a ≤ b) (hw : vs[b]? = some w) : cut vs a b ++ w :: vs.drop (b + 1) = vs.drop a := by
  unfold cut
  have e : vs.drop b = w :: vs.drop (b + 1) := by
    obtain ⟨hl, e⟩ := List.getElem?_eq_some_iff.mp hw
    rw [List.drop_eq_getElem_cons hl, e]
  rw [← e]
  have : vs.drop b = (vs.drop a).drop (b - a) := by rw [List.drop_drop, show a + (b - a) = b by omega]
  rw [this, List.take_append_drop]
/-- parts of one text, with its own words between them, are the text -/
theorem inter_third {ws us vs : List α} {n m : Nat} (w : Tr → α) : ∀ (es : List Tr) (s : Tr), es.Pairwise bh3 → (∀ e ∈ es, s.2.2 ≤ e.2.2 ∧ vs[e.2.2]? = some (w e)) → inter ((gapL ws us vs s (es ++ [(n, m, vs.length)])).map fun g => g.2.2) (es.map w) = vs.drop s.2.2
  | [], s, _, _ => cut_all vs
  | e :: r, s, hp, h => by
    rw [List.pairwise_cons] at hp
    have ih := inter_third (ws := ws) (us := us) (vs := vs) (n := n) (m := m) w r (e.1 + 1, e.2.1 + 1, e.2.2 + 1) hp.2 fun x hx => ⟨(hp.1 x hx).2.2, (h x (List.mem_cons_of_mem _ hx)).2⟩
    show cut vs s.2.2 e.2.2 ++ w e :: inter ((gapL ws us vs (e.1 + 1, e.2.1 + 1, e.2.2 + 1) (r ++ [(n, m, vs.length)])).map fun g => g.2.2) (r.map w) = _
    rw [ih]
    obtain ⟨h1, h2⟩ := h e List.mem_cons_self
    exact cut_step vs h1 h2
theorem inter_second {ws us vs : List α} {n k : Nat} (w : Tr → α) (es : List Tr) (s : Tr) (hp : es.Pairwise bh3) (h : ∀ e ∈ es, s.2.1 ≤ e.2.1 ∧ us[e.2.1]? = some (w e)) : inter ((gapL ws us vs s (es ++ [(n, us.length, k)])).map fun g => g.2.1) (es.map w) = us.drop s.2.1 := by
  have e := inter_third (ws := ws) (us := vs) (vs := us) (n := n) (m := k) (fun e => w (swT e)) (es.map swT) (swT s) (by rw [List.pairwise_map]; exact hp.imp fun {a b} h => ⟨h.1, h.2.2, h.2.1⟩) fun x hx => by
    obtain ⟨y, hy, rfl⟩ := List.mem_map.mp hx
    exact h y hy
  have e2 : es.map swT ++ [(n, k, us.length)] = (es ++ [(n, us.length, k)]).map swT := by rw [List.map_append]; rfl
  rw [e2, gap_swap, List.map_map, List.map_map] at e
  exact e
section
variable [DecidableEq α]
theorem merge_third {gs : List (List α × List α × List α)} {hs : List α} (h : ∀ g ∈ gs, givenS g = some g.2.2) : mergeS gs hs = some (inter (gs.map fun g => g.2.2) hs) := by
  unfold mergeS
  rw [if_pos (List.all_eq_true.mpr fun g hg => by rw [h g hg]; rfl)]
  congr 2
  exact List.map_congr_left fun g hg => by rw [h g hg]; rfl
theorem merge_second {gs : List (List α × List α × List α)} {hs : List α} (h : ∀ g ∈ gs, givenS g = some g.2.1) : mergeS gs hs = some (inter (gs.map fun g => g.2.1) hs) := by
  unfold mergeS
  rw [if_pos (List.all_eq_true.mpr fun g hg => by rw [h g hg]; rfl)]
  congr 2
  exact List.map_congr_left fun g hg => by rw [h g hg]; rfl
end
theorem gap_all {ws us vs : List α} {P : List α × List α × List α → Prop} {I : Tr → Prop} (h : ∀ s e, I s → I e → P (cut ws s.1 e.1, cut us s.2.1 e.2.1, cut vs s.2.2 e.2.2)) (hs : ∀ e, I e → I (e.1 + 1, e.2.1 + 1, e.2.2 + 1)) : ∀ (es : List Tr) (s : Tr), I s → (∀ e ∈ es, I e) → ∀ g ∈ gapL ws us vs s es, P g
  | [], _, _, _, g, hg => by cases hg
  | e :: r, s, i, k, g, hg => by
    rcases List.mem_cons.mp hg with rfl | hg
    · exact h s e i (k e List.mem_cons_self)
    · exact gap_all h hs r _ (hs e (k e List.mem_cons_self)) (fun x hx => k x (List.mem_cons_of_mem _ hx)) g hg
/-- what three texts make by two rows -/
def mergedS [DecidableEq α] (ws us vs : List α) (l r : List Pr) (w : Tr → α) : Option (List α) := mergeS (gapL ws us vs (0, 0, 0) (ends l r ++ [(ws.length, us.length, vs.length)])) ((ends l r).map w)
theorem merged_swap [DecidableEq α] {ws us vs : List α} {l r : List Pr} {w w2 : Tr → α} (hl : Inc l) (hr : Inc r) (hw : ∀ e, w2 (swT e) = w e) : mergedS ws vs us r l w2 = mergedS ws us vs l r w := by
  unfold mergedS
  rw [ends_swap hl hr]
  have e : (ends l r).map swT ++ [(ws.length, vs.length, us.length)] = (ends l r ++ [(ws.length, us.length, vs.length)]).map swT := by rw [List.map_append]; rfl
  rw [e, show ((0, 0, 0) : Tr) = swT (0, 0, 0) from rfl, gap_swap, merge_swap, List.map_map]
  congr 1
  exact List.map_congr_left fun x _ => hw x
def wholeL (n : Nat) : List Pr := (List.range n).map fun k => (k, k)
theorem whole_mem {n : Nat} {p : Pr} : p ∈ wholeL n ↔ p.1 = p.2 ∧ p.1 < n := by
  unfold wholeL
  rw [List.mem_map]
  constructor
  · rintro ⟨k, hk, rfl⟩
    exact ⟨rfl, List.mem_range.mp hk⟩
  · rintro ⟨h1, h2⟩
    exact ⟨p.1, List.mem_range.mpr h2, Prod.ext rfl h1⟩
theorem whole_inc {n : Nat} : Inc (wholeL n) := by
  unfold Inc wholeL
  rw [List.pairwise_map]
  exact List.pairwise_lt_range.imp fun h => ⟨h, h⟩
theorem merged_right [DecidableEq α] {ws vs : List α} {r : List Pr} {w : Tr → α} (hr : Inc r) (hw : ∀ e ∈ ends (wholeL ws.length) r, vs[e.2.2]? = some (w e)) : mergedS ws ws vs (wholeL ws.length) r w = some vs := by
  have hm : ∀ e ∈ ends (wholeL ws.length) r, e.1 = e.2.1 := fun e he => (whole_mem.mp ((ends_mem whole_inc hr).mp he).1).1
  unfold mergedS
  rw [merge_third, inter_third w _ _ (ends_inc whole_inc hr) fun e he => ⟨Nat.zero_le _, hw e he⟩]
  · rfl
  · refine gap_all (I := fun e => e.1 = e.2.1) (P := fun g => givenS g = some g.2.2) (fun s e i j => ?_) (fun e i => congrArg (· + 1) i) _ _ rfl fun e he => ?_
    · unfold givenS
      simp only
      rw [i, j, if_pos rfl]
    · rcases List.mem_append.mp he with he | he
      · exact hm e he
      · rw [List.mem_singleton.mp he]
theorem merged_left [DecidableEq α] {ws us : List α} {l : List Pr} {w : Tr → α} (hl : Inc l) (hw : ∀ e ∈ ends l (wholeL ws.length), us[e.2.1]? = some (w e)) : mergedS ws us ws l (wholeL ws.length) w = some us := by
  have hm : ∀ e ∈ ends l (wholeL ws.length), e.1 = e.2.2 := fun e he => (whole_mem.mp ((ends_mem hl whole_inc).mp he).2).1
  unfold mergedS
  rw [merge_second, inter_second w _ _ (ends_inc hl whole_inc) fun e he => ⟨Nat.zero_le _, hw e he⟩]
  · rfl
  · refine gap_all (I := fun e => e.1 = e.2.2) (P := fun g => givenS g = some g.2.1) (fun s e i j => ?_) (fun e i => congrArg (· + 1) i) _ _ rfl fun e he => ?_
    · unfold givenS
      simp only
      rw [i, j]
      by_cases h : cut us s.2.1 e.2.1 = cut ws s.2.2 e.2.2
      · rw [if_pos h, h]
      · rw [if_neg h, if_pos (.inl rfl)]
    · rcases List.mem_append.mp he with he | he
      · exact hm e he
      · rw [List.mem_singleton.mp he]
theorem merged_alike [DecidableEq α] {ws us : List α} {l : List Pr} {w : Tr → α} (hl : Inc l) (hw : ∀ e ∈ ends l l, us[e.2.1]? = some (w e)) : mergedS ws us us l l w = some us := by
  have hm : ∀ e ∈ ends l l, e.2.1 = e.2.2 := fun e he => by
    obtain ⟨h1, h2⟩ := (ends_mem hl hl).mp he
    have a := (look_some hl).mpr h1
    have b := (look_some hl).mpr h2
    rw [a] at b
    exact Option.some.inj b
  unfold mergedS
  rw [merge_second, inter_second w _ _ (ends_inc hl hl) fun e he => ⟨Nat.zero_le _, hw e he⟩]
  · rfl
  · refine gap_all (I := fun e => e.2.1 = e.2.2) (P := fun g => givenS g = some g.2.1) (fun s e i j => ?_) (fun e i => congrArg (· + 1) i) _ _ rfl fun e he => ?_
    · unfold givenS
      simp only
      rw [i, j]
      by_cases h : cut us s.2.2 e.2.2 = cut ws s.1 e.1
      · rw [if_pos h]
      · rw [if_neg h, if_pos (.inr rfl)]
    · rcases List.mem_append.mp he with he | he
      · exact hm e he
      · rw [List.mem_singleton.mp he]
end KL

/-! Dicts made of rows: places as keys. -/
namespace KD
open PySem PySem.Spec PyProof.Rows L2 KL
def kvsOf (l : List Pr) : List (Key × V) := l.map fun p => (.inl (p.1 : Int), .int (p.2 : Int))
theorem putK_row {l : List Pr} {p : Pr} (h : ∀ x ∈ l, x.1 ≠ p.1) : putK (kvsOf l) (.inl (p.1 : Int)) (.int (p.2 : Int)) = kvsOf (l ++ [p]) := by
  unfold putK
  rw [if_neg]
  · unfold kvsOf
    rw [List.map_append]
    rfl
  · rw [List.any_eq_true]
    rintro ⟨kv, hkv, e⟩
    obtain ⟨x, hx, rfl⟩ := List.mem_map.mp hkv
    have e := of_decide_eq_true e
    have e2 : (x.1 : Int) = (p.1 : Int) := Sum.inl.inj e
    exact h x hx (by omega)
theorem inc_ne {l : List Pr} {p : Pr} (h : Inc (l ++ [p])) : ∀ x ∈ l, x.1 ≠ p.1 := fun x hx => by
  have := (List.pairwise_append.mp h).2.2 x hx p (List.mem_singleton.mpr rfl)
  have := this.1
  omega
theorem merge_row : ∀ (l pre : List Pr), Inc (pre ++ l) → mergeK (kvsOf pre) (kvsOf l) = kvsOf (pre ++ l)
  | [], pre, _ => by rw [List.append_nil]; rfl
  | p :: r, pre, h => by
    have h1 : Inc ((pre ++ [p]) ++ r) := by rw [List.append_assoc]; exact h
    have ih := merge_row r (pre ++ [p]) h1
    rw [List.append_assoc] at ih
    show mergeK (putK (kvsOf pre) (.inl (p.1 : Int)) (.int (p.2 : Int))) (kvsOf r) = _
    rw [putK_row (inc_ne (List.pairwise_append.mp h1).1), ih]
    rfl
theorem val_look {l : List Pr} {p : Nat} : valV (kvsOf l) (.inl (p : Int)) = (look l p).map fun (q : Nat) => V.int (q : Int) := by
  unfold valV look kvsOf
  induction l with
  | nil => rfl
  | cons x r ih =>
    rw [List.map_cons, List.find?_cons, List.find?_cons]
    by_cases h : x.1 = p
    · rw [decide_eq_true h, decide_eq_true (show ((Sum.inl (x.1 : Int) : Key) = .inl (p : Int)) by rw [h])]
      rfl
    · rw [decide_eq_false h, decide_eq_false (fun e => h (by have := Sum.inl.inj e; omega))]
      exact ih
/-- a row as it is told -/
structure Rw (d : PyData) (l : List Pr) : Prop where
  seq : isSeq d = true
  len : (itemsD d).length = l.length
  its : ∀ (i : Nat) (z : PyData) (p : Pr), (itemsD d)[i]? = some z → l[i]? = some p → isSeq z = true ∧ itemsD z = [.int (p.1 : Nat), .int (p.2 : Nat)]
section
variable {X : Addr → Prop} {σ : L2.St} {H H' : Hp} {Γ : List Sv} {te ty : TE} {d : PyData} {ds : List PyData} {l : List Pr} {K : PySem.W.Frag} {Q : VK} {A : Addr}
theorem k_dc {j : Nat} (t : Trk X H) (E : EnvOk X H σ Γ) (hj : j < Γ.length) (h : G X te σ H d) (R : Rw d l) (few : l.length ≤ 1000) (inc : Inc l) (q : ∀ D H', H D = none → Same H H' → H' D = some (.dK (kvsOf l)) → Q (.ref D) H') :
    tDc (iSeq K te) (gName j) tYes (tOp (rIx K) (tVar j) (tC (.int 0))) (tOp (rIx K) (tVar j) (tC (.int 1))) [j] σ H Q := by
  refine gi_seq (K := K) h R.seq H (Same.refl _) _ fun J H2 s2 w D hD => ?_
  obtain ⟨Gd, Y, w1, w2⟩ := w
  let X' : Addr → Prop := fun a => X a ∨ a = D
  have m2 : More X X' H2 := More.one hD
  let Pv : Nat → Hp → Prop := fun i Gh => Same H2 Gh ∧ Trk X' Gh ∧ Gh D = some (.dK (kvsOf (l.take i)))
  have ln := R.len
  refine ⟨fun i m Gh => m = l.length - i ∧ i ≤ l.length ∧ Pv i Gh, ⟨_, rfl, Nat.zero_le _, Same.upd hD, (t.mono s2).one hD, upd_same⟩, ?_⟩
  rintro i m Gh ⟨rfl, hi, p1, p2, p3⟩
  have q0 := w2 X' m2.2 Gh (Kp.of p1) p2
  by_cases lt : i < l.length
  rotate_left
  · have e : i = l.length := by omega
    subst e
    rw [List.take_length] at p3
    have st := w1.stops Gh q0.1
    rw [ln] at st
    exact .inl ⟨st, q D Gh (s2.free hD) (s2.trans p1) p3⟩
  have lt2 : i < (itemsD d).length := by omega
  refine .inr ⟨w1.goes i Gh lt2 q0.1, Pv (i + 1), fun G' p' => ⟨_, by omega, rfl, lt, p'⟩, fun x G' y => ?_⟩
  obtain ⟨s4, z, hz, dx⟩ := q0.2 i x G' (w1.yields i Gh x G' lt2 q0.1 y)
  obtain ⟨zs, zi⟩ := R.its i z l[i] hz (List.getElem?_eq_getElem lt)
  have hslot : ((wipe σ [j]).set j (some x))[j]? = some (some x) := by
    refine List.getElem?_set_self ?_
    show j < (σ.set j none).length
    rw [List.length_set, E.len]
    exact hj
  show wipe ((wipe σ [j]).set j (some x)) [j] = wipe σ [j] ∧ _
  refine ⟨wipe_one, ?_⟩
  have hy : ∀ {σ : L2.St} {H : Hp} {Qb : Bool → Hp → Prop}, Qb true H → tYes σ H Qb := fun h => h
  refine hy (iteT ?_)
  have t4 := p2.mono s4
  have gv : G X' (tVar j) ((wipe σ [j]).set j (some x)) G' z := fun H1 s Q q => ⟨x, hslot, q x H1 (Same.refl _) (dx.mono (Kp.of s))⟩
  refine g_ix (K := K) t4 gv zs g_int (z := .int ((l[i].1 : Nat) : Int)) (by rw [zi]; rfl) G' (Same.refl _) _ fun v5 H5 s5 r5 => ?_
  refine g_ix (K := K) (t4.mono s5) (gv.mono s5) zs g_int (z := .int ((l[i].2 : Nat) : Int)) (by rw [zi]; rfl) H5 (Same.refl _) _ fun v6 H6 s6 r6 => ?_
  rw [r5.int_inv, r6.int_inv]
  have s46 := (s4.trans s5).trans s6
  refine ⟨kvsOf (l.take i), .inl (l[i].1 : Int), rfl, s46 _ _ p3, by unfold kvsOf; rw [List.length_map, List.length_take, sizeLine_eq]; omega, fun a o e => ?_, ?_, ?_⟩
  · have : a ≠ D := fun z => by rw [z, hD] at e; cases e
    rw [upd_ne this]
    exact s46 _ _ (p1 a o e)
  · exact (p2.mono s46).put
  · have et : l.take (i + 1) = l.take i ++ [l[i]] := by rw [List.take_add_one, List.getElem?_eq_getElem lt]; rfl
    rw [putK_row (inc_ne (p := l[i]) (l := l.take i) (by rw [← et]; exact inc.sublist (List.take_sublist _ _))), et, upd_same]
/-! ### what is told of other things while a dict is locked -/
theorem upd_ne' {a b : Addr} {o u : HO} {H : Hp} (h : H a = some u) (hb : ∀ v, H b = some v → v ≠ u) : a ≠ b := fun e => hb u (e ▸ h) rfl
mutual
theorem DX.lock {kvs : List (Key × V)} {o : HO} (hA : H A = some (.dK kvs)) : ∀ {v : V} {d : PyData}, DX X H v d → noDict d = true → DX X (upd H A o) v d
  | _, _, .non, _ => .non
  | _, _, .bl b, _ => .bl b
  | _, _, .int i, _ => .int i
  | _, _, .str x, _ => .str x
  | _, _, .lst (a := a) n h r, k => .lst n (by rw [upd_ne (fun e => by rw [e, hA] at h; cases h)]; exact h) (DXs.lock hA r (by simpa [noDict] using k))
  | _, _, .tup (a := a) n h r, k => .tup n (by rw [upd_ne (fun e => by rw [e, hA] at h; cases h)]; exact h) (DXs.lock hA r (by simpa [noDict] using k))
  | _, _, .dic _ _ _, k => by simp [noDict] at k
theorem DXs.lock {kvs : List (Key × V)} {o : HO} (hA : H A = some (.dK kvs)) : ∀ {vs : List V} {ds : List PyData}, DXs X H vs ds → noDicts ds = true → DXs X (upd H A o) vs ds
  | _, _, .nil, _ => .nil
  | _, _, .cons (d := d) (ds := ds) h r, k => by
    have k' : noDict d = true ∧ noDicts ds = true := by simpa [noDicts] using k
    exact .cons (DX.lock hA h k'.1) (DXs.lock hA r k'.2)
end
mutual
theorem DX.unlock {od : Obj} {u o : HO} (hA : H A = some (.frz od u)) : ∀ {v : V} {d : PyData}, DX X H v d → DX X (upd H A o) v d
  | _, _, .non => .non
  | _, _, .bl b => .bl b
  | _, _, .int i => .int i
  | _, _, .str x => .str x
  | _, _, .lst n h r => .lst n (by rw [upd_ne (fun e => by rw [e, hA] at h; cases h)]; exact h) (DXs.unlock hA r)
  | _, _, .tup n h r => .tup n (by rw [upd_ne (fun e => by rw [e, hA] at h; cases h)]; exact h) (DXs.unlock hA r)
  | _, _, .dic n h r => .dic n (by rw [upd_ne (fun e => by rw [e, hA] at h; cases h)]; exact h) (DXk.unlock hA r)
theorem DXs.unlock {od : Obj} {u o : HO} (hA : H A = some (.frz od u)) : ∀ {vs : List V} {ds : List PyData}, DXs X H vs ds → DXs X (upd H A o) vs ds
  | _, _, .nil => .nil
  | _, _, .cons h r => .cons (DX.unlock hA h) (DXs.unlock hA r)
theorem DXk.unlock {od : Obj} {u o : HO} (hA : H A = some (.frz od u)) : ∀ {vs : List (Key × V)} {ds : List (PyData × PyData)}, DXk X H vs ds → DXk X (upd H A o) vs ds
  | _, _, .nil => .nil
  | _, _, .cons h r => .cons (DX.unlock hA h) (DXk.unlock hA r)
end
theorem EnvOk.lock {kvs : List (Key × V)} {o : HO} (E : EnvOk X H σ Γ) (hA : H A = some (.dK kvs)) (nd : ∀ d, Sv.dat d ∈ Γ → noDict d = true) : EnvOk X (upd H A o) σ Γ := ⟨E.len, fun i s e => by
  have h := E.get i s e
  cases s with
  | dat d =>
    obtain ⟨v, e1, r⟩ := h
    exact ⟨v, e1, r.lock hA (nd d (List.mem_of_getElem? e))⟩
  | val v => exact h
  | un => trivial⟩
theorem EnvOk.unlock {od : Obj} {u o : HO} (E : EnvOk X H σ Γ) (hA : H A = some (.frz od u)) : EnvOk X (upd H A o) σ Γ := ⟨E.len, fun i s e => by
  have h := E.get i s e
  cases s with
  | dat d =>
    obtain ⟨v, e1, r⟩ := h
    exact ⟨v, e1, r.unlock hA⟩
  | val v => exact h
  | un => trivial⟩
/-! ### a dict's places -/
theorem gi_keys {i : Nat} {od : Obj} (E : EnvOk X H σ Γ) (hi : Γ[i]? = some (.val (.ref A))) (hA : H A = some (.frz od (.dK (kvsOf l)))) (nA : ¬ X A) : GI X (iKeys (tVar i)) σ H (l.map fun p => .int (p.1 : Nat)) := fun H1 s R r => by
  have h1 := s _ _ hA
  refine ⟨.ref A, (E.same s).get i _ hi, A, od, rfl, .inl ⟨_, h1, r _ H1 (Same.refl _) ⟨_, _, by rw [List.length_map]; exact (show l.length = (kvsOf l).length by simp [kvsOf]) ▸ walk_keys, fun X' m H3 k t => ?_⟩⟩⟩
  have n' : ¬ X' A := fun z => (m A z).elim nA fun q => by rw [h1] at q; cases q
  refine ⟨k A _ n' h1, fun j x H4 y => ?_⟩
  obtain ⟨rfl, kk, v, e1, rfl⟩ := y
  unfold kvsOf at e1
  rw [List.getElem?_map] at e1
  obtain ⟨p, hp, e2⟩ := Option.map_eq_some_iff.mp e1
  cases e2
  exact ⟨Same.refl _, _, by rw [List.getElem?_map, hp]; rfl, .int _⟩
theorem g_dgetI {i : Nat} {p q : Nat} (E : EnvOk X H σ Γ) (hi : Γ[i]? = some (.val (.ref A))) (hA : Rd H A (.dK (kvsOf l))) (hk : G X ty σ H (.int (p : Int))) (hv : look l p = some q) : G X (tDGet (tVar i) ty) σ H (.int (q : Int)) := fun H1 s Q r =>
  ⟨.ref A, (E.same s).get i _ hi, hk H1 s _ fun v H2 s2 rv => ⟨A, .int (q : Int), rfl, by
    have h2 : Rd H2 A (.dK (kvsOf l)) := by
      rcases hA with h | ⟨o, h⟩
      · exact .inl (s2 _ _ (s _ _ h))
      · exact .inr ⟨o, s2 _ _ (s _ _ h)⟩
    rw [rv.int_inv]
    refine .inl ⟨_, .inl (p : Int), h2, rfl, ?_⟩
    rw [val_look, hv]
    rfl, r _ H2 s2 (.int _)⟩⟩
theorem gt_dinI {i : Nat} {p : Nat} (E : EnvOk X H σ Γ) (hi : Γ[i]? = some (.val (.ref A))) (hA : Rd H A (.dK (kvsOf l))) (hk : G X ty σ H (.int (p : Int))) : GT (tB (tDIn ty (tVar i))) σ H (look l p).isSome := fun H1 s Q r =>
  hk H1 s _ fun v H2 s2 rv => ⟨.ref A, (E.same (s.trans s2)).get i _ hi, A, valV (kvsOf l) (.inl (p : Int)), rfl, by
    have h2 : Rd H2 A (.dK (kvsOf l)) := by
      rcases hA with h | ⟨o, h⟩
      · exact .inl (s2 _ _ (s _ _ h))
      · exact .inr ⟨o, s2 _ _ (s _ _ h)⟩
    rw [rv.int_inv]
    exact .inl ⟨_, .inl (p : Int), h2, rfl, rfl⟩, _, rfl, by
    rw [val_look, Option.isSome_map]
    exact r H2 s2⟩
/-- a comprehension, the heap known to be kept (KDat2's g_lc otherwise) -/
theorem g_lcS {wi : TI} {g : TG} {tt : TT} {te : TE} {vs : List Nat} {Γ2 : PyData → List Sv} (f : PyData → Bool) (h : PyData → PyData) (t : Trk X H) (hi : GI X wi σ H ds) (hl : ds.length ≤ 1000000)
    (hg : ∀ H1, Same H H1 → ∀ d ∈ ds, Tgt X g σ (Γ2 d) vs d H1)
    (ht : ∀ X' H1 σ2 d, d ∈ ds → Same H H1 → Trk X' H1 → EnvOk X' H1 σ2 (Γ2 d) → GT tt σ2 H1 (f d))
    (he : ∀ X' H1 σ2 d, d ∈ ds → f d = true → Same H H1 → Trk X' H1 → EnvOk X' H1 σ2 (Γ2 d) → G X' te σ2 H1 (h d)) : G X (tLc wi g tt te vs) σ H (.list ((ds.filter f).map h)) := fun H1 s Q q =>
  hi H1 s _ fun J H2 s2 w => by
    intro D hD
    obtain ⟨Gd, Y, w1, w2⟩ := w
    have s02 : Same H H2 := s.trans s2
    have t2 : Trk X H2 := t.mono s02
    let X' : Addr → Prop := fun a => X a ∨ a = D
    have m2 : More X X' H2 := More.one hD
    have key : ∀ H3, Same H2 H3 ∧ Trk X' H3 → Gd H3 := fun H3 p => (w2 X' m2.2 H3 (Kp.of p.1) p.2).1
    refine lc_it w1 (fun i H3 => Same H2 H3 ∧ Trk X' H3 ∧ ∃ acc, H3 D = some (.lst acc) ∧ DXs X' H3 acc (((ds.take i).filter f).map h)) ?_ ?_ ?_ ?_
    · exact ⟨Same.upd hD, t2.one hD, [], upd_same, .nil⟩
    · rintro i H3 _ ⟨p1, p2, _⟩
      exact key H3 ⟨p1, p2⟩
    · rintro i x H3 H4 hi' ⟨p1, p2, acc, p3, p4⟩ y
      obtain ⟨s4, d, hd, dx⟩ := (w2 X' m2.2 H3 (Kp.of p1) p2).2 i x H4 y
      have hmem : d ∈ ds := List.mem_of_getElem? hd
      have k4 : Kp X' H2 H4 := Kp.of (p1.trans s4)
      have t4 : Trk X' H4 := p2.mono s4
      refine hg H2 s02 d hmem X' H4 m2 k4 t4 x dx _ fun σ2 E2 hw => ⟨hw, ?_⟩
      have etake : ds.take (i + 1) = ds.take i ++ [d] := by rw [List.take_succ, hd]; rfl
      refine ht X' H4 σ2 d hmem (s02.trans (p1.trans s4)) t4 E2 H4 (Same.refl _) _ fun H5 s5 => ?_
      have lacc : acc.length ≤ 1000000 := by
        rw [p4.length, List.length_map]
        exact Nat.le_trans (List.length_filter_le _ _) (Nat.le_trans (List.length_take_le _ _) (by omega))
      cases hf : f d with
      | true =>
        refine iteT ?_
        refine he X' H4 σ2 d hmem hf (s02.trans (p1.trans s4)) t4 E2 H5 s5 _ fun y H6 s6 ry => ?_
        have s36 : Same H3 H6 := (s4.trans s5).trans s6
        refine ⟨acc, s36 D _ p3, by rw [sizeLine_eq]; omega, ?_, ?_, acc ++ [y], upd_same, ?_⟩
        · exact Same.mut (p1.trans s36) hD
        · exact (p2.mono s36).put
        · rw [etake, List.filter_append, List.map_append]
          have ef : List.filter f [d] = [d] := by simp [hf]
          rw [ef]
          exact ((p4.mono (Kp.of s36)).snoc ry).mono (Kp.put (.inr rfl))
      | false =>
        refine iteF ?_
        have s35 : Same H3 H5 := s4.trans s5
        refine ⟨p1.trans s35, p2.mono s35, acc, s35 D _ p3, ?_⟩
        rw [etake, List.filter_append, List.map_append]
        have ef : List.filter f [d] = [] := by simp [hf]
        rw [ef, List.map_nil, List.append_nil]
        exact p4.mono (Kp.of s35)
    · rintro H3 ⟨p1, p2, acc, p3, p4⟩
      rw [List.take_length] at p4
      have nXD : ¬ X D := t2.new hD
      -- D itself is a datum again
      exact q (.ref D) H3 (s2.trans p1) (.lst nXD p3 (p4.less fun a => .inl))
theorem ends_data {l r : List Pr} {h : PyData → PyData} (hh : ∀ p q s, look l p = some q → look r p = some s → h (.int (p : Nat)) = .tuple [.int (p : Nat), .int (q : Nat), .int (s : Nat)]) (hl : Inc l) : ((l.map fun p => PyData.int (p.1 : Nat)).filter fun z => (look r (match z with | .int i => i.toNat | _ => 0)).isSome).map h = (ends l r).map fun e => PyData.tuple [.int (e.1 : Nat), .int (e.2.1 : Nat), .int (e.2.2 : Nat)] := by
  have key : ∀ l' : List Pr, (∀ x ∈ l', x ∈ l) → ((l'.map fun p => PyData.int (p.1 : Nat)).filter fun z => (look r (match z with | .int i => i.toNat | _ => 0)).isSome).map h = (ends l' r).map fun e => PyData.tuple [.int (e.1 : Nat), .int (e.2.1 : Nat), .int (e.2.2 : Nat)] := by
    intro l'
    induction l' with
    | nil => intro _; rfl
    | cons x rest ih =>
      intro hx
      have ih := ih fun y hy => hx y (List.mem_cons_of_mem _ hy)
      rw [List.map_cons, List.filter_cons]
      have e0 : ((x.1 : Nat) : Int).toNat = x.1 := by omega
      simp only [e0]
      unfold ends
      rw [List.filterMap_cons]
      cases hs : look r x.1 with
      | none =>
        rw [if_neg (by simp)]
        exact ih
      | some s =>
        rw [if_pos (by simp), List.map_cons, hh x.1 x.2 s ((look_some hl).mpr (hx x List.mem_cons_self)) hs]
        show _ :: _ = _ :: _
        congr 1
  exact key l fun x hx => hx
end
end KD

/-! How many rows end at a match: mathematics over levels. -/
namespace KD
open PySem PySem.Spec PyProof.Rows L2 KL
abbrev IP := Int × Int
def ipD (p : IP) : PyData := .tuple [.int p.1, .int p.2]
def lvD (l : List IP) : PyData := .list (l.map ipD)
def levI (ls : List (List IP)) : PyData := .list (ls.map lvD)
/-- the second comes behind the first -/
def bhI (o m : IP) : Bool := decide (o.1 < m.1) && decide (o.2 < m.2)
def cntOne (prev : Option (List (IP × Int))) (m : IP) : Int := match prev with
  | none => 1
  | some ps => ((ps.filter fun o => bhI o.1 m).map (·.2)).sum
def stepC (prev : Option (List (IP × Int))) (l : List IP) : List (IP × Int) := l.map fun m => (m, cntOne prev m)
def endC : Option (List (IP × Int)) → List (List IP) → List (List (IP × Int))
  | _, [] => []
  | prev, l :: r => stepC prev l :: endC (some (stepC prev l)) r
/-- the level before the i-th -/
def pvA (prev : Option (List (IP × Int))) (ls : List (List IP)) : Nat → Option (List (IP × Int))
  | 0 => prev
  | i + 1 => (endC prev ls)[i]?
theorem endC_at : ∀ (ls : List (List IP)) (prev : Option (List (IP × Int))) (i : Nat) (l : List IP), ls[i]? = some l → (endC prev ls)[i]? = some (stepC (pvA prev ls i) l)
  | [], _, _, _, h => by simp at h
  | l :: r, prev, 0, _, h => by
    cases h
    rfl
  | l :: r, prev, i + 1, l', h => by
    show (endC (some (stepC prev l)) r)[i]? = _
    rw [endC_at r _ i l' (by simpa using h)]
    cases i with
    | zero => rfl
    | succ k => rfl
theorem endC_len : ∀ (ls : List (List IP)) (prev : Option (List (IP × Int))), (endC prev ls).length = ls.length
  | [], _ => rfl
  | l :: r, prev => by show (endC _ r).length + 1 = r.length + 1; rw [endC_len r]
theorem stepC_keys (prev : Option (List (IP × Int))) (l : List IP) : (stepC prev l).map (·.1) = l := by
  unfold stepC
  rw [List.map_map]
  exact (List.map_congr_left fun _ _ => rfl).trans (List.map_id l)
theorem endC_keys : ∀ (ls : List (List IP)) (prev : Option (List (IP × Int))), (endC prev ls).flatten.map (·.1) = ls.flatten
  | [], _ => rfl
  | l :: r, prev => by
    show (stepC prev l ++ (endC _ r).flatten).map (·.1) = l ++ r.flatten
    rw [List.map_append, stepC_keys, endC_keys r]
def keyI (p : IP) : List Key := [.inl p.1, .inl p.2]
def celI (c : IP × Int) : List Key × V := (keyI c.1, .int c.2)
theorem keyI_inj {p q : IP} (h : keyI p = keyI q) : p = q := by
  have h1 : (Sum.inl p.1 : Key) = .inl q.1 ∧ (Sum.inl p.2 : Key) = .inl q.2 := by simpa [keyI] using h
  exact Prod.ext (Sum.inl.inj h1.1) (Sum.inl.inj h1.2)
theorem val_mem : ∀ {C : List (IP × Int)} {x : IP} {c : Int}, (C.map (·.1)).Nodup → (x, c) ∈ C → valV (C.map celI) (keyI x) = some (.int c)
  | [], _, _, _, h => by cases h
  | a :: r, x, c, nd, h => by
    rw [List.map_cons, List.nodup_cons] at nd
    rw [List.map_cons]
    rcases List.mem_cons.mp h with rfl | h
    · exact valV_pos rfl
    · rw [valV_neg (fun e => nd.1 (by rw [keyI_inj e]; exact List.mem_map.mpr ⟨_, h, rfl⟩))]
      exact val_mem nd.2 h
theorem val_not : ∀ {C : List (IP × Int)} {x : IP}, x ∉ C.map (·.1) → valV (C.map celI) (keyI x) = none
  | [], _, _ => rfl
  | a :: r, x, h => by
    rw [List.map_cons, List.mem_cons] at h
    rw [List.map_cons, valV_neg (fun e => h (.inl (keyI_inj e).symm))]
    exact val_not fun z => h (.inr z)
theorem put_new {C : List (IP × Int)} {x : IP} {c : Int} (h : x ∉ C.map (·.1)) : putK (C.map celI) (keyI x) (.int c) = (C ++ [(x, c)]).map celI := by
  rw [putK_new _ (val_not h), List.map_append]
  rfl
end KD

/-! Sorted pairs of numbers: the one list that rises. -/
namespace KD
open PySem PySem.Spec PyProof.Rows L2 PySem.W
theorem dataLe_trans (a b c : PyData) (h1 : dataLe false id a b = true) (h2 : dataLe false id b c = true) : dataLe false id a c = true := (sortLe_total _ false _).trans a b c h1 h2
theorem dataLe_total (a b : PyData) : (dataLe false id a b || dataLe false id b a) = true := by
  rw [Bool.or_eq_true]
  exact (sortLe_total _ false _).total a b
theorem sortD_sorted (ds : List PyData) : (sortD ds).Pairwise fun a b => dataLe false id a b = true := List.pairwise_mergeSort dataLe_trans dataLe_total ds
def lexI (p q : IP) : Prop := p.1 < q.1 ∨ (p.1 = q.1 ∧ p.2 < q.2)
instance (p q : IP) : Decidable (lexI p q) := by unfold lexI; infer_instance
theorem lex_blt (p q : IP) : (listOrd itemOrd).blt (keyToks (ipD q)) (keyToks (ipD p)) = decide (lexI q p) := by
  obtain ⟨a, b⟩ := p
  obtain ⟨c, d⟩ := q
  show PyProof.Rows.lexLt itemOrd (keyToks (.tuple [.int c, .int d])) (keyToks (.tuple [.int a, .int b])) = _
  simp only [keyToks, keyToksAll, List.cons_append, List.nil_append, PyProof.Rows.lexLt, itemLt]
  rw [Bool.eq_iff_iff]
  simp only [Bool.or_eq_true, Bool.and_eq_true, Bool.not_eq_true', decide_eq_true_iff, decide_eq_false_iff_not, lexI]
  simp
  rw [show decide (c < a ∨ c = a ∧ d < b) = true ↔ (c < a ∨ c = a ∧ d < b) from decide_eq_true_iff]
  omega
theorem le_lex {p q : IP} (h : lexI p q) : dataLe false id (ipD p) (ipD q) = true := by
  show (!(listOrd itemOrd).blt (keyToks (ipD q)) (keyToks (ipD p))) = true
  rw [lex_blt]
  have : ¬ lexI q p := by unfold lexI at *; omega
  simp [this]
theorem le_anti {p q : IP} (h1 : dataLe false id (ipD p) (ipD q) = true) (h2 : dataLe false id (ipD q) (ipD p) = true) : p = q := by
  have h1 : (!(listOrd itemOrd).blt (keyToks (ipD q)) (keyToks (ipD p))) = true := h1
  have h2 : (!(listOrd itemOrd).blt (keyToks (ipD p)) (keyToks (ipD q))) = true := h2
  rw [lex_blt] at h1 h2
  have n1 : ¬ lexI q p := by simpa using h1
  have n2 : ¬ lexI p q := by simpa using h2
  unfold lexI at n1 n2
  exact Prod.ext (by omega) (by omega)
/-- the sorted list is the one that rises -/
theorem sort_is {A B : List IP} (hp : A.Perm B) (hs : B.Pairwise lexI) : sortD (A.map ipD) = B.map ipD := by
  refine List.Perm.eq_of_pairwise (le := fun a b => dataLe false id a b = true) (fun a b ha hb h1 h2 => ?_) (sortD_sorted _) ?_ ((sortD_perm _).trans (hp.map ipD))
  · obtain ⟨p, _, rfl⟩ := List.mem_map.mp ((sortD_perm _).mem_iff.mp ha)
    obtain ⟨q, _, rfl⟩ := List.mem_map.mp hb
    rw [le_anti h1 h2]
  · exact List.pairwise_map.mpr (hs.imp fun h => le_lex h)
end KD

/-! for k, v in d.items(), where d's keys are tuples: each time a new pair of the key's own tuple and the value. -/
namespace KT
open PySem PySem.Calls PySem.Spec PyProof.V PyProof.Rows L2
/-- the pairs -/
def ItiT (d : Addr) (o : Obj) (kvs : List (List Key × V)) : It :=
  ⟨fun i H => H d = some (.frz o (.dT kvs)) ∧ i < kvs.length, fun i H x H' => ∃ (T q : Addr) (k : List Key) (v : V), kvs[i]? = some (k, v) ∧ H q = some (.tup (k.map kV)) ∧ x = .ref T ∧ H T = none ∧ H' = upd H T (.tup [.ref q, v]), fun i H => H d = some (.frz o (.dT kvs)) ∧ kvs.length ≤ i⟩
section
variable {X : Cx} {pins : List (Addr × Obj)} {σ : L2.St} {H : Hp} {s : Shared} {d : Addr} {o : Obj}
theorem held {kvs : List (List Key × V)} (I : Inv X pins σ H s) (h : H d = some (.frz o (.dT kvs))) : (d == sysModules) = false ∧ s.heap.get? d = some o ∧ o.ExactDict ∧ kvs.length ≤ sizeLine ∧ ∃ (ents : Array DictEntry) (ph : Nat), o.data = .dict ents ph ∧ ents.size = kvs.length ∧
    ∀ (i : Nat) (k : List Key) (v : V), kvs[i]? = some (k, v) → ∃ (en : DictEntry) (q : Addr), ents[i]? = some en ∧ en.key = .ref q ∧ RelV v en.val ∧ H q = some (.tup (k.map kV)) := by
  obtain ⟨hd, z, hs, xs, pr, o', ents, ph, ho, hx, hdata, he, _⟩ := I.hok d _ h
  rw [hd] at ho
  cases ho
  refine ⟨hs, hd, hx, z, ents, ph, hdata, ?_, fun i k v e => ?_⟩
  · have l1 : ents.size = xs.length := size_of_entries he
    have l2 : kvs.length = xs.length := Paired.length pr
    omega
  · obtain ⟨b, hb, e1, e2, e3⟩ := paired_get pr e
    have q := entry_at he i
    rw [hb] at q
    exact ⟨_, b.2.1, q, rfl, e3, e2⟩
end
section
variable {P : Program} {w : World} {K : PySem.W.Frag} {d : Addr} {o : Obj} {ents : Array DictEntry} {ph : Nat}
theorem turn {kvs : List (List Key × V)} {elts : List Expr} {kk : Nat} {tpos : Pos} (it : Addr) (hdo : o.data = .dict ents ph) :
    Turn P w K (.Tuple elts kk tpos) (ItiT d o kvs) [it] it (fun i h => ∃ a b, IsItemIter h it d i kvs.length ph a b) where
  mem := List.mem_singleton.mpr rfl
  obj := fun i h ⟨_, _, e⟩ b hb => by
    rw [List.mem_singleton.mp hb]
    exact ⟨_, e, fun v z => nomatch z⟩
  keep := fun i h h' ⟨a, b, e⟩ k => ⟨a, b, k it (List.mem_singleton.mpr rfl) _ e⟩
  item := by
    intro X hP hw hK hc i pins s σ H E I hf st hg
    subst hP hw hK
    obtain ⟨hd, hi⟩ := hg
    obtain ⟨hs, atd, hx, _, es', ep', hdata, many, ent⟩ := held I hd
    obtain ⟨rfl, rfl⟩ := dict_ep hdo hdata
    obtain ⟨en, q, hen, hkey, hval, hq⟩ := ent i kvs[i].1 kvs[i].2 (List.getElem?_eq_getElem hi)
    obtain ⟨hlt', een⟩ := Array.getElem?_eq_some_iff.mp hen
    obtain ⟨a, b, he⟩ := st
    rw [← many] at he
    have below : it < s.heap.objs.size := Heap.lt_size he
    refine DT.nextI he ⟨o, atd, hx, hdata⟩ hlt' fun h' ho hT hz hk => ?_
    refine ⟨_, rfl, wpAny_letOwnedTupleGo_items (s := { s with heap := h' }) ho fun h'' he' sb => ?_⟩
    have hT2 := (sb.2 _ (Nat.ne_of_gt below)).trans hT
    rw [een] at hT2
    have new : ObjOk X.prog X.w (upd H s.heap.objs.size (.tup [.ref q, kvs[i].2])) h'' s.heap.objs.size (.tup [.ref q, kvs[i].2]) :=
      ⟨by show 2 ≤ sizeLine; decide, [en.key, en.val], .cons hkey (.cons hval .nil), ⟨_, hT2, rfl, _, rfl⟩⟩
    have J1 : Inv X pins σ (upd H s.heap.objs.size (.tup [.ref q, kvs[i].2])) { s with heap := h'' } :=
      I.turnedNew (t' := s.toks) (ch := [it]) (fun b ob hb e => (sb.2 b (fun z => hb (List.mem_singleton.mpr z))).trans (hk b ob (fun z => hb (List.mem_singleton.mpr z)) e)) hf (Nat.le_refl _) new
    refine ⟨.ref s.heap.objs.size, _, J1, rfl, ⟨_, q, _, _, List.getElem?_eq_getElem hi, hq, rfl, I.hok.fresh (Nat.le_refl _), rfl⟩, ⟨_, _, by rw [← many]; exact he'⟩, fun b hb => ?_⟩
    rw [List.mem_singleton.mp hb, upd_ne (Nat.ne_of_lt below)]
    exact (hf it (List.mem_singleton.mpr rfl)).1
  done := by
    intro X hP hw hK hc i pins s σ H E I hf st hg
    subst hP hw hK
    obtain ⟨hd, hi⟩ := hg
    obtain ⟨f0, f1, f2, f3, f4, f5⟩ := hf it (List.mem_singleton.mpr rfl)
    obtain ⟨hs, atd, hx, _, es', ep', hdata, many, ent⟩ := held I hd
    obtain ⟨rfl, rfl⟩ := dict_ep hdo hdata
    obtain ⟨a, b, he⟩ := st
    rw [← many] at he
    exact DT.endI (I.ok.hd hc) he ⟨o, atd, hx, hdata⟩ (by omega) fun h' eb => ⟨rfl, I.turned (t' := s.toks) (fun b ob hb e => eb b ob hb e) f0 f1 f3 f4 f5⟩
  self := fun A i s Q E ⟨_, _, e⟩ h => PySem.W.kcp_self e h
end
def iItT (td : TE) : TI := fun σ H R => td σ H fun x G1 => ∃ d o kvs, x = .ref d ∧ G1 d = some (.frz o (.dT kvs)) ∧ R (ItiT d o kvs) G1
theorem pi_itT {X : Cx} {e : Expr} {td : TE} {apos cpos : Pos} {elts : List Expr} {kk : Nat} {tpos : Pos} (he : PE X e td) (hbase : attributeBase e "items" X.env (eval e X.env) = eval e X.env := by rfl) (hline : (apos.endLine == cpos.line) = true := by rfl) :
    PI X (.Tuple elts kk tpos) (.Call (.Attribute e "items" apos) [] [] cpos) (iItT td) := by
  refine ⟨fun pins s σ H R I h => ?_⟩
  refine wpAny_Call_method (T := "dict") (id := "dict.items") hbase rfl hline F.plainAttrs_dict F.slot_dict_items F.type_dict_items (thn (he.run pins s σ H _ I h) fun u t1 ⟨x, G1, J1, ru, d, o, kvs, ex, hd, q⟩ => ?_)
  subst ex
  obtain rfl : u = Value.ref d := ru
  obtain ⟨hs, atd, hx, _, ents, ph, hdata, many, ent⟩ := held J1 hd
  have hm : DT.Raw t1.heap d ents ph := ⟨o, atd, hx, hdata⟩
  refine ⟨hm.typeIs, ?_, ?_⟩
  · intro a e
    cases e
    exact ⟨o, atd, hx.2.1⟩
  have J2 : Inv X pins σ G1 { t1 with heap := t1.heap.push { cls := .type "dict_items", data := .fields #[.ref d] } } := J1.kept (t' := t1.toks) fun b ob q => Heap.get?_push_of_some _ q
  have fin : wpAny (model X.prog X.w) X.A (pyIter (.ref t1.heap.objs.size)) (PIE X pins σ (.Tuple elts kk tpos) R) X.xe { t1 with heap := t1.heap.push { cls := .type "dict_items", data := .fields #[.ref d] } } :=
    DT.iterI (d := d) ⟨_, Heap.get?_push_size _ rfl, rfl, rfl⟩ (hm.push _) (pi_one (tk := t1.toks) J2 _ (turn _ hdata) ⟨.none, .none, by rw [← many]; exact Heap.get?_push_size _ rfl⟩ q)
  show wpAny _ _ (callWith cpos (.builtin "dict.items") [.ref d] [] []) _ X.xe t1
  exact method_meetsIn F.slot_dict_items F.entry_dict_items rfl (PySem.evalArgs_none ⟨rfl, hm.typeIs, F.args_dict_items_1 _, _, DT.meetsItems (es := ents) (ep := ph) hs, hm, fin⟩)
end KT

/-! list(d.values()), where d's keys are tuples. -/
namespace KT
open PySem PySem.W PySem.Calls PySem.Spec PyProof.V PyProof.Rows L2
/-- the view d.values() at p -/
def valsO (p d : Addr) : HO := .ext fun h => h.IsValuesView p d
theorem valsO_ok {P : Program} {w : World} {H : Hp} {h : Heap} {p d : Addr} (e : h.get? p = some { cls := .type "dict_values", data := .fields #[.ref d] }) : ObjOk P w H h p (valsO p d) :=
  ⟨⟨_, e, rfl, rfl⟩, ⟨_, e⟩, fun h1 h2 x k => let ⟨o, ho, r⟩ := x; ⟨o, k o ho, r⟩⟩
section
variable {X : Cx}
def rValsT : V → List V → Hp → VK → Prop := fun x xs H Q => ∃ (a : Addr) (kvs : List (List Key × V)), x = .ref a ∧ xs = [] ∧ H a = some (.dT kvs) ∧ ∀ p, H p = none → Q (.ref p) (upd H p (valsO p a))
theorem mt_valsT : MtR X "dict.values" rValsT := by
  intro pins s σ H x xs v us Q I ru rus h
  obtain ⟨a, kvs, rfl, rfl, ha, q⟩ := h
  cases ru
  cases rus
  obtain ⟨z, hd, ms, rel, o, ents, ph, ho, hx, hdata, _⟩ := dt_of I.hok ha
  have hm : DT.Raw s.heap a ents ph := ⟨o, ho, hx, hdata⟩
  refine call_meetsIn PySem.F.slot_dict_values hm.typeIs PySem.F.entry_dict_values (PySem.F.args_dict_values_1 _) (meets_dict_values_raw a hd) ⟨⟨ents, ph, o, ho, hx, hdata⟩, ?_⟩
  exact ⟨.ref s.heap.objs.size, upd H s.heap.objs.size (valsO s.heap.objs.size a), I.laid (t' := s.toks) (fun b u e => Heap.get?_push_of_some _ e) (Nat.le_refl _) (valsO_ok (Heap.get?_push_size _ rfl)), rfl, q _ (I.hok.fresh (Nat.le_refl _))⟩
theorem vals_at : ∀ {vs : List V} {us : List Value}, vs.length = us.length → (∀ (j : Nat) (v : V) (u : Value), vs[j]? = some v → us[j]? = some u → RelV v u) → Vals vs us
  | [], [], _, _ => .nil
  | v :: vs, u :: us, h, k => .cons (k 0 v u rfl rfl) (vals_at (by simpa using h) fun j v u e1 e2 => k (j + 1) v u e1 e2)
  | [], _ :: _, h, _ => by cases h
  | _ :: _, [], h, _ => by cases h
def rListV : List V → Hp → VK → Prop := fun xs H Q => ∃ (p a : Addr) (kvs : List (List Key × V)), xs = [.ref p] ∧ H p = some (valsO p a) ∧ H a = some (.dT kvs) ∧ ∀ l, H l = none → Q (.ref l) (upd H l (.lst (kvs.map Prod.snd)))
theorem call_listV (hc : X.calm = true) : CallR X (.type "list") rListV := by
  intro pins s σ H xs us Q I r h
  obtain ⟨p, a, kvs, rfl, hp, ha, q⟩ := h
  obtain ⟨u, rfl, ru⟩ := r.one
  cases ru
  have hv : s.heap.IsValuesView p a := (I.hok p _ hp).1
  obtain ⟨z, hd, ks, pr, o, ents, ph, ho, hx, hdt, he, hn⟩ := (show ObjOk X.prog X.w H s.heap a (.dT kvs) from I.hok a _ ha)
  have m1 : ents.size = ks.length := size_of_entries he
  have m2 : kvs.length = ks.length := Paired.length pr
  refine PySem.W.kdl_call (KdlSrc.rawValues (prog := X.prog) (w := X.w) (r := p) (es := ents) (ep := ph) (d := a)) (I.ok.hd hc) ⟨hv, o, ho, hx, hdt⟩ (by omega) fun h' tk acc' c' kp e it => ?_
  have rv : Vals (kvs.map Prod.snd) acc'.toList := by
    have hl : acc'.toList.length = kvs.length := by rw [Array.length_toList, it.1]; omega
    refine vals_at (by rw [List.length_map]; exact hl.symm) fun j v u e1 e2 => ?_
    obtain ⟨kv, ekv, rfl⟩ := List.getElem?_eq_some_iff.mp e1 |>.elim fun hj ej => (by
      rw [List.getElem_map] at ej
      exact ⟨kvs[j]'(by rw [List.length_map] at hj; exact hj), List.getElem?_eq_getElem _, ej⟩ : ∃ kv, kvs[j]? = some kv ∧ kv.2 = v)
    obtain ⟨b, hb, f1, f2, f3⟩ := paired_get pr ekv
    obtain ⟨hj, rfl⟩ := it.2 j u (by rw [← Array.getElem?_toList]; exact e2)
    have qe := entry_at he j
    rw [hb, Array.getElem?_eq_getElem hj] at qe
    have e3 : ents[j] = entryOfKey (tupleKind (mixKind X.prog X.w)) b := Option.some.inj qe
    rw [e3]
    exact f3
  have few : (kvs.map Prod.snd).length ≤ sizeLine := by rw [List.length_map]; exact z
  refine ⟨.ref s.heap.objs.size, _, I.laid (t' := tk) (o := .lst (kvs.map Prod.snd)) kp (Nat.le_refl _) ?_, rfl, q _ (I.hok.fresh (Nat.le_refl _))⟩
  exact ⟨few, acc'.toList, c', rv, by rw [Array.toArray_toList]; exact e⟩
end
end KT

/-! sorted(d), d's keys are tuples. -/
namespace KD
open PySem PySem.Spec PyProof.Rows L2
def kdT (k : List Key) : PyData := .tuple (k.map kd)
theorem dx_key {X0 : Addr → Prop} {H : Hp} : ∀ k : List Key, DXs X0 H (k.map kV) (k.map kd)
  | [] => .nil
  | .inl i :: r => .cons (.int i) (dx_key r)
  | .inr x :: r => .cons (.str x) (dx_key r)
theorem kd_plain : ∀ k : List Key, noDicts (k.map kd) = true
  | [] => rfl
  | .inl i :: r => by rw [List.map_cons, noDicts, kd_plain r]; rfl
  | .inr x :: r => by rw [List.map_cons, noDicts, kd_plain r]; rfl
theorem kdT_plain (ks : List (List Key)) : noDicts (ks.map kdT) = true := by
  induction ks with
  | nil => rfl
  | cons k r ih =>
    rw [List.map_cons, noDicts, ih]
    show (noDicts (k.map kd) && true) = true
    rw [kd_plain]
    rfl
def rSortDT : List V → Hp → VK → Prop := fun xs H Q => ∃ (X0 : Addr → Prop) (a : Addr) (kvs : List (List Key × V)), xs = [.ref a] ∧ H a = some (.dT kvs) ∧ (∀ b, X0 b → ∀ zs, H b ≠ some (.tup zs)) ∧ PySem.W.AllAlike (kvs.map fun c => kdT c.1) ∧ PySem.W.Sortable (kvs.map fun c => kdT c.1) ∧ (∀ c ∈ kvs, (kdT c.1).depth ≤ 40) ∧
  ∀ p ys, H p = none → DXs X0 H ys (sortD (kvs.map fun c => kdT c.1)) → Q (.ref p) (upd H p (.lst ys))
theorem dxs_each {X0 : Addr → Prop} {H : Hp} : ∀ {vs : List V} {ds : List PyData}, vs.length = ds.length → (∀ (k : Nat) (v : V) (d : PyData), vs[k]? = some v → ds[k]? = some d → DX X0 H v d) → DXs X0 H vs ds
  | [], [], _, _ => .nil
  | v :: vs, d :: ds, h, k => .cons (k 0 v d rfl rfl) (dxs_each (by simpa using h) fun j v u e1 e2 => k (j + 1) v u e1 e2)
  | [], _ :: _, h, _ => by cases h
  | _ :: _, [], h, _ => by cases h
theorem cr_sortDT {X : Cx} (hc : X.calm = true) (hu : X.A.units + 64 < cLine) : CallR X (.builtin "sorted") rSortDT := by
  intro pins s σ H xs us Q I r h
  obtain ⟨X0, a, kvs, rfl, ha, nt, al, sb, dp, q⟩ := h
  obtain ⟨u, rfl, ru⟩ := r.one
  cases ru
  obtain ⟨z, hd, ks, pr, o, ents, ph, ho, hx, hdt, he, hn⟩ := (show ObjOk X.prog X.w H s.heap a (.dT kvs) from I.hok a _ ha)
  have m1 : ents.size = ks.length := size_of_entries he
  have m2 : kvs.length = ks.length := Paired.length pr
  refine Calls.call_function_entry PyProof.Rows.kind_sorted PyProof.Rows.plain_sorted PyProof.Rows.entry_sorted (PyProof.Rows.args_sorted1 _) ?_
  unfold Builtin.«sorted»
  refine wpAny_bind (m := checkCount "sorted" 1 1 _) (wpAny_pure ?_)
  refine wpAny_bind (PySem.W.kdu_collect (A := X.A.in1) (KdlSrc.rawDict (prog := X.prog) (w := X.w) (es := ents) (ep := ph) (d := a) hd) (I.ok.hd hc) ⟨o, ho, hx, hdt⟩ (by omega) fun h' tk acc hk hacc => ?_)
  have hal : acc.toList.length = kvs.length := by rw [Array.length_toList, hacc.1]; omega
  have at_ : ∀ (j : Nat) (u : Value) (c : List Key × V), acc.toList[j]? = some u → kvs[j]? = some c → ∃ q, u = .ref q ∧ H q = some (.tup (c.1.map kV)) := fun j u c e1 e2 => by
    obtain ⟨b, hb, f1, f2, f3⟩ := paired_get pr e2
    obtain ⟨hj, rfl⟩ := hacc.2 j u (by rw [← Array.getElem?_toList]; exact e1)
    have qe := entry_at he j
    rw [hb, Array.getElem?_eq_getElem hj] at qe
    have e3 : ents[j] = entryOfKey (tupleKind (mixKind X.prog X.w)) b := Option.some.inj qe
    refine ⟨b.2.1, by rw [e3]; rfl, ?_⟩
    first | exact f1 | exact f2 | (rw [← f1]; exact f2) | (rw [f1]; exact f2)
  have refs : ∀ u ∈ acc.toList, ∃ q, u = Value.ref q := fun u hu => by
    obtain ⟨j, hj, e⟩ := List.mem_iff_getElem.mp hu
    obtain ⟨q, e, _⟩ := at_ j u (kvs[j]'(by omega)) (by rw [← e]; exact List.getElem?_eq_getElem hj) (List.getElem?_eq_getElem _)
    exact ⟨q, e⟩
  have rv : Vals (acc.toList.map bkV) acc.toList := bkV_vals refs
  have rx : DXs X0 H (acc.toList.map bkV) (kvs.map fun c => kdT c.1) := dxs_each (by rw [List.length_map, List.length_map]; exact hal) fun j v d e1 e2 => by
    rw [List.getElem?_map] at e1 e2
    obtain ⟨u, e3, rfl⟩ := Option.map_eq_some_iff.mp e1
    obtain ⟨c, e4, rfl⟩ := Option.map_eq_some_iff.mp e2
    obtain ⟨q, rfl, e5⟩ := at_ j u c e3 e4
    exact .tup (fun hX => nt q hX _ e5) e5 (dx_key c.1)
  have I1 : Inv X pins σ H { s with heap := h', toks := tk } := I.kept hk
  obtain ⟨as, rd⟩ := Dp.readsAll I1 _ _ acc.toList (rx.dp (by
    have := kdT_plain (kvs.map (·.1))
    rw [List.map_map] at this
    exact this)) rv
  have few : acc.toList.length ≤ sizeLine := by rw [hal]; exact z
  refine wpAny_bind (wpAny_newList ?_ few)
  have hoL : (h'.push (seqObj "list" acc.toList.toArray 0)).get? h'.objs.size = some (seqObj "list" acc.toList.toArray 0) := Heap.get?_push_size _ rfl
  show wpAny _ _ _ _ _ { s with heap := h'.push (seqObj "list" acc.toList.toArray 0), toks := tk }
  have er : PySem.W.EachIs (fun u d => ∃ as, Reads (PySem.W.sortingHeap (h'.push (seqObj "list" acc.toList.toArray 0)) h'.objs.size acc.toList) u d as) acc.toList (kvs.map fun c => kdT c.1) := (PySem.W.readsAll_each id (by rw [List.map_id]; exact rd)).mono fun _ _ ⟨as, r⟩ => ⟨as, PyProof.Rows.Reads.keeps (fun b o e => PySem.W.sortingHeap_old (Nat.ne_of_lt (Heap.lt_size e)) (Heap.get?_push_of_some _ e)) r⟩
  refine wpAny_bind (wpAny_holding (wpAny_call_entry PyProof.Rows.slot_list_sort ⟨_, hoL, rfl⟩ PyProof.Rows.entry_list_sort (PySem.W.list_sort_vals (s := { s with heap := h'.push (seqObj "list" acc.toList.toArray 0), toks := tk }) hoL (PySem.W.SortsAt.data (s := { s with heap := PySem.W.sortingHeap (h'.push (seqObj "list" acc.toList.toArray 0)) h'.objs.size acc.toList, toks := tk }) er al sb (fun d hd => ?_)) few ⟨_, rfl, ?_⟩) (PyProof.Rows.args_list_sort _)))
  · obtain ⟨c, hc', rfl⟩ := List.mem_map.mp hd
    have := dp c hc'
    show X.A.units + 2 + (kdT c.1).depth < cLine
    omega
  have eo := PySem.W.sortVals_data (R := fun u d => ∃ v, RelV v u ∧ DX X0 H v d) (enc := id) false (each_dx rx rv) er (by rw [List.map_id]; exact al)
  rw [List.map_id] at eo
  obtain ⟨ys, rys, dys⟩ := dx_each eo
  obtain ⟨ep, he'⟩ := PyProof.Rows.sortedHeap_at (vs := acc.toList) (out := (PySem.W.sortVals (PySem.W.dataKind (PySem.W.sortingHeap (h'.push (seqObj "list" acc.toList.toArray 0)) h'.objs.size acc.toList) (kvs.map fun c => kdT c.1)) false acc.toList acc.toList).toArray) hoL
  have hy : ys.length ≤ sizeLine := by
    rw [dys.length, (List.mergeSort_perm _ _).length_eq, List.length_map]
    exact z
  refine wpAny_pure ⟨_, rfl, .ref h'.objs.size, upd H h'.objs.size (.lst ys), I1.laid (t' := tk) (fun b u e => ?_) (Nat.le_refl _) ⟨hy, _, ep, rys, he'⟩, rfl, q _ ys (I1.hok.fresh (Nat.le_refl _)) dys⟩
  rw [PyProof.Rows.sortedHeap_old (Nat.ne_of_lt (Heap.lt_size e)) (Nat.lt_of_lt_of_le (Heap.lt_size e) (by rw [size_push']; exact Nat.le_succ _))]
  exact Heap.get?_push_of_some _ e
end KD

/-! Names: of steps, in order or not. -/
namespace K20
open PySem PySem.Spec PyProof.Rows L2 KD KP KGr
-- RAISES change_of checked_text passed side_by_side
variable {P : Program} {w : World} {K : PySem.W.Frag} {mg : Str → Option Value} {base : Heap}
theorem all_str : ∀ s ∈ allNames, PyData.strOk s = true := by decide +kernel
theorem nd_all : ∀ {ds : List PyData}, (∀ z ∈ ds, noDict z = true) → noDicts ds = true
  | [], _ => by simp [noDicts]
  | d :: ds, h => by simp [noDicts, h d List.mem_cons_self, nd_all fun z hz => h z (List.mem_cons_of_mem _ hz)]
theorem lay_all : ∀ {ds : List PyData}, (∀ z ∈ ds, z.canLay0 = true) → PyData.canLayAll0 ds = true
  | [], _ => by simp [PyData.canLayAll0]
  | d :: ds, h => by simp [PyData.canLayAll0, h d List.mem_cons_self, lay_all fun z hz => h z (List.mem_cons_of_mem _ hz)]
theorem dep_all {k : Nat} : ∀ {ds : List PyData}, (∀ z ∈ ds, z.depth ≤ k) → PyData.depthAll ds ≤ k
  | [], _ => by simp [PyData.depthAll]
  | d :: ds, h => by
    have a := h d List.mem_cons_self
    have b := dep_all fun z hz => h z (List.mem_cons_of_mem _ hz)
    simp only [PyData.depthAll]
    omega
theorem shaped_mk {d : PyData} (h : d.canLay0 = true) (h2 : d.depth ≤ 64) : SeqAt.shaped d = true := by
  show (d.canLay0 && decide (d.depth ≤ 64)) = true
  rw [h, decide_eq_true h2]
  rfl
theorem eqvAll_self : ∀ {ds : List PyData}, (∀ d ∈ ds, PyData.eqv d d = true) → PyData.eqvAll ds ds = true
  | [], _ => by simp [PyData.eqvAll]
  | d :: r, h => by simp [PyData.eqvAll, h d List.mem_cons_self, eqvAll_self fun z hz => h z (List.mem_cons_of_mem _ hz)]
theorem shaped_strs {ds : List PyData} (h : ∀ z ∈ ds, ∃ x : Str, z = .str x ∧ PyData.strOk x = true) : SeqAt.shaped (.list ds) = true := by
  refine shaped_mk ?_ ?_
  · simp only [PyData.canLay0]
    refine lay_all fun z hz => ?_
    obtain ⟨x, rfl, hx⟩ := h z hz
    simpa [PyData.canLay0] using hx
  · have : PyData.depthAll ds ≤ 1 := dep_all fun z hz => by
      obtain ⟨x, rfl, _⟩ := h z hz
      simp [PyData.depth]
    simp only [PyData.depth]
    omega
theorem steps_old {f : Addr} {fd : FuncData} (F : FnOk P w K mg base CX0 5 f fd ["text", "run", "taken"] spStepsG) : FnOk P w K mg base CX0 5 f fd ["text", "run", "taken"] spSteps :=
  F.imp fun vs H Q E ⟨X, v1, v2, v3, ws, rs, e, t, d1, d2, d3, hs, nd, ho, hw, hl, k⟩ => ⟨X, v1, v2, v3, ws, rs, .list (rs.map stpD), [], e, t, d1, d2, hnd_list rs, d3, hs, nd, fun _ _ => by simp, ho, hw, hl, by simp, k⟩
def stepsP (d : PyData) : Prop := ∃ rs : List Stp, d = .list (rs.map stpD) ∧ rs.length ≤ 100
def namesOf (d : PyData) : PyData := .list ((itemsD d).map fun z => it z 0)
theorem namesOf_is (rs : List Stp) : namesOf (.list (rs.map stpD)) = wsD (rs.map Stp.name) := by
  show PyData.list ((rs.map stpD).map _) = PyData.list ((rs.map Stp.name).map PyData.str)
  rw [List.map_map, List.map_map]
  rfl
abbrev s_names_of : Stmt := topS 32
abbrev n_names_of : List Str := ["steps", "name", "_"]
theorem sc_names_of : FnScope n_names_of ["steps"] (defScope s_names_of) := ⟨rfl, rfl, rfl, by decide +kernel, rfl, by decide +kernel, by decide +kernel⟩
theorem ok_names_of {f : Addr} {fd : FuncData} (F : Fun K "names_of" "names_of" s_names_of f fd) (T : Bl mg) : FnOk P w K mg base CX0 1 f fd ["steps"] (sp1 stepsP namesOf) := by
  refine ok1 F sc_names_of (by decide) fun cdv A outer s H E X d Q hr t hp q => ⟨_, (pss_one (ps_ret (pe_lc (own := [("name", 1), ("_", 2)]) (g := (gTup K 2 (gCons (gName 1) (gCons (gName 2) gNil)))) (tt := tYes) rfl sc_names_of.nd (pi_list (pv 0)) (blkOk_by (N := n_names_of) (sc := defScope s_names_of) (by decide +kernel)) (fun _ _ _ _ _ => (pg_tup (n := 2) rfl (pgs_cons (pg_name (i := 1) sc_names_of.nd rfl (by first | exact Or.inl rfl | exact Or.inr rfl)) (pgs_cons (pg_name (i := 2) sc_names_of.nd rfl (by first | exact Or.inl rfl | exact Or.inr rfl)) pgs_nil)))) (fun _ _ _ _ _ => pts_nil) (fun _ _ _ _ _ => (pv 1))))), fun σ En => ?_⟩
  obtain ⟨rs, rfl, few⟩ := hp
  refine s_ret (X := X) (d := namesOf (.list (rs.map stpD))) (g_lc1 (ds := rs.map stpD) (Γ2 := fun z => [.dat (.list (rs.map stpD)), .dat (it z 0), .dat (it z 1)]) (fun z => it z 0) t (gi_list (K := K) (g_var (i := 0) (d := .list (rs.map stpD)) En rfl)) (by rw [List.length_map]; omega) (fun H3 s3 z hz => ?_) (fun X2 H3 σ2 z hz t3 E3 => g_var (i := 1) (d := it z 0) E3 rfl)) q
  obtain ⟨r, hr, rfl⟩ := List.mem_map.mp hz
  exact tgt_pair (En.same s3) (by decide)
-- HINT are_names it pi_seq
abbrev s_are_names : Stmt := topS 16
abbrev n_are_names : List Str := ["thing", "name"]
theorem sc_are_names : FnScope n_are_names ["thing"] (defScope s_are_names) := ⟨rfl, rfl, rfl, by decide +kernel, rfl, by decide +kernel, by decide +kernel⟩
/-- a list of unlike names -/
def NamesD (d : PyData) : Prop := ∃ ns : List Str, d = wsD ns ∧ ns.Nodup ∧ ∀ z ∈ ns, z ∈ allNames
theorem nodup_le {ns : List Str} (nd : ns.Nodup) (h : ∀ z ∈ ns, z ∈ allNames) : ns.length ≤ 20 := by
  have := List.Nodup.length_le_of_subset nd (l₂ := allNames) h
  exact Nat.le_trans this (by decide)
theorem ok_are_names {f : Addr} {fd : FuncData} (F : Fun K "are_names" "are_names" s_are_names f fd) (T : Bl mg) (b_set : mg "set" = none) (O_is_list : Own P w K mg base CX0 1 "is_list" ["thing"] (sp1 (fun _ => True) fun d => .bool (isSeq d)))
    (O_is_name : Own P w K mg base CX0 1 "is_name" ["thing"] (sp1 (fun d => ∃ s ∈ allNames, d = .str s) fun _ => .bool true)) : FnOk P w K mg base CX0 2 f fd ["thing"] (sp1 NamesD fun _ => .bool true) := by
  refine ok1 F sc_are_names (by decide) fun cdv A outer s H E X d Q hr t hp q => ⟨_, (pss_cons (ps_if (PW.pt (pw_or (pt_not (pt_val (pe_own O_is_list hr (by decide) (by rfl) (pa_cons (pv 0) pa_nil)))) (pw_or1 (pt_not (pt_val (pe_callB (cr_all rfl) (by rfl) T.b_all boot_all (pa_cons (pe_lc (own := [("name", 1)]) (g := (gName 1)) (tt := tYes) rfl sc_are_names.nd (pi_seq (pv 0)) (blkOk_by (N := n_are_names) (sc := defScope s_are_names) (by decide +kernel)) (fun _ _ _ _ _ => (pg_name (i := 1) sc_are_names.nd rfl (by first | exact Or.inl rfl | exact Or.inr rfl))) (fun _ _ _ _ _ => pts_nil) (fun _ _ _ _ _ => (pe_own O_is_name hr (by decide) (by rfl) (pa_cons (pv 1) pa_nil)))) pa_nil)))))))
    (pss_one (ps_ret pe_bl)) pss_nil)
    (pss_one (ps_ret (pe_cmpR (op_eqD hr.units) (pe_unlike rfl (by rfl) T.b_len (by rfl) b_set (pv 0)) (pe_callB call_len (by rfl) T.b_len boot_len (pa_cons (pv 0) pa_nil)) (nomark _))))), fun σ En => ?_⟩
  obtain ⟨ns, rfl, nd, hn⟩ := hp
  have few := nodup_le nd hn
  refine q_if (b := false) (gt_is (gt_or (a := false) (gt_is (gt_not (gt_B (g_call1 t (g_var (i := 0) (d := wsD ns) En rfl) trivial))) rfl) fun _ => gt_not (gt_B (g_is (g_all t (bs := ns.map fun _ => true) (g_is (g_lc1 (Γ2 := fun z => [.dat (wsD ns), .dat z]) (fun _ => .bool true) t (gi_seq (g_var (i := 0) (d := wsD ns) En rfl) rfl) (by show (ns.map PyData.str).length ≤ _; rw [List.length_map]; omega) (fun H1 s d hd => tgt_name (En.same s)) (fun X' H1 σ2 d hd t E => ?_)) ?_)) (e := .bool true) (by simp)))) rfl) (fun h => by cases h) fun _ H1 s1 => ?_
  · obtain ⟨z, hz, rfl⟩ := List.mem_map.mp (show d ∈ ns.map PyData.str from hd)
    exact g_call1 t (g_var (i := 1) E rfl) ⟨z, hn z hz, rfl⟩
  · show PyData.list ((ns.map PyData.str).map _) = _
    rw [List.map_map, List.map_map]
    rfl
  · have E1 := En.same s1
    have t1 := t.mono s1
    refine s_ret (X := X) (d := .bool true) (g_is (g_eqD t1 (g_unlike (ns := ns) (g_var (i := 0) (d := wsD ns) E1 rfl) nd (by omega)) (g_len t1 (g_var (i := 0) (d := wsD ns) E1 rfl) rfl) rfl rfl (shaped_int _) (shaped_int _)) ?_) fun w H2 s2 dw => q w H2 (s1.trans s2) dw
    rw [eqv_int]
    show PyData.bool (decide ((ns.length : Int) = ((ns.map PyData.str).length : Int))) = _
    rw [List.length_map]
    simp
open PySem.W in
theorem str_anti {a b : Str} (h1 : dataLe false id (.str a) (.str b) = true) (h2 : dataLe false id (.str b) (.str a) = true) : a = b := by
  have h1 : (!(listOrd itemOrd).blt (keyToks (.str b)) (keyToks (.str a))) = true := h1
  have h2 : (!(listOrd itemOrd).blt (keyToks (.str a)) (keyToks (.str b))) = true := h2
  rw [Bool.not_eq_true'] at h1 h2
  have e := (listOrd itemOrd).total _ _ h2 h1
  have e : [(Sum.inr a.cps.toList : Int ⊕ List Nat)] = [.inr b.cps.toList] := by simpa [keyToks] using e
  simp only [List.cons.injEq, Sum.inr.injEq, and_true] at e
  obtain ⟨x⟩ := a
  obtain ⟨y⟩ := b
  congr 1
  exact Array.toList_inj.mp e
theorem sort_strs {a b : List Str} (h : a.Perm b) : sortD (a.map PyData.str) = sortD (b.map PyData.str) := by
  refine List.Perm.eq_of_pairwise (le := fun x y => PySem.W.dataLe false id x y = true) (fun x y hx hy e1 e2 => ?_) (sortD_sorted _) (sortD_sorted _) ((sortD_perm _).trans ((h.map PyData.str).trans (sortD_perm _).symm))
  obtain ⟨p, _, rfl⟩ := List.mem_map.mp ((sortD_perm _).mem_iff.mp hx)
  obtain ⟨r, _, rfl⟩ := List.mem_map.mp ((sortD_perm _).mem_iff.mp hy)
  rw [str_anti e1 e2]
abbrev s_are_just_names : Stmt := topS 17
abbrev n_are_just_names : List Str := ["thing", "names"]
theorem sc_are_just_names : FnScope n_are_just_names ["thing", "names"] (defScope s_are_just_names) := ⟨rfl, rfl, rfl, by decide +kernel, rfl, by decide +kernel, by decide +kernel⟩
/-- what is to be the same names, in some order -/
def justP (a b : PyData) : Prop := ∃ ns ms : List Str, a = wsD ns ∧ b = wsD ms ∧ ns.Nodup ∧ (∀ z ∈ ns, z ∈ allNames) ∧ ns.Perm ms
theorem ok_just {f : Addr} {fd : FuncData} (F : Fun K "are_just_names" "are_just_names" s_are_just_names f fd) (T : Bl mg) (b_sorted : mg "sorted" = none) (O_are_names : Own P w K mg base CX0 2 "are_names" ["thing"] (sp1 NamesD fun _ => .bool true)) : FnOk P w K mg base CX0 3 f fd ["thing", "names"] (sp2 justP fun _ _ => .bool true) := by
  refine ok2 F sc_are_just_names (by decide) fun cdv A outer s H E X d1 d2 Q hr t hp q => ⟨_, (pss_one (ps_ret (pe_and (pe_own O_are_names hr (by decide) (by rfl) (pa_cons (pv 0) pa_nil)) (pe_one (pe_cmpR (op_eqD hr.units) (pe_callB (cr_sortD hr.units) (by rfl) b_sorted boot_sorted (pa_cons (pv 0) pa_nil)) (pe_callB (cr_sortD hr.units) (by rfl) b_sorted boot_sorted (pa_cons (pv 1) pa_nil)) (nomark _)))))), fun σ En => ?_⟩
  obtain ⟨ns, ms, rfl, rfl, nd, hn, pm⟩ := hp
  have few := nodup_le nd hn
  have nds : ∀ l : List Str, noDicts (l.map PyData.str) = true := fun l => by
    induction l with
    | nil => rfl
    | cons a r ih => rw [List.map_cons, noDicts, ih]; rfl
  have dep : ∀ l : List Str, ∀ d ∈ l.map PyData.str, d.depth ≤ 40 := fun l d hd => by
    obtain ⟨z, _, rfl⟩ := List.mem_map.mp hd
    simp [PyData.depth]
  have srt : ∀ {i : Nat} {l : List Str} {Γ : List Sv}, EnvOk X H σ Γ → Γ[i]? = some (.dat (wsD l)) → GN X (tCB rSortD (tCons (tVar i) tNil)) σ H (.list (sortD (l.map PyData.str))) := fun {i l Γ} E h => g_sorted t (g_var (i := i) (d := wsD l) E h) (nds l) (PySem.W.AllAlike.of (enc := PyData.str) fun a b => rfl) (PySem.W.Sortable.others (enc := PyData.str) fun b => ⟨by simp, by simp⟩) (dep l)
  have ok1 : ∀ z ∈ ns, PyData.strOk z = true := fun z hz => all_str z (hn z hz)
  have shp : SeqAt.shaped (.list (sortD (ns.map PyData.str))) = true := shaped_strs fun z hz => by
    obtain ⟨x, hx, rfl⟩ := List.mem_map.mp ((sortD_perm _).mem_iff.mp hz)
    exact ⟨x, rfl, ok1 x hx⟩
  refine s_ret (X := X) (d := .bool true) (g_is (g_and (a := true) (b := true) (g_call1 t (g_var (i := 0) (d := wsD ns) En rfl) ⟨ns, rfl, nd, hn⟩) fun _ => g_is (g_eqD (K := K) t (x := .list (sortD (ns.map PyData.str))) (y := .list (sortD (ns.map PyData.str))) (srt (i := 0) En rfl).g (g_is (srt (i := 1) (l := ms) En rfl).g (by rw [sort_strs pm])) ?_ ?_ shp shp) ?_) rfl) q
  · show noDicts (sortD (ns.map PyData.str)) = true
    refine nd_all fun z hz => ?_
    obtain ⟨x, _, rfl⟩ := List.mem_map.mp ((sortD_perm _).mem_iff.mp hz)
    rfl
  · show noDicts (sortD (ns.map PyData.str)) = true
    refine nd_all fun z hz => ?_
    obtain ⟨x, _, rfl⟩ := List.mem_map.mp ((sortD_perm _).mem_iff.mp hz)
    rfl
  · congr 1
    show PyData.eqv (.list _) (.list _) = true
    simp only [PyData.eqv]
    refine eqvAll_self fun z hz => ?_
    obtain ⟨x, _, rfl⟩ := List.mem_map.mp ((sortD_perm _).mem_iff.mp hz)
    have := eqv_strs [x] [x]
    simpa [PyData.eqvAll] using this
end K20

/-! Places of names; the first step astray. -/
namespace K20
open PySem PySem.Spec PyProof.Rows L2 KD KP KGr
-- RAISES change_of checked_text passed side_by_side
-- HINT places_in dcK yes
-- HINT places_in enum pi_enumQ
-- HINT first_astray dgetn places
-- HINT first_astray ix ix_seq
variable {P : Program} {w : World} {K : PySem.W.Frag} {mg : Str → Option Value} {base : Heap}
def kvFrom : Nat → List Str → List (Key × V)
  | _, [] => []
  | i, s :: r => (.inr s, .int (i : Int)) :: kvFrom (i + 1) r
def kvPl (ns : List Str) : List (Key × V) := kvFrom 0 ns
theorem kv_len : ∀ (ns : List Str) (i : Nat), (kvFrom i ns).length = ns.length
  | [], _ => rfl
  | _ :: r, i => by rw [kvFrom, List.length_cons, List.length_cons, kv_len r]
theorem kv_snoc (s : Str) : ∀ (ns : List Str) (i : Nat), kvFrom i (ns ++ [s]) = kvFrom i ns ++ [(.inr s, .int ((i + ns.length : Nat) : Int))]
  | [], i => rfl
  | x :: r, i => by
    show (Sum.inr x, V.int (i : Int)) :: kvFrom (i + 1) (r ++ [s]) = _
    rw [kv_snoc s r (i + 1), show i + 1 + r.length = i + (x :: r).length by rw [List.length_cons]; omega]
    rfl
theorem kv_keys : ∀ {ns : List Str} {i : Nat} {kv : Key × V}, kv ∈ kvFrom i ns → ∃ s ∈ ns, kv.1 = .inr s
  | x :: r, i, kv, h => by
    rcases List.mem_cons.mp h with rfl | h
    · exact ⟨x, List.mem_cons_self, rfl⟩
    · obtain ⟨s, hs, e⟩ := kv_keys h
      exact ⟨s, List.mem_cons_of_mem _ hs, e⟩
theorem kv_put {ns : List Str} {s : Str} (h : s ∉ ns) : putK (kvPl ns) (.inr s) (.int ((ns.length : Nat) : Int)) = kvPl (ns ++ [s]) := by
  unfold putK
  rw [if_neg]
  · unfold kvPl
    rw [kv_snoc, Nat.zero_add]
  · rw [List.any_eq_true]
    rintro ⟨kv, hkv, e⟩
    obtain ⟨x, hx, e2⟩ := kv_keys hkv
    have e := of_decide_eq_true e
    rw [e2] at e
    cases e
    exact h hx
theorem kv_val {s : Str} : ∀ {ns : List Str} {i : Nat}, s ∈ ns → valV (kvFrom i ns) (.inr s) = some (.int ((i + ns.idxOf s : Nat) : Int))
  | x :: r, i, h => by
    by_cases e : x = s
    · subst e
      unfold valV kvFrom
      simp
    · have h2 : s ∈ r := (List.mem_cons.mp h).resolve_left fun z => e z.symm
      have ih := kv_val (i := i + 1) h2
      have ei : List.idxOf s (x :: r) = List.idxOf s r + 1 := by
        rw [List.idxOf_cons]
        have : (x == s) = false := by simpa using e
        rw [this]
        rfl
      rw [ei]
      unfold valV at *
      rw [kvFrom, List.find?_cons]
      have : decide ((Sum.inr x : Key) = .inr s) = false := decide_eq_false fun z => e (Sum.inr.inj z)
      simp only [this]
      rw [show i + (List.idxOf s r + 1) = i + 1 + List.idxOf s r by omega]
      exact ih
section
variable {X : Addr → Prop} {σ : L2.St} {H : Hp} {Γ : List Sv} {te : TE} {i j : Nat} {Q : VK}
theorem k_dcEnum {ns : List Str} (t : Trk X H) (E : EnvOk X H σ Γ) (hij : i ≠ j) (hi : i < Γ.length) (hj : j < Γ.length) (h : G X te σ H (wsD ns)) (nd : ns.Nodup) (few : ns.length ≤ 1000) (q : ∀ D H', H D = none → Same H H' → H' D = some (.dK (kvPl ns)) → Q (.ref D) H') :
    tDc (iEnumQ K (tCons te tNil)) (gTup K 2 (gCons (gName i) (gCons (gName j) gNil))) tYes (tVar j) (tVar i) [i, j] σ H Q := by
  refine gi_enumQ (K := K) (d := wsD ns) h rfl H (Same.refl _) _ fun J H2 s2 wk D hD => ?_
  obtain ⟨Gd, Y, w1, w2⟩ := wk
  let X' : Addr → Prop := fun a => X a ∨ a = D
  have m2 : More X X' H2 := More.one hD
  have ln : (enumD (itemsD (wsD ns))).length = ns.length := by rw [enumD_len]; exact List.length_map _
  let Pv : Nat → Hp → Prop := fun k Gh => Same H2 Gh ∧ Trk X' Gh ∧ Gh D = some (.dK (kvPl (ns.take k)))
  refine ⟨fun k m Gh => m = ns.length - k ∧ k ≤ ns.length ∧ Pv k Gh, ⟨_, rfl, Nat.zero_le _, Same.upd hD, (t.mono s2).one hD, upd_same⟩, ?_⟩
  rintro k m Gh ⟨rfl, hk, p1, p2, p3⟩
  have q0 := w2 X' m2.2 Gh (Kp.of p1) p2
  by_cases lt : k < ns.length
  rotate_left
  · have e : k = ns.length := by omega
    subst e
    rw [List.take_length] at p3
    have st := w1.stops Gh q0.1
    rw [ln] at st
    exact .inl ⟨st, q D Gh (s2.free hD) (s2.trans p1) p3⟩
  refine .inr ⟨w1.goes k Gh (by rw [ln]; exact lt) q0.1, Pv (k + 1), fun G' p' => ⟨_, by omega, rfl, lt, p'⟩, fun x G' y => ?_⟩
  obtain ⟨s4, z, hz, dx⟩ := q0.2 k x G' (w1.yields k Gh x G' (by rw [ln]; exact lt) q0.1 y)
  rw [enumD_get (d := .str ns[k]) (by show (ns.map PyData.str)[k]? = _; rw [List.getElem?_map, List.getElem?_eq_getElem lt]; rfl)] at hz
  cases hz
  have t4 := p2.mono s4
  refine tgt_pair (E.same s2) hij X' G' m2 (Kp.of (p1.trans s4)) t4 x dx _ fun σ2 E2 hw => ⟨hw, ?_⟩
  have hy : ∀ {σ : L2.St} {H : Hp} {Qb : Bool → Hp → Prop}, Qb true H → tYes σ H Qb := fun h => h
  refine hy (iteT ?_)
  refine g_var (i := j) (d := .str ns[k]) E2 (by rw [List.getElem?_set_self (by simpa using hj)]) G' (Same.refl _) _ fun v5 H5 s5 r5 => ?_
  refine g_var (i := i) (d := .int (k : Nat)) (E2.same s5) (by rw [List.getElem?_set_ne (Ne.symm hij), List.getElem?_set_self (by simpa using hi)]) H5 (Same.refl _) _ fun v6 H6 s6 r6 => ?_
  rw [r5.str_inv, r6.int_inv]
  have s46 := (s4.trans s5).trans s6
  have et : ns.take (k + 1) = ns.take k ++ [ns[k]] := by rw [List.take_add_one, List.getElem?_eq_getElem lt]; rfl
  refine ⟨kvPl (ns.take k), .inr ns[k], rfl, s46 _ _ p3, by unfold kvPl; rw [kv_len, List.length_take, sizeLine_eq]; omega, fun a o e => ?_, ?_, ?_⟩
  · have : a ≠ D := fun z => by rw [z, hD] at e; cases e
    rw [upd_ne this]
    exact s46 _ _ (p1 a o e)
  · exact (p2.mono s46).put
  · have nin : ns[k] ∉ ns.take k := fun hm => by
      have n2 : (ns.take (k + 1)).Nodup := nd.sublist (List.take_sublist _ _)
      rw [et] at n2
      exact (List.nodup_append.mp n2).2.2 _ hm _ (by simp) rfl
    have := kv_put nin
    rw [List.length_take, Nat.min_eq_left (by omega)] at this
    rw [this, et, upd_same]
end
def spPlaces : Sp := fun us H Q _ => ∃ (X : Addr → Prop) (v : V) (ns : List Str), us = [v] ∧ Trk X H ∧ DX X H v (wsD ns) ∧ ns.Nodup ∧ ns.length ≤ 100 ∧ ∀ D H', Same H H' → H D = none → H' D = some (.dK (kvPl ns)) → Q (.ref D) H'
abbrev s_places_in : Stmt := topS 29
abbrev n_places_in : List Str := ["things", "index", "thing"]
theorem sc_places_in : FnScope n_places_in ["things"] (defScope s_places_in) := ⟨rfl, rfl, rfl, by decide +kernel, rfl, by decide +kernel, by decide +kernel⟩
theorem ok_places_in {f : Addr} {fd : FuncData} (F : Fun K "places_in" "places_in" s_places_in f fd) (T : Bl mg) : FnOk P w K mg base CX0 1 f fd ["things"] spPlaces := by
  refine F.ok sc_places_in (fun vs H Q E h => ?_) (fun cdv A outer s H us Q E hr h => ?_)
  · obtain ⟨X, v, ns, rfl, _⟩ := h
    rfl
  · obtain ⟨X, v, ns, rfl, t, d1, nd, few, q⟩ := h
    refine ⟨_, (pss_one (ps_ret (pe_dc (own := [("index", 1), ("thing", 2)]) (g := (gTup K 2 (gCons (gName 1) (gCons (gName 2) gNil)))) (tt := tYes) rfl sc_places_in.nd (pi_enumQ (by rfl) T.b_enumerate (pa_cons (pv 0) pa_nil)) (blkOk_by (N := n_places_in) (sc := defScope s_places_in) (by decide +kernel)) (fun _ _ _ _ _ => (pg_tup (n := 2) rfl (pgs_cons (pg_name (i := 1) sc_places_in.nd rfl (by first | exact Or.inl rfl | exact Or.inr rfl)) (pgs_cons (pg_name (i := 2) sc_places_in.nd rfl (by first | exact Or.inl rfl | exact Or.inr rfl)) pgs_nil)))) (fun _ _ _ _ _ => pts_nil) (fun _ _ _ _ _ => (pv 2)) (fun _ _ _ _ _ => (pv 1))))), ?_⟩
    have En : EnvOk X H (L2.start n_places_in [v]) [.dat (wsD ns), .un, .un] := ⟨rfl, fun i s e => by
      match i, e with
      | 0, e => cases e; exact ⟨_, rfl, d1⟩
      | 1, e => cases e; trivial
      | 2, e => cases e; trivial
      | _ + 3, e => cases e⟩
    exact k_ret (k_dcEnum (i := 1) (j := 2) t En (by decide) (by show 1 < 3; omega) (by show 2 < 3; omega) (g_var (i := 0) (d := wsD ns) En rfl) nd (by omega) fun D H' hD s' e => q D H' s' hD e)
end K20

/-! The first step astray. -/
namespace K20
open PySem PySem.Spec PyProof.Rows L2 KD KP KGr
-- RAISES change_of checked_text passed side_by_side
-- HINT first_astray dgetn places
variable {P : Program} {w : World} {K : PySem.W.Frag} {mg : Str → Option Value} {base : Heap}
def lateK (ns : List Str) (rs : List Stp) (k : Nat) : Bool := match rs[k]?, rs[k + 1]? with
  | some a, some b => decide (ns.idxOf b.name < ns.idxOf a.name)
  | _, _ => false
def astray (ns : List Str) (rs : List Stp) : Option Nat := (List.range (rs.length - 1)).find? (lateK ns rs)
def astrayD (ns : List Str) (rs : List Stp) : PyData := match astray ns rs with
  | none => .none
  | some i => .int (i : Nat)
def spAstray : Sp := fun us H Q _ => ∃ (X : Addr → Prop) (v : V) (D : Addr) (rs : List Stp) (ns : List Str), us = [v, .ref D] ∧ Trk X H ∧ DX X H v (.list (rs.map stpD)) ∧ H D = some (.dK (kvPl ns)) ∧ (∀ r ∈ rs, r.name ∈ ns) ∧ rs.length ≤ 100 ∧ ∀ w H', Same H H' → DX X H' w (astrayD ns rs) → Q w H'
abbrev s_first_astray : Stmt := topS 35
abbrev n_first_astray : List Str := ["steps", "places", "index"]
theorem sc_first_astray : FnScope n_first_astray ["steps", "places"] (defScope s_first_astray) := ⟨rfl, rfl, rfl, by decide +kernel, rfl, by decide +kernel, by decide +kernel⟩
theorem ok_astray {f : Addr} {fd : FuncData} (F : Fun K "first_astray" "first_astray" s_first_astray f fd) (T : Bl mg) : FnOk P w K mg base CX0 1 f fd ["steps", "places"] spAstray := by
  refine F.ok sc_first_astray (fun vs H Q E h => ?_) (fun cdv A outer s H us Q E hr h => ?_)
  · obtain ⟨X, v, D, rs, ns, rfl, _⟩ := h
    rfl
  · obtain ⟨X, v, D, rs, ns, rfl, t, d1, hD, inn, few, q⟩ := h
    refine ⟨_, (pss_cons (ps_for PassesOwn.never rfl (pi_range1 (by rfl) T.b_range (pa_cons (pe_op op_sub (pe_callB call_len (by rfl) T.b_len boot_len (pa_cons (pv 0) pa_nil)) pe_int) pa_nil)) (pg_name (i := 2) sc_first_astray.nd rfl (by first | exact Or.inl rfl | exact Or.inr rfl))
    (pss_one (ps_if (pt_cmpR op_gt (pe_dget (hu_of hr) (pv 1) (pe_ix ix_seq (pe_ix ix_seq (pv 0) (pv 2) (fun _ _ => rfl)) pe_int (fun _ _ => rfl)) (fun _ _ => rfl)) (pe_dget (hu_of hr) (pv 1) (pe_ix ix_seq (pe_ix ix_seq (pv 0) (pe_op op_addA (pv 2) pe_int) (fun _ _ => rfl)) pe_int (fun _ _ => rfl)) (fun _ _ => rfl)) (nomark _))
    (pss_one (ps_ret (pv 2))) pss_nil)))
    (pss_one (ps_ret pe_non))), ?_⟩
    let Γ : List Sv := [.dat (.list (rs.map stpD)), .val (.ref D), .un]
    have En : EnvOk X H (L2.start n_first_astray [v, .ref D]) Γ := ⟨rfl, fun i s e => by
      match i, e with
      | 0, e => cases e; exact ⟨_, rfl, d1⟩
      | 1, e => cases e; rfl
      | 2, e => cases e; trivial
      | _ + 3, e => cases e⟩
    have glen : G X (tOp (rI0 fun i j => V.int (i - j)) (tCB (fun xs H Q => ∃ x n, xs = [x] ∧ LenV K x H n ∧ Q (V.int n) H) (tCons (tVar 0) tNil)) (tC (.int 1))) (L2.start n_first_astray [v, .ref D]) H (.int ((rs.length : Int) - 1)) := g_sub t (g_is (g_len t (g_var (i := 0) (d := .list (rs.map stpD)) En rfl) rfl) (by show PyData.int ((rs.map stpD).length : Nat) = _; rw [List.length_map])) g_int
    have en : (((rs.length : Int) - 1)).toNat = rs.length - 1 := by omega
    refine s_forD (X := X) (gi_range1 glen (by omega) (by omega)) (fun Hb i σ' H' => (Same Hb H' ∧ Trk X H') ∧ EnvOk X H' σ' Γ ∧ ∀ k < i, lateK ns rs k = false) (fun Hb sb => ⟨⟨Same.refl _, t.mono sb⟩, En.same sb, fun k h => by omega⟩) (fun Hb i σ' H' p => ⟨Kp.of p.1.1, p.1.2⟩) ?_ ?_
    · rintro Hb i x d σ' H' H'' sb hd ⟨⟨p1, p2⟩, E0, p4⟩ s5 dx
      have hi : i < rs.length - 1 := by
        have := (List.getElem?_eq_some_iff.mp hd).1
        rw [rangeD_len, en] at this
        exact this
      rw [rangeD_get (by omega)] at hd
      cases hd
      rw [show (0 : Int) + (i : Int) = (i : Nat) from by omega] at dx
      refine k_name ?_
      have s15 := (sb.trans p1).trans s5
      have t5 := p2.mono s5
      have E5 : EnvOk X H'' _ [.dat (.list (rs.map stpD)), .val (.ref D), .dat (.int (i : Nat))] := (E0.same s5).set (i := 2) dx
      have hD5 := s15 _ _ hD
      have ha : rs[i]? = some (rs[i]'(by omega)) := List.getElem?_eq_getElem _
      have hb : rs[i + 1]? = some (rs[i + 1]'(by omega)) := List.getElem?_eq_getElem _
      have get : ∀ {te : TE} {s : Str} {τ : L2.St}, τ[1]? = some (some (.ref D)) → s ∈ ns → G X te τ H'' (.str s) → G X (tDGet (tVar 1) te) τ H'' (.int ((ns.idxOf s : Nat) : Int)) := fun {te s τ} e1 hs g H1 s1 Q q => ⟨.ref D, e1, g H1 s1 _ fun v H2 s2 r => ⟨D, _, rfl, by
        have e := r.str_inv
        have h := DGet.k (k := .inr s) ((s1.trans s2) _ _ hD5)
        rw [show valV (kvPl ns) (.inr s) = some (.int ((ns.idxOf s : Nat) : Int)) from by have := kv_val (i := 0) hs; rw [Nat.zero_add] at this; exact this] at h
        rw [e]
        exact h, q _ H2 s2 (.int _)⟩⟩
      have nmI : G X (tOp (rIx K) (tOp (rIx K) (tVar 0) (tVar 2)) (tC (.int 0))) _ H'' (.str (rs[i]'(by omega)).name) := g_ixT (ds := [PyData.str (rs[i]'(by omega)).name, chD (rs[i]'(by omega)).p (rs[i]'(by omega)).os (rs[i]'(by omega)).ns]) t5 (g_ixL (ds := rs.map stpD) t5 (g_var (i := 0) (d := .list (rs.map stpD)) E5 rfl) (g_var (i := 2) (d := .int (i : Nat)) E5 rfl) (atI_nat (by rw [List.getElem?_map, ha]; rfl))) g_int rfl
      have nmJ : G X (tOp (rIx K) (tOp (rIx K) (tVar 0) (tOp rAddA (tVar 2) (tC (.int 1)))) (tC (.int 0))) _ H'' (.str (rs[i + 1]'(by omega)).name) := g_ixT (ds := [PyData.str (rs[i + 1]'(by omega)).name, chD (rs[i + 1]'(by omega)).p (rs[i + 1]'(by omega)).os (rs[i + 1]'(by omega)).ns]) t5 (g_ixL (ds := rs.map stpD) (i := ((i + 1 : Nat) : Int)) t5 (g_var (i := 0) (d := .list (rs.map stpD)) E5 rfl) (g_is (g_addI (j := 1) t5 (g_var (i := 2) (d := .int (i : Nat)) E5 rfl) g_int) (by congr 1)) (atI_nat (by rw [List.getElem?_map, hb]; rfl))) g_int rfl
      have el : lateK ns rs i = decide (((ns.idxOf (rs[i + 1]'(by omega)).name : Nat) : Int) < ((ns.idxOf (rs[i]'(by omega)).name : Nat) : Int)) := by
        unfold lateK
        rw [ha, hb]
        exact decide_eq_decide.mpr (by omega)
      refine s_if (b := lateK ns rs i) (gt_is (gt_B (g_cmpI t5 (g := fun i j => decide (j < i)) (get (E5.get 1 _ rfl) (inn _ (List.getElem_mem _)) nmI) (get (E5.get 1 _ rfl) (inn _ (List.getElem_mem _)) nmJ))) el.symm) (fun hb2 H6 s6 => ?_) fun hb2 H6 s6 => ?_
      · refine s_ret (X := X) (d := .int (i : Nat)) (g_var (i := 2) (d := .int (i : Nat)) (E5.same s6) rfl) fun w H7 s7 dw => q w H7 ((s15.trans s6).trans s7) ?_
        have e : astray ns rs = some i := List.find?_range_eq_some.mpr ⟨hb2, List.mem_range.mpr hi, fun k hk => by rw [p4 k hk]; rfl⟩
        unfold astrayD
        rw [e]
        exact dw
      · refine ⟨⟨(p1.trans s5).trans s6, t5.mono s6⟩, envUn (E5.same s6) 2, fun k hk => ?_⟩
        by_cases c : k = i
        · rw [c]; exact hb2
        · exact p4 k (by omega)
    · rintro Hb σ' H' sb ⟨⟨p1, p2⟩, E0, p4⟩
      rw [rangeD_len, en] at p4
      have e : astray ns rs = none := List.find?_eq_none.mpr fun k hk => by rw [p4 k (List.mem_range.mp hk)]; simp
      refine s_ret (X := X) (σ := σ') (D := { nx := fun _ H' => Q .non H', rt := Q }) (d := .none) g_non fun w H7 s7 dw => q w H7 ((sb.trans p1).trans s7) ?_
      unfold astrayD
      rw [e]
      exact dw
end K20

/-! Two steps turned. -/
namespace K20
open PySem PySem.Spec PyProof.Rows L2 KD KP KGr
-- RAISES change_of checked_text passed side_by_side
variable {P : Program} {w : World} {K : PySem.W.Frag} {mg : Str → Option Value} {base : Heap}
theorem cutP_len (ds : List PyData) (lo hi : Option Int) : (cutPD ds lo hi).length ≤ ds.length := by
  unfold cutPD
  rw [List.length_take, List.length_drop]
  omega
theorem cut_frm (ws : List PyData) {a : Nat} : cutPD ws (some (a : Int)) none = ws.drop a := by
  show (ws.drop (HT.sIx ws.length 0 (some (a : Int)))).take (HT.sIx ws.length ws.length none - HT.sIx ws.length 0 (some (a : Int))) = _
  rw [sIx_nn (by omega)]
  show (ws.drop (min ((a : Int)).toNat ws.length)).take (ws.length - min ((a : Int)).toNat ws.length) = ws.drop a
  rw [show ((a : Int)).toNat = a by omega, List.take_of_length_le (by rw [List.length_drop]; exact Nat.le_refl _)]
  by_cases h : a ≤ ws.length
  · rw [Nat.min_eq_left h]
  · rw [Nat.min_eq_right (by omega), List.drop_length, List.drop_eq_nil_of_le (by omega)]
def turnedD (rs : List Stp) (i : Nat) (a b : Stp) : PyData := match pasS a b with
  | none => .none
  | some (b0, a1) => .list ((rs.take i ++ [b0, a1] ++ rs.drop (i + 2)).map stpD)
def spTurned : Sp := fun us H Q _ => ∃ (X : Addr → Prop) (v : V) (rs : List Stp) (i : Nat) (a b : Stp), us = [v, .int (i : Nat)] ∧ Trk X H ∧ DX X H v (.list (rs.map stpD)) ∧ rs[i]? = some a ∧ rs[i + 1]? = some b ∧ okS a ∧ okS b ∧ 0 ≤ a.p ∧ 0 ≤ b.p ∧ rs.length ≤ 100 ∧ ∀ w H', Same H H' → DX X H' w (turnedD rs i a b) → Q w H'
abbrev s_turned_at : Stmt := topS 33
abbrev n_turned_at : List Str := ["steps", "index", "one", "first", "other", "second", "pair"]
theorem sc_turned_at : FnScope n_turned_at ["steps", "index"] (defScope s_turned_at) := ⟨rfl, rfl, rfl, by decide +kernel, rfl, by decide +kernel, by decide +kernel⟩
theorem ok_turned_at {f Cc : Addr} {fd : FuncData} (F : Fun K "turned_at" "turned_at" s_turned_at f fd) (T : Bl mg) (O_passed : Own P w K mg base (L2.CX P w) 5 "passed" ["one", "two"] (spX2 twoPre (twoOut passB Cc))) : FnOk P w K mg base CX0 6 f fd ["steps", "index"] spTurned := by
  refine F.ok sc_turned_at (fun vs H Q E h => ?_) (fun cdv A outer s H us Q E hr h => ?_)
  · obtain ⟨X, v, rs, i, a, b, rfl, _⟩ := h
    rfl
  · obtain ⟨X, v, rs, i, a, b, rfl, t, d1, ha, hb, oa, ob, pa, pb, few, q⟩ := h
    refine ⟨_, (pss_cons (ps_asg (pe_ix ix_seq (pv 0) (pv 1) (fun _ _ => rfl)) (pg_tup (n := 2) rfl (pgs_cons (pg_name (i := 2) sc_turned_at.nd rfl (by first | exact Or.inl rfl | exact Or.inr rfl)) (pgs_cons (pg_name (i := 3) sc_turned_at.nd rfl (by first | exact Or.inl rfl | exact Or.inr rfl)) pgs_nil))))
    (pss_cons (ps_asg (pe_ix ix_seq (pv 0) (pe_op op_addA (pv 1) pe_int) (fun _ _ => rfl)) (pg_tup (n := 2) rfl (pgs_cons (pg_name (i := 4) sc_turned_at.nd rfl (by first | exact Or.inl rfl | exact Or.inr rfl)) (pgs_cons (pg_name (i := 5) sc_turned_at.nd rfl (by first | exact Or.inl rfl | exact Or.inr rfl)) pgs_nil))))
    (pss_cons (ps_set (i := 6) sc_turned_at.nd rfl (by first | exact Or.inl rfl | exact Or.inr rfl) (pe_ownX O_passed hr (by decide) LamX.takes0 (by rfl) (pa_cons (pv 3) (pa_cons (pv 5) pa_nil))))
    (pss_cons (ps_if (pt_cmpR op_isN (pv 6) pe_non (nomark _))
    (pss_one (ps_ret pe_non)) pss_nil)
    (pss_one (ps_ret (pe_op op_addA (pe_op op_addA (pe_slice sl_list (pv 0) po_none (po_some (pv 1))) (pe_lst (pa_cons (pe_tup (pa_cons (pv 4) (pa_cons (pe_ix ix_seq (pv 6) pe_int (fun _ _ => rfl)) pa_nil))) (pa_cons (pe_tup (pa_cons (pv 2) (pa_cons (pe_ix ix_seq (pv 6) pe_int (fun _ _ => rfl)) pa_nil))) pa_nil)))) (pe_slice sl_list (pv 0) (po_some (pe_op op_addA (pv 1) pe_int)) po_none)))))))), ?_⟩
    let Γ (x2 x3 x4 x5 x6 : Sv) : List Sv := [.dat (.list (rs.map stpD)), .dat (.int (i : Nat)), x2, x3, x4, x5, x6]
    have En : EnvOk X H (L2.start n_turned_at [v, .int (i : Nat)]) (Γ .un .un .un .un .un) := env2 (N := n_turned_at) d1 (.int _) (by decide)
    have li : i + 1 < rs.length := (List.getElem?_eq_some_iff.mp hb).1
    obtain ⟨p, ep⟩ := Int.eq_ofNat_of_zero_le pa
    obtain ⟨r, er⟩ := Int.eq_ofNat_of_zero_le pb
    obtain ⟨a1, a2, a3, a4⟩ := oa
    obtain ⟨b1, b2, b3, b4⟩ := ob
    refine k_asg ((g_ixL (ds := rs.map stpD) (z := stpD a) t (g_var (i := 0) (d := .list (rs.map stpD)) En rfl) (g_var (i := 1) (d := .int (i : Nat)) En rfl) (atI_nat (by rw [List.getElem?_map, ha]; rfl))) H (Same.refl _) _ fun v1 H1 s1 r1 => g_pair (d := .str a.name) (e := chD a.p a.os a.ns) r1 fun u w q1 q2 => ?_)
    have t1 := t.mono s1
    have E1 : EnvOk X H1 _ (Γ (.dat (.str a.name)) (.dat (chD a.p a.os a.ns)) .un .un .un) := ((En.same s1).set (i := 2) q1).set (i := 3) q2
    refine k_asg ((g_ixL (ds := rs.map stpD) (i := ((i + 1 : Nat) : Int)) (z := stpD b) t1 (g_var (i := 0) (d := .list (rs.map stpD)) E1 rfl) (g_is (g_addI (j := 1) t1 (g_var (i := 1) (d := .int (i : Nat)) E1 rfl) g_int) (by congr 1)) (atI_nat (by rw [List.getElem?_map, hb]; rfl))) H1 (Same.refl _) _ fun v2 H2 s2 r2 => g_pair (d := .str b.name) (e := chD b.p b.os b.ns) r2 fun u2 w2 q3 q4 => ?_)
    have t2 := t1.mono s2
    have E2 : EnvOk X H2 _ (Γ (.dat (.str a.name)) (.dat (chD a.p a.os a.ns)) (.dat (.str b.name)) (.dat (chD b.p b.os b.ns)) .un) := ((E1.same s2).set (i := 4) q3).set (i := 5) q4
    rw [ep, er] at E2
    have GP := g_pass (E := E0) (C := Cc) t2 (g_var (i := 3) (d := chD (p : Int) a.os a.ns) E2 rfl) (g_var (i := 5) (d := chD (r : Int) b.os b.ns) E2 rfl) a2 a3 b2 b3 a4 b4
    unfold turnedD pasS at q
    rw [ep, er] at q
    cases hz : passZ (p : Int) a.os.length a.ns.length (r : Int) b.os.length b.ns.length with
    | none =>
      rw [hz] at GP q
      refine q_set (i := 6) (d := .none) E2 GP fun H3 v3 s3 E3 => ?_
      refine q_if (b := true) (gt_is (gt_op (t2.mono s3) (g_var (i := 6) (d := .none) E3 rfl) g_non rb_isN) rfl) (fun _ H4 s4 => ?_) fun h => by cases h
      exact s_ret (X := X) (d := .none) g_non fun w H5 s5 dw => q w H5 ((((s1.trans s2).trans s3).trans s4).trans s5) dw
    | some xy =>
      obtain ⟨x, y⟩ := xy
      rw [hz] at GP q
      have q : ∀ w H', Same H H' → DX X H' w (.list ((rs.take i ++ [{ b with p := x }, { a with p := y }] ++ rs.drop (i + 2)).map stpD)) → Q w H' := q
      refine q_set (i := 6) (d := .tuple [chD x b.os b.ns, chD y a.os a.ns]) E2 GP fun H3 v3 s3 E3 => ?_
      have t3 := t2.mono s3
      refine q_if (b := false) (gt_is (gt_op t3 (g_var (i := 6) (d := .tuple [chD x b.os b.ns, chD y a.os a.ns]) E3 rfl) g_non rb_isN) rfl) (fun h => by cases h) fun _ H4 s4 => ?_
      have E4 := E3.same s4
      have t4 := t3.mono s4
      have E4 : EnvOk X H4 _ [.dat (.list (rs.map stpD)), .dat (.int (i : Nat)), .dat (.str a.name), .dat (chD (p : Int) a.os a.ns), .dat (.str b.name), .dat (chD (r : Int) b.os b.ns), .dat (.tuple [chD x b.os b.ns, chD y a.os a.ns])] := E4
      have two : ∀ {k : Nat} {z : PyData}, [chD x b.os b.ns, chD y a.os a.ns][k]? = some z → G X (tOp (rIx K) (tVar 6) (tC (.int (k : Int)))) _ H4 z := fun hk => g_ixT (ds := [chD x b.os b.ns, chD y a.os a.ns]) t4 (g_var (i := 6) (d := .tuple [chD x b.os b.ns, chD y a.os a.ns]) E4 rfl) g_int (atI_nat hk)
      have c1 := cutP_len (rs.map stpD) none (some (i : Int))
      have c2 := cutP_len (rs.map stpD) (some ((i : Int) + 2)) none
      rw [List.length_map] at c1 c2
      refine s_ret (X := X) (d := .list ((rs.take i ++ [{ b with p := x }, { a with p := y }] ++ rs.drop (i + 2)).map stpD)) (g_is (g_cat t4 (g_cat (ys := [.tuple [.str b.name, chD x b.os b.ns], .tuple [.str a.name, chD y a.os a.ns]]) t4 (g_sl (lo := none) (hi := some (i : Int)) (ds := rs.map stpD) t4 (g_var (i := 0) (d := .list (rs.map stpD)) E4 rfl) go_none (go_some (g_var (i := 1) (d := .int (i : Nat)) E4 rfl))) (g_lst t4 (ga_cons (g_tup t4 (ga_cons (g_var (i := 4) (d := .str b.name) E4 rfl) (ga_cons (two (k := 0) rfl) ga_nil)) (by simp)) (ga_cons (g_tup t4 (ga_cons (g_var (i := 2) (d := .str a.name) E4 rfl) (ga_cons (two (k := 1) rfl) ga_nil)) (by simp)) ga_nil)) (by simp)) (by simp; omega)) (g_sl (lo := some ((i : Int) + 2)) (hi := none) (ds := rs.map stpD) t4 (g_var (i := 0) (d := .list (rs.map stpD)) E4 rfl) (go_some (g_addI (j := 2) t4 (g_var (i := 1) (d := .int (i : Nat)) E4 rfl) g_int)) go_none) (by simp; omega)) ?_) fun w H5 s5 dw => q w H5 ((((s1.trans s2).trans s3).trans s4).trans s5) dw
      congr 1
      rw [cutP_to _ (by omega), show ((i : Int) + 2) = ((i + 2 : Nat) : Int) by omega, cut_frm, show ((i : Int)).toNat = i by omega, List.map_append, List.map_append, List.map_take, List.map_drop]
      rfl
end K20

/-! A run put beside another. -/
namespace K20
open PySem PySem.Spec PyProof.Rows L2 KD KP KGr
-- RAISES change_of checked_text passed side_by_side
variable {P : Program} {w : World} {K : PySem.W.Frag} {mg : Str → Option Value} {base : Heap}
def chOf (r : Stp) : PyData := chD r.p r.os r.ns
def putD (mine theirs : List Stp) : PyData := match besF besS mine theirs with
  | none => .none
  | some (f, _) => .list (f.map stpD)
/-- a step that stands somewhere -/
def okP (r : Stp) : Prop := okS r ∧ 0 ≤ r.p
theorem bes_ok {a b b' a' : Stp} (ha : okP a) (hb : okP b) (h : besS a b = some (b', a')) : okP b' ∧ okP a' := by
  obtain ⟨x, y, e, rfl, rfl⟩ := bes_get h
  obtain ⟨p, ep⟩ := Int.eq_ofNat_of_zero_le ha.2
  obtain ⟨q, eq⟩ := Int.eq_ofNat_of_zero_le hb.2
  rw [ep, eq] at e
  have := sideZ_nat e
  exact ⟨⟨hb.1, this.1⟩, ⟨ha.1, this.2⟩⟩
theorem col_ok : ∀ {ms ms' : List Stp} {t t' : Stp}, (∀ m ∈ ms, okP m) → okP t → colP besS ms t = some (t', ms') → okP t' ∧ (∀ m ∈ ms', okP m) ∧ ms'.length = ms.length
  | [], ms', t, t', h1, h2, h => by
    simp only [colP] at h
    cases h
    exact ⟨h2, fun m hm => (by cases hm), rfl⟩
  | m :: ms, ms', t, t', h1, h2, h => by
    simp only [colP] at h
    cases h3 : besS m t with
    | none => rw [h3] at h; cases h
    | some p =>
      rw [h3] at h
      simp only [Option.bind_some] at h
      cases h4 : colP besS ms p.1 with
      | none => rw [h4] at h; cases h
      | some q =>
        rw [h4] at h
        cases h
        obtain ⟨k1, k2⟩ := bes_ok (h1 m List.mem_cons_self) h2 h3
        obtain ⟨k3, k4, k5⟩ := col_ok (fun x hx => h1 x (List.mem_cons_of_mem _ hx)) k1 h4
        exact ⟨k3, fun x hx => (List.mem_cons.mp hx).elim (fun e => e ▸ k2) (k4 x), by rw [List.length_cons, List.length_cons, k5]⟩
theorem bes_all : ∀ {ts ms f g : List Stp}, (∀ m ∈ ms, okP m) → (∀ t ∈ ts, okP t) → besF besS ms ts = some (f, g) → (∀ x ∈ f, okP x) ∧ (∀ x ∈ g, okP x) ∧ f.length = ts.length ∧ g.length = ms.length
  | [], ms, f, g, h1, h2, h => by
    simp only [besF] at h
    cases h
    exact ⟨fun x hx => (by cases hx), h1, rfl, rfl⟩
  | t :: ts, ms, f, g, h1, h2, h => by
    simp only [besF] at h
    cases h3 : colP besS ms t with
    | none => rw [h3] at h; cases h
    | some p =>
      rw [h3] at h
      simp only [Option.bind_some] at h
      cases h4 : besF besS p.2 ts with
      | none => rw [h4] at h; cases h
      | some q =>
        rw [h4] at h
        cases h
        obtain ⟨k1, k2, k3⟩ := col_ok h1 (h2 t List.mem_cons_self) h3
        obtain ⟨k4, k5, k6, k7⟩ := bes_all k2 (fun x hx => h2 x (List.mem_cons_of_mem _ hx)) h4
        exact ⟨fun x hx => (List.mem_cons.mp hx).elim (fun e => e ▸ k1) (k4 x), k5, by rw [List.length_cons, List.length_cons, k6], k7.trans k3⟩
theorem g_stepsG {X : Addr → Prop} {σ : L2.St} {H : Hp} {ta tb tc : TE} {E : XK} {ws tk : List Str} {rs : List Stp} {hd : PyData} (t : Trk X H) (h1 : G X ta σ H (wsD ws)) (h2 : G X tb σ H hd) (hh : Hnd hd rs) (h3 : G X tc σ H (wsD tk)) (a1 : ∀ r ∈ rs, okS r) (a2 : (rs.map Stp.name).Nodup) (a6 : ∀ r ∈ rs, r.name ∉ tk) (a3 : okT ws rs) (a4 : Wd ws) (a5 : rs.length ≤ 8) (a7 : tk.length ≤ 8) :
    G X (tCall spStepsG [] E (tCons ta (tCons tb (tCons tc tNil)))) σ H (.list (rs.map stpD)) :=
  g_call (ga_cons h1 (ga_cons h2 (ga_cons h3 ga_nil))) fun vs H1 s rs' Q k => by
    cases rs' with
    | cons r1 r2 =>
      cases r2 with
      | cons r2 r3 =>
        cases r3 with
        | cons r3 r4 =>
          cases r4
          exact ⟨X, _, _, _, ws, rs, hd, tk, rfl, t.mono s, r1, r2, hh, r3, a1, a2, a6, a3, a4, a5, a7, k⟩
theorem k_drop1' {te : TE} {D : Ends} {σ : L2.St} {H : Hp} (h : tSeq (tDrop te) (fun D σ H => D.nx σ H) D σ H) : tDrop te D σ H := h
theorem bes_name (n : Str) : ∀ a b b' a' : Stp, besS a b = some (b', a') → (decide (b'.name = n) = decide (b.name = n)) ∧ decide (a'.name = n) = decide (a.name = n) := fun a b b' a' h => by
  obtain ⟨x, y, e, rfl, rfl⟩ := bes_get h
  exact ⟨rfl, rfl⟩
theorem col_name {ms ms' : List Stp} {t t' : Stp} (h : colP besS ms t = some (t', ms')) : t'.name = t.name := by
  have := (col_kind (fun r : Stp => decide (r.name = t.name)) (bes_name t.name) h).1
  simpa using this
def spPut : Sp := fun us H Q _ => ∃ (X : Addr → Prop) (v1 v2 v3 : V) (ws : List Str) (hm ht : PyData) (mine theirs : List Stp), us = [v1, v2, v3] ∧ Trk X H ∧ DX X H v1 (wsD ws) ∧ DX X H v2 hm ∧ DX X H v3 ht ∧ Hnd hm mine ∧ Hnd ht theirs ∧ (∀ r ∈ mine, okP r) ∧ (∀ r ∈ theirs, okP r) ∧ (mine.map Stp.name).Nodup ∧ (theirs.map Stp.name).Nodup ∧ (∀ r ∈ theirs, r.name ∉ mine.map Stp.name) ∧ okT ws mine ∧ okT ws theirs ∧ Wd ws ∧ mine.length ≤ 8 ∧ theirs.length ≤ 8 ∧
  ∀ w H', Same H H' → DX X H' w (putD mine theirs) → Q w H'
end K20

/-! Ways of two runs of steps: their names, their kinds, where they stand astray. -/
namespace K20
open PySem PySem.Spec PyProof.Rows L2 KD KP KGr
theorem row_names : ∀ {ts ts' : List Stp} {m m' : Stp}, rowP besS m ts = some (ts', m') → m'.name = m.name ∧ ts'.map Stp.name = ts.map Stp.name
  | [], ts', m, m', h => by
    simp only [rowP] at h
    cases h
    exact ⟨rfl, rfl⟩
  | t :: ts, ts', m, m', h => by
    simp only [rowP] at h
    cases h1 : besS m t with
    | none => rw [h1] at h; cases h
    | some p =>
      rw [h1] at h
      simp only [Option.bind_some] at h
      cases h2 : rowP besS p.2 ts with
      | none => rw [h2] at h; cases h
      | some q =>
        rw [h2] at h
        cases h
        obtain ⟨x, y, _, e1, e2⟩ := bes_get (b' := p.1) (a' := p.2) h1
        obtain ⟨k3, k4⟩ := row_names h2
        exact ⟨by rw [k3, e2], by rw [List.map_cons, List.map_cons, k4, e1]⟩
theorem col_names : ∀ {ms ms' : List Stp} {t t' : Stp}, colP besS ms t = some (t', ms') → t'.name = t.name ∧ ms'.map Stp.name = ms.map Stp.name
  | [], ms', t, t', h => by
    simp only [colP] at h
    cases h
    exact ⟨rfl, rfl⟩
  | m :: ms, ms', t, t', h => by
    simp only [colP] at h
    cases h1 : besS m t with
    | none => rw [h1] at h; cases h
    | some p =>
      rw [h1] at h
      simp only [Option.bind_some] at h
      cases h2 : colP besS ms p.1 with
      | none => rw [h2] at h; cases h
      | some q =>
        rw [h2] at h
        cases h
        obtain ⟨x, y, _, e1, e2⟩ := bes_get (b' := p.1) (a' := p.2) h1
        obtain ⟨k3, k4⟩ := col_names h2
        exact ⟨by rw [k3, e1], by rw [List.map_cons, List.map_cons, k4, e2]⟩
theorem bes_names : ∀ {ts ms f g : List Stp}, besF besS ms ts = some (f, g) → f.map Stp.name = ts.map Stp.name ∧ g.map Stp.name = ms.map Stp.name
  | [], ms, f, g, h => by
    simp only [besF] at h
    cases h
    exact ⟨rfl, rfl⟩
  | t :: ts, ms, f, g, h => by
    simp only [besF] at h
    cases h1 : colP besS ms t with
    | none => rw [h1] at h; cases h
    | some p =>
      rw [h1] at h
      simp only [Option.bind_some] at h
      cases h2 : besF besS p.2 ts with
      | none => rw [h2] at h; cases h
      | some q =>
        rw [h2] at h
        cases h
        obtain ⟨k1, k2⟩ := col_names (t' := p.1) (ms' := p.2) h1
        obtain ⟨k3, k4⟩ := bes_names h2
        exact ⟨by rw [List.map_cons, List.map_cons, k1, k3], k4.trans k2⟩
theorem row_ok : ∀ {ts ts' : List Stp} {m m' : Stp}, (∀ t ∈ ts, okP t) → okP m → rowP besS m ts = some (ts', m') → okP m' ∧ ∀ t ∈ ts', okP t
  | [], ts', m, m', h1, h2, h => by
    simp only [rowP] at h
    cases h
    exact ⟨h2, h1⟩
  | t :: ts, ts', m, m', h1, h2, h => by
    simp only [rowP] at h
    cases h3 : besS m t with
    | none => rw [h3] at h; cases h
    | some p =>
      rw [h3] at h
      simp only [Option.bind_some] at h
      cases h4 : rowP besS p.2 ts with
      | none => rw [h4] at h; cases h
      | some q =>
        rw [h4] at h
        cases h
        obtain ⟨k1, k2⟩ := bes_ok h2 (h1 t List.mem_cons_self) (b' := p.1) (a' := p.2) h3
        obtain ⟨k3, k4⟩ := row_ok (fun x hx => h1 x (List.mem_cons_of_mem _ hx)) k2 h4
        exact ⟨k3, fun x hx => (List.mem_cons.mp hx).elim (fun e => e ▸ k1) (k4 x)⟩
theorem way_ok {ms ts L : List Stp} (w : Way besS ms ts L) : (∀ m ∈ ms, okP m) → (∀ t ∈ ts, okP t) → ∀ x ∈ L, okP x := by
  induction w with
  | nil => exact fun _ _ x hx => by cases hx
  | @mine m m' ms ts ts' L h w ih =>
    intro h1 h2
    obtain ⟨k1, k2⟩ := row_ok h2 (h1 m List.mem_cons_self) h
    have := ih (fun x hx => h1 x (List.mem_cons_of_mem _ hx)) k2
    exact fun x hx => (List.mem_cons.mp hx).elim (fun e => e ▸ h1 m List.mem_cons_self) (this x)
  | @theirs t t' ms ms' ts L h w ih =>
    intro h1 h2
    obtain ⟨k1, k2, _⟩ := col_ok h1 (h2 t List.mem_cons_self) h
    have := ih k2 (fun x hx => h2 x (List.mem_cons_of_mem _ hx))
    exact fun x hx => (List.mem_cons.mp hx).elim (fun e => e ▸ h2 t List.mem_cons_self) (this x)
theorem way_len {ms ts L : List Stp} (w : Way besS ms ts L) : L.length = ms.length + ts.length := by
  induction w with
  | nil => rfl
  | @mine m m' ms ts ts' L h w ih =>
    have := congrArg List.length (row_names h).2
    rw [List.length_map, List.length_map] at this
    rw [List.length_cons, List.length_cons, ih]
    omega
  | @theirs t t' ms ms' ts L h w ih =>
    have := congrArg List.length (col_names h).2
    rw [List.length_map, List.length_map] at this
    rw [List.length_cons, List.length_cons, ih]
    omega
/-- whether a step is one of mine, by its name -/
def isMn (mn : List Str) (r : Stp) : Bool := decide (r.name ∈ mn)
theorem bes_kind (mn : List Str) : ∀ a b b' a' : Stp, besS a b = some (b', a') → isMn mn b' = isMn mn b ∧ isMn mn a' = isMn mn a := fun a b b' a' h => by
  obtain ⟨x, y, _, rfl, rfl⟩ := bes_get h
  exact ⟨rfl, rfl⟩
theorem kind_names {mn : List Str} {as bs : List Stp} {v : Bool} (e : as.map Stp.name = bs.map Stp.name) (h : ∀ b ∈ bs, isMn mn b = v) : ∀ a ∈ as, isMn mn a = v := fun a ha => by
  have : a.name ∈ bs.map Stp.name := e ▸ List.mem_map.mpr ⟨a, ha, rfl⟩
  obtain ⟨b, hb, e2⟩ := List.mem_map.mp this
  rw [← h b hb]
  unfold isMn
  rw [e2]
theorem way_names {mn : List Str} {ms ts L : List Stp} (w : Way besS ms ts L) : (∀ m ∈ ms, isMn mn m = true) → (∀ t ∈ ts, isMn mn t = false) → (L.filter (isMn mn)).map Stp.name = ms.map Stp.name ∧ (L.filter fun r => !isMn mn r).map Stp.name = ts.map Stp.name := by
  induction w with
  | nil => exact fun _ _ => ⟨rfl, rfl⟩
  | @mine m m' ms ts ts' L h w ih =>
    intro h1 h2
    obtain ⟨_, k2⟩ := row_names h
    obtain ⟨i1, i2⟩ := ih (fun x hx => h1 x (List.mem_cons_of_mem _ hx)) (kind_names k2 h2)
    have hm := h1 m List.mem_cons_self
    rw [List.filter_cons, List.filter_cons, hm]
    simp only [if_true, Bool.not_true, Bool.false_eq_true, if_false, List.map_cons]
    exact ⟨by rw [i1], i2.trans k2⟩
  | @theirs t t' ms ms' ts L h w ih =>
    intro h1 h2
    obtain ⟨_, k2⟩ := col_names h
    obtain ⟨i1, i2⟩ := ih (kind_names k2 h1) (fun x hx => h2 x (List.mem_cons_of_mem _ hx))
    have hm := h2 t List.mem_cons_self
    rw [List.filter_cons, List.filter_cons, hm]
    simp only [if_true, Bool.not_false, Bool.false_eq_true, if_false, List.map_cons]
    exact ⟨i1.trans k2, by rw [i2]⟩
theorem way_mem {mn : List Str} {ms ts L : List Stp} (w : Way besS ms ts L) (h1 : ∀ m ∈ ms, isMn mn m = true) (h2 : ∀ t ∈ ts, isMn mn t = false) : ∀ x ∈ L, x.name ∈ (ts ++ ms).map Stp.name := fun x hx => by
  obtain ⟨a, b⟩ := way_names w h1 h2
  rw [List.map_append]
  cases e : isMn mn x with
  | true =>
    refine List.mem_append_right _ ?_
    rw [← a]
    exact List.mem_map.mpr ⟨x, List.mem_filter.mpr ⟨hx, e⟩, rfl⟩
  | false =>
    refine List.mem_append_left _ ?_
    rw [← b]
    exact List.mem_map.mpr ⟨x, List.mem_filter.mpr ⟨hx, by rw [e]; rfl⟩, rfl⟩
theorem perm_filter {α : Type} (p : α → Bool) : ∀ L : List α, ((L.filter fun x => !p x) ++ L.filter p).Perm L
  | [] => .refl _
  | x :: L => by
    have ih := perm_filter p L
    rw [List.filter_cons, List.filter_cons]
    cases e : p x with
    | true =>
      simp only [Bool.not_true, Bool.false_eq_true, if_false, if_true]
      exact List.perm_middle.trans (.cons x ih)
    | false =>
      simp only [Bool.not_false, Bool.false_eq_true, if_false, if_true]
      exact .cons x ih
theorem way_perm {mn : List Str} {ms ts L : List Stp} (w : Way besS ms ts L) (h1 : ∀ m ∈ ms, isMn mn m = true) (h2 : ∀ t ∈ ts, isMn mn t = false) : ((ts ++ ms).map Stp.name).Perm (L.map Stp.name) := by
  obtain ⟨a, b⟩ := way_names w h1 h2
  rw [List.map_append, ← a, ← b, ← List.map_append]
  exact (perm_filter _ _).map _
/-! ### places -/
theorem idx_at {x : Str} : ∀ {P R : List Str}, (P ++ x :: R).Nodup → (P ++ x :: R).idxOf x = P.length
  | [], R, _ => by simp
  | p :: P, R, nd => by
    have nd : (p :: (P ++ x :: R)).Nodup := nd
    have n2 := List.nodup_cons.mp nd
    have ne : p ≠ x := fun e => n2.1 (e ▸ by simp)
    show (p :: (P ++ x :: R)).idxOf x = _
    rw [List.idxOf_cons, show (p == x) = false from by simpa using ne, idx_at n2.2]
    rfl
theorem idx_lt {x y : Str} {l P R : List Str} (nd : l.Nodup) (e : l = P ++ x :: y :: R) : l.idxOf x < l.idxOf y := by
  have e2 : l = (P ++ [x]) ++ y :: R := by rw [e]; simp
  have a := idx_at (e ▸ nd)
  have b := idx_at (e2 ▸ nd)
  rw [← e] at a
  rw [← e2] at b
  rw [a, b]
  simp
theorem astray_some {ns : List Str} {L : List Stp} {i : Nat} (h : astray ns L = some i) : ∃ A a b B, L = A ++ a :: b :: B ∧ A.length = i ∧ ns.idxOf b.name < ns.idxOf a.name := by
  obtain ⟨h1, h2, _⟩ := List.find?_range_eq_some.mp h
  have hi := List.mem_range.mp h2
  have ha : L[i]? = some (L[i]'(by omega)) := List.getElem?_eq_getElem _
  have hb : L[i + 1]? = some (L[i + 1]'(by omega)) := List.getElem?_eq_getElem _
  unfold lateK at h1
  rw [ha, hb] at h1
  refine ⟨L.take i, L[i]'(by omega), L[i + 1]'(by omega), L.drop (i + 2), ?_, by rw [List.length_take]; omega, of_decide_eq_true h1⟩
  have e1 : L.drop (i + 1) = L[i + 1]'(by omega) :: L.drop (i + 2) := List.drop_eq_getElem_cons (by omega)
  have e0 : L.drop i = L[i]'(by omega) :: L.drop (i + 1) := List.drop_eq_getElem_cons (by omega)
  rw [← e1, ← e0, List.take_append_drop]
theorem astray_none {ns : List Str} {L : List Stp} (h : astray ns L = none) {A B : List Stp} {a b : Stp} (e : L = A ++ a :: b :: B) : ¬ ns.idxOf b.name < ns.idxOf a.name := fun z => by
  have := List.find?_eq_none.mp h A.length (List.mem_range.mpr (by rw [e]; simp))
  refine this ?_
  unfold lateK
  have ha : L[A.length]? = some a := by rw [e]; simp
  have hb : L[A.length + 1]? = some b := by rw [e, List.getElem?_append_right (by omega)]; simp
  rw [ha, hb]
  exact decide_eq_true z
section
variable {ms ts L : List Stp} {mn : List Str} (w : Way besS ms ts L) (emn : mn = ms.map Stp.name) (nd : ((ts ++ ms).map Stp.name).Nodup)
theorem isM_ms (emn : mn = ms.map Stp.name) : ∀ m ∈ ms, isMn mn m = true := fun m hm => decide_eq_true (emn ▸ List.mem_map.mpr ⟨m, hm, rfl⟩)
theorem isM_ts (emn : mn = ms.map Stp.name) (nd : ((ts ++ ms).map Stp.name).Nodup) : ∀ t ∈ ts, isMn mn t = false := fun t ht => decide_eq_false fun z => by
  rw [List.map_append] at nd
  exact (List.nodup_append.mp nd).2.2 _ (List.mem_map.mpr ⟨t, ht, rfl⟩) _ (emn ▸ z) rfl
theorem idx_m (emn : mn = ms.map Stp.name) (nd : ((ts ++ ms).map Stp.name).Nodup) {x : Str} (hx : x ∈ mn) : ((ts ++ ms).map Stp.name).idxOf x = ts.length + mn.idxOf x := by
  rw [List.map_append] at nd ⊢
  have n2 : x ∉ ts.map Stp.name := fun z => (List.nodup_append.mp nd).2.2 _ z _ (emn ▸ hx) rfl
  rw [List.idxOf_append, if_neg n2, List.length_map, ← emn, Nat.add_comm]
theorem idx_t {x : Str} (hx : x ∈ ts.map Stp.name) : ((ts ++ ms).map Stp.name).idxOf x = (ts.map Stp.name).idxOf x ∧ (ts.map Stp.name).idxOf x < ts.length := by
  rw [List.map_append, List.idxOf_append, if_pos hx]
  exact ⟨rfl, by have := List.idxOf_lt_length_iff.mpr hx; rw [List.length_map] at this; exact this⟩
include w emn nd
/-- who stands astray: one of mine ahead of one of theirs -/
theorem astray_kind {A B : List Stp} {a b : Stp} (e : L = A ++ a :: b :: B) (lt : ((ts ++ ms).map Stp.name).idxOf b.name < ((ts ++ ms).map Stp.name).idxOf a.name) : isMn mn a = true ∧ isMn mn b = false := by
  have h1 := isM_ms emn
  have h2 := isM_ts emn nd
  obtain ⟨n1, n2⟩ := way_names w h1 h2
  have nd' := nd
  rw [List.map_append] at nd'
  obtain ⟨ndt, ndm, _⟩ := List.nodup_append.mp nd'
  have inm : ∀ x ∈ L, isMn mn x = false → x.name ∈ ts.map Stp.name := fun x hx h => by
    rw [← n2]
    exact List.mem_map.mpr ⟨x, List.mem_filter.mpr ⟨hx, by rw [h]; rfl⟩, rfl⟩
  have ma : a ∈ L := by rw [e]; simp
  have mb : b ∈ L := by rw [e]; simp
  cases ka : isMn mn a with
  | true =>
    refine ⟨rfl, ?_⟩
    cases kb : isMn mn b with
    | false => rfl
    | true =>
      exfalso
      rw [idx_m emn nd (of_decide_eq_true ka), idx_m emn nd (of_decide_eq_true kb)] at lt
      rw [e, List.filter_append, List.filter_cons, if_pos ka, List.filter_cons, if_pos kb, List.map_append, ← emn] at n1
      have := idx_lt (emn ▸ ndm) n1.symm
      omega
  | false =>
    exfalso
    have ia := idx_t (ms := ms) (inm a ma ka)
    cases kb : isMn mn b with
    | true =>
      rw [idx_m emn nd (of_decide_eq_true kb)] at lt
      omega
    | false =>
      have ib := idx_t (ms := ms) (inm b mb kb)
      rw [ia.1, ib.1] at lt
      rw [e, List.filter_append, List.filter_cons, if_pos (by rw [ka]; rfl), List.filter_cons, if_pos (by rw [kb]; rfl), List.map_append] at n2
      have := idx_lt ndt n2.symm
      omega
theorem astray_done (h : astray ((ts ++ ms).map Stp.name) L = none) : ∃ f g, besF besS ms ts = some (f, g) ∧ L = ts ++ g := by
  have h1 := isM_ms emn
  have h2 := isM_ts emn nd
  refine way_done (isMn mn) (bes_kind mn) h1 h2 w ?_
  obtain ⟨n1, n2⟩ := way_names w h1 h2
  have key : ∀ (r A : List Stp), L = A ++ r → NoInv (isMn mn) r := fun r => by
    induction r with
    | nil => exact fun _ _ => trivial
    | cons a r ih =>
      intro A e
      cases r with
      | nil => trivial
      | cons b r =>
        refine ⟨fun ka => ?_, ih (A ++ [a]) (by rw [e]; simp)⟩
        cases kb : isMn mn b with
        | true => rfl
        | false =>
          exfalso
          refine astray_none h e ?_
          have mb : b.name ∈ ts.map Stp.name := by
            rw [← n2]
            exact List.mem_map.mpr ⟨b, List.mem_filter.mpr ⟨by rw [e]; simp, by rw [kb]; rfl⟩, rfl⟩
          rw [idx_m emn nd (of_decide_eq_true ka), (idx_t mb).1]
          have := (idx_t (ms := ms) mb).2
          omega
  exact key L [] rfl
theorem astray_turn {A B : List Stp} {a b : Stp} (e : L = A ++ a :: b :: B) (lt : ((ts ++ ms).map Stp.name).idxOf b.name < ((ts ++ ms).map Stp.name).idxOf a.name) : ∃ b0 a', pasS a b = some (b0, a') ∧ Way besS ms ts (A ++ b0 :: a' :: B) ∧ invB ((A ++ b0 :: a' :: B).map (isMn mn)) < invB (L.map (isMn mn)) := by
  have h1 := isM_ms emn
  have h2 := isM_ts emn nd
  obtain ⟨ka, kb⟩ := astray_kind w emn nd e lt
  obtain ⟨b0, a', p1, p2, p3, p4⟩ := way_flip (isMn mn) (bes_kind mn) pasS (fun a b b' a' h => bes_pas h) h1 h2 (e ▸ w) ka kb
  refine ⟨b0, a', p1, p4, ?_⟩
  rw [e]
  simp only [List.map_append, List.map_cons, ka, kb, p2, p3]
  have := inv_flip (A.map (isMn mn)) (B.map (isMn mn))
  omega
end
end K20

/-! Neighbours that pass: whoever leads to a rising list, whatever inverted pair is turned first. -/
namespace KCf
section
variable {C : Type} (pas : C → C → Option (C × C))
def one (a b c : C) : Option (C × C × C) := (pas a b).bind fun p => (pas p.2 c).bind fun q => (pas p.1 q.1).bind fun r => some (r.1, r.2, q.2)
def oth (a b c : C) : Option (C × C × C) := (pas b c).bind fun p => (pas a p.1).bind fun q => (pas q.2 p.2).bind fun r => some (q.1, r.1, r.2)
/-- neighbours turned -/
inductive Tn : List C → List C → Prop
  | mk {A B : List C} {a b b' a' : C} : pas a b = some (b', a') → Tn (A ++ a :: b :: B) (A ++ b' :: a' :: B)
/-- some turns lead there -/
inductive Ld : List C → List C → Prop
  | refl {R : List C} : Ld R R
  | step {R R' S : List C} : Tn pas R R' → Ld R' S → Ld R S
theorem Ld.snoc {R S S' : List C} (h : Ld pas R S) (t : Tn pas S S') : Ld pas R S' := by
  induction h with
  | refl => exact .step t .refl
  | step t0 _ ih => exact .step t0 (ih t)
end
def invN : List Nat → Nat
  | [] => 0
  | x :: r => (r.filter fun y => decide (y < x)).length + invN r
theorem inv_flip {x y : Nat} (h : y < x) : ∀ (A B : List Nat), invN (A ++ x :: y :: B) = invN (A ++ y :: x :: B) + 1
  | [], B => by
    show ((y :: B).filter fun z => decide (z < x)).length + (((B.filter fun z => decide (z < y)).length) + invN B) = ((x :: B).filter fun z => decide (z < y)).length + ((B.filter fun z => decide (z < x)).length + invN B) + 1
    rw [List.filter_cons_of_pos (by simpa using h), List.filter_cons_of_neg (by simp; omega), List.length_cons]
    omega
  | z :: A, B => by
    have ih := inv_flip h A B
    show ((A ++ x :: y :: B).filter fun u => decide (u < z)).length + invN (A ++ x :: y :: B) = ((A ++ y :: x :: B).filter fun u => decide (u < z)).length + invN (A ++ y :: x :: B) + 1
    have e : ((A ++ x :: y :: B).filter fun u => decide (u < z)).length = ((A ++ y :: x :: B).filter fun u => decide (u < z)).length := by
      rw [List.filter_append, List.filter_append, List.length_append, List.length_append]
      congr 1
      simp only [List.filter_cons]
      split <;> split <;> simp
    omega
section
variable {C : Type} {pas : C → C → Option (C × C)} {ix : C → Nat}
/-- only inverted pairs are turned, until none is left -/
inductive D (pas : C → C → Option (C × C)) (ix : C → Nat) : List C → List C → Prop
  | done {R : List C} : (∀ A B a b, R = A ++ a :: b :: B → ¬ ix b < ix a) → D pas ix R R
  | step {A B : List C} {a b b' a' : C} {S : List C} : ix b < ix a → pas a b = some (b', a') → D pas ix (A ++ b' :: a' :: B) S → D pas ix (A ++ a :: b :: B) S
variable (hix : ∀ {a b b' a'}, pas a b = some (b', a') → ix b' = ix b ∧ ix a' = ix a) (hinv : ∀ {a b b' a'}, pas a b = some (b', a') → pas b' a' = some (a, b)) (hcube : ∀ a b c, one pas a b c = oth pas a b c)
include hix in
theorem inv_turn {A B : List C} {a b b' a' : C} (h : pas a b = some (b', a')) (lt : ix b < ix a) : invN ((A ++ a :: b :: B).map ix) = invN ((A ++ b' :: a' :: B).map ix) + 1 := by
  obtain ⟨e1, e2⟩ := hix h
  simp only [List.map_append, List.map_cons, e1, e2]
  exact inv_flip lt _ _
theorem two_cuts {A A0 B B0 : List C} {a b a0 b0 : C} (e : A ++ a :: b :: B = A0 ++ a0 :: b0 :: B0) :
    (A = A0 ∧ a = a0 ∧ b = b0 ∧ B = B0) ∨ (A0 = A ++ [a] ∧ a0 = b ∧ B = b0 :: B0) ∨ (A = A0 ++ [a0] ∧ b0 = a ∧ B0 = b :: B) ∨ (∃ M, A0 = A ++ a :: b :: M ∧ B = M ++ a0 :: b0 :: B0) ∨ (∃ M, A = A0 ++ a0 :: b0 :: M ∧ B0 = M ++ a :: b :: B) := by
  rcases List.append_eq_append_iff.mp e with ⟨M, h1, h2⟩ | ⟨M, h1, h2⟩
  · match M, h1, h2 with
    | [], h1, h2 =>
      simp at h1 h2
      exact .inl ⟨h1.symm, h2.1, h2.2.1, h2.2.2⟩
    | [m], h1, h2 =>
      simp at h2
      obtain ⟨rfl, rfl, rfl⟩ := h2
      exact .inr (.inl ⟨h1, rfl, rfl⟩)
    | m :: n :: M, h1, h2 =>
      simp at h2
      obtain ⟨rfl, rfl, rfl⟩ := h2
      exact .inr (.inr (.inr (.inl ⟨M, h1, rfl⟩)))
  · match M, h1, h2 with
    | [], h1, h2 =>
      simp at h1 h2
      exact .inl ⟨h1, h2.1.symm, h2.2.1.symm, h2.2.2.symm⟩
    | [m], h1, h2 =>
      simp at h2
      obtain ⟨rfl, rfl, rfl⟩ := h2
      exact .inr (.inr (.inl ⟨h1, rfl, rfl⟩))
    | m :: n :: M, h1, h2 =>
      simp at h2
      obtain ⟨rfl, rfl, rfl⟩ := h2
      exact .inr (.inr (.inr (.inr ⟨M, h1, rfl⟩)))
include hix hcube in
/-- whatever inverted pair is turned first -/
theorem any_first : ∀ (n : Nat) {R S : List C}, invN (R.map ix) ≤ n → D pas ix R S → ∀ {A B : List C} {a b : C}, R = A ++ a :: b :: B → ix b < ix a → ∃ b' a', pas a b = some (b', a') ∧ D pas ix (A ++ b' :: a' :: B) S := by
  intro n
  induction n with
  | zero =>
    intro R S hn d A B a b e lt
    exfalso
    subst e
    have : invN ((A ++ a :: b :: B).map ix) = invN ((A.map ix) ++ ix a :: ix b :: B.map ix) := by simp
    rw [this, inv_flip lt] at hn
    omega
  | succ n ih =>
    intro R S hn d A B a b e lt
    cases d with
    | done h => exact absurd lt (h _ _ _ _ e)
    | @step A0 B0 a0 b0 b0' a0' _ lt0 p0 d0 =>
      have m0 := inv_turn hix (A := A0) (B := B0) p0 lt0
      obtain ⟨e1, e2⟩ := hix p0
      have hn0 : invN ((A0 ++ b0' :: a0' :: B0).map ix) ≤ n := by omega
      rcases two_cuts e.symm with ⟨rfl, rfl, rfl, rfl⟩ | ⟨rfl, rfl, rfl⟩ | ⟨rfl, rfl, rfl⟩ | ⟨M, rfl, rfl⟩ | ⟨M, rfl, rfl⟩
      · exact ⟨_, _, p0, d0⟩
      · -- the first turned pair stands one further on: a, b, b0 with (b, b0) turned
        obtain ⟨c1, a1, p1, d1⟩ := ih hn0 d0 (A := A) (B := a0' :: B0) (a := a) (b := b0') (by simp) (by rw [e1]; omega)
        obtain ⟨f1, f2⟩ := hix p1
        have m1 := inv_turn hix (A := A) (B := a0' :: B0) p1 (by rw [e1]; omega)
        have el : A ++ [a] ++ b0' :: a0' :: B0 = A ++ a :: b0' :: a0' :: B0 := by simp
        rw [el] at hn0
        obtain ⟨b2, a2, p2, d2⟩ := ih (by omega) d1 (A := A ++ [c1]) (B := B0) (a := a1) (b := a0') (by simp) (by rw [f2, e2]; exact lt)
        have ho : oth pas a a0 b0 = some (c1, b2, a2) := by
          unfold oth
          rw [p0]
          simp only [Option.bind_some]
          rw [p1]
          simp only [Option.bind_some]
          rw [p2]
          rfl
        rw [← hcube] at ho
        unfold one at ho
        cases q1 : pas a a0 with
        | none => rw [q1] at ho; cases ho
        | some x =>
          rw [q1] at ho
          simp only [Option.bind_some] at ho
          cases q2 : pas x.2 b0 with
          | none => rw [q2] at ho; cases ho
          | some y =>
            rw [q2] at ho
            simp only [Option.bind_some] at ho
            cases q3 : pas x.1 y.1 with
            | none => rw [q3] at ho; cases ho
            | some z =>
              rw [q3] at ho
              cases ho
              obtain ⟨g1, g2⟩ := hix (b' := x.1) (a' := x.2) q1
              obtain ⟨g3, g4⟩ := hix (b' := y.1) (a' := y.2) q2
              refine ⟨x.1, x.2, rfl, ?_⟩
              have s1 : D pas ix ((A ++ [x.1]) ++ x.2 :: b0 :: B0) S := .step (by rw [g2]; omega) (b' := y.1) (a' := y.2) q2 (by
                have s2 : D pas ix (A ++ x.1 :: y.1 :: (y.2 :: B0)) S := .step (by rw [g1, g3]; exact lt0) (b' := z.1) (a' := z.2) q3 (by simpa using d2)
                simpa using s2)
              simpa using s1
      · -- one ahead: a0, a, b with (a0, a) turned
        obtain ⟨c1, a1, p1, d1⟩ := ih hn0 d0 (A := A0 ++ [b0']) (B := B) (a := a0') (b := b) (by simp) (by rw [e2]; omega)
        obtain ⟨f1, f2⟩ := hix p1
        have m1 := inv_turn hix (A := A0 ++ [b0']) (B := B) p1 (by rw [e2]; omega)
        have el : A0 ++ [b0'] ++ a0' :: b :: B = A0 ++ b0' :: a0' :: b :: B := by simp
        rw [el] at m1
        obtain ⟨c2, b2, p2, d2⟩ := ih (by omega) d1 (A := A0) (B := a1 :: B) (a := b0') (b := c1) (by simp) (by rw [f1, e1]; exact lt)
        have ho : one pas a0 b0 b = some (c2, b2, a1) := by
          unfold one
          rw [p0]
          simp only [Option.bind_some]
          rw [p1]
          simp only [Option.bind_some]
          rw [p2]
          rfl
        rw [hcube] at ho
        unfold oth at ho
        cases q1 : pas b0 b with
        | none => rw [q1] at ho; cases ho
        | some x =>
          rw [q1] at ho
          simp only [Option.bind_some] at ho
          cases q2 : pas a0 x.1 with
          | none => rw [q2] at ho; cases ho
          | some y =>
            rw [q2] at ho
            simp only [Option.bind_some] at ho
            cases q3 : pas y.2 x.2 with
            | none => rw [q3] at ho; cases ho
            | some z =>
              rw [q3] at ho
              cases ho
              obtain ⟨g1, g2⟩ := hix (b' := x.1) (a' := x.2) q1
              obtain ⟨g3, g4⟩ := hix (b' := y.1) (a' := y.2) q2
              refine ⟨x.1, x.2, rfl, ?_⟩
              have s1 : D pas ix (A0 ++ a0 :: x.1 :: (x.2 :: B)) S := .step (by rw [g1]; omega) (b' := y.1) (a' := y.2) q2 (by
                have s2 : D pas ix ((A0 ++ [y.1]) ++ y.2 :: x.2 :: B) S := .step (by rw [g4, g2]; exact lt0) (b' := z.1) (a' := z.2) q3 (by simpa using d2)
                simpa using s2)
              simpa using s1
      · obtain ⟨c1, a1, p1, d1⟩ := ih hn0 d0 (A := A) (B := M ++ b0' :: a0' :: B0) (a := a) (b := b) (by simp) lt
        refine ⟨c1, a1, p1, ?_⟩
        have s : D pas ix ((A ++ c1 :: a1 :: M) ++ a0 :: b0 :: B0) S := .step lt0 p0 (by simpa using d1)
        simpa using s
      · obtain ⟨c1, a1, p1, d1⟩ := ih hn0 d0 (A := A0 ++ b0' :: a0' :: M) (B := B) (a := a) (b := b) (by simp) lt
        refine ⟨c1, a1, p1, ?_⟩
        have s : D pas ix (A0 ++ a0 :: b0 :: (M ++ c1 :: a1 :: B)) S := .step lt0 p0 (by simpa using d1)
        simpa using s
include hix hcube in
theorem D.first {R S : List C} (d : D pas ix R S) {A B : List C} {a b : C} (e : R = A ++ a :: b :: B) (lt : ix b < ix a) : ∃ b' a', pas a b = some (b', a') ∧ D pas ix (A ++ b' :: a' :: B) S :=
  any_first hix hcube _ (Nat.le_refl _) d e lt
include hix hcube in
theorem D.uniq : ∀ (n : Nat) {R S S' : List C}, invN (R.map ix) ≤ n → D pas ix R S → D pas ix R S' → S = S' := by
  intro n
  induction n with
  | zero =>
    intro R S S' hn d d'
    cases d with
    | done h =>
      generalize eR : R = R0 at d'
      cases d' with
      | done _ => rfl
      | @step A B a b b' a' _ lt p _ => exact absurd lt (h _ _ _ _ eR)
    | @step A B a b b' a' _ lt p _ =>
      have := inv_turn hix (A := A) (B := B) p lt
      omega
  | succ n ih =>
    intro R S S' hn d d'
    cases d with
    | done h =>
      generalize eR : R = R0 at d'
      cases d' with
      | done _ => rfl
      | @step A B a b b' a' _ lt p _ => exact absurd lt (h _ _ _ _ eR)
    | @step A B a b b' a' _ lt p d0 =>
      have m := inv_turn hix (A := A) (B := B) p lt
      obtain ⟨b2, a2, p2, d2⟩ := D.first hix hcube d' rfl lt
      rw [p] at p2
      cases p2
      exact ih (by omega) d0 d2
include hix hinv hcube in
theorem D.back {R R' S : List C} (t : Tn pas R R') (d : D pas ix R' S) (ne : ∀ A B a b, R = A ++ a :: b :: B → ix a ≠ ix b) : D pas ix R S := by
  cases t with
  | @mk A B a b b' a' p =>
    by_cases lt : ix b < ix a
    · exact .step lt p d
    · obtain ⟨e1, e2⟩ := hix p
      have := ne _ _ _ _ rfl
      obtain ⟨x, y, q, d2⟩ := D.first hix hcube d rfl (by rw [e1, e2]; omega)
      rw [hinv p] at q
      cases q
      exact d2
theorem D.ld {R S : List C} (d : D pas ix R S) : Ld pas R S := by
  induction d with
  | done _ => exact .refl
  | step lt p _ ih => exact .step (.mk p) ih
theorem D.end {R S : List C} (d : D pas ix R S) : ∀ A B a b, S = A ++ a :: b :: B → ¬ ix b < ix a := by
  induction d with
  | done h => exact h
  | step lt p _ ih => exact ih
end
end KCf

/-! Steps that pass: back again, three by either way. -/
namespace K20
open PySem PySem.Spec PyProof.Rows L2 KD KP KGr
def pasL (a b : Stp) : Option (Stp × Stp) := if 0 < a.os.length + a.ns.length ∧ 0 < b.os.length + b.ns.length then pasS a b else none
theorem pasL_live {a b : Stp} (ha : Lv a) (hb : Lv b) : pasL a b = pasS a b := if_pos ⟨ha, hb⟩
theorem pasL_lv {a b : Stp} {p : Stp × Stp} (h : pasL a b = some p) : Lv a ∧ Lv b ∧ pasS a b = some p := by
  unfold pasL at h
  split at h
  · rename_i g
    exact ⟨g.1, g.2, h⟩
  · cases h
theorem pasS_get {a b b' a' : Stp} (h : pasS a b = some (b', a')) : ∃ x y, passZ a.p a.os.length a.ns.length b.p b.os.length b.ns.length = some (x, y) ∧ b' = { b with p := x } ∧ a' = { a with p := y } := by
  unfold pasS at h
  cases e : passZ a.p a.os.length a.ns.length b.p b.os.length b.ns.length with
  | none => rw [e] at h; cases h
  | some z =>
    rw [e] at h
    cases h
    exact ⟨z.1, z.2, rfl, rfl, rfl⟩
def ixN (ns : List Str) (r : Stp) : Nat := ns.idxOf r.name
theorem pas_ix (ns : List Str) {a b b' a' : Stp} (h : pasL a b = some (b', a')) : ixN ns b' = ixN ns b ∧ ixN ns a' = ixN ns a := by
  obtain ⟨x, y, _, rfl, rfl⟩ := pasS_get (pasL_lv h).2.2
  exact ⟨rfl, rfl⟩
theorem passZ_back {p q x y : Int} {a b c d : Nat} (h1 : 0 < a + b) (h2 : 0 < c + d) (h : passZ p a b q c d = some (x, y)) : passZ x c d y a b = some (p, q) := by
  unfold passZ passK at h ⊢
  split at h
  · cases h
    rw [if_neg (by omega), if_pos (by omega)]
    refine congrArg some (Prod.ext ?_ ?_) <;> dsimp only <;> omega
  · split at h
    · cases h
      rw [if_pos (by omega)]
      refine congrArg some (Prod.ext ?_ ?_) <;> dsimp only <;> omega
    · cases h
theorem pas_inv {a b b' a' : Stp} (h : pasL a b = some (b', a')) : pasL b' a' = some (a, b) := by
  obtain ⟨ha, hb, h⟩ := pasL_lv h
  obtain ⟨x, y, e, rfl, rfl⟩ := pasS_get h
  rw [pasL_live (show Lv { b with p := x } from hb) (show Lv { a with p := y } from ha)]
  unfold pasS
  show (passZ x b.os.length b.ns.length y a.os.length a.ns.length).map _ = _
  rw [passZ_back ha hb e]
  rfl
theorem pas_map {a b : Stp} (ha : Lv a) (hb : Lv b) : pasL a b = (passZ a.p a.os.length a.ns.length b.p b.os.length b.ns.length).map fun z => ({ b with p := z.1 }, { a with p := z.2 }) := pasL_live ha hb
theorem pas_dead {a b : Stp} (h : ¬ (Lv a ∧ Lv b)) : pasL a b = none := if_neg h
theorem pas_cube (a b c : Stp) : KCf.one pasL a b c = KCf.oth pasL a b c := by
  by_cases hb : Lv b
  rotate_left
  · unfold KCf.one KCf.oth
    rw [pas_dead fun z => hb z.2, pas_dead fun z => hb z.1]
    rfl
  by_cases ha : Lv a
  rotate_left
  · unfold KCf.one KCf.oth
    rw [pas_dead fun z => ha z.1]
    cases e : pasL b c with
    | none => rfl
    | some p =>
      show none = (pasL a p.1).bind _
      rw [pas_dead fun z => ha z.1]
      rfl
  by_cases hc : Lv c
  rotate_left
  · unfold KCf.one KCf.oth
    rw [pas_dead (a := b) (b := c) fun z => hc z.2]
    cases e : pasL a b with
    | none => rfl
    | some p =>
      show (pasL p.2 c).bind _ = none
      rw [pas_dead fun z => hc z.2]
      rfl
  have h1 : KCf.one pasL a b c = (oneZ a.p a.os.length a.ns.length b.p b.os.length b.ns.length c.p c.os.length c.ns.length).map fun z => ({ c with p := z.1 }, { b with p := z.2.1 }, { a with p := z.2.2 }) := by
    unfold KCf.one
    rw [oneZ_eq, pas_map ha hb]
    cases passZ a.p a.os.length a.ns.length b.p b.os.length b.ns.length with
    | none => rfl
    | some xy =>
      simp only [Option.map_some, Option.bind_some]
      rw [pas_map (show Lv { a with p := xy.2 } from ha) hc]
      cases passZ xy.2 a.os.length a.ns.length c.p c.os.length c.ns.length with
      | none => rfl
      | some uv =>
        simp only [Option.map_some, Option.bind_some]
        rw [pas_map (show Lv { b with p := xy.1 } from hb) (show Lv { c with p := uv.1 } from hc)]
        cases passZ xy.1 b.os.length b.ns.length uv.1 c.os.length c.ns.length with
        | none => rfl
        | some st => rfl
  have h2 : KCf.oth pasL a b c = (othZ a.p a.os.length a.ns.length b.p b.os.length b.ns.length c.p c.os.length c.ns.length).map fun z => ({ c with p := z.1 }, { b with p := z.2.1 }, { a with p := z.2.2 }) := by
    unfold KCf.oth
    rw [othZ_eq, pas_map hb hc]
    cases passZ b.p b.os.length b.ns.length c.p c.os.length c.ns.length with
    | none => rfl
    | some xy =>
      simp only [Option.map_some, Option.bind_some]
      rw [pas_map ha (show Lv { c with p := xy.1 } from hc)]
      cases passZ a.p a.os.length a.ns.length xy.1 c.os.length c.ns.length with
      | none => rfl
      | some uv =>
        simp only [Option.map_some, Option.bind_some]
        rw [pas_map (show Lv { a with p := uv.2 } from ha) (show Lv { b with p := xy.2 } from hb)]
        cases passZ uv.2 a.os.length a.ns.length xy.2 b.os.length b.ns.length with
        | none => rfl
        | some st => rfl
  rw [h1, h2, cube _ _ _ _ _ _ _ _ _ (by omega) (by omega) (by omega) (by omega) (by omega) (by omega) (by have : 0 < a.os.length + a.ns.length := ha; omega) (by have : 0 < b.os.length + b.ns.length := hb; omega) (by have : 0 < c.os.length + c.ns.length := hc; omega)]
/-! ### what a run leads to -/
/-- the run of a list of names to which a run leads -/
def To (ns : List Str) (R S : List Stp) : Prop := KCf.D pasL (ixN ns) R S
def turnL (R : List Stp) (i : Nat) : Option (List Stp) := match R[i]?, R[i + 1]? with
  | some a, some b => (pasS a b).map fun p => R.take i ++ [p.1, p.2] ++ R.drop (i + 2)
  | _, _ => none
def walkL (R : List Stp) : List Nat → Option (List Stp)
  | [] => some R
  | i :: is => (turnL R i).bind fun R' => walkL R' is
theorem walk_snoc : ∀ {is : List Nat} {R : List Stp} {i : Nat}, walkL R (is ++ [i]) = (walkL R is).bind fun S => turnL S i
  | [], R, i => by
    show (turnL R i).bind _ = turnL R i
    cases turnL R i <;> rfl
  | j :: is, R, i => by
    show (turnL R j).bind _ = ((turnL R j).bind _).bind _
    cases turnL R j with
    | none => rfl
    | some S => exact walk_snoc (is := is)
theorem cut_at {R : List Stp} {i : Nat} {a b : Stp} (ha : R[i]? = some a) (hb : R[i + 1]? = some b) : R = R.take i ++ a :: b :: R.drop (i + 2) := by
  have hi : i + 1 < R.length := (List.getElem?_eq_some_iff.mp hb).1
  have ea : a = R[i]'(by omega) := (List.getElem?_eq_some_iff.mp ha).2.symm
  have eb : b = R[i + 1]'(by omega) := (List.getElem?_eq_some_iff.mp hb).2.symm
  have e1 : R.drop (i + 1) = R[i + 1]'(by omega) :: R.drop (i + 2) := List.drop_eq_getElem_cons (by omega)
  have e0 : R.drop i = R[i]'(by omega) :: R.drop (i + 1) := List.drop_eq_getElem_cons (by omega)
  rw [ea, eb, ← e1, ← e0, List.take_append_drop]
theorem turn_at {A B : List Stp} {a b b' a' : Stp} (h : pasS a b = some (b', a')) : turnL (A ++ a :: b :: B) A.length = some (A ++ b' :: a' :: B) := by
  unfold turnL
  have e1 : (A ++ a :: b :: B)[A.length]? = some a := by simp
  have e2 : (A ++ a :: b :: B)[A.length + 1]? = some b := by rw [List.getElem?_append_right (by omega)]; simp
  rw [e1, e2]
  show (pasS a b).map _ = _
  rw [h]
  show some (List.take A.length (A ++ a :: b :: B) ++ [b', a'] ++ List.drop (A.length + 2) (A ++ a :: b :: B)) = _
  rw [List.take_left' rfl, List.drop_append]
  simp
theorem turn_get {R S : List Stp} {i : Nat} (h : turnL R i = some S) : ∃ A B a b b' a', R = A ++ a :: b :: B ∧ A.length = i ∧ pasS a b = some (b', a') ∧ S = A ++ b' :: a' :: B := by
  unfold turnL at h
  cases ha : R[i]? with
  | none => rw [ha] at h; cases h
  | some a =>
    cases hb : R[i + 1]? with
    | none => rw [ha, hb] at h; cases h
    | some b =>
      rw [ha, hb] at h
      have h : (pasS a b).map (fun p => R.take i ++ [p.1, p.2] ++ R.drop (i + 2)) = some S := h
      obtain ⟨p, e, rfl⟩ := Option.map_eq_some_iff.mp h
      have hi : i + 1 < R.length := (List.getElem?_eq_some_iff.mp hb).1
      exact ⟨R.take i, R.drop (i + 2), a, b, p.1, p.2, cut_at ha hb, by rw [List.length_take]; omega, e, by simp⟩
theorem pas_ok {a b b' a' : Stp} (ha : okP a) (hb : okP b) (h : pasS a b = some (b', a')) : okP b' ∧ okP a' := by
  obtain ⟨x, y, e, rfl, rfl⟩ := pasS_get h
  obtain ⟨p, ep⟩ := Int.eq_ofNat_of_zero_le ha.2
  obtain ⟨q, eq⟩ := Int.eq_ofNat_of_zero_le hb.2
  rw [ep, eq] at e
  obtain ⟨x', y', rfl, rfl, _⟩ := passZ_nat e
  exact ⟨⟨hb.1, by show (0 : Int) ≤ (x' : Int); omega⟩, ⟨ha.1, by show (0 : Int) ≤ (y' : Int); omega⟩⟩
theorem pas_live {a b : Stp} (ha : okP a) (hb : okP b) : pasL a b = pasS a b := pasL_live ha.1.2.2.2 hb.1.2.2.2
/-- turned, it is as it was but for the order -/
theorem turn_ok {R S : List Stp} {i : Nat} (ok : ∀ r ∈ R, okP r) (h : turnL R i = some S) : (∀ r ∈ S, okP r) ∧ (S.map Stp.name).Perm (R.map Stp.name) ∧ S.length = R.length ∧ KCf.Tn pasL R S := by
  obtain ⟨A, B, a, b, b', a', rfl, _, e, rfl⟩ := turn_get h
  have oa := ok a (by simp)
  have ob := ok b (by simp)
  obtain ⟨o1, o2⟩ := pas_ok oa ob e
  have e2 := e
  obtain ⟨x, y, _, rfl, rfl⟩ := pasS_get e
  refine ⟨fun r hr => ?_, ?_, by simp, .mk (by rw [pas_live oa ob]; exact e2)⟩
  · simp only [List.mem_append, List.mem_cons] at hr
    rcases hr with hr | rfl | rfl | hr
    · exact ok r (by simp [hr])
    · exact o1
    · exact o2
    · exact ok r (by simp [hr])
  · simp only [List.map_append, List.map_cons]
    exact (List.Perm.swap _ _ _).append_left _
theorem walk_ok : ∀ {is : List Nat} {R S : List Stp}, (∀ r ∈ R, okP r) → walkL R is = some S → (∀ r ∈ S, okP r) ∧ (S.map Stp.name).Perm (R.map Stp.name) ∧ S.length = R.length
  | [], R, S, ok, h => by
    cases h
    exact ⟨ok, .refl _, rfl⟩
  | i :: is, R, S, ok, h => by
    obtain ⟨R', h1, h2⟩ := Option.bind_eq_some_iff.mp h
    obtain ⟨a1, a2, a3, _⟩ := turn_ok ok h1
    obtain ⟨b1, b2, b3⟩ := walk_ok a1 h2
    exact ⟨b1, b2.trans a2, b3.trans a3⟩
theorem to_uniq {ns : List Str} {R S S' : List Stp} (h : To ns R S) (h' : To ns R S') : S = S' := KCf.D.uniq (pas_ix ns) pas_cube _ (Nat.le_refl _) h h'
/-- unlike places -/
theorem ix_ne {ns : List Str} {R : List Stp} (nd : (R.map Stp.name).Nodup) (inn : ∀ r ∈ R, r.name ∈ ns) : ∀ A B a b, R = A ++ a :: b :: B → ixN ns a ≠ ixN ns b := fun A B a b e z => by
  have ha := inn a (by rw [e]; simp)
  have hb := inn b (by rw [e]; simp)
  have en : a.name = b.name := by
    have h1 : ns[ns.idxOf a.name]'(List.idxOf_lt_length_iff.mpr ha) = a.name := List.getElem_idxOf _
    have h2 : ns[ns.idxOf b.name]'(List.idxOf_lt_length_iff.mpr hb) = b.name := List.getElem_idxOf _
    unfold ixN at z
    rw [← h1, ← h2]
    congr 1
  rw [e, List.map_append, List.map_cons, List.map_cons] at nd
  have := (List.nodup_append.mp nd).2.1
  rw [en] at this
  exact (List.nodup_cons.mp this).1 List.mem_cons_self
theorem idx_get {l : List Str} (nd : l.Nodup) {i : Nat} (h : i < l.length) : l.idxOf (l[i]'h) = i := by
  have e : l = l.take i ++ l[i]'h :: l.drop (i + 1) := by rw [← List.drop_eq_getElem_cons h, List.take_append_drop]
  obtain ⟨x, hx⟩ : ∃ x, x = l[i]'h := ⟨_, rfl⟩
  rw [← hx] at e ⊢
  have n2 : (l.take i ++ x :: l.drop (i + 1)).Nodup := by rw [← e]; exact nd
  have := idx_at n2
  rw [← e, List.length_take, Nat.min_eq_left (by omega)] at this
  exact this
/-- who is reached has the rising order of names -/
theorem to_names {ns : List Str} : ∀ {S : List Stp}, ns.Nodup → ns.Perm (S.map Stp.name) → (∀ A B a b, S = A ++ a :: b :: B → ¬ ixN ns b < ixN ns a) → S.map Stp.name = ns := fun {S} nd pm h => by
  refine List.Perm.eq_of_pairwise (le := fun x y => ns.idxOf x ≤ ns.idxOf y) (fun x y hx hy h1 h2 => ?_) ?_ ?_ pm.symm
  · have hx' : x ∈ ns := pm.mem_iff.mpr hx
    have e : ns.idxOf x = ns.idxOf y := Nat.le_antisymm h1 h2
    have h1 : ns[ns.idxOf x]'(List.idxOf_lt_length_iff.mpr hx') = x := List.getElem_idxOf _
    have h2 : ns[ns.idxOf y]'(List.idxOf_lt_length_iff.mpr hy) = y := List.getElem_idxOf _
    rw [← h1, ← h2]
    congr 1
  · have key : ∀ (r A : List Stp), S = A ++ r → List.Pairwise (fun x y => ns.idxOf x ≤ ns.idxOf y) (r.map Stp.name) := fun r => by
      induction r with
      | nil => exact fun _ _ => .nil
      | cons a r ih =>
        intro A e
        have ih := ih (A ++ [a]) (by rw [e]; simp)
        rw [List.map_cons]
        refine List.pairwise_cons.mpr ⟨?_, ih⟩
        cases r with
        | nil => exact fun x hx => by cases hx
        | cons b r =>
          have h1 : ns.idxOf a.name ≤ ns.idxOf b.name := Nat.le_of_not_lt (h A r a b e)
          intro x hx
          rcases List.mem_cons.mp hx with rfl | hx
          · exact h1
          · rw [List.map_cons] at ih
            exact Nat.le_trans h1 ((List.pairwise_cons.mp ih).1 x hx)
    exact key S [] rfl
  · have nd2 := nd
    refine List.pairwise_iff_getElem.mpr fun i j hi hj lt => ?_
    rw [idx_get nd, idx_get nd]
    omega
end K20

/-! len(set(xs)), xs a tuple of unlike texts. -/
namespace KD
open PySem PySem.Spec PyProof.Rows L2
section
variable {P : Program} {w : World} {A : Around} {E : Value → Shared → Prop} {s : Shared} {l : Addr} {its : Array Value} {xs : List Str} {Q : Value → Shared → Prop}
/-- set(l), l a tuple of unlike texts -/
theorem call_setT (hh : A.handled = none) (hl : s.heap.IsTuple l its) (hx : StrsAre its.toList xs) (nd : xs.Nodup) (few : xs.length + 1 < scanBound)
    (k : ∀ (h' : Heap) (tk : Nat), h'.SetOf (PySem.strKind P w) s.heap.objs.size (fun z => decide (z ∈ xs)) xs.length → (∀ b o, s.heap.get? b = some o → h'.get? b = some o) → Q (.ref s.heap.objs.size) { s with heap := h', toks := tk }) :
    wpAny (model P w) A (call (.type "set") [.ref l]) Q E s := by
  have T := PySem.F.called_set
  obtain ⟨c, tl, e0⟩ := T.mro
  have e1 := T.made
  have e2 := T.sub
  have e3 := T.notType
  have e4 := T.canCreate
  have e5 := PySem.F.typeCall_set_1 (.ref l)
  refine wpAny_call (codeAny_of_tree ((?_ : wpAny _ _ (callAny (.type "set") _) _ _ _)))
  refine wpAny_pure ⟨Code.quiet_builtin _ (by decide +kernel), codeAny_builtin PySem.F.entry_type_call ?_⟩
  rw [Around.under_plain (weight_type_call_type "set" [.ref l] []) rfl]
  repeat (any_goals (first | assumption | wp_step))
  generalize hN : s.heap.objs.size = N at *
  let e : Bool → Heap := fun led => s.heap.push { cls := .type "set", dict := none, data := .set #[] 0 (.fresh 0 0 led) }
  refine codeAny_mono (code_set_new_1 (.ref l) (E := E) (Q₁ := fun v t => ∃ led : Bool, v = .ref N ∧ t = { s with heap := e led }) fun led => ⟨led, by rw [hN], rfl⟩) fun r t hr => ?_
  match r, hr with
  | .error _, hr => exact hr
  | .ok .next, hr => exact hr.elim
  | .ok .brk, hr => exact hr.elim
  | .ok .cont, hr => exact hr.elim
  | .ok (.ret v), hr =>
    obtain ⟨led, rfl, rfl⟩ := hr
    have g0 : (e led).get? N = some { cls := .type "set", dict := none, data := .set #[] 0 (.fresh 0 0 led) } := by rw [← hN]; exact Heap.get?_push_size _ rfl
    have ty : Shared.TypeIs { s with heap := e led } (.ref N) "set" := ⟨_, g0, rfl⟩
    have e6 := T.init.lookup
    have e7 := T.init.bind (.ref N)
    repeat (any_goals (first | assumption | wp_step))
    refine codeAny_mono (codeAny_call_builtin (R := wants (fun r t => r = .none ∧ ∃ h' tk, t = { s with heap := h', toks := tk } ∧ h'.SetOf (PySem.strKind P w) N (fun z => decide (z ∈ xs)) xs.length ∧ ∀ b o, s.heap.get? b = some o → h'.get? b = some o) E) T.init.plain PySem.F.entry_set_init (check_set_init_1 ty ?_)) fun r t hr => ?_
    rotate_left
    · match r, hr with
      | .error _, hr => exact hr
      | .ok .next, hr => exact hr.elim
      | .ok .brk, hr => exact hr.elim
      | .ok .cont, hr => exact hr.elim
      | .ok (.ret v), hr =>
        obtain ⟨rfl, h', tk, rfl, q1, q2⟩ := hr
        repeat (any_goals (first | assumption | wp_step))
        exact k h' tk q1 q2
    · have hl1 : (e led).IsTuple l its := hl.push _
      obtain ⟨o, ho, hc, nl, hd⟩ := hl1
      have c1 := PySem.F.sub_tuple_set
      have c2 := PySem.F.sub_tuple_frozenset
      have c3 : (Value.type "tuple" == Value.type "dict") = false := by decide
      have hl2 : (e led).IsTuple l its := ⟨o, ho, hc, nl, hd⟩
      obtain ⟨cl, dc, dt, sl⟩ := o
      simp only at hc hd
      subst hc
      subst hd
      unfold Builtin.«set.__init__» noKeywords Builtin.Frozenset.updateFrom
      generalize hI : pyIter = it
      wp_walk
      subst hI
      refine wpAny_pyIter_tuple hl2 (wpAny_bind (wpAny_runValue ?_))
      have sz : (e led).objs.size = N + 1 := by rw [← hN]; exact Heap.size_push _ _
      have lN : l < N := by
        obtain ⟨o2, ho2, _⟩ := hl
        rw [← hN]
        exact Heap.lt_size ho2
      have ln : xs.length = its.size := by rw [← StrsAre.len_eq hx, Array.length_toList]
      have hh3 : A.in1.in1.in1.handled = none := hh
      refine loopU ((Walks.tuple hh3 (e led).objs.size l (by rw [sz]; exact Nat.ne_of_lt (Nat.lt_succ_of_lt lN)) its).toS) (S := N) (fun q => by
        rw [sz] at q
        rcases List.mem_cons.mp q with q | q
        · exact absurd q (Nat.ne_of_lt (Nat.lt_succ_self _))
        · exact absurd (List.mem_singleton.mp q) (Nat.ne_of_gt lN)) nd ln (by omega) (fun i v q => SS.strs_at hx i v (by rw [Array.getElem?_toList]; exact q)) its.size 0 _ (by omega) ⟨⟨_, Heap.get?_push_size _ rfl, rfl, rfl⟩, hl2.push _⟩ ?_ fun t mv so => ?_
      · have g1 : ((e led).push { cls := .type "tuple_iterator", data := .fields #[.ref l, .int 0 0] }).get? N = some { cls := .type "set", dict := none, data := .set #[] 0 (.fresh 0 0 led) } := Heap.get?_push_of_some _ g0
        exact PyProof.Rows.SetOf_congr ((PyProof.Rows.setObjOf_fresh (knd := PySem.strKind P w) led).setOf g1 (by unfold scanBound; omega)) (fun z => by simp) rfl
      · obtain ⟨h', gs, dr, tk, os⟩ := t
        have m1 : gs = s.gens := mv.gens
        have m2 : dr = s.drawn := mv.drawn
        have m3 : os = s.os := mv.os
        subst m1
        subst m2
        subst m3
        refine wpAny_pure (wpAny_pure ⟨rfl, h', tk, rfl, ?_, fun b o q => ?_⟩)
        · rw [← ln, List.take_length] at so
          exact so
        · have hb : b < N := by rw [← hN]; exact Heap.lt_size q
          exact mv.heap b o (fun z => by
            rw [sz] at z
            rcases List.mem_cons.mp z with z | z
            · exact absurd z (Nat.ne_of_lt hb)
            · exact absurd (List.mem_singleton.mp z) (Nat.ne_of_lt (Nat.lt_succ_of_lt hb))) (Heap.get?_push_of_some _ (Heap.get?_push_of_some _ q))
end
/-- len(set(xs)) of a list or a tuple of unlike texts -/
def tUnlikeQ (K : PySem.W.Frag) (ta : TE) : TE := fun σ H Q => ta σ H fun x H1 => ∃ (l : Addr) (xs : List Str), x = .ref l ∧ (SqL K H1 l (xs.map V.str) ∨ SqT K H1 l (xs.map V.str)) ∧ xs.Nodup ∧ xs.length ≤ 1000 ∧ Q (.int xs.length) H1
section
variable {X : Cx} {a : Expr} {ta : TE} {p p2 q pos : Pos}
theorem pe_unlikeQ (hc : X.calm = true) (g1 : Gl X "len") (m1 : X.mg "len" = none) (g2 : Gl X "set") (m2 : X.mg "set" = none) (ha : PE X a ta)
    (na : starEach [a] X.env = (false, eval a X.env) :: starEach [] X.env := by rfl) : PE X (.Call (.Name "len" p) [.Call (.Name "set" p2) [a] [] q] [] pos) (tUnlikeQ X.K ta) := by
  refine ⟨fun pins s σ H Q I h => Call_ (ld_blt I g1 m1 boot_len (PyProof.Rows.callWith_builtin1 (PyProof.Rows.args_cons (Call_ (ld_blt I g2 m2 boot_set ?_)) rfl) rfl rfl))⟩
  refine PyProof.Rows.callWith_type1 (PyProof.Rows.args_cons (thn (ha.run pins s σ H _ I h) fun v t w => PyProof.Rows.args_nil ?_) na) na rfl
  obtain ⟨x, H1, I1, r1, l, xs, rfl, hq, nd, few, q1⟩ := w
  cases r1
  rcases hq with hq | hq
  · obtain ⟨its, r, pl, _⟩ := I1.list hq
    refine call_setU (I1.ok.hd hc) pl.isList (by simpa using strsAre_of r) nd (by unfold scanBound; omega) fun h' tk so kp => PyProof.Rows.args_nil ?_
    obtain ⟨o, es, ep, tb, e1, e2, e3, _, _, _, e7, e8⟩ := so
    have I2 : Inv X pins σ H1 { t with heap := h', toks := tk } := I1.kept kp
    exact call_len_set e1 e2 e3 e7 (by rw [e8] <;> omega) ⟨.int xs.length, H1, I2.tok _, ⟨_, by rw [e8]⟩, q1⟩
  · obtain ⟨its, r, pl, _⟩ := I1.tuple hq
    refine call_setT (its := its.toArray) (I1.ok.hd hc) pl (by simpa using strsAre_of r) nd (by unfold scanBound; omega) fun h' tk so kp => PyProof.Rows.args_nil ?_
    obtain ⟨o, es, ep, tb, e1, e2, e3, _, _, _, e7, e8⟩ := so
    have I2 : Inv X pins σ H1 { t with heap := h', toks := tk } := I1.kept kp
    exact call_len_set e1 e2 e3 e7 (by rw [e8] <;> omega) ⟨.int xs.length, H1, I2.tok _, ⟨_, by rw [e8]⟩, q1⟩
end
section
variable {X : Addr → Prop} {H : Hp} {σ : L2.St} {te : TE} {K : PySem.W.Frag} {ns : List Str} {d : PyData}
theorem g_unlikeQ (h : G X te σ H d) (hs : isSeq d = true) (hi : itemsD d = ns.map PyData.str) (nd : ns.Nodup) (few : ns.length ≤ 1000) : G X (tUnlikeQ K te) σ H (.int (ns.length : Nat)) := fun H1 s Q q =>
  h H1 s _ fun v H2 s2 rv => by
    cases d with
    | list ds =>
      have hi : ds = ns.map PyData.str := hi
      subst hi
      obtain ⟨a, xs, rfl, _, e, rx⟩ := rv.lst_inv
      exact ⟨a, ns, rfl, .inl (SqL.of (by rw [← rx.strs]; exact e)), nd, few, q _ H2 s2 (.int _)⟩
    | tuple ds =>
      have hi : ds = ns.map PyData.str := hi
      subst hi
      obtain ⟨a, xs, rfl, _, e, rx⟩ := rv.tup_inv
      exact ⟨a, ns, rfl, .inr (SqT.of (by rw [← rx.strs]; exact e)), nd, few, q _ H2 s2 (.int _)⟩
    | _ => cases hs
end
end KD

/-! sorted of a list or a tuple of data. -/
namespace KD
open PySem PySem.Spec PyProof.Rows L2
def rSortDQ : List V → Hp → VK → Prop := fun xs H Q => ∃ (X0 : Addr → Prop) (v : V) (d : PyData), xs = [v] ∧ DX X0 H v d ∧ isSeq d = true ∧ noDicts (itemsD d) = true ∧ PySem.W.AllAlike (itemsD d) ∧ PySem.W.Sortable (itemsD d) ∧ (∀ z ∈ itemsD d, z.depth ≤ 40) ∧
  ∀ p ys, H p = none → DXs X0 H ys (sortD (itemsD d)) → Q (.ref p) (upd H p (.lst ys))
theorem cr_sortDQ {X : Cx} (hu : X.A.units + 64 < cLine) : CallR X (.builtin "sorted") rSortDQ := by
  intro pins s σ H xs us Q I r h
  obtain ⟨X0, v, d, rfl, hd, hs, nd, al, sb, dp, q⟩ := h
  cases hd with
  | @lst a xs ds n e rx => exact cr_sortD hu pins s σ H [.ref a] us Q I r ⟨X0, .ref a, ds, rfl, .lst n e rx, nd, al, sb, dp, q⟩
  | @tup a xs ds n e rx =>
    obtain ⟨u, rfl, ru⟩ := r.one
    cases ru
    have nd : noDicts ds = true := nd
    have al : PySem.W.AllAlike ds := al
    have sb : PySem.W.Sortable ds := sb
    have dp : ∀ z ∈ ds, z.depth ≤ 40 := dp
    have q : ∀ p ys, H p = none → DXs X0 H ys (sortD ds) → Q (.ref p) (upd H p (.lst ys)) := q
    obtain ⟨its, rv, ⟨o, ho, hc, m, hs2⟩, hz⟩ := I.tuple (SqT.of e)
    have lv : its.length = xs.length := (Paired.length rv).symm
    have lx := rx.length
    refine Calls.call_function_entry PyProof.Rows.kind_sorted PyProof.Rows.plain_sorted PyProof.Rows.entry_sorted (PyProof.Rows.args_sorted1 _) ?_
    unfold Builtin.«sorted»
    refine wpAny_bind (m := checkCount "sorted" 1 1 _) (wpAny_pure ?_)
    refine wpAny_bind (wpAny_collect_seq (A := X.A.in1) a (.inr rfl) ho hc hs2 (fun h' hk => ?_) (by simpa [lv] using hz))
    have I1 : Inv X pins σ H { s with heap := h' } := I.kept hk
    obtain ⟨as, rd⟩ := Dp.readsAll I1 _ _ its (rx.dp nd) rv
    have few : its.length ≤ sizeLine := by rw [lv]; exact hz
    show wpAny _ _ (newList (its.toArray.toList) >>= _) _ _ _
    rw [List.toList_toArray]
    refine wpAny_bind (wpAny_newList ?_ few)
    have hoL : (h'.push (seqObj "list" its.toArray 0)).get? h'.objs.size = some (seqObj "list" its.toArray 0) := Heap.get?_push_size _ rfl
    show wpAny _ _ _ _ _ { s with heap := h'.push (seqObj "list" its.toArray 0) }
    have er : PySem.W.EachIs (fun u d => ∃ as, Reads (PySem.W.sortingHeap (h'.push (seqObj "list" its.toArray 0)) h'.objs.size its) u d as) its ds := (PySem.W.readsAll_each id (by rw [List.map_id]; exact rd)).mono fun _ _ ⟨as, r⟩ => ⟨as, PyProof.Rows.Reads.keeps (fun b o e => PySem.W.sortingHeap_old (Nat.ne_of_lt (Heap.lt_size e)) (Heap.get?_push_of_some _ e)) r⟩
    refine wpAny_bind (wpAny_holding (wpAny_call_entry PyProof.Rows.slot_list_sort ⟨_, hoL, rfl⟩ PyProof.Rows.entry_list_sort (PySem.W.list_sort_vals (s := { s with heap := h'.push (seqObj "list" its.toArray 0) }) hoL (PySem.W.SortsAt.data (s := { s with heap := PySem.W.sortingHeap (h'.push (seqObj "list" its.toArray 0)) h'.objs.size its }) er al sb (fun d hd => ?_)) few ⟨_, rfl, ?_⟩) (PyProof.Rows.args_list_sort _)))
    · have := dp d hd
      show X.A.units + 2 + d.depth < cLine
      omega
    have eo := PySem.W.sortVals_data (R := fun u d => ∃ v, RelV v u ∧ DX X0 H v d) (enc := id) false (each_dx rx rv) er (by rw [List.map_id]; exact al)
    rw [List.map_id] at eo
    obtain ⟨ys, rys, dys⟩ := dx_each eo
    obtain ⟨ep, he'⟩ := PyProof.Rows.sortedHeap_at (vs := its) (out := (PySem.W.sortVals (PySem.W.dataKind (PySem.W.sortingHeap (h'.push (seqObj "list" its.toArray 0)) h'.objs.size its) ds) false its its).toArray) hoL
    have hy : ys.length ≤ sizeLine := by
      rw [dys.length, (List.mergeSort_perm _ _).length_eq, ← lx]
      exact hz
    refine wpAny_pure ⟨_, rfl, .ref h'.objs.size, upd H h'.objs.size (.lst ys), I1.laid (t' := s.toks) (fun b u e => ?_) (Nat.le_refl _) ⟨hy, _, ep, rys, he'⟩, rfl, q _ ys (I1.hok.fresh (Nat.le_refl _)) dys⟩
    rw [PyProof.Rows.sortedHeap_old (Nat.ne_of_lt (Heap.lt_size e)) (Nat.lt_of_lt_of_le (Heap.lt_size e) (by rw [size_push']; exact Nat.le_succ _))]
    exact Heap.get?_push_of_some _ e
  | _ => cases hs
theorem g_sortedQ {X : Addr → Prop} {σ : L2.St} {H : Hp} {te : TE} {d : PyData} (t : Trk X H) (h : G X te σ H d) (hs : isSeq d = true) (nd : noDicts (itemsD d) = true) (al : PySem.W.AllAlike (itemsD d)) (sb : PySem.W.Sortable (itemsD d)) (dp : ∀ z ∈ itemsD d, z.depth ≤ 40) : GN X (tCB rSortDQ (tCons te tNil)) σ H (.list (sortD (itemsD d))) := fun H1 s Q q =>
  h H1 s _ fun v H2 s2 r => ⟨X, v, d, rfl, r, hs, nd, al, sb, dp, fun p ys hp dys => q _ _ (s2.trans (Same.upd hp)) (DX.newL ((t.mono s).mono s2) dys hp) (Nw.back s2 (Nw.of hp))⟩
end KD

/-! Names in a list or a tuple. -/
namespace K20
open PySem PySem.Spec PyProof.Rows L2 KD KP KGr
-- HINT are_names it pi_seq
-- HINT are_names unlike pe_unlikeQ
-- HINT are_just_names sorted (cr_sortDQ hr.units)
-- HINT places_in dcK yes
-- HINT places_in enum pi_enumQ
variable {P : Program} {w : World} {K : PySem.W.Frag} {mg : Str → Option Value} {base : Heap}
def NamesQ (d : PyData) : Prop := ∃ ns : List Str, TxH d ns ∧ ns.Nodup ∧ ∀ z ∈ ns, z ∈ allNames
theorem ok_are_namesQ {f : Addr} {fd : FuncData} (F : Fun K "are_names" "are_names" s_are_names f fd) (T : Bl mg) (b_set : mg "set" = none) (O_is_list : Own P w K mg base CX0 1 "is_list" ["thing"] (sp1 (fun _ => True) fun d => .bool (isSeq d)))
    (O_is_name : Own P w K mg base CX0 1 "is_name" ["thing"] (sp1 (fun d => ∃ s ∈ allNames, d = .str s) fun _ => .bool true)) : FnOk P w K mg base CX0 2 f fd ["thing"] (sp1 NamesQ fun _ => .bool true) := by
  refine ok1 F sc_are_names (by decide) fun cdv A outer s H E X d Q hr t hp q => ⟨_, (pss_cons (ps_if (PW.pt (pw_or (pt_not (pt_val (pe_own O_is_list hr (by decide) (by rfl) (pa_cons (pv 0) pa_nil)))) (pw_or1 (pt_not (pt_val (pe_callB (cr_all rfl) (by rfl) T.b_all boot_all (pa_cons (pe_lc (own := [("name", 1)]) (g := (gName 1)) (tt := tYes) rfl sc_are_names.nd (pi_seq (pv 0)) (blkOk_by (N := n_are_names) (sc := defScope s_are_names) (by decide +kernel)) (fun _ _ _ _ _ => (pg_name (i := 1) sc_are_names.nd rfl (by first | exact Or.inl rfl | exact Or.inr rfl))) (fun _ _ _ _ _ => pts_nil) (fun _ _ _ _ _ => (pe_own O_is_name hr (by decide) (by rfl) (pa_cons (pv 1) pa_nil)))) pa_nil)))))))
    (pss_one (ps_ret pe_bl)) pss_nil)
    (pss_one (ps_ret (pe_cmpR (op_eqD hr.units) (pe_unlikeQ rfl (by rfl) T.b_len (by rfl) b_set (pv 0)) (pe_callB call_len (by rfl) T.b_len boot_len (pa_cons (pv 0) pa_nil)) (nomark _))))), fun σ En => ?_⟩
  obtain ⟨ns, ⟨hs, hi⟩, nd, hn⟩ := hp
  have few := nodup_le nd hn
  refine q_if (b := false) (gt_is (gt_or (a := false) (gt_is (gt_not (gt_B (g_call1 t (g_var (i := 0) (d := d) En rfl) trivial))) (by rw [hs]; rfl)) fun _ => gt_not (gt_B (g_is (g_all t (bs := ns.map fun _ => true) (g_is (g_lc1 (Γ2 := fun z => [.dat d, .dat z]) (fun _ => .bool true) t (gi_seq (g_var (i := 0) (d := d) En rfl) hs) (by rw [hi, List.length_map]; omega) (fun H1 s d hd => tgt_name (En.same s)) (fun X' H1 σ2 d hd t E => ?_)) ?_)) (e := .bool true) (by simp)))) rfl) (fun h => by cases h) fun _ H1 s1 => ?_
  · rw [hi] at hd
    obtain ⟨z, hz, rfl⟩ := List.mem_map.mp hd
    exact g_call1 t (g_var (i := 1) E rfl) ⟨z, hn z hz, rfl⟩
  · rw [hi, List.map_map, List.map_map]
    rfl
  · have E1 := En.same s1
    have t1 := t.mono s1
    refine s_ret (X := X) (d := .bool true) (g_is (g_eqD t1 (g_unlikeQ (ns := ns) (g_var (i := 0) (d := d) E1 rfl) hs hi nd (by omega)) (g_len t1 (g_var (i := 0) (d := d) E1 rfl) (hasLen_seq hs)) rfl rfl (shaped_int _) (shaped_int _)) ?_) fun w H2 s2 dw => q w H2 (s1.trans s2) dw
    rw [eqv_int, lenD_seq hs, hi, List.length_map]
    simp
def justQ (a b : PyData) : Prop := ∃ ns ms : List Str, TxH a ns ∧ b = wsD ms ∧ ns.Nodup ∧ (∀ z ∈ ns, z ∈ allNames) ∧ ns.Perm ms
theorem ok_justQ {f : Addr} {fd : FuncData} (F : Fun K "are_just_names" "are_just_names" s_are_just_names f fd) (T : Bl mg) (b_sorted : mg "sorted" = none) (O_are_names : Own P w K mg base CX0 2 "are_names" ["thing"] (sp1 NamesQ fun _ => .bool true)) : FnOk P w K mg base CX0 3 f fd ["thing", "names"] (sp2 justQ fun _ _ => .bool true) := by
  refine ok2 F sc_are_just_names (by decide) fun cdv A outer s H E X d1 d2 Q hr t hp q => ⟨_, (pss_one (ps_ret (pe_and (pe_own O_are_names hr (by decide) (by rfl) (pa_cons (pv 0) pa_nil)) (pe_one (pe_cmpR (op_eqD hr.units) (pe_callB (cr_sortDQ hr.units) (by rfl) b_sorted boot_sorted (pa_cons (pv 0) pa_nil)) (pe_callB (cr_sortDQ hr.units) (by rfl) b_sorted boot_sorted (pa_cons (pv 1) pa_nil)) (nomark _)))))), fun σ En => ?_⟩
  obtain ⟨ns, ms, hx, rfl, nd, hn, pm⟩ := hp
  have few := nodup_le nd hn
  have nds : ∀ l : List Str, noDicts (l.map PyData.str) = true := fun l => by
    induction l with
    | nil => rfl
    | cons a r ih => rw [List.map_cons, noDicts, ih]; rfl
  have dep : ∀ l : List Str, ∀ d ∈ l.map PyData.str, d.depth ≤ 40 := fun l d hd => by
    obtain ⟨z, _, rfl⟩ := List.mem_map.mp hd
    simp [PyData.depth]
  have srt : ∀ {i : Nat} {d : PyData} {l : List Str} {Γ : List Sv}, EnvOk X H σ Γ → Γ[i]? = some (.dat d) → TxH d l → GN X (tCB rSortDQ (tCons (tVar i) tNil)) σ H (.list (sortD (l.map PyData.str))) := fun {i d l Γ} E h hd => by
    have := g_sortedQ t (g_var (i := i) (d := d) E h) hd.1 (by rw [hd.2]; exact nds l) (by rw [hd.2]; exact PySem.W.AllAlike.of (enc := PyData.str) fun a b => rfl) (by rw [hd.2]; exact PySem.W.Sortable.others (enc := PyData.str) fun b => ⟨by simp, by simp⟩) (by rw [hd.2]; exact dep l)
    rw [hd.2] at this
    exact this
  have ok1 : ∀ z ∈ ns, PyData.strOk z = true := fun z hz => all_str z (hn z hz)
  have shp : SeqAt.shaped (.list (sortD (ns.map PyData.str))) = true := shaped_strs fun z hz => by
    obtain ⟨x, hx, rfl⟩ := List.mem_map.mp ((sortD_perm _).mem_iff.mp hz)
    exact ⟨x, rfl, ok1 x hx⟩
  have ndl : noDict (.list (sortD (ns.map PyData.str))) = true := by
    show noDicts (sortD (ns.map PyData.str)) = true
    refine nd_all fun z hz => ?_
    obtain ⟨x, _, rfl⟩ := List.mem_map.mp ((sortD_perm _).mem_iff.mp hz)
    rfl
  refine s_ret (X := X) (d := .bool true) (g_is (g_and (a := true) (b := true) (g_call1 t (g_var (i := 0) (d := d1) En rfl) ⟨ns, hx, nd, hn⟩) fun _ => g_is (g_eqD (K := K) t (x := .list (sortD (ns.map PyData.str))) (y := .list (sortD (ns.map PyData.str))) (srt (i := 0) En rfl hx).g (g_is (srt (i := 1) (l := ms) En rfl ⟨rfl, rfl⟩).g (by rw [sort_strs pm])) ndl ndl shp shp) ?_) rfl) q
  congr 1
  show PyData.eqv (.list _) (.list _) = true
  simp only [PyData.eqv]
  refine eqvAll_self fun z hz => ?_
  obtain ⟨x, _, rfl⟩ := List.mem_map.mp ((sortD_perm _).mem_iff.mp hz)
  have := eqv_strs [x] [x]
  simpa [PyData.eqvAll] using this
section
variable {X : Addr → Prop} {σ : L2.St} {H : Hp} {Γ : List Sv} {te : TE} {i j : Nat} {Q : VK}
theorem k_dcEnumQ {ns : List Str} {d : PyData} (t : Trk X H) (E : EnvOk X H σ Γ) (hij : i ≠ j) (hi : i < Γ.length) (hj : j < Γ.length) (h : G X te σ H d) (hx : TxH d ns) (nd : ns.Nodup) (few : ns.length ≤ 1000) (q : ∀ D H', H D = none → Same H H' → H' D = some (.dK (kvPl ns)) → Q (.ref D) H') :
    tDc (iEnumQ K (tCons te tNil)) (gTup K 2 (gCons (gName i) (gCons (gName j) gNil))) tYes (tVar j) (tVar i) [i, j] σ H Q := by
  refine gi_enumQ (K := K) (d := d) h hx.1 H (Same.refl _) _ fun J H2 s2 wk D hD => ?_
  obtain ⟨Gd, Y, w1, w2⟩ := wk
  let X' : Addr → Prop := fun a => X a ∨ a = D
  have m2 : More X X' H2 := More.one hD
  have ln : (enumD (itemsD d)).length = ns.length := by rw [enumD_len, hx.2]; exact List.length_map _
  let Pv : Nat → Hp → Prop := fun k Gh => Same H2 Gh ∧ Trk X' Gh ∧ Gh D = some (.dK (kvPl (ns.take k)))
  refine ⟨fun k m Gh => m = ns.length - k ∧ k ≤ ns.length ∧ Pv k Gh, ⟨_, rfl, Nat.zero_le _, Same.upd hD, (t.mono s2).one hD, upd_same⟩, ?_⟩
  rintro k m Gh ⟨rfl, hk, p1, p2, p3⟩
  have q0 := w2 X' m2.2 Gh (Kp.of p1) p2
  by_cases lt : k < ns.length
  rotate_left
  · have e : k = ns.length := by omega
    subst e
    rw [List.take_length] at p3
    have st := w1.stops Gh q0.1
    rw [ln] at st
    exact .inl ⟨st, q D Gh (s2.free hD) (s2.trans p1) p3⟩
  refine .inr ⟨w1.goes k Gh (by rw [ln]; exact lt) q0.1, Pv (k + 1), fun G' p' => ⟨_, by omega, rfl, lt, p'⟩, fun x G' y => ?_⟩
  obtain ⟨s4, z, hz, dx⟩ := q0.2 k x G' (w1.yields k Gh x G' (by rw [ln]; exact lt) q0.1 y)
  rw [enumD_get (d := .str ns[k]) (by rw [hx.2, List.getElem?_map, List.getElem?_eq_getElem lt]; rfl)] at hz
  cases hz
  have t4 := p2.mono s4
  refine tgt_pair (E.same s2) hij X' G' m2 (Kp.of (p1.trans s4)) t4 x dx _ fun σ2 E2 hw => ⟨hw, ?_⟩
  have hy : ∀ {σ : L2.St} {H : Hp} {Qb : Bool → Hp → Prop}, Qb true H → tYes σ H Qb := fun h => h
  refine hy (iteT ?_)
  refine g_var (i := j) (d := .str ns[k]) E2 (by rw [List.getElem?_set_self (by simpa using hj)]) G' (Same.refl _) _ fun v5 H5 s5 r5 => ?_
  refine g_var (i := i) (d := .int (k : Nat)) (E2.same s5) (by rw [List.getElem?_set_ne (Ne.symm hij), List.getElem?_set_self (by simpa using hi)]) H5 (Same.refl _) _ fun v6 H6 s6 r6 => ?_
  rw [r5.str_inv, r6.int_inv]
  have s46 := (s4.trans s5).trans s6
  have et : ns.take (k + 1) = ns.take k ++ [ns[k]] := by rw [List.take_add_one, List.getElem?_eq_getElem lt]; rfl
  refine ⟨kvPl (ns.take k), .inr ns[k], rfl, s46 _ _ p3, by unfold kvPl; rw [kv_len, List.length_take, sizeLine_eq]; omega, fun a o e => ?_, ?_, ?_⟩
  · have : a ≠ D := fun z => by rw [z, hD] at e; cases e
    rw [upd_ne this]
    exact s46 _ _ (p1 a o e)
  · exact (p2.mono s46).put
  · have nin : ns[k] ∉ ns.take k := fun hm => by
      have n2 : (ns.take (k + 1)).Nodup := nd.sublist (List.take_sublist _ _)
      rw [et] at n2
      exact (List.nodup_append.mp n2).2.2 _ hm _ (by simp) rfl
    have := kv_put nin
    rw [List.length_take, Nat.min_eq_left (by omega)] at this
    rw [this, et, upd_same]
end
def spPlacesQ : Sp := fun us H Q _ => ∃ (X : Addr → Prop) (v : V) (d : PyData) (ns : List Str), us = [v] ∧ Trk X H ∧ DX X H v d ∧ TxH d ns ∧ ns.Nodup ∧ ns.length ≤ 100 ∧ ∀ D H', Same H H' → H D = none → H' D = some (.dK (kvPl ns)) → Q (.ref D) H'
theorem ok_placesQ {f : Addr} {fd : FuncData} (F : Fun K "places_in" "places_in" s_places_in f fd) (T : Bl mg) : FnOk P w K mg base CX0 1 f fd ["things"] spPlacesQ := by
  refine F.ok sc_places_in (fun vs H Q E h => ?_) (fun cdv A outer s H us Q E hr h => ?_)
  · obtain ⟨X, v, d, ns, rfl, _⟩ := h
    rfl
  · obtain ⟨X, v, d, ns, rfl, t, d1, hx, nd, few, q⟩ := h
    refine ⟨_, (pss_one (ps_ret (pe_dc (own := [("index", 1), ("thing", 2)]) (g := (gTup K 2 (gCons (gName 1) (gCons (gName 2) gNil)))) (tt := tYes) rfl sc_places_in.nd (pi_enumQ (by rfl) T.b_enumerate (pa_cons (pv 0) pa_nil)) (blkOk_by (N := n_places_in) (sc := defScope s_places_in) (by decide +kernel)) (fun _ _ _ _ _ => (pg_tup (n := 2) rfl (pgs_cons (pg_name (i := 1) sc_places_in.nd rfl (by first | exact Or.inl rfl | exact Or.inr rfl)) (pgs_cons (pg_name (i := 2) sc_places_in.nd rfl (by first | exact Or.inl rfl | exact Or.inr rfl)) pgs_nil)))) (fun _ _ _ _ _ => pts_nil) (fun _ _ _ _ _ => (pv 2)) (fun _ _ _ _ _ => (pv 1))))), ?_⟩
    have En : EnvOk X H (L2.start n_places_in [v]) [.dat d, .un, .un] := ⟨rfl, fun i s e => by
      match i, e with
      | 0, e => cases e; exact ⟨_, rfl, d1⟩
      | 1, e => cases e; trivial
      | 2, e => cases e; trivial
      | _ + 3, e => cases e⟩
    exact k_ret (k_dcEnumQ (i := 1) (j := 2) t En (by decide) (by show 1 < 3; omega) (by show 2 < 3; omega) (g_var (i := 0) (d := d) En rfl) hx nd (by omega) fun D H' hD s' e => q D H' s' hD e)
end K20

/-! What a run leads to, if it does. -/
namespace K20
open PySem PySem.Spec PyProof.Rows L2 KD KP KGr
-- RAISES change_of checked_text passed side_by_side
variable {P : Program} {w : World} {K : PySem.W.Frag} {mg : Str → Option Value} {base : Heap}
section
variable {X : Addr → Prop} {σ : L2.St} {H : Hp} {ta tb tc : TE} {E : XK}
theorem g_astray {rs : List Stp} {ns : List Str} {D : Addr} (t : Trk X H) (h1 : G X ta σ H (.list (rs.map stpD))) (h2 : GV tb σ H (.ref D)) (hD : H D = some (.dK (kvPl ns))) (inn : ∀ r ∈ rs, r.name ∈ ns) (few : rs.length ≤ 100) : G X (tCall spAstray [] E (tCons ta (tCons tb tNil))) σ H (astrayD ns rs) := fun H1 s Q q =>
  h1 H1 s _ fun v H2 s2 r => h2 H2 (s.trans s2) _ ⟨X, v, D, rs, ns, rfl, (t.mono s).mono s2, r, (s.trans s2) _ _ hD, inn, few, fun w H3 s3 d => q w H3 (s2.trans s3) d⟩
theorem g_turned {rs : List Stp} {i : Nat} {a b : Stp} (t : Trk X H) (h1 : G X ta σ H (.list (rs.map stpD))) (h2 : G X tb σ H (.int (i : Nat))) (ha : rs[i]? = some a) (hb : rs[i + 1]? = some b) (oa : okP a) (ob : okP b) (few : rs.length ≤ 100) : G X (tCall spTurned [] E (tCons ta (tCons tb tNil))) σ H (turnedD rs i a b) :=
  g_call (ga_cons h1 (ga_cons h2 ga_nil)) fun vs H1 s rs' Q k => by
    cases rs' with
    | cons r1 r2 =>
      cases r2 with
      | cons r2 r3 =>
        cases r3
        rw [r2.int_inv]
        exact ⟨X, _, rs, i, a, b, rfl, t.mono s, r1, ha, hb, oa.1, ob.1, oa.2, ob.2, few, k⟩
end
def rkOf (ns : List Str) (R : List Stp) : Nat := KCf.invN (R.map (ixN ns))
theorem inv_few : ∀ l : List Nat, KCf.invN l ≤ l.length * l.length
  | [] => Nat.le_refl _
  | x :: r => by
    have a := inv_few r
    have b := List.length_filter_le (fun y => decide (y < x)) r
    show (r.filter fun y => decide (y < x)).length + KCf.invN r ≤ (r.length + 1) * (r.length + 1)
    have c : (r.length + 1) * (r.length + 1) = r.length * r.length + 2 * r.length + 1 := by rw [Nat.add_mul, Nat.mul_add]; omega
    omega
def idxD (is : List Nat) : PyData := .list (is.map fun i : Nat => PyData.int (i : Int))
/-- what led answers -/
def LedA (ns : List Str) (R : List Stp) (d : PyData) : Prop := (d = .none ∧ ¬ ∃ S, To ns R S) ∨ ∃ S is, d = .tuple [idxD is, .list (S.map stpD)] ∧ To ns R S ∧ walkL R is = some S ∧ is.length = rkOf ns R
def LedP (X : Addr → Prop) (H : Hp) (v1 v2 v3 : V) (ws : List Str) (hd nd : PyData) (R : List Stp) (ns : List Str) : Prop := Trk X H ∧ DX X H v1 (wsD ws) ∧ DX X H v2 hd ∧ DX X H v3 nd ∧ Hnd hd R ∧ TxH nd ns ∧ (∀ r ∈ R, okP r) ∧ ns.Nodup ∧ ns.Perm (R.map Stp.name) ∧ okT ws R ∧ Wd ws ∧ R.length ≤ 8
def spLed : Sp := fun us H Q _ => ∃ (X : Addr → Prop) (v1 v2 v3 : V) (ws : List Str) (hd nd : PyData) (R : List Stp) (ns : List Str), us = [v1, v2, v3] ∧ LedP X H v1 v2 v3 ws hd nd R ns ∧
  ∀ w H' d, Same H H' → LedA ns R d → DX X H' w d → Q w H'
abbrev s_led : Stmt := topS 34
abbrev n_led : List Str := ["text", "run", "names", "steps", "places", "indexes", "astray"]
theorem sc_led : FnScope n_led ["text", "run", "names"] (defScope s_led) := ⟨rfl, rfl, rfl, by decide +kernel, rfl, by decide +kernel, by decide +kernel⟩
theorem ok_led {f Cw : Addr} {fd : FuncData} (F : Fun K "led" "led" s_led f fd) (T : Bl mg) (O_checked_text : Own P w K mg base (L2.CX P w) 3 "checked_text" ["text"] (spX1 wordsAll (textOut Cw))) (O_steps_of : Own P w K mg base CX0 5 "steps_of" ["text", "run", "taken"] spStepsG) (O_are_just_names : Own P w K mg base CX0 3 "are_just_names" ["thing", "names"] (sp2 justQ fun _ _ => .bool true)) (O_names_of : Own P w K mg base CX0 1 "names_of" ["steps"] (sp1 stepsP namesOf))
    (O_places_in : Own P w K mg base CX0 1 "places_in" ["things"] spPlacesQ) (O_first_astray : Own P w K mg base CX0 1 "first_astray" ["steps", "places"] spAstray) (O_turned_at : Own P w K mg base CX0 6 "turned_at" ["steps", "index"] spTurned) : FnOk P w K mg base CX0 7 f fd ["text", "run", "names"] spLed := by
  refine F.ok sc_led (fun vs H Q E h => ?_) (fun cdv A outer s H us Q E hr h => ?_)
  · obtain ⟨X, v1, v2, v3, ws, hd, nd, R, ns, rfl, _⟩ := h
    rfl
  · obtain ⟨X, v1, v2, v3, ws, hd, dn, R, ns, rfl, ⟨t, d1, d2, d3, hh, hx, ok0, nd, pm, tt, hw, few⟩, q⟩ := h
    refine ⟨_, (pss_cons (ps_set (i := 3) sc_led.nd rfl (by first | exact Or.inl rfl | exact Or.inr rfl) (pe_own O_steps_of hr (by decide) (by rfl) (pa_cons (pe_ownX O_checked_text hr (by decide) LamX.takes0 (by rfl) (pa_cons (pv 0) pa_nil)) (pa_cons (pv 1) (pa_cons (pe_lst pa_nil) pa_nil)))))
    (pss_cons (ps_if (pt_not (pt_val (pe_own O_are_just_names hr (by decide) (by rfl) (pa_cons (pv 2) (pa_cons (pe_own O_names_of hr (by decide) (by rfl) (pa_cons (pv 3) pa_nil)) pa_nil)))))
    (pss_one ps_never) pss_nil)
    (pss_cons (ps_set (i := 4) sc_led.nd rfl (by first | exact Or.inl rfl | exact Or.inr rfl) (pe_own O_places_in hr (by decide) (by rfl) (pa_cons (pv 2) pa_nil)))
    (pss_cons (ps_set (i := 5) sc_led.nd rfl (by first | exact Or.inl rfl | exact Or.inr rfl) (pe_lst pa_nil))
    (pss_cons (ps_set (i := 6) sc_led.nd rfl (by first | exact Or.inl rfl | exact Or.inr rfl) (pe_own O_first_astray hr (by decide) (by rfl) (pa_cons (pv 3) (pa_cons (pv 4) pa_nil))))
    (Evl.pss_cut (ps_while PassesOwn.never (pt_cmpR op_notN (pv 6) pe_non (nomark _))
    (pss_cons (ps_set (i := 3) sc_led.nd rfl (by first | exact Or.inl rfl | exact Or.inr rfl) (pe_own O_turned_at hr (by decide) (by rfl) (pa_cons (pv 3) (pa_cons (pv 6) pa_nil))))
    (pss_cons (ps_if (pt_cmpR op_isN (pv 3) pe_non (nomark _))
    (pss_one (ps_ret pe_non)) pss_nil)
    (pss_cons (ps_expr (pe_bm PySem.F.plainAttrs_list PySem.F.slot_list_append PySem.F.type_list_append mt_append (pv 5) (pa_cons (pv 6) pa_nil)))
    (pss_one (ps_set (i := 6) sc_led.nd rfl (by first | exact Or.inl rfl | exact Or.inr rfl) (pe_own O_first_astray hr (by decide) (by rfl) (pa_cons (pv 3) (pa_cons (pv 4) pa_nil)))))))))
    (pss_one (ps_ret (pe_tup (pa_cons (pv 5) (pa_cons (pv 3) pa_nil))))))))))), ?_⟩
    have tx : textOut Cw (wsD ws) = .val (wsD ws) := by
      unfold textOut
      rw [hw.wrong, wsOf_wsD]
      rfl
    have lns : ns.length = R.length := by rw [pm.length_eq, List.length_map]
    have ndR : (R.map Stp.name).Nodup := pm.nodup_iff.mp nd
    have En : EnvOk X H (L2.start n_led [v1, v2, v3]) (pad n_led [.dat (wsD ws), .dat hd, .dat dn]) := env3 d1 d2 d3 (by decide)
    refine q_set (i := 3) (d := .list (R.map stpD)) En (g_stepsG t (g_X1 t (g_var (i := 0) (d := wsD ws) En rfl) hw.all tx) (g_var (i := 1) (d := hd) En rfl) hh (tk := []) (g_lst t ga_nil (by simp)) (fun r hr => (ok0 r hr).1) ndR (fun _ _ => by simp) tt hw few (by simp)) fun H1 w1 s1 E1 => ?_
    have t1 := t.mono s1
    have inA : ∀ z ∈ ns, z ∈ allNames := fun z hz => by
      obtain ⟨r, hr, rfl⟩ := List.mem_map.mp (pm.mem_iff.mp hz)
      exact (ok0 r hr).1.1
    refine q_if (b := false) (gt_is (gt_not (gt_B (g_call2 t1 (g_var (i := 2) (d := dn) E1 rfl) (g_is (g_call1 t1 (g_var (i := 3) (d := .list (R.map stpD)) E1 rfl) ⟨R, rfl, by omega⟩) (namesOf_is R)) ⟨ns, R.map Stp.name, hx, rfl, nd, inA, pm⟩))) rfl) (fun h => by cases h) fun _ H2 s2 => ?_
    have E2 := E1.same s2
    have t2 := t1.mono s2
    refine k_set (g_var (i := 2) (d := dn) E2 rfl H2 (Same.refl _) _ fun v H3 s3 dv => ⟨X, v, dn, ns, rfl, t2.mono s3, dv, hx, nd, by omega, fun D H4 s4 hn hD => ?_⟩)
    have s24 := s3.trans s4
    have t4 := t2.mono s24
    have E4 := (E2.same s24).setV (i := 4) (v := .ref D)
    refine k_own (i := 5) E4 t4 (gn_lst t4 ga_nil (by simp)) fun LI H5 xs5 f5 s5 h5 x5 E5 t5 => ?_
    cases x5
    have nX : ¬ X LI := t4.new f5
    let X' : Addr → Prop := fun b => X b ∨ b = LI
    let Γ (L : List Stp) : List Sv := [.dat (wsD ws), .dat hd, .dat dn, .dat (.list (L.map stpD)), .val (.ref D), .val (.ref LI), .dat (astrayD ns L)]
    have hD5 := s5 _ _ hD
    have nDL : D ≠ LI := fun z => by rw [z, f5] at hD; cases hD
    have memR : ∀ x ∈ R, x.name ∈ ns := fun x hx => pm.mem_iff.mpr (List.mem_map.mpr ⟨x, hx, rfl⟩)
    refine q_set (i := 6) (d := astrayD ns R) E5 (g_astray t5 (g_var (i := 3) (d := .list (R.map stpD)) E5 rfl) (gv_var (i := 4) E5 rfl) hD5 memR (by omega)) fun H6 v6 s6 E6 => ?_
    have t6 := t5.mono s6
    have s06 : Same H H6 := ((((s1.trans s2).trans s24).trans s5).trans s6)
    let Fc : List Stp → List Nat → Prop := fun L is => (∀ S, To ns R S ↔ To ns L S) ∧ walkL R is = some L ∧ is.length + rkOf ns L = rkOf ns R
    let St : L2.St → Hp → List Stp → List Nat → Prop := fun σ' H' L is => Fc L is ∧ (∀ a o, a ≠ LI → H6 a = some o → H' a = some o) ∧ Trk X' H' ∧ (∃ xs, H' LI = some (.lst xs) ∧ DXs X' H' xs (is.map fun i : Nat => PyData.int (i : Int))) ∧ EnvOk X' H' σ' (Γ L)
    let J : Nat → L2.St → Hp → Prop := fun m σ' H' => ∃ L is, St σ' H' L is ∧ m = rkOf ns L
    have r64 : rkOf ns R ≤ 64 := by
      have := inv_few (R.map (ixN ns))
      rw [List.length_map] at this
      have : R.length * R.length ≤ 8 * 8 := Nat.mul_le_mul (by omega) (by omega)
      unfold rkOf
      omega
    have back : ∀ H', (∀ a o, a ≠ LI → H6 a = some o → H' a = some o) → Same H H' := fun H' p1 a o e => p1 a o (fun z => by
      have n4 : H LI = none := by
        cases e4 : H LI with
        | none => rfl
        | some o => exact absurd ((((s1.trans s2).trans s24) _ _ e4).symm.trans f5) (by simp)
      rw [z, n4] at e
      cases e) (s06 _ _ e)
    refine ⟨fun σ' H' => ∃ L is, St σ' H' L is ∧ astray ns L = none, ⟨J, ⟨_, R, [], ⟨⟨fun S => Iff.rfl, rfl, by simp⟩, fun _ _ _ e => e, t6, ⟨[], s6 _ _ h5, .nil⟩, E6⟩, rfl⟩, ?_⟩, ?_⟩
    rotate_left
    · rintro σ' H' ⟨L, is, ⟨⟨f1, f2, f3⟩, p1, p2, ⟨xs, p3, p4⟩, E7⟩, hn⟩
      have E8 := EnvOk.give (i := 5) E7 rfl nX p3 p4
      have t8 : Trk X H' := fun a h => p2 a (.inl h)
      have dl : To ns L L := .done fun A B a b e => astray_none hn e
      have z0 : rkOf ns L = 0 := by
        have key : ∀ (r A : List Stp), L = A ++ r → KCf.invN (r.map (ixN ns)) = 0 ∧ ∀ a r', r = a :: r' → ∀ y ∈ r'.map (ixN ns), ixN ns a ≤ y := fun r => by
          induction r with
          | nil => exact fun _ _ => ⟨rfl, fun a r' e => by cases e⟩
          | cons a r ih =>
            intro A e
            obtain ⟨i1, i2⟩ := ih (A ++ [a]) (by rw [e]; simp)
            have all : ∀ y ∈ r.map (ixN ns), ixN ns a ≤ y := by
              cases r with
              | nil => exact fun y hy => by cases hy
              | cons b r =>
                have h1 : ixN ns a ≤ ixN ns b := Nat.le_of_not_lt (astray_none hn e)
                intro y hy
                rcases List.mem_cons.mp hy with rfl | hy
                · exact h1
                · exact Nat.le_trans h1 (i2 b r rfl y hy)
            refine ⟨?_, fun a' r' e2 => by cases e2; exact all⟩
            show ((r.map (ixN ns)).filter fun y => decide (y < ixN ns a)).length + KCf.invN (r.map (ixN ns)) = 0
            rw [i1, List.filter_eq_nil_iff.mpr fun y hy => by have := all y hy; simp; omega]
            rfl
        exact (key L [] rfl).1
      refine s_ret (X := X) (D := { nx := fun _ H' => Q .non H', rt := Q }) (g_tup (ds := [idxD is, .list (L.map stpD)]) t8 (ga_cons (g_var (i := 5) (d := idxD is) E8 rfl) (ga_cons (g_var (i := 3) (d := .list (L.map stpD)) E8 rfl) ga_nil)) (by simp)) fun w H9 s9 dw => q w H9 _ ((back H' p1).trans s9) (.inr ⟨L, is, rfl, (f1 L).mpr dl, f2, by omega⟩) dw
    rintro m σ' H' ⟨L, is, ⟨⟨f1, f2, f3⟩, p1, p2, ⟨xs, p3, p4⟩, E7⟩, rfl⟩
    obtain ⟨okL, pmL, lL⟩ := walk_ok ok0 f2
    have memL : ∀ x ∈ L, x.name ∈ ns := fun x hx => pm.mem_iff.mpr (pmL.mem_iff.mp (List.mem_map.mpr ⟨x, hx, rfl⟩))
    have hDk : H' D = some (.dK (kvPl ns)) := p1 _ _ nDL (s6 _ _ hD5)
    refine gt_op p2 (g_var (i := 6) (d := astrayD ns L) E7 rfl) g_non rb_notN H' (Same.refl _) _ fun H8 s8 => ?_
    have E8 := E7.same s8
    have t8 := p2.mono s8
    cases ha : astray ns L with
    | none =>
      have : isNone (astrayD ns L) = true := by unfold astrayD; rw [ha]; rfl
      rw [this]
      show (if (false : Bool) = true then _ else _)
      rw [if_neg (by simp)]
      exact ⟨L, is, ⟨⟨f1, f2, f3⟩, fun a o n e => s8 _ _ (p1 a o n e), t8, ⟨xs, s8 _ _ p3, p4.mono (Kp.of s8)⟩, E8⟩, ha⟩
    | some i =>
      have eD : astrayD ns L = .int (i : Nat) := by unfold astrayD; rw [ha]
      rw [eD]
      show (if (true : Bool) = true then _ else _)
      rw [if_pos rfl]
      obtain ⟨A, a, b, B, eL, lA, lt⟩ := astray_some ha
      have hi : L[i]? = some a := by rw [eL, ← lA]; simp
      have hi1 : L[i + 1]? = some b := by rw [eL, ← lA, List.getElem?_append_right (by omega)]; simp
      have oa := okL a (List.mem_of_getElem? hi)
      have ob := okL b (List.mem_of_getElem? hi1)
      refine ⟨fun σ' H' => ∃ m', m' < rkOf ns L ∧ J m' σ' H', fun σ' H' h => h, ?_⟩
      have E8 : EnvOk X' H8 σ' [.dat (wsD ws), .dat hd, .dat dn, .dat (.list (L.map stpD)), .val (.ref D), .val (.ref LI), .dat (.int (i : Nat))] := by
        rw [← eD]
        exact E8
      have GT := g_turned (E := E0) t8 (g_var (i := 3) (d := .list (L.map stpD)) E8 rfl) (g_var (i := 6) (d := .int (i : Nat)) E8 rfl) hi hi1 oa ob (by omega)
      cases ep : pasS a b with
      | none =>
        have eT : turnedD L i a b = .none := by
          unfold turnedD
          rw [ep]
        rw [eT] at GT
        refine q_set (i := 3) (d := .none) E8 GT fun H9 v9 s9 E9 => ?_
        refine q_if (b := true) (gt_is (gt_op (t8.mono s9) (g_var (i := 3) (d := .none) E9 rfl) g_non rb_isN) rfl) (fun _ H10 s10 => ?_) fun h => by cases h
        refine s_ret (X := X') (d := .none) g_non fun w H11 s11 dw => q w H11 .none ((((back H' p1).trans s8).trans s9).trans (s10.trans s11)) (.inl ⟨rfl, ?_⟩) (dw.less fun a z => .inl z)
        rintro ⟨S, hS⟩
        obtain ⟨b', a', e, _⟩ := KCf.D.first (pas_ix ns) pas_cube ((f1 S).mp hS) eL lt
        rw [pas_live oa ob, ep] at e
        cases e
      | some pr =>
        obtain ⟨b0, a'⟩ := pr
        have epL : pasL a b = some (b0, a') := by rw [pas_live oa ob, ep]
        have eT : turnedD L i a b = .list ((A ++ b0 :: a' :: B).map stpD) := by
          unfold turnedD
          rw [ep]
          show PyData.list ((L.take i ++ [b0, a'] ++ L.drop (i + 2)).map stpD) = _
          have e1 : L.take i = A := by rw [eL, ← lA, List.take_left']; rfl
          have e2 : L.drop (i + 2) = B := by rw [eL, ← lA, List.drop_append]; simp
          rw [e1, e2]
          simp
        rw [eT] at GT
        have f1' : ∀ S, To ns R S ↔ To ns (A ++ b0 :: a' :: B) S := fun S => by
          rw [f1 S]
          refine ⟨fun h => ?_, fun h => ?_⟩
          · obtain ⟨b', a2, e, d⟩ := KCf.D.first (pas_ix ns) pas_cube h eL lt
            rw [epL] at e
            cases e
            exact d
          · rw [eL]
            exact .step lt epL h
        have f2' : walkL R (is ++ [i]) = some (A ++ b0 :: a' :: B) := by
          rw [walk_snoc, f2]
          show turnL L i = _
          rw [eL, ← lA]
          exact turn_at ep
        have f3' : rkOf ns L = rkOf ns (A ++ b0 :: a' :: B) + 1 := by
          unfold rkOf
          rw [eL]
          exact KCf.inv_turn (ix := ixN ns) (pas_ix ns) epL lt
        refine q_set (i := 3) (d := .list ((A ++ b0 :: a' :: B).map stpD)) E8 GT fun H9 v9 s9 E9 => ?_
        have t9 := t8.mono s9
        refine q_if (b := false) (gt_is (gt_op t9 (g_var (i := 3) (d := .list ((A ++ b0 :: a' :: B).map stpD)) E9 rfl) g_non rb_isN) rfl) (fun h => by cases h) fun _ H10 s10 => ?_
        have E10 := E9.same s10
        have t10 := t9.mono s10
        have s810 := (s8.trans s9).trans s10
        obtain ⟨okL', pmL', lL'⟩ := walk_ok ok0 f2'
        have memL' : ∀ x ∈ A ++ b0 :: a' :: B, x.name ∈ ns := fun x hx => pm.mem_iff.mpr (pmL'.mem_iff.mp (List.mem_map.mpr ⟨x, hx, rfl⟩))
        refine q_append (i := 5) (L := LI) (d := .int (i : Nat)) E10 rfl (.inr rfl) t10 (s810 _ _ p3) (p4.mono (Kp.of s810)) (g_var (i := 6) (d := .int (i : Nat)) E10 rfl) (by rw [List.length_map]; omega) fun H11 zs h11 x11 E11 t11 k11 => ?_
        have hD11 : H11 D = some (.dK (kvPl ns)) := k11 _ _ nDL (s810 _ _ hDk)
        refine g_astray t11 (g_var (i := 3) (d := .list ((A ++ b0 :: a' :: B).map stpD)) E11 rfl) (gv_var (i := 4) E11 rfl) hD11 memL' (by omega) H11 (Same.refl _) _ fun v12 H12 s12 d12 => ?_
        refine ⟨_, by omega, A ++ b0 :: a' :: B, is ++ [i], ⟨⟨f1', f2', by rw [List.length_append, List.length_singleton]; omega⟩, fun a o n e => s12 _ _ (k11 a o n (s810 _ _ (p1 a o n e))), t11.mono s12, ⟨zs, s12 _ _ h11, ?_⟩, (E11.same s12).set (i := 6) d12⟩, rfl⟩
        rw [List.map_append]
        exact x11.mono (Kp.of s12)
/-- what led_to answers -/
def LedToA (ns : List Str) (R : List Stp) (d : PyData) : Prop := (d = .none ∧ ¬ ∃ S, To ns R S) ∨ ∃ S, d = .list (S.map stpD) ∧ To ns R S
/-- what fewest_passes answers -/
def FewA (ns : List Str) (R : List Stp) (d : PyData) : Prop := (d = .none ∧ ¬ ∃ S, To ns R S) ∨ ∃ S is, d = idxD is ∧ To ns R S ∧ walkL R is = some S ∧ is.length = rkOf ns R
def spLedTo (A : List Str → List Stp → PyData → Prop) : Sp := fun us H Q _ => ∃ (X : Addr → Prop) (v1 v2 v3 : V) (ws : List Str) (hd nd : PyData) (R : List Stp) (ns : List Str), us = [v1, v2, v3] ∧ LedP X H v1 v2 v3 ws hd nd R ns ∧
  ∀ w H' d, Same H H' → A ns R d → DX X H' w d → Q w H'
abbrev s_led_to : Stmt := topS 36
abbrev n_led_to : List Str := ["text", "run", "names", "found"]
theorem sc_led_to : FnScope n_led_to ["text", "run", "names"] (defScope s_led_to) := ⟨rfl, rfl, rfl, by decide +kernel, rfl, by decide +kernel, by decide +kernel⟩
theorem ok_led_to {f : Addr} {fd : FuncData} (F : Fun K "led_to" "led_to" s_led_to f fd) (T : Bl mg) (O_led : Own P w K mg base CX0 7 "led" ["text", "run", "names"] spLed) : FnOk P w K mg base CX0 8 f fd ["text", "run", "names"] (spLedTo LedToA) := by
  refine F.ok sc_led_to (fun vs H Q E h => ?_) (fun cdv A outer s H us Q E hr h => ?_)
  · obtain ⟨X, v1, v2, v3, ws, hd, nd, R, ns, rfl, _⟩ := h
    rfl
  · obtain ⟨X, v1, v2, v3, ws, hd, nd, R, ns, rfl, ⟨t, d1, d2, d3, r0⟩, q⟩ := h
    refine ⟨_, (pss_cons (ps_set (i := 3) sc_led_to.nd rfl (by first | exact Or.inl rfl | exact Or.inr rfl) (pe_own O_led hr (by decide) (by rfl) (pa_cons (pv 0) (pa_cons (pv 1) (pa_cons (pv 2) pa_nil)))))
    (pss_one (ps_ret (pe_ifExp (pt_cmpR op_isN (pv 3) pe_non (nomark _)) pe_non (pe_ix ix_seq (pv 3) pe_int (fun _ _ => rfl)))))), ?_⟩
    have En : EnvOk X H (L2.start n_led_to [v1, v2, v3]) (pad n_led_to [.dat (wsD ws), .dat hd, .dat nd]) := env3 d1 d2 d3 (by decide)
    refine k_set ((ga_cons (g_var (i := 0) (d := wsD ws) En rfl) (ga_cons (g_var (i := 1) (d := hd) En rfl) (ga_cons (g_var (i := 2) (d := nd) En rfl) ga_nil))) H (Same.refl _) _ fun vs H1 s1 rs' => ?_)
    cases rs' with
    | cons r1 rs' =>
      cases rs' with
      | cons r2 rs' =>
        cases rs' with
        | cons r3 rs' =>
          cases rs'
          rw [List.append_nil]
          refine ⟨X, _, _, _, ws, hd, nd, R, ns, rfl, ⟨t.mono s1, r1, r2, r3, r0⟩, fun w H2 d s2 la dw => ?_⟩
          have E2 := (En.same (s1.trans s2)).set (i := 3) dw
          have t2 := (t.mono s1).mono s2
          rcases la with ⟨rfl, hn⟩ | ⟨S, is, rfl, hS, _⟩
          · exact s_ret (X := X) (D := { nx := fun _ H' => Q .non H', rt := Q }) (d := .none) (g_if (b := true) (gt_is (gt_op t2 (g_var (i := 3) (d := .none) E2 rfl) g_non rb_isN) rfl) (fun _ => g_non) fun h => by cases h) fun w H3 s3 d3 => q w H3 _ ((s1.trans s2).trans s3) (.inl ⟨rfl, hn⟩) d3
          · exact s_ret (X := X) (D := { nx := fun _ H' => Q .non H', rt := Q }) (d := .list (S.map stpD)) (g_if (b := false) (gt_is (gt_op t2 (g_var (i := 3) (d := .tuple [idxD is, .list (S.map stpD)]) E2 rfl) g_non rb_isN) rfl) (fun h => by cases h) fun _ => g_ixT (ds := [idxD is, .list (S.map stpD)]) t2 (g_var (i := 3) (d := .tuple [idxD is, .list (S.map stpD)]) E2 rfl) g_int rfl) fun w H3 s3 d3 => q w H3 _ ((s1.trans s2).trans s3) (.inr ⟨S, rfl, hS⟩) d3
abbrev s_fewest_passes : Stmt := topS 37
abbrev n_fewest_passes : List Str := ["text", "run", "names", "found"]
theorem sc_fewest_passes : FnScope n_fewest_passes ["text", "run", "names"] (defScope s_fewest_passes) := ⟨rfl, rfl, rfl, by decide +kernel, rfl, by decide +kernel, by decide +kernel⟩
theorem ok_fewest {f : Addr} {fd : FuncData} (F : Fun K "fewest_passes" "fewest_passes" s_fewest_passes f fd) (T : Bl mg) (O_led : Own P w K mg base CX0 7 "led" ["text", "run", "names"] spLed) : FnOk P w K mg base CX0 8 f fd ["text", "run", "names"] (spLedTo FewA) := by
  refine F.ok sc_fewest_passes (fun vs H Q E h => ?_) (fun cdv A outer s H us Q E hr h => ?_)
  · obtain ⟨X, v1, v2, v3, ws, hd, nd, R, ns, rfl, _⟩ := h
    rfl
  · obtain ⟨X, v1, v2, v3, ws, hd, nd, R, ns, rfl, ⟨t, d1, d2, d3, r0⟩, q⟩ := h
    refine ⟨_, (pss_cons (ps_set (i := 3) sc_fewest_passes.nd rfl (by first | exact Or.inl rfl | exact Or.inr rfl) (pe_own O_led hr (by decide) (by rfl) (pa_cons (pv 0) (pa_cons (pv 1) (pa_cons (pv 2) pa_nil)))))
    (pss_one (ps_ret (pe_ifExp (pt_cmpR op_isN (pv 3) pe_non (nomark _)) pe_non (pe_ix ix_seq (pv 3) pe_int (fun _ _ => rfl)))))), ?_⟩
    have En : EnvOk X H (L2.start n_fewest_passes [v1, v2, v3]) (pad n_fewest_passes [.dat (wsD ws), .dat hd, .dat nd]) := env3 d1 d2 d3 (by decide)
    refine k_set ((ga_cons (g_var (i := 0) (d := wsD ws) En rfl) (ga_cons (g_var (i := 1) (d := hd) En rfl) (ga_cons (g_var (i := 2) (d := nd) En rfl) ga_nil))) H (Same.refl _) _ fun vs H1 s1 rs' => ?_)
    cases rs' with
    | cons r1 rs' =>
      cases rs' with
      | cons r2 rs' =>
        cases rs' with
        | cons r3 rs' =>
          cases rs'
          rw [List.append_nil]
          refine ⟨X, _, _, _, ws, hd, nd, R, ns, rfl, ⟨t.mono s1, r1, r2, r3, r0⟩, fun w H2 d s2 la dw => ?_⟩
          have E2 := (En.same (s1.trans s2)).set (i := 3) dw
          have t2 := (t.mono s1).mono s2
          rcases la with ⟨rfl, hn⟩ | ⟨S, is, rfl, hS, hk⟩
          · exact s_ret (X := X) (D := { nx := fun _ H' => Q .non H', rt := Q }) (d := .none) (g_if (b := true) (gt_is (gt_op t2 (g_var (i := 3) (d := .none) E2 rfl) g_non rb_isN) rfl) (fun _ => g_non) fun h => by cases h) fun w H3 s3 d3 => q w H3 _ ((s1.trans s2).trans s3) (.inl ⟨rfl, hn⟩) d3
          · exact s_ret (X := X) (D := { nx := fun _ H' => Q .non H', rt := Q }) (d := idxD is) (g_if (b := false) (gt_is (gt_op t2 (g_var (i := 3) (d := .tuple [idxD is, .list (S.map stpD)]) E2 rfl) g_non rb_isN) rfl) (fun h => by cases h) fun _ => g_ixT (ds := [idxD is, .list (S.map stpD)]) t2 (g_var (i := 3) (d := .tuple [idxD is, .list (S.map stpD)]) E2 rfl) g_int rfl) fun w H3 s3 d3 => q w H3 _ ((s1.trans s2).trans s3) (.inr ⟨S, is, rfl, hS, hk⟩) d3
end K20

/-! Changes that take no marked word; runs, plain or not. -/
namespace K20
open PySem PySem.Spec PyProof.Rows L2 KD KP KGr
variable {P : Program} {w : World} {K : PySem.W.Frag} {mg : Str → Option Value} {base : Heap}
-- HINT _law_p_change in op_in_seq
-- HINT _law_p_change lctt#1 tTest (tOp (rIn K false) (tC (.bl true)) (tSl (rSlL K) (tVar 2) (tPart (tVar 3)) (tPart (tOp rAddA (tVar 7) (tC (.int 1))))))
def isT : PyData → Bool
  | .bool true => true
  | _ => false
theorem inV_bs : ∀ {X : Addr → Prop} {H : Hp} {xs : List V} {ds : List PyData}, DXs X H xs ds → (∀ z ∈ ds, ∃ b, z = .bool b) → xs.all flatV = true ∧ inV (.bl true) xs = ds.any isT
  | _, _, _, _, .nil, _ => ⟨rfl, rfl⟩
  | _, _, _, _, .cons h r, hz => by
    obtain ⟨b, e⟩ := hz _ List.mem_cons_self
    subst e
    obtain ⟨i1, i2⟩ := inV_bs r fun z h => hz z (List.mem_cons_of_mem _ h)
    rw [h.bl_inv]
    refine ⟨by rw [List.all_cons, i1]; rfl, ?_⟩
    unfold inV at i2 ⊢
    rw [List.any_cons, i2, List.any_cons]
    cases b <;> rfl
theorem rb_inB {X : Addr → Prop} {ds : List PyData} (hs : ∀ z ∈ ds, ∃ b, z = .bool b) : RB X (rIn K false) (.bool true) (.list ds) (ds.any isT) := fun H u v _ ru rv Q q => by
  obtain ⟨a, xs, rfl, _, ha, rs⟩ := rv.lst_inv
  obtain ⟨i1, i2⟩ := inV_bs rs hs
  refine ⟨a, xs, rfl, .inl (SqL.of ha), by rw [ru.bl_inv]; rfl, i1, ?_⟩
  rw [ru.bl_inv, i2]
  exact q
theorem least_in : ∀ {l : List Int}, l ≠ [] → ∃ q ∈ l, ∀ y ∈ l, q ≤ y
  | [], h => absurd rfl h
  | [x], _ => ⟨x, List.mem_cons_self, fun y hy => by rw [List.mem_singleton.mp hy]; omega⟩
  | x :: y :: l, _ => by
    obtain ⟨q, h1, h2⟩ := least_in (l := y :: l) (by simp)
    by_cases c : x ≤ q
    · exact ⟨x, List.mem_cons_self, fun z hz => (List.mem_cons.mp hz).elim (fun e => by omega) fun h => by have := h2 z h; omega⟩
    · exact ⟨q, List.mem_cons_of_mem _ h1, fun z hz => (List.mem_cons.mp hz).elim (fun e => by omega) (h2 z)⟩
theorem g_intI {X : Addr → Prop} {σ : L2.St} {H : Hp} {te : TE} {i : Int} (h : G X te σ H (.int i)) : G X (tCB (fun xs H Q => (∃ i, xs = [V.int i] ∧ Q (.int i) H) ∨ ∃ k, xs = [V.bl k] ∧ Q (.int (if k then 1 else 0)) H) (tCons te tNil)) σ H (.int i) := fun H1 s Q q =>
  h H1 s _ fun v H2 s2 r => .inl ⟨i, by rw [r.int_inv], q _ H2 s2 (.int _)⟩
def spChangeB : Sp := fun vs H Q _ => ∃ (X : Addr → Prop) (st cl : Addr) (n : Nat) (v1 v2 : V) (ws : List Str) (ms : List PyData), vs = [.ref st, v1, v2] ∧ Sg X st cl n H ∧ n + 10 ≤ 1000000000 ∧ DX X H v1 (wsD ws) ∧ DX X H v2 (.list ms) ∧ WsOk ws ∧ (∀ z ∈ ms, ∃ b, z = .bool b) ∧
  ∀ w p os ns H', 0 ≤ p → p ≤ (ws.length : Int) → os = (ws.drop p.toNat).take os.length → (∀ z ∈ ns, z ∈ letters2) → ns.length ≤ 2 → 0 < os.length + ns.length → Sg X st cl (n + 5) H' → KpS st cl H H' → DX X H' w (chD p os ns) → Q w H'
theorem ok_p_changeB {f : Addr} {fd : FuncData} (F : Fun K "_law_p_change" "_law_p_change" s__law_p_change f fd) (T : Bl mg) (O__law_draw : Own P w K mg base CX0 1 "_law_draw" ["_law_stream", "_law_many"] spDraw) (O__law_pick : Own P w K mg base CX0 2 "_law_pick" ["_law_stream", "_law_some"] spPick) : FnOk P w K mg base CX0 3 f fd ["_law_stream", "_law_words", "_law_marks"] spChangeB := by
  refine F.ok sc__law_p_change (fun vs H Q E h => ?_) (fun cdv A outer s H vs Q E hr h => ?_)
  · obtain ⟨X, st, cl, n, v1, v2, ws, ms, rfl, _⟩ := h
    rfl
  · obtain ⟨X, st, cl, n, v1, v2, ws, ms, rfl, S, hn, hd1, hd2, hw, hms, k⟩ := h
    refine ⟨_, (pss_cons (ps_asg (pe_tup (pa_cons (pe_own O__law_draw hr (by decide) (by rfl) (pa_cons (pv 0) (pa_cons (pe_op op_addA (pe_callB call_len (by rfl) T.b_len boot_len (pa_cons (pv 1) pa_nil)) pe_int) pa_nil))) (pa_cons (pe_own O__law_pick hr (by decide) (by rfl) (pa_cons (pv 0) (pa_cons (pe_lst (pa_cons pe_int (pa_cons pe_int (pa_cons pe_int (pa_cons pe_int (pa_cons pe_int pa_nil)))))) pa_nil))) pa_nil))) (pg_tup (n := 2) rfl (pgs_cons (pg_name (i := 3) sc__law_p_change.nd rfl (by first | exact Or.inl rfl | exact Or.inr rfl)) (pgs_cons (pg_name (i := 4) sc__law_p_change.nd rfl (by first | exact Or.inl rfl | exact Or.inr rfl)) pgs_nil))))
    (pss_cons (ps_setLc (i := 5) (own := [("_law_at", 7)]) (g := (gName 7)) (tt := tTest (tOp (rIn K false) (tC (.bl true)) (tSl (rSlL K) (tVar 2) (tPart (tVar 3)) (tPart (tOp rAddA (tVar 7) (tC (.int 1))))))) rfl sc__law_p_change.nd rfl rfl (sw_true rfl rfl rfl (by decide +kernel)) (pi_range2 (by rfl) T.b_range (pa_cons (pv 3) (pa_cons (pe_callB call_len (by rfl) T.b_len boot_len (pa_cons (pv 1) pa_nil)) pa_nil))) (blkOk_by (N := n__law_p_change) (sc := defScope s__law_p_change) (by decide +kernel)) (fun _ _ _ _ _ => (pg_name (i := 7) sc__law_p_change.nd rfl (by first | exact Or.inl rfl | exact Or.inr rfl))) (fun _ _ _ _ _ => (pts_one (pt_cmpR op_in_seq pe_bl (pe_slice sl_list (pv 2) (po_some (pv 3)) (po_some (pe_op op_addA (pv 7) pe_int))) (by rfl)))) (fun _ _ _ _ _ => (pv 7)))
    (pss_cons (ps_set (i := 4) sc__law_p_change.nd rfl (by first | exact Or.inl rfl | exact Or.inr rfl) (pe_callB (cr_min rfl) (by rfl) T.b_min boot_min (pa_cons (pe_op op_addA (pe_lst (pa_cons (pv 4) (pa_cons (pe_op op_sub (pe_callB call_len (by rfl) T.b_len boot_len (pa_cons (pv 1) pa_nil)) (pv 3)) pa_nil))) (pe_lc (own := [("_law_at", 7)]) (g := (gName 7)) (tt := tYes) rfl sc__law_p_change.nd (pi_list (pe_slice sl_list (pv 5) po_none (po_some pe_int))) (blkOk_by (N := n__law_p_change) (sc := defScope s__law_p_change) (by decide +kernel)) (fun _ _ _ _ _ => (pg_name (i := 7) sc__law_p_change.nd rfl (by first | exact Or.inl rfl | exact Or.inr rfl))) (fun _ _ _ _ _ => pts_nil) (fun _ _ _ _ _ => (pe_op op_sub (pe_callTy call_int1 (by rfl) T.b_int boot_int (pa_cons (pv 7) pa_nil)) (pv 3))))) pa_nil)))
    (pss_cons (ps_setLc (i := 6) (own := [("_law_k", 8)]) (g := (gName 8)) (tt := tYes) rfl sc__law_p_change.nd rfl rfl (sw_true rfl rfl rfl (by decide +kernel)) (pi_range1 (by rfl) T.b_range (pa_cons (pe_own O__law_pick hr (by decide) (by rfl) (pa_cons (pv 0) (pa_cons (pe_lst (pa_cons pe_int (pa_cons pe_int (pa_cons pe_int (pa_cons pe_int pa_nil))))) pa_nil))) pa_nil)) (blkOk_by (N := n__law_p_change) (sc := defScope s__law_p_change) (by decide +kernel)) (fun _ _ _ _ _ => (pg_name (i := 8) sc__law_p_change.nd rfl (by first | exact Or.inl rfl | exact Or.inr rfl))) (fun _ _ _ _ _ => pts_nil) (fun _ _ _ _ _ => (pe_own O__law_pick hr (by decide) (by rfl) (pa_cons (pv 0) (pa_cons (pe_lst (pa_cons pe_str (pa_cons pe_str (pa_cons pe_str (pa_cons pe_str pa_nil))))) pa_nil)))))
    (pss_one (ps_ret (pe_tup (pa_cons (pv 3) (pa_cons (pe_slice sl_list (pv 1) (po_some (pv 3)) (po_some (pe_op op_addA (pv 3) (pv 4)))) (pa_cons (pe_ifExp (pt_cmpR op_gt (pe_op op_addA (pv 4) (pe_callB call_len (by rfl) T.b_len boot_len (pa_cons (pv 6) pa_nil))) pe_int (nomark _)) (pv 6) (pe_lst (pa_cons pe_str pa_nil))) pa_nil)))))))))), ?_⟩
    have En : EnvOk X H (L2.start n__law_p_change [.ref st, v1, v2]) (pad n__law_p_change [.val (.ref st), .dat (wsD ws), .dat (.list ms)]) := env_s2 ⟨_, rfl, hd1⟩ ⟨_, rfl, hd2⟩ (by decide)
    have wl := hw.1
    refine k_asg (k_cons (c_draw (m := (ws.length : Int) + 1) S (gv_var (i := 0) En rfl) (g_addI S.t (len_ws S.t (g_var (i := 1) En rfl)) g_int) (by omega) (by omega) (by omega) fun p H1 p0 p1 S1 k1 => ?_))
    have E1 := En.kps S k1
    refine k_cons (c_pick (ds := [.int 0, .int 0, .int 1, .int 1, .int 2]) S1 (gv_var (i := 0) E1 rfl) (g_lst S1.t (ga_cons g_int (ga_cons g_int (ga_cons g_int (ga_cons g_int (ga_cons g_int ga_nil))))) (by decide)) (by omega) (by decide) (by decide) fun x d H2 hd S2 k2 dx => ?_)
    have E2 := E1.kps S1 k2
    have hmany : ∃ m : Int, d = .int m ∧ 0 ≤ m ∧ m ≤ 2 := by
      simp at hd
      rcases hd with rfl | rfl | rfl
      · exact ⟨_, rfl, by omega, by omega⟩
      · exact ⟨_, rfl, by omega, by omega⟩
      · exact ⟨_, rfl, by omega, by omega⟩
    obtain ⟨m, rfl, m0, m2⟩ := hmany
    refine ⟨by show 2 ≤ sizeLine; decide, fun a ha => ?_⟩
    have s3 : Same H2 (upd H2 a (.tup [.int p, x])) := Same.upd ha
    refine g_pair (d := .int p) (e := .int m) (DX.newT S2.t (.cons (.int p) (.cons dx .nil)) ha) fun u1 u2 r1 r2 => ?_
    have E3 := ((E2.same s3).set (i := 3) r1).set (i := 4) r2
    have S3 := S2.same s3
    have t3 := S3.t
    -- free
    let fr : PyData → Bool := fun d => (cutPD ms (some p) (some (intOf d + 1))).any isT
    let free : List PyData := (rangeD p ((ws.length : Int) - p).toNat).filter fr
    refine q_set (i := 5) (d := .list free) E3 ?_ fun H4 v4 s4 E4 => ?_
    · refine g_is (g_lc (Γ2 := fun d => ((pad n__law_p_change [.val (.ref st), .dat (wsD ws), .dat (.list ms), .dat (.int p), .dat (.int m)]).set 7 .un).set 7 (.dat d)) fr (fun d => d) t3 (gi_range2 (g_var (i := 3) E3 rfl) (len_ws t3 (g_var (i := 1) E3 rfl)) (by omega)) (by rw [rangeD_len]; omega) (fun H1 s d hd => tgt_name (E3.same s)) (fun X' H1 σ2 d hd t E => ?_) (fun X' H1 σ2 d hd hf t E => g_var (i := 7) E rfl)) (by rw [List.map_id'])
      obtain ⟨j, hj, rfl⟩ := List.mem_map.mp hd
      exact gt_op t g_bl (g_sl t (g_var (i := 2) E rfl) (go_some (g_var (i := 3) E rfl)) (go_some (g_addI t (g_var (i := 7) E rfl) g_int))) (rb_inB fun z hz => hms z (cut_mem hz))
    have t4 := t3.mono s4
    have S4 := S3.same s4
    have hfree : ∀ d ∈ free, ∃ j : Int, d = .int j ∧ p ≤ j := fun d hd => by
      obtain ⟨j, hj, rfl⟩ := List.mem_map.mp (List.mem_filter.mp hd).1
      exact ⟨_, rfl, by omega⟩
    -- many
    let one : List PyData := cutPD free none (some 1)
    have hone : ∀ d ∈ one, ∃ j : Int, d = .int j ∧ p ≤ j := fun d hd => hfree d (cut_mem hd)
    let nums : List Int := [m, (ws.length : Int) - p] ++ one.map fun d => intOf d - p
    have hnums : ∀ y ∈ nums, 0 ≤ y := fun y hy => by
      rcases List.mem_append.mp hy with hy | hy
      · simp at hy
        omega
      · obtain ⟨d, hd, rfl⟩ := List.mem_map.mp hy
        obtain ⟨j, rfl, hj⟩ := hone d hd
        show 0 ≤ j - p
        omega
    have hmin : ∃ q ∈ nums, ∀ y ∈ nums, q ≤ y := least_in (by simp [nums])
    obtain ⟨q, hqm, hq⟩ := hmin
    have q0 : 0 ≤ q := hnums q hqm
    have q1 : q ≤ (ws.length : Int) - p := hq _ (by simp [nums])
    have lone : one.length ≤ ws.length := by
      have l1 : one.length ≤ free.length := by
        show (cutPD free none (some 1)).length ≤ _
        unfold cutPD
        rw [List.length_take, List.length_drop]
        omega
      have l2 : free.length ≤ (rangeD p ((ws.length : Int) - p).toNat).length := List.length_filter_le _ _
      rw [rangeD_len] at l2
      omega
    refine q_set (i := 4) (d := .int q) E4 ?_ fun H5 v5 s5 E5 => ?_
    · refine g_cb (ds := [.list (nums.map PyData.int)]) t4 (ga_cons (g_is (g_cat (xs := [.int m, .int ((ws.length : Int) - p)]) (ys := one.map fun d => .int (intOf d - p)) t4 (g_lst t4 (ga_cons (g_var (i := 4) E4 rfl) (ga_cons (g_sub t4 (len_ws t4 (g_var (i := 1) E4 rfl)) (g_var (i := 3) E4 rfl)) ga_nil)) (by simp)) ?_ (by rw [List.length_map]; simp; omega)) ?_) ga_nil) (rf_min (by simp [nums]) hqm hq)
      · refine g_lc1 (ds := one) (Γ2 := fun d => (((pad n__law_p_change [.val (.ref st), .dat (wsD ws), .dat (.list ms), .dat (.int p), .dat (.int m), .dat (.list free)]).set 7 .un).set 7 (.dat d))) (fun d => .int (intOf d - p)) t4 (gi_list (g_sl t4 (g_var (i := 5) E4 rfl) go_none (go_some (X := X) g_int))) (by omega) (fun H1 s d hd => tgt_name (E4.same s)) (fun X' H1 σ2 d hd t E => ?_)
        obtain ⟨j, rfl, hj⟩ := hone d hd
        exact g_sub t (g_intI (g_var (i := 7) (d := .int j) E rfl)) (g_var (i := 3) (d := .int p) E rfl)
      · simp only [nums, List.map_append, List.map_map]
        rfl
    have t5 := t4.mono s5
    have S5 := S4.same s5
    -- new
    refine k_set (k_lcR ?_)
    refine k_cons (c_pick (ds := [.int 0, .int 1, .int 1, .int 2]) S5 (gv_var (i := 0) E5 rfl) (g_lst S5.t (ga_cons g_int (ga_cons g_int (ga_cons g_int (ga_cons g_int ga_nil)))) (by decide)) (by omega) (by decide) (by decide) fun x2 d2 H6 hd2 S6 k6 dx2 => ?_)
    have E6 := E5.kps S5 k6
    have hcnt : ∃ c : Nat, d2 = .int (c : Nat) ∧ c ≤ 2 := by
      simp at hd2
      rcases hd2 with rfl | rfl | rfl
      · exact ⟨0, rfl, by omega⟩
      · exact ⟨1, rfl, by omega⟩
      · exact ⟨2, rfl, by omega⟩
    obtain ⟨c, rfl, c2⟩ := hcnt
    refine ⟨_, by rw [dx2.int_inv], by omega, by omega, ?_⟩
    rw [show (c : Int).toNat = c from by omega]
    refine lc_draws (X := X) (cl := cl) (n := n + 1 + 1 + 1) (i := 8) (m := c) (fun d => d ∈ letters2.map PyData.str) S6 E6 (by omega) (fun X' H1 σ2 j Q1 hj E1 S1 q1 => ?_) fun w6 ds H7 hl hd S7 k7 dw nw => ?_
    · refine c_pick (ds := (["x", "y", "a", ""] : List Str).map PyData.str) S1 (gv_var (i := 0) E1 rfl) (g_lst S1.t (ga_strs ["x", "y", "a", ""]) (by decide)) (by omega) (by decide) (by decide) fun w d H' hd S' k' dw => q1 w d H' ?_ S' k' dw
      simp at hd
      rcases hd with rfl | rfl | rfl | rfl <;> exact List.mem_map.mpr ⟨_, by decide, rfl⟩
    · obtain ⟨ns, rfl, hns⟩ := strs_of hd
      rw [List.length_map] at hl
      have E7 := (E6.kps S6 k7).set (i := 6) dw
      have t7 := S7.t
      have S8 : Sg X st cl (n + 5) H7 := S7.le (by omega)
      have hos : ((ws.drop p.toNat).take (q.toNat)).length = q.toNat := by
        rw [List.length_take, List.length_drop]
        omega
      have key : ∀ H8, Same H7 H8 → KpS st cl H H8 := fun H8 s8 => ((((((k1.trans k2).trans (KpS.of s3)).trans (KpS.of s4)).trans (KpS.of s5)).trans k6).trans k7).trans (KpS.of s8)
      by_cases hz : 0 < q + (ns.length : Int)
      · refine s_ret (X := X) (d := chD p ((ws.drop p.toNat).take q.toNat) ns) (g_tup t7 (ga_cons (g_var (i := 3) E7 rfl) (ga_cons (g_is (sl_mid t7 (g_var (i := 1) E7 rfl) (g_var (i := 3) E7 rfl) (g_addI t7 (g_var (i := 3) E7 rfl) (g_var (i := 4) E7 rfl)) p0 (by omega)) (by rw [show (p + q).toNat - p.toNat = q.toNat from by omega])) (ga_cons ?_ ga_nil))) (by simp)) fun w8 H8 s8 dw8 => k w8 p _ ns H8 p0 (by omega) (by rw [hos]) hns (by omega) (by rw [hos]; omega) (S8.same s8) (key H8 s8) dw8
        refine g_if (b := true) ?_ (fun _ => g_var (i := 6) E7 rfl) (fun h => by cases h)
        refine gt_is (gt_cmpI t7 (g := fun i j => decide (j < i)) (g_addI t7 (g_var (i := 4) E7 rfl) (len_ws t7 (g_var (i := 6) E7 rfl))) g_int) (decide_eq_true hz)
      · refine s_ret (X := X) (d := chD p ((ws.drop p.toNat).take q.toNat) ["z"]) (g_tup t7 (ga_cons (g_var (i := 3) E7 rfl) (ga_cons (g_is (sl_mid t7 (g_var (i := 1) E7 rfl) (g_var (i := 3) E7 rfl) (g_addI t7 (g_var (i := 3) E7 rfl) (g_var (i := 4) E7 rfl)) p0 (by omega)) (by rw [show (p + q).toNat - p.toNat = q.toNat from by omega])) (ga_cons ?_ ga_nil))) (by simp)) fun w8 H8 s8 dw8 => k w8 p _ ["z"] H8 p0 (by omega) (by rw [hos]) (by decide) (by decide) (by simp) (S8.same s8) (key H8 s8) dw8
        refine g_if (b := false) ?_ (fun h => by cases h) (fun _ => g_lst t7 (ga_cons g_str ga_nil) (by decide))
        refine gt_is (gt_cmpI t7 (g := fun i j => decide (j < i)) (g_addI t7 (g_var (i := 4) E7 rfl) (len_ws t7 (g_var (i := 6) E7 rfl))) g_int) (decide_eq_false hz)
end K20

/-! A run is drawn, plain or not. -/
namespace K20
open PySem PySem.Spec PyProof.Rows L2 KD KP KGr
variable {P : Program} {w : World} {K : PySem.W.Frag} {mg : Str → Option Value} {base : Heap}
theorem c_changeB {X : Addr → Prop} {st cl : Addr} {n : Nat} {H : Hp} {σ : L2.St} {ta tb tc : TE} {E : XK} {ws : List Str} {ms : List PyData} {Q : VK} (S : Sg X st cl n H) (hv : GV ta σ H (.ref st)) (h1 : G X tb σ H (wsD ws)) (h2 : G X tc σ H (.list ms)) (hn : n + 10 ≤ 1000000000) (hw : WsOk ws) (hm : ∀ z ∈ ms, ∃ b, z = .bool b)
    (k : ∀ w (p : Nat) os ns H', (p : Int) ≤ (ws.length : Int) → os = (ws.drop p).take os.length → (∀ z ∈ ns, z ∈ letters2) → ns.length ≤ 2 → 0 < os.length + ns.length → Sg X st cl (n + 5) H' → KpS st cl H H' → DX X H' w (chD p os ns) → Q w H') : tCall spChangeB [] E (tCons ta (tCons tb (tCons tc tNil))) σ H Q :=
  hv H (Same.refl H) _ (h1 H (Same.refl H) _ fun v H1 s1 r1 => h2 H1 s1 _ fun u H2 s2 r2 => ⟨X, st, cl, n, v, u, ws, ms, rfl, (S.same s1).same s2, hn, r1.mono (Kp.of s2), r2, hw, hm, fun w p os ns H' p0 p1 p2 p3 p4 p5 S2 kk dw => by
    obtain ⟨p, rfl⟩ : ∃ q : Nat, p = (q : Int) := ⟨p.toNat, by omega⟩
    exact k w p os ns H' p1 p2 p3 p4 p5 S2 ((KpS.of (s1.trans s2)).trans kk) dw⟩)
def spRunB : Sp := fun vs H Q _ => ∃ (X : Addr → Prop) (st cl : Addr) (n m : Nat) (v1 : V) (ws : List Str) (pl : Bool), vs = [.ref st, v1, .int (m : Int), .bl pl] ∧ m ≤ 6 ∧ Sg X st cl n H ∧ n + 100 ≤ 1000000000 ∧ DX X H v1 (wsD ws) ∧ WsOk ws ∧ ws.length ≤ 50 ∧
  ∀ w rs H', rs.length = m → okRun ws rs → (∀ r ∈ rs, r.name ∈ runNames) → (rs.map Stp.name).Nodup → Sg X st cl (n + 50) H' → KpS st cl H H' → DX X H' w (.list (rs.map stpD)) → Q w H'
theorem ok_p_runB {f : Addr} {fd : FuncData} (F : Fun K "_law_p_run" "_law_p_run" s__law_p_run f fd) (T : Bl mg) (O__law_mixed : Own P w K mg base CX0 2 "_law_mixed" ["_law_stream", "_law_some"] spMixed) (O__law_p_change : Own P w K mg base CX0 3 "_law_p_change" ["_law_stream", "_law_words", "_law_marks"] spChangeB)
    (O__law_p_made : Own P w K mg base CX0 1 "_law_p_made" ["_law_words", "_law_change"] (sp2N TC fun a b => wsD (putB (wsOf a) (intOf (it b 0)) (wsOf (it b 1)) (wsOf (it b 2))))) : FnOk P w K mg base CX0 4 f fd ["_law_stream", "_law_words", "_law_many", "_law_is_plain"] spRunB := by
  refine F.ok sc__law_p_run (fun vs H Q E h => ?_) (fun cdv A outer s H vs Q E hr h => ?_)
  · obtain ⟨X, st, cl, n, m, v1, ws, pl, rfl, _⟩ := h
    rfl
  · obtain ⟨X, st, cl, n, m, v1, ws, pl, rfl, hm6, S, hn, hd, hw, hl, k⟩ := h
    refine ⟨_, (pss_cons (ps_par3 (i := 4) (j := 5) (l := 6) (by rfl) sc__law_p_run.nd rfl rfl rfl (by decide) (by decide) (by decide) rfl rfl rfl (pa_cons (pe_callTy call_list_of (by rfl) T.b_list boot_list (pa_cons (pv 1) pa_nil)) (pa_cons (pe_lc (own := [("_law_one", 12)]) (g := (gName 12)) (tt := tYes) rfl sc__law_p_run.nd (pi_list (pv 1)) (blkOk_by (N := n__law_p_run) (sc := defScope s__law_p_run) (by decide +kernel)) (fun _ _ _ _ _ => (pg_name (i := 12) sc__law_p_run.nd rfl (by first | exact Or.inl rfl | exact Or.inr rfl))) (fun _ _ _ _ _ => pts_nil) (fun _ _ _ _ _ => pe_bl)) (pa_cons (pe_lst pa_nil) pa_nil))) (by rfl))
    (pss_cons (ps_for PassesOwn.never rfl (pi_list (pe_slice sl_list (pe_own O__law_mixed hr (by decide) (by rfl) (pa_cons (pv 0) (pa_cons (pe_lst (pa_cons pe_str (pa_cons pe_str (pa_cons pe_str (pa_cons pe_str (pa_cons pe_str (pa_cons pe_str pa_nil))))))) pa_nil))) po_none (po_some (pv 2)))) (pg_name (i := 7) sc__law_p_run.nd rfl (by first | exact Or.inl rfl | exact Or.inr rfl))
    (pss_cons (ps_set (i := 8) sc__law_p_run.nd rfl (by first | exact Or.inl rfl | exact Or.inr rfl) (pe_own O__law_p_change hr (by decide) (by rfl) (pa_cons (pv 0) (pa_cons (pv 4) (pa_cons (pv 5) pa_nil)))))
    (pss_cons (ps_asg (pv 8) (pg_tup (n := 3) rfl (pgs_cons (pg_name (i := 9) sc__law_p_run.nd rfl (by first | exact Or.inl rfl | exact Or.inr rfl)) (pgs_cons (pg_name (i := 10) sc__law_p_run.nd rfl (by first | exact Or.inl rfl | exact Or.inr rfl)) (pgs_cons (pg_name (i := 11) sc__law_p_run.nd rfl (by first | exact Or.inl rfl | exact Or.inr rfl)) pgs_nil)))))
    (pss_cons (ps_set (i := 5) sc__law_p_run.nd rfl (by first | exact Or.inl rfl | exact Or.inr rfl) (pe_op op_addA (pe_op op_addA (pe_slice sl_list (pv 5) po_none (po_some (pv 9))) (pe_lc (own := [("_law_one", 12)]) (g := (gName 12)) (tt := tYes) rfl sc__law_p_run.nd (pi_list (pv 11)) (blkOk_by (N := n__law_p_run) (sc := defScope s__law_p_run) (by decide +kernel)) (fun _ _ _ _ _ => (pg_name (i := 12) sc__law_p_run.nd rfl (by first | exact Or.inl rfl | exact Or.inr rfl))) (fun _ _ _ _ _ => pts_nil) (fun _ _ _ _ _ => (pv 3)))) (pe_slice sl_list (pv 5) (po_some (pe_op op_addA (pv 9) (pe_callB call_len (by rfl) T.b_len boot_len (pa_cons (pv 10) pa_nil)))) po_none)))
    (pss_cons (ps_set (i := 4) sc__law_p_run.nd rfl (by first | exact Or.inl rfl | exact Or.inr rfl) (pe_own O__law_p_made hr (by decide) (by rfl) (pa_cons (pv 4) (pa_cons (pv 8) pa_nil))))
    (pss_one (ps_expr (pe_bm PySem.F.plainAttrs_list PySem.F.slot_list_append PySem.F.type_list_append mt_append (pv 6) (pa_cons (pe_tup (pa_cons (pv 7) (pa_cons (pv 8) pa_nil))) pa_nil)))))))))
    (pss_one (ps_ret (pv 6))))), ?_⟩
    have En : EnvOk X H (L2.start n__law_p_run [.ref st, v1, .int (m : Int), .bl pl]) [.val (.ref st), .dat (wsD ws), .dat (.int (m : Int)), .dat (.bool pl), .un, .un, .un, .un, .un, .un, .un, .un, .un] := ⟨rfl, fun i s e => by
      match i, e with
      | 0, e => cases e; rfl
      | 1, e => cases e; exact ⟨_, rfl, hd⟩
      | 2, e => cases e; exact ⟨_, rfl, .int _⟩
      | 3, e => cases e; exact ⟨_, rfl, .bl pl⟩
      | 4, e => cases e; trivial
      | 5, e => cases e; trivial
      | 6, e => cases e; trivial
      | 7, e => cases e; trivial
      | 8, e => cases e; trivial
      | 9, e => cases e; trivial
      | 10, e => cases e; trivial
      | 11, e => cases e; trivial
      | 12, e => cases e; trivial⟩
    have t0 := S.t
    refine k_par3 ?_
    refine g_listOf t0 (g_var (i := 1) (d := wsD ws) En rfl) rfl H (Same.refl H) _ fun x1 H1 s1 dx1 => ?_
    refine g_lc1 (fun d => .bool false) (t0.mono s1) (gi_list (g_var (i := 1) (d := wsD ws) (En.same s1) rfl)) (by rw [List.length_map]; omega) (fun H1 s d hd => tgt_name ((En.same s1).same s)) (fun X' H1 σ2 d hd t E => g_bl) H1 (Same.refl _) _ fun x2 H2 s2 dx2 => ?_
    refine ⟨by show 0 ≤ sizeLine; omega, fun L hL => ⟨_, _, _, rfl, ?_⟩⟩
    let X' : Addr → Prop := fun a => X a ∨ a = L
    let H3 := upd H2 L (.lst [])
    let Γ (here : List Str) (ms : List PyData) : List Sv := [.val (.ref st), .dat (wsD ws), .dat (.int (m : Int)), .dat (.bool pl), .dat (wsD here), .dat (.list ms), .val (.ref L), .un, .un, .un, .un, .un, .un]
    have s12 := s1.trans s2
    have s3 : Same H2 H3 := Same.upd hL
    have t2 := t0.mono s12
    have nX : ¬ X L := t2.new hL
    have dx1' : DX X H1 x1 (wsD ws) := dx1
    have E3 : EnvOk X' H3 _ (Γ ws ((ws.map PyData.str).map fun d => .bool false)) := (((((En.same s12).set (i := 4) (dx1'.mono (Kp.of s2))).set (i := 5) dx2).more (More.one hL)).same s3).setV (i := 6)
    have S2 : Sg X st cl n H2 := S.same s12
    have n1 := S2.ne1 hL
    have n2 := S2.ne2 hL
    have S3 : Sg X' st cl n H3 := ⟨S.ok.same (s12.trans s3), .inl S.x1, .inl S.x2, t2.one hL⟩
    refine k_forS (c_mixed (ds := runNames.map PyData.str) S3 (gv_var (i := 0) E3 rfl) (g_lst S3.t (ga_cons g_str (ga_cons g_str (ga_cons g_str (ga_cons g_str (ga_cons g_str (ga_cons g_str ga_nil)))))) (by decide)) (by show n + 6 ≤ _; omega) (by decide) fun v es H4 hp S4 k4 dv => ?_)
    have E4 := E3.kps S3 k4
    have hes : ∀ d ∈ es, ∃ nm ∈ runNames, d = .str nm := fun d hd => by
      obtain ⟨z, hz, e⟩ := List.mem_map.mp (hp.mem_iff.mp hd)
      exact ⟨z, hz, e.symm⟩
    have les : es.length = 6 := hp.length_eq
    have hcut : cutPD es none (some (m : Int)) = es.take m := by rw [cutP_to es (by omega), Int.toNat_natCast]
    have keep0 : ∀ a o, a ≠ st → a ≠ cl → a ≠ L → H2 a = some o → H4 a = some o := fun a o m1 m2 m3 e => k4 a o m1 m2 (s3 a o e)
    refine s_forD (X := X') (ds := es.take m) (fun Ha sa R r => by
        have := gi_list (K := K) (g_sl (K := K) S4.t (g_val dv) go_none (go_some (g_var (i := 2) E4 rfl))) Ha sa R
        rw [hcut] at this
        exact this r)
      (fun Hb i σ' H' => Kp X' Hb H' ∧ Sg X' st cl (n + 6 + 5 * i) H' ∧ (∀ a o, a ≠ st → a ≠ cl → a ≠ L → H2 a = some o → H' a = some o) ∧ ∃ rs ms xs, rs.length = i ∧ okRun ws rs ∧ (rs.map fun r => PyData.str r.name) = es.take i ∧ H' L = some (.lst xs) ∧ DXs X' H' xs (rs.map stpD) ∧ EnvOk X' H' σ' (Γ (hereOf ws rs) ms) ∧ (∀ z ∈ ms, ∃ b, z = .bool b) ∧ ms.length ≤ 50 + 2 * i ∧ (hereOf ws rs).length ≤ 50 + 2 * i ∧ ∀ z ∈ hereOf ws rs, PyData.strOk z = true) ?_ ?_ ?_ ?_
    · intro Hb sb
      refine ⟨Kp.refl, S4.same sb, fun a o m1 m2 m3 e => sb a o (keep0 a o m1 m2 m3 e), [], _, [], rfl, trivial, by simp, sb L _ (k4 L _ (Ne.symm n1 ∘ Eq.symm) (Ne.symm n2 ∘ Eq.symm) upd_same), .nil, E4.same sb, fun z hz => ?_, by rw [List.length_map, List.length_map]; omega, hl, hw.2⟩
      obtain ⟨_, _, e⟩ := List.mem_map.mp hz
      exact ⟨_, e.symm⟩
    · rintro Hb i σ' H' ⟨p1, p2, _⟩
      exact ⟨p1, p2.t⟩
    · rintro Hb i x d σ' H' H'' sb hd ⟨p1, p2, p3, rs, ms, xs, q1, q2, q3, q4, q5, E, q7, q8, q9, q10⟩ s5 dx
      have hi : i < m := by
        have := (List.getElem?_eq_some_iff.mp hd).1
        rw [List.length_take] at this
        omega
      have hdi : es[i]? = some d := by rw [List.getElem?_take_of_lt hi] at hd; exact hd
      obtain ⟨nm, hnm, rfl⟩ := hes d (List.mem_of_mem_take (List.mem_of_getElem? hd))
      refine k_name ?_
      have E5 := (E.same s5).set (i := 7) dx
      have S5 := p2.same s5
      have hwo : WsOk (hereOf ws rs) := ⟨by omega, q10⟩
      refine k_set (c_changeB S5 (gv_var (i := 0) E5 rfl) (g_var (i := 4) E5 rfl) (g_var (i := 5) E5 rfl) (by omega) hwo q7 fun y p os ns H6 f1 f2 f3 f4 f5 S6 k6 dy => ?_)
      have E6 := (E5.kps S5 k6).set (i := 8) dy
      have hos : WsOk os := by rw [f2]; exact (hwo.drop _).take _
      have hns : WsOk ns := ⟨by omega, fun z hz => letters_ok (f3 z hz)⟩
      have fle : p + os.length ≤ (hereOf ws rs).length := fit_le (by omega) f2.symm
      refine q_asg (g_var (i := 8) (d := chD p os ns) E6 rfl) fun H7 y7 s7 dv7 => ?_
      refine g_triple dv7 fun u1 u2 u3 r1 r2 r3 => ?_
      have E7 := (((E6.same s7).set (i := 9) r1).set (i := 10) r2).set (i := 11) r3
      have S7 := S6.same s7
      have t7 := S7.t
      refine q_set (i := 5) (d := .list (ms.take p ++ ns.map (fun _ => PyData.bool pl) ++ ms.drop (p + os.length))) E7 (g_is (g_cat t7 (g_cat t7 (g_sl t7 (g_var (i := 5) E7 rfl) go_none (go_some (g_var (i := 9) E7 rfl))) (g_lc1 (fun d => .bool pl) t7 (gi_list (g_var (i := 11) (d := wsD ns) E7 rfl)) (by rw [List.length_map]; omega) (fun H1 s d hd => tgt_name (E7.same s)) (fun X' H1 σ2 d hd t E => g_var (i := 3) E rfl)) ?_) (g_sl t7 (g_var (i := 5) E7 rfl) (go_some (g_addI t7 (g_var (i := 9) E7 rfl) (len_ws (K := K) t7 (g_var (i := 10) E7 rfl)))) go_none) ?_) ?_) fun H8 v8 s8 E8 => ?_
      · rw [cutP_to _ (by omega), List.length_take, List.length_map, List.length_map]
        omega
      · rw [cutP_to _ (by omega), cutP_from _ (by omega), List.length_append, List.length_take, List.length_map, List.length_map, List.length_drop]
        omega
      · rw [cutP_to _ (by omega), cutP_from _ (by omega), List.map_map, show ((p : Int) + (os.length : Int)).toNat = p + os.length from by omega, show (p : Int).toNat = p from by omega]
        rfl
      refine q_set (i := 4) (d := wsD (putB (hereOf ws rs) p os ns)) E8 (g_made (t7.mono s8) (g_var (i := 4) E8 rfl) (g_var (i := 8) E8 rfl) hwo hos hns) fun H9 v9 s9 E9 => ?_
      have s79 := (s7.trans s8).trans s9
      have S9 := S6.same s79
      have k59 : Kp X' H'' H9 := (S5.kp k6).trans (Kp.of s79)
      have L9 : H9 L = some (.lst xs) := s79 L _ (k6 L _ n1 n2 (s5 L _ q4))
      refine s_append (i := 6) (L := L) (d := stpD ⟨nm, p, os, ns⟩) E9 rfl (.inr rfl) S9.t L9 ((q5.mono (Kp.of s5)).mono k59) (g_tup S9.t (ga_cons (g_var (i := 7) E9 rfl) (ga_cons (g_var (i := 8) E9 rfl) ga_nil)) (by simp)) (by rw [List.length_map]; omega) fun H10 H11 zs s10 hu h11 d11 E11 t11 k11 => ?_
      obtain ⟨o, rfl⟩ := hu
      have fr : fitR (hereOf ws rs) ⟨nm, p, os, ns⟩ := ⟨by show (0 : Int) ≤ (p : Int); omega, f1, by simpa using f2, f3, f4, f5⟩
      refine ⟨((p1.trans (Kp.of s5)).trans k59).trans k11, ((S9.same s10).put (Ne.symm (Ne.symm n1)) (Ne.symm (Ne.symm n2))).le (by omega), fun a oo m1 m2 m3 e => ?_, rs ++ [⟨nm, p, os, ns⟩], ms.take p ++ ns.map (fun _ => PyData.bool pl) ++ ms.drop (p + os.length), zs, by rw [List.length_append, q1]; rfl, okRun_snoc q2 fr, by rw [List.map_append, q3, List.take_succ, hdi]; rfl, h11, by rw [List.map_append]; exact d11, ?_, fun z hz => ?_, ?_, ?_, ?_⟩
      · rw [upd_ne m3]
        exact s10 a oo (s79 a oo (k6 a oo m1 m2 (s5 a oo (p3 a oo m1 m2 m3 e))))
      · rw [hereOf_snoc]
        exact envUn (envUn (envUn (envUn (envUn E11 7) 8) 9) 10) 11
      · rcases List.mem_append.mp hz with h | h
        · rcases List.mem_append.mp h with h | h
          · exact q7 z (List.mem_of_mem_take h)
          · obtain ⟨_, _, e⟩ := List.mem_map.mp h
            exact ⟨_, e.symm⟩
        · exact q7 z (List.mem_of_mem_drop h)
      · rw [List.length_append, List.length_append, List.length_take, List.length_map, List.length_drop]
        omega
      · rw [hereOf_snoc]
        show (putB (hereOf ws rs) p os ns).length ≤ _
        rw [put_len fle]
        omega
      · rw [hereOf_snoc]
        show ∀ z ∈ putB (hereOf ws rs) p os ns, _
        intro z hz
        unfold putB at hz
        rcases List.mem_append.mp hz with hz | hz
        · rcases List.mem_append.mp hz with hz | hz
          · exact q10 z (List.mem_of_mem_take hz)
          · exact hns.2 z hz
        · exact q10 z (List.mem_of_mem_drop hz)
    · rintro Hb σ' H' sb ⟨p1, p2, p3, rs, ms, xs, q1, q2, q3, q4, q5, E, _⟩
      have e2 : (es.take m).length = m := by rw [List.length_take]; omega
      rw [e2] at q1 p2 q3
      have nd : ((rs.map Stp.name).map PyData.str).Nodup := by
        rw [List.map_map]
        show (rs.map fun r => PyData.str r.name).Nodup
        rw [q3]
        exact List.Nodup.sublist (List.take_sublist _ _) (hp.nodup_iff.mpr (List.Pairwise.map PyData.str (fun a b h e => h (by cases e; rfl)) (by decide : runNames.Nodup)))
      have nd2 : (rs.map Stp.name).Nodup := List.Pairwise.of_map PyData.str (fun a b h e => h (by rw [e])) nd
      have q3' : ∀ r ∈ rs, r.name ∈ runNames := fun r hr => by
        have : PyData.str r.name ∈ es.take m := q3 ▸ List.mem_map_of_mem (f := fun r => PyData.str r.name) hr
        obtain ⟨nm, h1, h2⟩ := hes _ (List.mem_of_mem_take this)
        cases h2
        exact h1
      refine ⟨.ref L, E.get 6 (.val (.ref L)) rfl, k _ rs H' q1 q2 q3' nd2 ⟨(p2.le (by omega : n + 6 + 5 * m ≤ n + 50)).ok, S.x1, S.x2, fun a h => p2.t a (.inl h)⟩ (fun a o m1 m2 e => p3 a o m1 m2 (fun z => ?_) (s12 a o e)) (.lst nX q4 (DXs.less (fun a => .inl) q5))⟩
      have := s12 a o e
      rw [z, hL] at this
      cases this
end K20

/-! The law's own: two changes beside each other, column by column; names. -/
namespace K20
open PySem PySem.Spec PyProof.Rows L2 KD KP KGr
variable {P : Program} {w : World} {K : PySem.W.Frag} {mg : Str → Option Value} {base : Heap}
def leastZ (b d : Nat) : Int := if b = 0 ∧ d = 0 then 0 else 1
def whereD (p : Int) (b : Nat) (q : Int) (c d : Nat) (m : Int) : PyData := if leastZ b d ≤ p - q - c then .str "ahead" else if leastZ b d ≤ q - p - m then .str "behind" else .none
theorem eqv_nil {ns : List Str} : PyData.eqv (wsD ns) (.list []) = decide (ns.length = 0) := by
  show PyData.eqv (.list (ns.map PyData.str)) (.list (([] : List Str).map PyData.str)) = _
  rw [PyData.eqv, eqv_strs]
  exact decide_eq_decide.mpr List.length_eq_zero_iff.symm
def spWhere : Sp := fun us H Q _ => ∃ (X : Addr → Prop) (v1 v2 : V) (p q m : Int) (os ns as bs : List Str), us = [v1, v2, .int m] ∧ Trk X H ∧ DX X H v1 (chD p os ns) ∧ DX X H v2 (chD q as bs) ∧ Wd ns ∧ Wd bs ∧ ∀ w H', Same H H' → DX X H' w (whereD p ns.length q as.length bs.length m) → Q w H'
abbrev s__law_p_where : Stmt := topS 43
abbrev n__law_p_where : List Str := ["_law_one", "_law_two", "_law_many", "_law_least"]
theorem sc__law_p_where : FnScope n__law_p_where ["_law_one", "_law_two", "_law_many"] (defScope s__law_p_where) := ⟨rfl, rfl, rfl, by decide +kernel, rfl, by decide +kernel, by decide +kernel⟩
theorem ok_p_where {f : Addr} {fd : FuncData} (F : Fun K "_law_p_where" "_law_p_where" s__law_p_where f fd) (T : Bl mg) : FnOk P w K mg base CX0 1 f fd ["_law_one", "_law_two", "_law_many"] spWhere := by
  refine F.ok sc__law_p_where (fun vs H Q E h => ?_) (fun cdv A outer s H us Q E hr h => ?_)
  · obtain ⟨X, v1, v2, p, q, m, os, ns, as, bs, rfl, _⟩ := h
    rfl
  · obtain ⟨X, v1, v2, p, q, m, os, ns, as, bs, rfl, t, d1, d2, w1, w2, k⟩ := h
    refine ⟨_, (pss_cons (ps_set (i := 3) sc__law_p_where.nd rfl (by first | exact Or.inl rfl | exact Or.inr rfl) (pe_ifExp (PW.pt (pw_and (pt_cmpR (op_eqD hr.units) (pe_ix ix_seq (pv 0) pe_int (fun _ _ => rfl)) (pe_lst pa_nil) (nomark _)) (pw_and1 (pt_cmpR (op_eqD hr.units) (pe_ix ix_seq (pv 1) pe_int (fun _ _ => rfl)) (pe_lst pa_nil) (nomark _))))) pe_int pe_int))
    (pss_cons (ps_if (pt_cmpR op_ge (pe_op op_sub (pe_op op_sub (pe_ix ix_seq (pv 0) pe_int (fun _ _ => rfl)) (pe_ix ix_seq (pv 1) pe_int (fun _ _ => rfl))) (pe_callB call_len (by rfl) T.b_len boot_len (pa_cons (pe_ix ix_seq (pv 1) pe_int (fun _ _ => rfl)) pa_nil))) (pv 3) (nomark _))
    (pss_one (ps_ret pe_str)) pss_nil)
    (pss_one (ps_ret (pe_ifExp (pt_cmpR op_ge (pe_op op_sub (pe_op op_sub (pe_ix ix_seq (pv 1) pe_int (fun _ _ => rfl)) (pe_ix ix_seq (pv 0) pe_int (fun _ _ => rfl))) (pv 2)) (pv 3) (nomark _)) pe_str pe_non))))), ?_⟩
    have En : EnvOk X H (L2.start n__law_p_where [v1, v2, .int m]) (pad n__law_p_where [.dat (chD p os ns), .dat (chD q as bs), .dat (.int m)]) := env3 d1 d2 (.int _) (by decide)
    have i1 : ∀ {H1 : Hp} {σ : L2.St} {Γ : List Sv} {j : Int} {z : PyData}, Trk X H1 → EnvOk X H1 σ Γ → Γ[0]? = some (.dat (chD p os ns)) → atI [PyData.int p, wsD os, wsD ns] j = some z → G X (tOp (rIx K) (tVar 0) (tC (.int j))) σ H1 z := fun t E e h => g_ixT (ds := [PyData.int p, wsD os, wsD ns]) t (g_var (i := 0) (d := chD p os ns) E e) g_int h
    have i2 : ∀ {H1 : Hp} {σ : L2.St} {Γ : List Sv} {j : Int} {z : PyData}, Trk X H1 → EnvOk X H1 σ Γ → Γ[1]? = some (.dat (chD q as bs)) → atI [PyData.int q, wsD as, wsD bs] j = some z → G X (tOp (rIx K) (tVar 1) (tC (.int j))) σ H1 z := fun t E e h => g_ixT (ds := [PyData.int q, wsD as, wsD bs]) t (g_var (i := 1) (d := chD q as bs) E e) g_int h
    have sh : ∀ {l : List Str}, Wd l → SeqAt.shaped (wsD l) = true := fun {l} h => shaped_strs fun z hz => by
      obtain ⟨x, hx, rfl⟩ := List.mem_map.mp hz
      exact ⟨x, rfl, h.ok.2 x hx⟩
    have e0 : SeqAt.shaped (.list []) = true := by rfl
    refine q_set (i := 3) (d := .int (leastZ ns.length bs.length)) En (g_if (b := decide (ns.length = 0) && decide (bs.length = 0)) (gt_and (gt_is (gt_eqD t (i1 t En rfl rfl) (g_lst t ga_nil (by simp)) (noDict_strs _) rfl (sh w1) e0) eqv_nil) fun _ => gt_is (gt_eqD t (i2 t En rfl rfl) (g_lst t ga_nil (by simp)) (noDict_strs _) rfl (sh w2) e0) eqv_nil) (fun hb => g_is g_int ?_) (fun hb => g_is g_int ?_)) fun H1 u s1 E1 => ?_
    · rw [Bool.and_eq_true, decide_eq_true_eq, decide_eq_true_eq] at hb
      unfold leastZ
      rw [if_pos hb]
    · unfold leastZ
      rw [if_neg fun z => by rw [decide_eq_true z.1, decide_eq_true z.2] at hb; cases hb]
    have t1 := t.mono s1
    refine q_if (b := decide (leastZ ns.length bs.length ≤ p - q - as.length)) (gt_cmpI t1 (g := fun i j => decide (j ≤ i)) (g_sub t1 (g_sub t1 (i1 t1 E1 rfl rfl) (i2 t1 E1 rfl rfl)) (len_ws (K := K) t1 (i2 t1 E1 rfl rfl))) (g_var (i := 3) (d := .int (leastZ ns.length bs.length)) E1 rfl)) (fun hb H2 s2 => ?_) fun hb H2 s2 => ?_
    · refine s_ret (X := X) (d := .str "ahead") g_str fun w H3 s3 dw => k w H3 ((s1.trans s2).trans s3) ?_
      unfold whereD
      rw [if_pos (of_decide_eq_true hb)]
      exact dw
    · have E2 := E1.same s2
      have t2 := t1.mono s2
      refine s_ret (X := X) (D := { nx := fun _ H' => Q .non H', rt := Q }) (d := if leastZ ns.length bs.length ≤ q - p - m then PyData.str "behind" else .none) (g_if (b := decide (leastZ ns.length bs.length ≤ q - p - m)) (gt_cmpI t2 (g := fun i j => decide (j ≤ i)) (g_sub t2 (g_sub t2 (i2 t2 E2 rfl rfl) (i1 t2 E2 rfl rfl)) (g_var (i := 2) (d := .int m) E2 rfl)) (g_var (i := 3) (d := .int (leastZ ns.length bs.length)) E2 rfl)) (fun hc => g_is g_str (by rw [if_pos (of_decide_eq_true hc)])) fun hc => g_is g_non (by rw [if_neg (of_decide_eq_false hc)])) fun w H3 s3 dw => k w H3 ((s1.trans s2).trans s3) ?_
      unfold whereD
      rw [if_neg (of_decide_eq_false hb)]
      exact dw
/-! ### beside -/
theorem eqv_str1 (a b : Str) : PyData.eqv (.str a) (.str b) = decide (a = b) := by
  have := eqv_strs [a] [b]
  simpa [PyData.eqvAll] using this
theorem where_side {p q : Int} {a b c d : Nat} : (leastZ b d ≤ p - q - c ↔ (q + c < p ∨ (q + c = p ∧ (b : Int) + d = 0))) ∧ (leastZ b d ≤ q - p - a ↔ (p + a < q ∨ (p + a = q ∧ (b : Int) + d = 0))) := by
  unfold leastZ
  constructor <;> split <;> omega
abbrev s__law_p_names : Stmt := topS 46
abbrev n__law_p_names : List Str := ["_law_run", "_law_name", "_law_change"]
theorem sc__law_p_names : FnScope n__law_p_names ["_law_run"] (defScope s__law_p_names) := ⟨rfl, rfl, rfl, by decide +kernel, rfl, by decide +kernel, by decide +kernel⟩
theorem ok_p_names {f : Addr} {fd : FuncData} (F : Fun K "_law_p_names" "_law_p_names" s__law_p_names f fd) (T : Bl mg) : FnOk P w K mg base CX0 1 f fd ["_law_run"] (sp1 stepsP namesOf) := by
  refine ok1 F sc__law_p_names (by decide) fun cdv A outer s H E X d Q hr t hp q => ⟨_, (pss_one (ps_ret (pe_lc (own := [("_law_name", 1), ("_law_change", 2)]) (g := (gTup K 2 (gCons (gName 1) (gCons (gName 2) gNil)))) (tt := tYes) rfl sc__law_p_names.nd (pi_list (pv 0)) (blkOk_by (N := n__law_p_names) (sc := defScope s__law_p_names) (by decide +kernel)) (fun _ _ _ _ _ => (pg_tup (n := 2) rfl (pgs_cons (pg_name (i := 1) sc__law_p_names.nd rfl (by first | exact Or.inl rfl | exact Or.inr rfl)) (pgs_cons (pg_name (i := 2) sc__law_p_names.nd rfl (by first | exact Or.inl rfl | exact Or.inr rfl)) pgs_nil)))) (fun _ _ _ _ _ => pts_nil) (fun _ _ _ _ _ => (pv 1))))), fun σ En => ?_⟩
  obtain ⟨rs, rfl, few⟩ := hp
  refine s_ret (X := X) (d := namesOf (.list (rs.map stpD))) (g_lc1 (ds := rs.map stpD) (Γ2 := fun z => [.dat (.list (rs.map stpD)), .dat (it z 0), .dat (it z 1)]) (fun z => it z 0) t (gi_list (K := K) (g_var (i := 0) (d := .list (rs.map stpD)) En rfl)) (by rw [List.length_map]; omega) (fun H3 s3 z hz => ?_) (fun X2 H3 σ2 z hz t3 E3 => g_var (i := 1) (d := it z 0) E3 rfl)) q
  obtain ⟨r, hr, rfl⟩ := List.mem_map.mp hz
  exact tgt_pair (En.same s3) (by decide)
/-! ### column by column -/
def colD (mine theirs : List Stp) : PyData := match colF besS mine theirs with
  | none => .none
  | some (f, _) => .list (f.map stpD)
theorem colF_ok {ms ts f g : List Stp} (h1 : ∀ m ∈ ms, okP m) (h2 : ∀ t ∈ ts, okP t) (h : colF besS ms ts = some (f, g)) : (∀ x ∈ f, okP x) ∧ f.length = ts.length := by
  rw [← bes_col] at h
  obtain ⟨a, _, b, _⟩ := bes_all h1 h2 h
  exact ⟨a, b⟩
def spColumns : Sp := fun us H Q _ => ∃ (X : Addr → Prop) (v1 v2 : V) (mine theirs : List Stp), us = [v1, v2] ∧ Trk X H ∧ DX X H v1 (.list (mine.map stpD)) ∧ DX X H v2 (.list (theirs.map stpD)) ∧ (∀ r ∈ mine, okP r) ∧ (∀ r ∈ theirs, okP r) ∧ mine.length ≤ 100 ∧ theirs.length ≤ 100 ∧ ∀ w H', Same H H' → DX X H' w (colD mine theirs) → Q w H'
end K20

/-! The law's own passes. -/
namespace K20
open PySem PySem.Spec PyProof.Rows L2 KD KP KGr
-- RAISES change_of checked_text passed side_by_side
variable {P : Program} {w : World} {K : PySem.W.Frag} {mg : Str → Option Value} {base : Heap}
def psD (us vs os ns : List Str) : Option (Int × Int) → PyData
  | none => .none
  | some (x, y) => .tuple [chD x us vs, chD y os ns]
theorem where_pass {p q : Int} {b c d : Nat} : (leastZ b d ≤ p - q - c ↔ (q + c < p ∨ (q + c = p ∧ (b : Int) + d = 0))) ∧ (leastZ b d ≤ q - p - b ↔ (p + b < q ∨ (p + b = q ∧ (b : Int) + d = 0))) := by
  unfold leastZ
  constructor <;> split <;> omega
def spPPassed : Sp := fun us H Q _ => ∃ (X : Addr → Prop) (v1 v2 : V) (p q : Int) (os ns as bs : List Str), us = [v1, v2] ∧ Trk X H ∧ DX X H v1 (chD p os ns) ∧ DX X H v2 (chD q as bs) ∧ Wd ns ∧ Wd bs ∧ ∀ w H', Same H H' → DX X H' w (psD as bs os ns (passZ p os.length ns.length q as.length bs.length)) → Q w H'
abbrev s__law_p_passed : Stmt := topS 44
abbrev n__law_p_passed : List Str := ["_law_one", "_law_two", "_law_where"]
theorem sc__law_p_passed : FnScope n__law_p_passed ["_law_one", "_law_two"] (defScope s__law_p_passed) := ⟨rfl, rfl, rfl, by decide +kernel, rfl, by decide +kernel, by decide +kernel⟩
theorem ok_p_passed {f : Addr} {fd : FuncData} (F : Fun K "_law_p_passed" "_law_p_passed" s__law_p_passed f fd) (T : Bl mg) (O__law_p_where : Own P w K mg base CX0 1 "_law_p_where" ["_law_one", "_law_two", "_law_many"] spWhere) : FnOk P w K mg base CX0 2 f fd ["_law_one", "_law_two"] spPPassed := by
  refine F.ok sc__law_p_passed (fun vs H Q E h => ?_) (fun cdv A outer s H us Q E hr h => ?_)
  · obtain ⟨X, v1, v2, p, q, os, ns, as, bs, rfl, _⟩ := h
    rfl
  · obtain ⟨X, v1, v2, p, q, os, ns, as, bs, rfl, t, d1, d2, w1, w2, k⟩ := h
    refine ⟨_, (pss_cons (ps_set (i := 2) sc__law_p_passed.nd rfl (by first | exact Or.inl rfl | exact Or.inr rfl) (pe_own O__law_p_where hr (by decide) (by rfl) (pa_cons (pv 0) (pa_cons (pv 1) (pa_cons (pe_callB call_len (by rfl) T.b_len boot_len (pa_cons (pe_ix ix_seq (pv 0) pe_int (fun _ _ => rfl)) pa_nil)) pa_nil)))))
    (pss_cons (ps_if (pt_cmpR op_isN (pv 2) pe_non (nomark _))
    (pss_one (ps_ret pe_non)) pss_nil)
    (pss_cons (ps_if (pt_cmpR (op_eqD hr.units) (pv 2) pe_str (nomark _))
    (pss_one (ps_ret (pe_tup (pa_cons (pv 1) (pa_cons (pe_tup (pa_cons (pe_op op_sub (pe_op op_addA (pe_ix ix_seq (pv 0) pe_int (fun _ _ => rfl)) (pe_callB call_len (by rfl) T.b_len boot_len (pa_cons (pe_ix ix_seq (pv 1) pe_int (fun _ _ => rfl)) pa_nil))) (pe_callB call_len (by rfl) T.b_len boot_len (pa_cons (pe_ix ix_seq (pv 1) pe_int (fun _ _ => rfl)) pa_nil))) (pa_cons (pe_ix ix_seq (pv 0) pe_int (fun _ _ => rfl)) (pa_cons (pe_ix ix_seq (pv 0) pe_int (fun _ _ => rfl)) pa_nil)))) pa_nil))))) pss_nil)
    (pss_one (ps_ret (pe_tup (pa_cons (pe_tup (pa_cons (pe_op op_addA (pe_op op_sub (pe_ix ix_seq (pv 1) pe_int (fun _ _ => rfl)) (pe_callB call_len (by rfl) T.b_len boot_len (pa_cons (pe_ix ix_seq (pv 0) pe_int (fun _ _ => rfl)) pa_nil))) (pe_callB call_len (by rfl) T.b_len boot_len (pa_cons (pe_ix ix_seq (pv 0) pe_int (fun _ _ => rfl)) pa_nil))) (pa_cons (pe_ix ix_seq (pv 1) pe_int (fun _ _ => rfl)) (pa_cons (pe_ix ix_seq (pv 1) pe_int (fun _ _ => rfl)) pa_nil)))) (pa_cons (pv 0) pa_nil)))))))), ?_⟩
    have En : EnvOk X H (L2.start n__law_p_passed [v1, v2]) (pad n__law_p_passed [.dat (chD p os ns), .dat (chD q as bs)]) := env2 d1 d2 (by decide)
    have i1 : ∀ {H1 : Hp} {σ : L2.St} {Γ : List Sv} {j : Int} {z : PyData}, Trk X H1 → EnvOk X H1 σ Γ → Γ[0]? = some (.dat (chD p os ns)) → atI [PyData.int p, wsD os, wsD ns] j = some z → G X (tOp (rIx K) (tVar 0) (tC (.int j))) σ H1 z := fun t E e h => g_ixT (ds := [PyData.int p, wsD os, wsD ns]) t (g_var (i := 0) (d := chD p os ns) E e) g_int h
    have i2 : ∀ {H1 : Hp} {σ : L2.St} {Γ : List Sv} {j : Int} {z : PyData}, Trk X H1 → EnvOk X H1 σ Γ → Γ[1]? = some (.dat (chD q as bs)) → atI [PyData.int q, wsD as, wsD bs] j = some z → G X (tOp (rIx K) (tVar 1) (tC (.int j))) σ H1 z := fun t E e h => g_ixT (ds := [PyData.int q, wsD as, wsD bs]) t (g_var (i := 1) (d := chD q as bs) E e) g_int h
    obtain ⟨A, B⟩ := where_pass (p := p) (q := q) (b := ns.length) (c := as.length) (d := bs.length)
    have gw : G X (tCall spWhere [] E0 (tCons (tVar 0) (tCons (tVar 1) (tCons (tCB (fun xs H Q => ∃ x n, xs = [x] ∧ LenV K x H n ∧ Q (V.int n) H) (tCons (tOp (rIx K) (tVar 0) (tC (.int 2))) tNil)) tNil)))) (L2.start n__law_p_passed [v1, v2]) H (whereD p ns.length q as.length bs.length ns.length) :=
      g_call (ga_cons (g_var (i := 0) (d := chD p os ns) En rfl) (ga_cons (g_var (i := 1) (d := chD q as bs) En rfl) (ga_cons (len_ws (K := K) t (i1 t En rfl rfl)) ga_nil))) fun vs H1 s rs' Q k => by
        cases rs' with
        | cons r1 r2 =>
          cases r2 with
          | cons r2 r3 =>
            cases r3 with
            | cons r3 r4 =>
              cases r4
              rw [r3.int_inv]
              exact ⟨X, _, _, p, q, _, os, ns, as, bs, rfl, t.mono s, r1, r2, w1, w2, k⟩
    refine q_set (i := 2) (d := whereD p ns.length q as.length bs.length ns.length) En gw fun H1 u s1 E1 => ?_
    have t1 := t.mono s1
    unfold passZ passK at k
    unfold whereD at E1
    by_cases h1 : leastZ ns.length bs.length ≤ p - q - as.length
    · rw [if_pos h1] at E1
      rw [if_pos (A.mp h1)] at k
      refine q_if (b := false) (gt_is (gt_op t1 (g_var (i := 2) (d := .str "ahead") E1 rfl) g_non rb_isN) rfl) (fun h => by cases h) fun _ H2 s2 => ?_
      have E2 := E1.same s2
      have t2 := t1.mono s2
      refine q_if (b := true) (gt_is (gt_eqD t2 (g_var (i := 2) (d := .str "ahead") E2 rfl) (g_str (s := "ahead")) rfl rfl (by decide +kernel) (by decide +kernel)) (by rw [eqv_str1]; rfl)) (fun _ H3 s3 => ?_) fun h => by cases h
      have E3 := E2.same s3
      have t3 := t2.mono s3
      exact s_ret (X := X) (d := .tuple [chD q as bs, chD (p + bs.length - as.length) os ns]) (g_tup t3 (ga_cons (g_var (i := 1) (d := chD q as bs) E3 rfl) (ga_cons (g_tup t3 (ga_cons (g_sub t3 (g_addI t3 (i1 t3 E3 rfl rfl) (len_ws (K := K) t3 (i2 t3 E3 rfl rfl))) (len_ws (K := K) t3 (i2 t3 E3 rfl rfl))) (ga_cons (i1 t3 E3 rfl rfl) (ga_cons (i1 t3 E3 rfl rfl) ga_nil))) (by simp)) ga_nil)) (by simp)) fun w H4 s4 dw => k w H4 (((s1.trans s2).trans s3).trans s4) dw
    · rw [if_neg h1] at E1
      rw [if_neg fun z => h1 (A.mpr z)] at k
      by_cases h2 : leastZ ns.length bs.length ≤ q - p - ns.length
      · rw [if_pos h2] at E1
        rw [if_pos (B.mp h2)] at k
        refine q_if (b := false) (gt_is (gt_op t1 (g_var (i := 2) (d := .str "behind") E1 rfl) g_non rb_isN) rfl) (fun h => by cases h) fun _ H2 s2 => ?_
        have E2 := E1.same s2
        have t2 := t1.mono s2
        refine q_if (b := false) (gt_is (gt_eqD t2 (g_var (i := 2) (d := .str "behind") E2 rfl) (g_str (s := "ahead")) rfl rfl (by decide +kernel) (by decide +kernel)) (by rw [eqv_str1]; decide +kernel)) (fun h => by cases h) fun _ H3 s3 => ?_
        have E3 := E2.same s3
        have t3 := t2.mono s3
        exact s_ret (X := X) (D := { nx := fun _ H' => Q .non H', rt := Q }) (d := .tuple [chD (q - ns.length + os.length) as bs, chD p os ns]) (g_tup t3 (ga_cons (g_tup t3 (ga_cons (g_addI t3 (g_sub t3 (i2 t3 E3 rfl rfl) (len_ws (K := K) t3 (i1 t3 E3 rfl rfl))) (len_ws (K := K) t3 (i1 t3 E3 rfl rfl))) (ga_cons (i2 t3 E3 rfl rfl) (ga_cons (i2 t3 E3 rfl rfl) ga_nil))) (by simp)) (ga_cons (g_var (i := 0) (d := chD p os ns) E3 rfl) ga_nil)) (by simp)) fun w H4 s4 dw => k w H4 (((s1.trans s2).trans s3).trans s4) dw
      · rw [if_neg h2] at E1
        rw [if_neg fun z => h2 (B.mpr z)] at k
        refine q_if (b := true) (gt_is (gt_op t1 (g_var (i := 2) (d := .none) E1 rfl) g_non rb_isN) rfl) (fun _ H2 s2 => ?_) fun h => by cases h
        exact s_ret (X := X) (d := .none) g_non fun w H3 s3 dw => k w H3 ((s1.trans s2).trans s3) dw
theorem g_ppassed {X : Addr → Prop} {σ : L2.St} {H : Hp} {ta tb : TE} {E : XK} {p q : Int} {os ns as bs : List Str} (t : Trk X H) (h1 : G X ta σ H (chD p os ns)) (h2 : G X tb σ H (chD q as bs)) (w1 : Wd ns) (w2 : Wd bs) : G X (tCall spPPassed [] E (tCons ta (tCons tb tNil))) σ H (psD as bs os ns (passZ p os.length ns.length q as.length bs.length)) :=
  g_call (ga_cons h1 (ga_cons h2 ga_nil)) fun vs H1 s rs' Q k => by
    cases rs' with
    | cons r1 r2 =>
      cases r2 with
      | cons r2 r3 =>
        cases r3
        exact ⟨X, _, _, p, q, os, ns, as, bs, rfl, t.mono s, r1, r2, w1, w2, k⟩
/-! ### in a run -/
def optD : Option (List Stp) → PyData
  | none => .none
  | some S => .list (S.map stpD)
def spPSteps : Sp := fun us H Q _ => ∃ (X : Addr → Prop) (v : V) (rs : List Stp) (i : Nat), us = [v, .int (i : Nat)] ∧ Trk X H ∧ DX X H v (.list (rs.map stpD)) ∧ i + 1 < rs.length ∧ (∀ r ∈ rs, okP r) ∧ rs.length ≤ 100 ∧ ∀ w H', Same H H' → DX X H' w (optD (turnL rs i)) → Q w H'
abbrev s__law_p_steps_passed : Stmt := topS 47
abbrev n__law_p_steps_passed : List Str := ["_law_run", "_law_at", "_law_pair"]
theorem sc__law_p_steps_passed : FnScope n__law_p_steps_passed ["_law_run", "_law_at"] (defScope s__law_p_steps_passed) := ⟨rfl, rfl, rfl, by decide +kernel, rfl, by decide +kernel, by decide +kernel⟩
theorem ok_p_steps_passed {f : Addr} {fd : FuncData} (F : Fun K "_law_p_steps_passed" "_law_p_steps_passed" s__law_p_steps_passed f fd) (T : Bl mg) (O__law_p_passed : Own P w K mg base CX0 2 "_law_p_passed" ["_law_one", "_law_two"] spPPassed) : FnOk P w K mg base CX0 3 f fd ["_law_run", "_law_at"] spPSteps := by
  refine F.ok sc__law_p_steps_passed (fun vs H Q E h => ?_) (fun cdv A outer s H us Q E hr h => ?_)
  · obtain ⟨X, v, rs, i, rfl, _⟩ := h
    rfl
  · obtain ⟨X, v, rs, i, rfl, t, d1, li, ok, few, q⟩ := h
    refine ⟨_, (pss_cons (ps_set (i := 2) sc__law_p_steps_passed.nd rfl (by first | exact Or.inl rfl | exact Or.inr rfl) (pe_own O__law_p_passed hr (by decide) (by rfl) (pa_cons (pe_ix ix_seq (pe_ix ix_seq (pv 0) (pv 1) (fun _ _ => rfl)) pe_int (fun _ _ => rfl)) (pa_cons (pe_ix ix_seq (pe_ix ix_seq (pv 0) (pe_op op_addA (pv 1) pe_int) (fun _ _ => rfl)) pe_int (fun _ _ => rfl)) pa_nil))))
    (pss_cons (ps_if (pt_cmpR op_isN (pv 2) pe_non (nomark _))
    (pss_one (ps_ret pe_non)) pss_nil)
    (pss_one (ps_ret (pe_op op_addA (pe_op op_addA (pe_slice sl_list (pv 0) po_none (po_some (pv 1))) (pe_lst (pa_cons (pe_tup (pa_cons (pe_ix ix_seq (pe_ix ix_seq (pv 0) (pe_op op_addA (pv 1) pe_int) (fun _ _ => rfl)) pe_int (fun _ _ => rfl)) (pa_cons (pe_ix ix_seq (pv 2) pe_int (fun _ _ => rfl)) pa_nil))) (pa_cons (pe_tup (pa_cons (pe_ix ix_seq (pe_ix ix_seq (pv 0) (pv 1) (fun _ _ => rfl)) pe_int (fun _ _ => rfl)) (pa_cons (pe_ix ix_seq (pv 2) pe_int (fun _ _ => rfl)) pa_nil))) pa_nil)))) (pe_slice sl_list (pv 0) (po_some (pe_op op_addA (pv 1) pe_int)) po_none)))))), ?_⟩
    obtain ⟨a, ha⟩ : ∃ a, rs[i]? = some a := ⟨_, List.getElem?_eq_getElem (by omega)⟩
    obtain ⟨b, hb⟩ : ∃ b, rs[i + 1]? = some b := ⟨_, List.getElem?_eq_getElem li⟩
    have oa := ok a (List.mem_of_getElem? ha)
    have ob := ok b (List.mem_of_getElem? hb)
    have En : EnvOk X H (L2.start n__law_p_steps_passed [v, .int (i : Nat)]) [.dat (.list (rs.map stpD)), .dat (.int (i : Nat)), .un] := env2 (N := n__law_p_steps_passed) d1 (.int _) (by decide)
    have ia : ∀ {H1 : Hp} {σ : L2.St} {Γ : List Sv} {j : Int} {z : PyData}, Trk X H1 → EnvOk X H1 σ Γ → Γ[0]? = some (.dat (.list (rs.map stpD))) → Γ[1]? = some (.dat (.int (i : Nat))) → atI [PyData.str a.name, chOf a] j = some z → G X (tOp (rIx K) (tOp (rIx K) (tVar 0) (tVar 1)) (tC (.int j))) σ H1 z := fun t E e1 e2 h => g_ixT (ds := [PyData.str a.name, chOf a]) t (g_ixL (ds := rs.map stpD) (z := stpD a) t (g_var (i := 0) (d := .list (rs.map stpD)) E e1) (g_var (i := 1) (d := .int (i : Nat)) E e2) (atI_nat (by rw [List.getElem?_map, ha]; rfl))) g_int h
    have ib : ∀ {H1 : Hp} {σ : L2.St} {Γ : List Sv} {j : Int} {z : PyData}, Trk X H1 → EnvOk X H1 σ Γ → Γ[0]? = some (.dat (.list (rs.map stpD))) → Γ[1]? = some (.dat (.int (i : Nat))) → atI [PyData.str b.name, chOf b] j = some z → G X (tOp (rIx K) (tOp (rIx K) (tVar 0) (tOp rAddA (tVar 1) (tC (.int 1)))) (tC (.int j))) σ H1 z := fun t E e1 e2 h => g_ixT (ds := [PyData.str b.name, chOf b]) t (g_ixL (ds := rs.map stpD) (i := ((i + 1 : Nat) : Int)) (z := stpD b) t (g_var (i := 0) (d := .list (rs.map stpD)) E e1) (g_is (g_addI (j := 1) t (g_var (i := 1) (d := .int (i : Nat)) E e2) g_int) (by congr 1)) (atI_nat (by rw [List.getElem?_map, hb]; rfl))) g_int h
    obtain ⟨⟨a1, a2, a3, a4⟩, _⟩ := oa
    obtain ⟨⟨b1, b2, b3, b4⟩, _⟩ := ob
    have GP := g_ppassed (E := E0) (p := a.p) (q := b.p) t (ia (j := 1) (z := chOf a) t En rfl rfl rfl) (ib (j := 1) (z := chOf b) t En rfl rfl rfl) a3 b3
    have eT : turnL rs i = (pasS a b).map fun p => rs.take i ++ [p.1, p.2] ++ rs.drop (i + 2) := by
      unfold turnL
      rw [ha, hb]
    rw [eT] at q
    unfold pasS at q
    cases hz : passZ a.p a.os.length a.ns.length b.p b.os.length b.ns.length with
    | none =>
      rw [hz] at GP q
      refine q_set (i := 2) (d := .none) En GP fun H3 v3 s3 E3 => ?_
      refine q_if (b := true) (gt_is (gt_op (t.mono s3) (g_var (i := 2) (d := .none) E3 rfl) g_non rb_isN) rfl) (fun _ H4 s4 => ?_) fun h => by cases h
      exact s_ret (X := X) (d := .none) g_non fun w H5 s5 dw => q w H5 ((s3.trans s4).trans s5) dw
    | some xy =>
      obtain ⟨x, y⟩ := xy
      rw [hz] at GP q
      have q : ∀ w H', Same H H' → DX X H' w (.list ((rs.take i ++ [{ b with p := x }, { a with p := y }] ++ rs.drop (i + 2)).map stpD)) → Q w H' := q
      refine q_set (i := 2) (d := .tuple [chD x b.os b.ns, chD y a.os a.ns]) En GP fun H3 v3 s3 E3 => ?_
      have t3 := t.mono s3
      refine q_if (b := false) (gt_is (gt_op t3 (g_var (i := 2) (d := .tuple [chD x b.os b.ns, chD y a.os a.ns]) E3 rfl) g_non rb_isN) rfl) (fun h => by cases h) fun _ H4 s4 => ?_
      have E4 : EnvOk X H4 _ [.dat (.list (rs.map stpD)), .dat (.int (i : Nat)), .dat (.tuple [chD x b.os b.ns, chD y a.os a.ns])] := E3.same s4
      have t4 := t3.mono s4
      have two : ∀ {k : Nat} {z : PyData}, [chD x b.os b.ns, chD y a.os a.ns][k]? = some z → G X (tOp (rIx K) (tVar 2) (tC (.int (k : Int)))) _ H4 z := fun hk => g_ixT (ds := [chD x b.os b.ns, chD y a.os a.ns]) t4 (g_var (i := 2) (d := .tuple [chD x b.os b.ns, chD y a.os a.ns]) E4 rfl) g_int (atI_nat hk)
      have c1 := cutP_len (rs.map stpD) none (some (i : Int))
      have c2 := cutP_len (rs.map stpD) (some ((i : Int) + 2)) none
      rw [List.length_map] at c1 c2
      refine s_ret (X := X) (D := { nx := fun _ H' => Q .non H', rt := Q }) (d := .list ((rs.take i ++ [{ b with p := x }, { a with p := y }] ++ rs.drop (i + 2)).map stpD)) (g_is (g_cat t4 (g_cat (ys := [.tuple [.str b.name, chD x b.os b.ns], .tuple [.str a.name, chD y a.os a.ns]]) t4 (g_sl (lo := none) (hi := some (i : Int)) (ds := rs.map stpD) t4 (g_var (i := 0) (d := .list (rs.map stpD)) E4 rfl) go_none (go_some (g_var (i := 1) (d := .int (i : Nat)) E4 rfl))) (g_lst t4 (ga_cons (g_tup t4 (ga_cons (ib (j := 0) (z := .str b.name) t4 E4 rfl rfl rfl) (ga_cons (two (k := 0) rfl) ga_nil)) (by simp)) (ga_cons (g_tup t4 (ga_cons (ia (j := 0) (z := .str a.name) t4 E4 rfl rfl rfl) (ga_cons (two (k := 1) rfl) ga_nil)) (by simp)) ga_nil)) (by simp)) (by simp; omega)) (g_sl (lo := some ((i : Int) + 2)) (hi := none) (ds := rs.map stpD) t4 (g_var (i := 0) (d := .list (rs.map stpD)) E4 rfl) (go_some (g_addI (j := 2) t4 (g_var (i := 1) (d := .int (i : Nat)) E4 rfl) g_int)) go_none) (by simp; omega)) ?_) fun w H5 s5 dw => q w H5 ((s3.trans s4).trans s5) dw
      congr 1
      rw [cutP_to _ (by omega), show ((i : Int) + 2) = ((i + 2 : Nat) : Int) by omega, cut_frm, show ((i : Int)).toNat = i by omega, List.map_append, List.map_append, List.map_take, List.map_drop]
      rfl
theorem g_psteps {X : Addr → Prop} {σ : L2.St} {H : Hp} {ta tb : TE} {E : XK} {rs : List Stp} {i : Nat} (t : Trk X H) (h1 : G X ta σ H (.list (rs.map stpD))) (h2 : G X tb σ H (.int (i : Nat))) (li : i + 1 < rs.length) (ok : ∀ r ∈ rs, okP r) (few : rs.length ≤ 100) : G X (tCall spPSteps [] E (tCons ta (tCons tb tNil))) σ H (optD (turnL rs i)) :=
  g_call (ga_cons h1 (ga_cons h2 ga_nil)) fun vs H1 s rs' Q k => by
    cases rs' with
    | cons r1 r2 =>
      cases r2 with
      | cons r2 r3 =>
        cases r3
        rw [r2.int_inv]
        exact ⟨X, _, rs, i, rfl, t.mono s, r1, li, ok, few, k⟩
/-! ### walked -/
def spWalked : Sp := fun us H Q _ => ∃ (X : Addr → Prop) (v1 v2 : V) (rs : List Stp) (is : List Nat) (S : List Stp), us = [v1, v2] ∧ Trk X H ∧ DX X H v1 (.list (rs.map stpD)) ∧ DX X H v2 (idxD is) ∧ (∀ r ∈ rs, okP r) ∧ rs.length ≤ 100 ∧ is.length ≤ 1000 ∧ walkL rs is = some S ∧ ∀ w H', Same H H' → DX X H' w (.list (S.map stpD)) → Q w H'
theorem walk_cut : ∀ {is js : List Nat} {R S : List Stp}, walkL R (is ++ js) = some S → ∃ T, walkL R is = some T ∧ walkL T js = some S
  | [], js, R, S, h => ⟨R, rfl, h⟩
  | i :: is, js, R, S, h => by
    obtain ⟨R', h1, h2⟩ := Option.bind_eq_some_iff.mp h
    obtain ⟨T, h3, h4⟩ := walk_cut h2
    refine ⟨T, ?_, h4⟩
    show (turnL R i).bind _ = _
    rw [h1]
    exact h3
abbrev s__law_walked : Stmt := topS 56
abbrev n__law_walked : List Str := ["_law_run", "_law_spots", "_law_at"]
theorem sc__law_walked : FnScope n__law_walked ["_law_run", "_law_spots"] (defScope s__law_walked) := ⟨rfl, rfl, rfl, by decide +kernel, rfl, by decide +kernel, by decide +kernel⟩
theorem ok_walked {f : Addr} {fd : FuncData} (F : Fun K "_law_walked" "_law_walked" s__law_walked f fd) (T : Bl mg) (O__law_p_steps_passed : Own P w K mg base CX0 3 "_law_p_steps_passed" ["_law_run", "_law_at"] spPSteps) : FnOk P w K mg base CX0 4 f fd ["_law_run", "_law_spots"] spWalked := by
  refine F.ok sc__law_walked (fun vs H Q E h => ?_) (fun cdv A outer s H us Q E hr h => ?_)
  · obtain ⟨X, v1, v2, rs, is, S, rfl, _⟩ := h
    rfl
  · obtain ⟨X, v1, v2, rs, is, S, rfl, t, d1, d2, ok, few, few2, hw, q⟩ := h
    refine ⟨_, (pss_cons (ps_for PassesOwn.never rfl (pi_list (pv 1)) (pg_name (i := 2) sc__law_walked.nd rfl (by first | exact Or.inl rfl | exact Or.inr rfl))
    (pss_one (ps_set (i := 0) sc__law_walked.nd rfl (by first | exact Or.inl rfl | exact Or.inr rfl) (pe_ifExp (PW.pt (pw_and (pt_cmpR op_notN (pv 0) pe_non (nomark _)) (pw_and1 (pt_chain op_le op_lt pe_int (pv 2) (pe_op op_sub (pe_callB call_len (by rfl) T.b_len boot_len (pa_cons (pv 0) pa_nil)) pe_int))))) (pe_own O__law_p_steps_passed hr (by decide) (by rfl) (pa_cons (pv 0) (pa_cons (pv 2) pa_nil))) pe_non))))
    (pss_one (ps_ret (pv 0)))), ?_⟩
    have En : EnvOk X H (L2.start n__law_walked [v1, v2]) [.dat (.list (rs.map stpD)), .dat (idxD is), .un] := env2 (N := n__law_walked) d1 d2 (by decide)
    refine s_forD (X := X) (gi_list (K := K) (g_var (i := 1) (d := idxD is) En rfl)) (fun Hb j σ' H' => (Kp X Hb H' ∧ Trk X H') ∧ Same H H' ∧ ∃ L, walkL rs (is.take j) = some L ∧ EnvOk X H' σ' [.dat (.list (L.map stpD)), .dat (idxD is), .un]) (fun Hb sb => ⟨⟨Kp.refl, t.mono sb⟩, sb, rs, rfl, En.same sb⟩) (fun Hb j σ' H' p => p.1) ?_ ?_
    · rintro Hb j x d σ' H' H'' sb hd ⟨⟨p1, p2⟩, p3, L, p4, E1⟩ s1 dx
      rw [List.getElem?_map] at hd
      obtain ⟨i, hi, rfl⟩ := Option.map_eq_some_iff.mp hd
      have tk : is.take (j + 1) = is.take j ++ [i] := by rw [List.take_add_one, hi]; rfl
      have hw2 : walkL rs (is.take (j + 1) ++ is.drop (j + 1)) = some S := by rw [List.take_append_drop]; exact hw
      obtain ⟨L', h1, _⟩ := walk_cut hw2
      rw [tk, walk_snoc, p4] at h1
      have h1 : turnL L i = some L' := h1
      obtain ⟨okL, _, lL⟩ := walk_ok ok p4
      obtain ⟨A, B, a, b, b', a', eL, lA, _, _⟩ := turn_get h1
      have li : i + 1 < L.length := by rw [eL, ← lA]; simp
      refine k_name ?_
      have t1 := p2.mono s1
      have E2 : EnvOk X H'' _ [.dat (.list (L.map stpD)), .dat (idxD is), .dat (.int (i : Nat))] := (E1.same s1).set (i := 2) dx
      have gl := g_sub t1 (g_is (g_len (K := K) t1 (g_var (i := 0) (d := .list (L.map stpD)) E2 rfl) rfl) (by show PyData.int ((L.map stpD).length : Nat) = _; rw [List.length_map])) (g_int (i := 1))
      refine g_if (b := true) (d := .list (L'.map stpD)) ?_ (fun _ => g_is (g_psteps t1 (g_var (i := 0) (d := .list (L.map stpD)) E2 rfl) (g_var (i := 2) (d := .int (i : Nat)) E2 rfl) li okL (by omega)) (by rw [h1]; rfl)) (fun h => by cases h) H'' (Same.refl _) _ fun v3 H3 s3 d3 => ?_
      · refine gt_is (gt_and (a := true) (b := true) (gt_is (gt_op t1 (g_var (i := 0) (d := .list (L.map stpD)) E2 rfl) g_non rb_notN) rfl) fun _ => gt_test (g_is (g_chain t1 (g_int (i := 0)) (g_var (i := 2) (d := .int (i : Nat)) E2 rfl) (fun _ => gl) rb_I0 rb_I0) ?_)) rfl
        show PyData.bool (decide ((0 : Int) ≤ (i : Int)) && decide ((i : Int) < (L.length : Int) - 1)) = _
        rw [decide_eq_true (by omega), decide_eq_true (by omega)]
        rfl
      · refine ⟨⟨(p1.trans (Kp.of s1)).trans (Kp.of s3), t1.mono s3⟩, (p3.trans s1).trans s3, L', ?_, envUn ((E2.same s3).set (i := 0) d3) 2⟩
        rw [tk, walk_snoc, p4]
        exact h1
    · rintro Hb σ' H' sb ⟨⟨p1, p2⟩, p3, L, p4, E1⟩
      rw [List.length_map, List.take_length, hw] at p4
      cases p4
      exact s_ret (X := X) (D := { nx := fun _ H' => Q .non H', rt := Q }) (g_var (i := 0) (d := .list (S.map stpD)) E1 rfl) fun w H2 s2 dw => q w H2 (p3.trans s2) dw
end K20

/-! All lists of names. -/
namespace K20
open PySem PySem.Spec PyProof.Rows L2 KD KP KGr
variable {P : Program} {w : World} {K : PySem.W.Frag} {mg : Str → Option Value} {base : Heap}
theorem op_notInK {X : Cx} (h : X.K = K) : OpR X (compareOp .NotIn) (rIn K true) := h ▸ op_notIn_seq
theorem inV_strs {s : Str} {row : List Str} : inV (.str s) (row.map V.str) = decide (s ∈ row) := by
  unfold inV
  rw [List.any_map, Bool.eq_iff_iff, List.any_eq_true, decide_eq_true_eq]
  constructor
  · rintro ⟨x, hx, e⟩
    have e : eqV (.str x) (.str s) = true := e
    have : x = s := by simpa [eqV] using e
    exact this ▸ hx
  · intro h
    refine ⟨s, h, ?_⟩
    show eqV (.str s) (.str s) = true
    simp [eqV]
theorem rb_notInS {X : Addr → Prop} {s : Str} {row : List Str} : RB X (rIn K true) (.str s) (wsD row) (!decide (s ∈ row)) := fun H u v _ ru rv Q q => by
  obtain ⟨a, xs, rfl, _, ha, rs⟩ := rv.lst_inv
  have e := strs_inv rs
  subst e
  refine ⟨a, row.map V.str, rfl, .inl (SqL.of ha), by rw [ru.str_inv]; rfl, ?_, ?_⟩
  · rw [List.all_eq_true]
    intro z hz
    obtain ⟨_, _, rfl⟩ := List.mem_map.mp hz
    rfl
  · rw [ru.str_inv, inV_strs]
    exact q
def nextsL (ns row : List Str) : List (List Str) := (ns.filter fun x => decide (x ∉ row)).map fun x => row ++ [x]
def listsK (ns : List Str) : Nat → List (List Str)
  | 0 => [[]]
  | k + 1 => (listsK ns k).flatMap (nextsL ns)
theorem lists_len {ns : List Str} : ∀ k, (listsK ns k).length ≤ ns.length ^ k
  | 0 => by simp [listsK]
  | k + 1 => by
    have h := lists_len (ns := ns) k
    have key : ∀ l : List (List Str), (l.flatMap (nextsL ns)).length ≤ l.length * ns.length := fun l => by
      induction l with
      | nil => simp
      | cons r l ih =>
        have : (nextsL ns r).length ≤ ns.length := by
          unfold nextsL
          rw [List.length_map]
          exact List.length_filter_le _ _
        rw [List.flatMap_cons, List.length_append, List.length_cons, Nat.succ_mul]
        omega
    have := key (listsK ns k)
    show ((listsK ns k).flatMap (nextsL ns)).length ≤ _
    rw [Nat.pow_succ]
    exact Nat.le_trans this (Nat.mul_le_mul_right _ h)
theorem lists_row {ns : List Str} : ∀ {k : Nat} {r : List Str}, r ∈ listsK ns k → r.length = k ∧ r.Nodup ∧ ∀ x ∈ r, x ∈ ns
  | 0, r, h => by
    rw [List.mem_singleton.mp h]
    exact ⟨rfl, .nil, fun x hx => by cases hx⟩
  | k + 1, r, h => by
    obtain ⟨q, hq, hr⟩ := List.mem_flatMap.mp h
    obtain ⟨x, hx, rfl⟩ := List.mem_map.mp hr
    obtain ⟨h1, h2⟩ := List.mem_filter.mp hx
    obtain ⟨a, b, c⟩ := lists_row hq
    have nx : x ∉ q := of_decide_eq_true h2
    refine ⟨by rw [List.length_append, a]; rfl, ?_, fun y hy => ?_⟩
    · exact List.nodup_append.mpr ⟨b, by simp, fun y hy z hz e => by
        rw [List.mem_singleton.mp hz] at e
        exact nx (e ▸ hy)⟩
    · rcases List.mem_append.mp hy with h | h
      · exact c y h
      · rw [List.mem_singleton.mp h]
        exact h1
theorem lists_all {ns r : List Str} (nd : r.Nodup) (h : ∀ x ∈ r, x ∈ ns) : ∀ k, k ≤ r.length → r.take k ∈ listsK ns k
  | 0, _ => by simp [listsK]
  | k + 1, hk => by
    have ih := lists_all nd h k (by omega)
    have et : r.take (k + 1) = r.take k ++ [r[k]'(by omega)] := by rw [List.take_add_one, List.getElem?_eq_getElem (by omega)]; rfl
    refine List.mem_flatMap.mpr ⟨_, ih, ?_⟩
    rw [et]
    refine List.mem_map.mpr ⟨r[k]'(by omega), List.mem_filter.mpr ⟨h _ (List.getElem_mem _), decide_eq_true fun hm => ?_⟩, rfl⟩
    have n2 : (r.take (k + 1)).Nodup := nd.sublist (List.take_sublist _ _)
    rw [et] at n2
    exact (List.nodup_append.mp n2).2.2 _ hm _ (by simp) rfl
theorem perm_of {ns r : List Str} (nd : ns.Nodup) (h : r ∈ listsK ns ns.length) : r.Perm ns := by
  obtain ⟨a, b, c⟩ := lists_row h
  refine (List.perm_ext_iff_of_nodup b nd).mpr fun x => ⟨c x, fun hx => Classical.byContradiction fun hn => ?_⟩
  have := List.Nodup.length_le_of_subset (List.nodup_cons.mpr ⟨hn, b⟩) (l₂ := ns) fun y hy => (List.mem_cons.mp hy).elim (fun e => e ▸ hx) (c y)
  rw [List.length_cons] at this
  omega
theorem in_lists {ns r : List Str} (nd : ns.Nodup) (h : r.Perm ns) : r ∈ listsK ns ns.length := by
  have := lists_all (h.nodup_iff.mpr nd) (fun x hx => h.mem_iff.mp hx) r.length (Nat.le_refl _)
  rw [List.take_length, h.length_eq] at this
  exact this
def lsD' (l : List (List Str)) : PyData := .list (l.map wsD)
def spLists : Sp := fun us H Q _ => ∃ (X : Addr → Prop) (v : V) (ns : List Str), us = [v] ∧ Trk X H ∧ DX X H v (wsD ns) ∧ ns.length ≤ 5 ∧ ∀ w H', Same H H' → DX X H' w (lsD' (listsK ns ns.length)) → Q w H'
theorem few5 {ns : List Str} (h : ns.length ≤ 5) {k : Nat} (hk : k ≤ 5) : (listsK ns k).length ≤ 3125 :=
  Nat.le_trans (lists_len k) (Nat.le_trans (Nat.pow_le_pow_left h k) (Nat.pow_le_pow_right (by omega : 0 < 5) hk))
-- HINT _law_p_lists inNotIn (op_notInK (K := K) rfl)
abbrev s__law_p_lists : Stmt := topS 45
abbrev n__law_p_lists : List Str := ["_law_names", "_law_found", "_law_turn", "_law_longer", "_law_row", "_law_name"]
theorem sc__law_p_lists : FnScope n__law_p_lists ["_law_names"] (defScope s__law_p_lists) := ⟨rfl, rfl, rfl, by decide +kernel, rfl, by decide +kernel, by decide +kernel⟩
theorem ok_p_lists {f : Addr} {fd : FuncData} (F : Fun K "_law_p_lists" "_law_p_lists" s__law_p_lists f fd) (T : Bl mg) : FnOk P w K mg base CX0 1 f fd ["_law_names"] spLists := by
  refine F.ok sc__law_p_lists (fun vs H Q E h => ?_) (fun cdv A outer s H us Q E hr h => ?_)
  · obtain ⟨X, v, ns, rfl, _⟩ := h
    rfl
  · obtain ⟨X, v, ns, rfl, t, d1, l5, q⟩ := h
    refine ⟨_, (pss_cons (ps_set (i := 1) sc__law_p_lists.nd rfl (by first | exact Or.inl rfl | exact Or.inr rfl) (pe_lst (pa_cons (pe_lst pa_nil) pa_nil)))
    (pss_cons (ps_for PassesOwn.never rfl (pi_range1 (by rfl) T.b_range (pa_cons (pe_callB call_len (by rfl) T.b_len boot_len (pa_cons (pv 0) pa_nil)) pa_nil)) (pg_name (i := 2) sc__law_p_lists.nd rfl (by first | exact Or.inl rfl | exact Or.inr rfl))
    (pss_cons (ps_set (i := 3) sc__law_p_lists.nd rfl (by first | exact Or.inl rfl | exact Or.inr rfl) (pe_lst pa_nil))
    (pss_cons (ps_for PassesOwn.never rfl (pi_list (pv 1)) (pg_name (i := 4) sc__law_p_lists.nd rfl (by first | exact Or.inl rfl | exact Or.inr rfl))
    (pss_one (ps_expr (pe_bm PySem.F.plainAttrs_list PySem.F.slot_list_extend PySem.F.type_list_extend mt_extend (pv 3) (pa_cons (pe_lc (own := [("_law_name", 5)]) (g := (gName 5)) rfl sc__law_p_lists.nd (pi_list (pv 0)) (blkOk_by (N := n__law_p_lists) (sc := defScope s__law_p_lists) (by decide +kernel)) (fun _ _ _ _ _ => (pg_name (i := 5) sc__law_p_lists.nd rfl (by first | exact Or.inl rfl | exact Or.inr rfl))) (fun _ _ _ _ _ => (pts_one (pt_cmpR (op_notInK (K := K) rfl) (pv 5) (pv 4) (by rfl)))) (fun _ _ _ _ _ => (pe_op op_addA (pv 4) (pe_lst (pa_cons (pv 5) pa_nil))))) pa_nil)))))
    (pss_one (ps_set (i := 1) sc__law_p_lists.nd rfl (by first | exact Or.inl rfl | exact Or.inr rfl) (pv 3))))))
    (pss_one (ps_ret (pv 1))))), ?_⟩
    let Γ (d x3 : Sv) : List Sv := [.dat (wsD ns), d, .un, x3, .un, .un]
    have En : EnvOk X H (L2.start n__law_p_lists [v]) (Γ .un .un) := ⟨rfl, fun i s e => by
      match i, e with
      | 0, e => cases e; exact ⟨_, rfl, d1⟩
      | 1, e => cases e; trivial
      | 2, e => cases e; trivial
      | 3, e => cases e; trivial
      | 4, e => cases e; trivial
      | 5, e => cases e; trivial
      | _ + 6, e => cases e⟩
    refine q_set (i := 1) (d := lsD' (listsK ns 0)) En (g_lst t (ga_cons (g_lst t ga_nil (by simp)) ga_nil) (by simp [listsK])) fun H1 u s1 E1 => ?_
    have t1 := t.mono s1
    have E1 : EnvOk X H1 _ (Γ (.dat (lsD' (listsK ns 0))) .un) := E1
    refine s_forD (X := X) (gi_range1 (len_ws (K := K) t1 (g_var (i := 0) (d := wsD ns) E1 rfl)) (by omega) (by omega)) (fun Hb k σ' H' => (Kp X Hb H' ∧ Trk X H') ∧ Same H H' ∧ EnvOk X H' σ' (Γ (.dat (lsD' (listsK ns k))) .un)) (fun Hb sb => ⟨⟨Kp.refl, t1.mono sb⟩, s1.trans sb, E1.same sb⟩) (fun Hb k σ' H' p => p.1) ?_ ?_
    · rintro Hb k x d σ' H' H'' sb hd ⟨⟨p1, p2⟩, p3, E2⟩ s2 dx
      have hk : k < ns.length := by
        have := (List.getElem?_eq_some_iff.mp hd).1
        rw [rangeD_len] at this
        omega
      refine k_name ?_
      have t2 := p2.mono s2
      have E3 : EnvOk X H'' _ (Γ (.dat (lsD' (listsK ns k))) .un) := envUn ((E2.same s2).set (i := 2) dx) 2
      refine k_own (i := 3) E3 t2 (gn_lst t2 ga_nil (by simp)) fun L H4 xs4 f4 s4 h4 x4 E4 t4 => ?_
      cases x4
      have nX : ¬ X L := t2.new f4
      let X' : Addr → Prop := fun b => X b ∨ b = L
      have sH := p3.trans s2
      have E4 : EnvOk X' H4 _ (Γ (.dat (lsD' (listsK ns k))) (.val (.ref L))) := E4
      have lk := few5 l5 (k := k) (by omega)
      have lk1 := few5 l5 (k := k + 1) (by omega)
      refine s_forD (X := X') (gi_list (K := K) (g_var (i := 1) (d := lsD' (listsK ns k)) E4 rfl)) (fun Hc j σ2 H2 => (Kp X' Hc H2 ∧ Trk X' H2) ∧ (∀ a o, a ≠ L → H4 a = some o → H2 a = some o) ∧ (∃ ys, H2 L = some (.lst ys) ∧ DXs X' H2 ys ((((listsK ns k).take j).flatMap (nextsL ns)).map wsD)) ∧ EnvOk X' H2 σ2 (Γ (.dat (lsD' (listsK ns k))) (.val (.ref L)))) (fun Hc sc => ⟨⟨Kp.refl, t4.mono sc⟩, fun a o _ e => sc _ _ e, ⟨[], sc _ _ h4, .nil⟩, E4.same sc⟩) (fun Hc j σ2 H2 p => p.1) ?_ ?_
      · rintro Hc j x2 d2 σ2 H2 H5 sc hd2 ⟨⟨c1, c2⟩, c3, ⟨ys, c4, c5⟩, E5⟩ s5 dx2
        rw [List.getElem?_map] at hd2
        obtain ⟨row, hrow, rfl⟩ := Option.map_eq_some_iff.mp hd2
        have tk : (listsK ns k).take (j + 1) = (listsK ns k).take j ++ [row] := by rw [List.take_add_one, hrow]; rfl
        have lrow := (lists_row (List.mem_of_getElem? hrow)).1
        refine k_name ?_
        have t5 := c2.mono s5
        have E6 : EnvOk X' H5 _ [.dat (wsD ns), .dat (lsD' (listsK ns k)), .un, .val (.ref L), .dat (wsD row), .un] := (E5.same s5).set (i := 4) dx2
        have sub : (((listsK ns k).take (j + 1)).flatMap (nextsL ns)).length ≤ 3125 := by
          have e : listsK ns (k + 1) = ((listsK ns k).take (j + 1)).flatMap (nextsL ns) ++ ((listsK ns k).drop (j + 1)).flatMap (nextsL ns) := by
            show (listsK ns k).flatMap (nextsL ns) = _
            rw [← List.flatMap_append, List.take_append_drop]
          rw [e, List.length_append] at lk1
          omega
        rw [tk, List.flatMap_append, List.flatMap_singleton] at sub ⊢
        refine k_drop1' (q_extend (i := 3) (L := L) (es := (nextsL ns row).map wsD) E6 rfl (.inr rfl) t5 (s5 _ _ c4) (c5.mono (Kp.of s5)) (g_is (g_lc (ds := ns.map PyData.str) (Γ2 := fun z => [.dat (wsD ns), .dat (lsD' (listsK ns k)), .un, .val (.ref L), .dat (wsD row), .dat z]) (fun z => match z with | .str s => decide (s ∉ row) | _ => false) (fun z => .list (row.map PyData.str ++ [z])) t5 (gi_list (K := K) (g_var (i := 0) (d := wsD ns) E6 rfl)) (by rw [List.length_map]; omega) (fun H6 s6 z hz => tgt_name (E6.same s6)) (fun X2 H6 σ3 z hz t6 E7 => ?_) (fun X2 H6 σ3 z hz hf t6 E7 => g_cat (ys := [z]) t6 (g_var (i := 4) (d := wsD row) E7 rfl) (g_lst t6 (ga_cons (g_var (i := 5) (d := z) E7 rfl) ga_nil) (by simp)) (by rw [List.length_map]; simp; omega))) ?_) (by rw [List.length_map, List.length_map]; rw [List.length_append] at sub; omega) fun H7 zs h7 x7 E7 t7 k7 => ?_)
        · obtain ⟨s, hs, rfl⟩ := List.mem_map.mp hz
          exact gt_is (gt_op t6 (g_var (i := 5) (d := .str s) E7 rfl) (g_var (i := 4) (d := wsD row) E7 rfl) rb_notInS) (by simp)
        · unfold nextsL
          rw [List.filter_map, List.map_map, List.map_map]
          congr 1
          refine List.map_congr_left fun x hx => ?_
          show PyData.list (row.map PyData.str ++ [.str x]) = wsD (row ++ [x])
          unfold wsD
          rw [List.map_append]
          rfl
        · refine ⟨⟨(c1.trans (Kp.of s5)).trans fun a o n e => k7 a o (fun z => n (.inr z)) e, t7⟩, fun a o n e => k7 a o n (s5 _ _ (c3 a o n e)), ⟨zs, h7, ?_⟩, envUn E7 4⟩
          rw [List.map_append]
          exact x7
      · rintro Hc σ2 H2 sc ⟨⟨c1, c2⟩, c3, ⟨ys, c4, c5⟩, E5⟩
        rw [List.length_map, List.take_length] at c5
        have E6 := EnvOk.give (i := 3) E5 rfl nX c4 c5
        have t6 : Trk X H2 := fun a h => c2 a (.inl h)
        have k2q : Same H'' H2 := fun a o e => c3 a o (fun z => by rw [z, f4] at e; cases e) (s4 _ _ e)
        refine g_var (i := 3) (d := lsD' (listsK ns (k + 1))) E6 rfl H2 (Same.refl _) _ fun v7 H7 s7 d7 => ?_
        exact ⟨⟨((p1.trans (Kp.of s2)).trans (Kp.of k2q)).trans (Kp.of s7), t6.mono s7⟩, (sH.trans k2q).trans s7, envUn ((E6.same s7).set (i := 1) d7) 3⟩
    · rintro Hb σ' H' sb ⟨⟨p1, p2⟩, p3, E2⟩
      rw [rangeD_len, Int.toNat_natCast] at E2
      exact s_ret (X := X) (D := { nx := fun _ H' => Q .non H', rt := Q }) (g_var (i := 1) (d := lsD' (listsK ns ns.length)) E2 rfl) fun w H3 s3 dw => q w H3 (p3.trans s3) dw
end K20

/-! {k: v}, the key a tuple. -/
namespace KD1
open PySem PySem.Spec PyProof.Rows L2
def tDisp1T (tk tv : TE) : TE := fun σ H Q => ∀ p, H p = none → tk σ (upd H p (.dT [])) fun x H1 => tv σ H1 fun y H2 => H2 p = some (.dT []) ∧ ∃ b k, x = .ref b ∧ H2 b = some (.tup (k.map kV)) ∧ Q (.ref p) (upd H2 p (.dT [(k, y)]))
theorem pe_disp1T {X : Cx} {pos : Pos} {k v : Expr} {tk tv : TE} (hu : X.A.units + 1 < cLine) (hk : PE X k tk) (hv : PE X v tv) : PE X (.Dict [some k] [v] pos) (tDisp1T tk tv) := by
  refine ⟨fun pins s σ H Q I q => ?_⟩
  have hn := I.hok.fresh (Nat.le_refl s.heap.objs.size)
  have I1 := I.laid (a := s.heap.objs.size) (o := .dT []) (h' := s.heap.push { cls := .type "dict", data := .dict #[] }) (t' := s.toks) (fun _ _ q => Heap.get?_push_of_some _ q) (Nat.le_refl _) (dt_empty s.heap I.big)
  have hsh := zip_pairTrees [some k] [v] X.env pos rfl rfl
  rw [arm_eval_Dict, hsh, dictDisplay_pairs (pairTrees [some k] [v] X.env pos) (by intro z; cases z) (by show 1 < _; decide)]
  refine wpAny_bind (wpAny_standAt (wpAny_bind (wpAny_subDictH (knd := tupleKind (mixKind X.prog X.w)) (Q := fun d s' => wpAny (model X.prog X.w) X.A (pure (Value.ref d)) _ X.xe s') (show X.A.units < cLine by omega) (by show 1 ≤ 15; decide) ?_)))
  refine thn ((pps_cons hk hv pps_nil).run pins _ σ _ (fun ps H2 => match ps with
    | [(x, y)] => H2 s.heap.objs.size = some (.dT []) ∧ ∃ b k, x = .ref b ∧ H2 b = some (.tup (k.map kV)) ∧ Q (.ref s.heap.objs.size) (upd H2 s.heap.objs.size (.dT [(k, y)]))
    | _ => False) I1 ?_) fun ws s2 ⟨ps, H2, I2, rel, qq⟩ => ?_
  · have := q _ hn
    exact this
  · match ps, rel, qq with
    | [(x, y)], rel, ⟨e, b, kk, ex, eb, q2⟩ =>
    subst ex
    cases rel with
    | @cons _ q0 _ qs h t =>
      cases t
      obtain ⟨u0, w0⟩ := q0
      obtain ⟨h1, h2⟩ := h
      cases (show u0 = Value.ref b from h1)
      obtain ⟨z, hd, xs, r0, dd⟩ := dt_of I2.hok e
      cases r0
      refine ⟨[(kk, b, w0)], ⟨rfl, rfl, key_of I2.hok eb, trivial⟩, dd, fun h' tk dd' hs => wpAny_pure ?_⟩
      have he : ∃ q, h'.get? s.heap.objs.size = some q := let ⟨q, _, _, hq, _⟩ := dd'; ⟨q, hq⟩
      refine ⟨.ref s.heap.objs.size, _, ?_, rfl, q2⟩
      have nb : b ≠ s.heap.objs.size := fun z => by rw [z, e] at eb; cases eb
      obtain ⟨o, es, ep, d1, d2, d3, d4, d5, d6⟩ := dd'
      exact d_write I2 (by rw [e]; exact True.intro) hs he ⟨by show 1 ≤ sizeLine; decide, hd, [(kk, b, w0)], .cons ⟨rfl, by rw [upd_ne nb]; exact eb, h2⟩ .nil, o, es, ep, d1, d2, d3, d4, d6⟩
end KD1

/-! All that a run leads to: mathematics. -/
namespace K20
open PySem PySem.Spec PyProof.Rows L2 KD KP KGr
def nmsOf (R : List Stp) : List Str := R.map Stp.name
theorem sorted_names {ns : List Str} {S : List Stp} (nd : ns.Nodup) (e : nmsOf S = ns) : ∀ A B a b, S = A ++ a :: b :: B → ¬ ixN ns b < ixN ns a := fun A B a b h => by
  have h2 : ns = nmsOf A ++ a.name :: b.name :: nmsOf B := by rw [← e, h]; simp [nmsOf]
  have := idx_lt nd h2
  unfold ixN
  omega
theorem tn_ok {R S : List Stp} (ok : ∀ r ∈ R, okP r) (t : KCf.Tn pasL R S) : ∃ i, turnL R i = some S := by
  cases t with
  | @mk A B a b b' a' p => exact ⟨A.length, turn_at (pasL_lv p).2.2⟩
theorem ld_to {ns : List Str} {R S : List Stp} (h : KCf.Ld pasL R S) : (∀ r ∈ R, okP r) → (nmsOf R).Nodup → (∀ r ∈ R, r.name ∈ ns) → ns.Nodup → nmsOf S = ns → To ns R S := by
  induction h with
  | refl => exact fun ok nd inn nd2 e => .done (sorted_names nd2 e)
  | step t _ ih =>
    intro ok nd inn nd2 e
    obtain ⟨i, ht⟩ := tn_ok ok t
    obtain ⟨a1, a2, _, _⟩ := turn_ok ok ht
    have d := ih a1 (a2.nodup_iff.mpr nd) (fun r hr => by
      obtain ⟨r', hr', e'⟩ := List.mem_map.mp (a2.mem_iff.mp (List.mem_map.mpr ⟨r, hr, rfl⟩))
      exact e' ▸ inn r' hr') nd2 e
    exact KCf.D.back (pas_ix ns) pas_inv pas_cube t d (ix_ne nd inn)
theorem ld_ok {R S : List Stp} (h : KCf.Ld pasL R S) : (∀ r ∈ R, okP r) → (∀ r ∈ S, okP r) ∧ (nmsOf S).Perm (nmsOf R) ∧ S.length = R.length := by
  induction h with
  | refl => exact fun ok => ⟨ok, .refl _, rfl⟩
  | step t _ ih =>
    intro ok
    obtain ⟨i, ht⟩ := tn_ok ok t
    obtain ⟨a1, a2, a3, _⟩ := turn_ok ok ht
    obtain ⟨b1, b2, b3⟩ := ih a1
    exact ⟨b1, b2.trans a2, b3.trans a3⟩
theorem to_facts {ns : List Str} {R S : List Stp} (ok : ∀ r ∈ R, okP r) (nd : ns.Nodup) (pm : ns.Perm (nmsOf R)) (h : To ns R S) : KCf.Ld pasL R S ∧ nmsOf S = ns := by
  have l := KCf.D.ld h
  obtain ⟨_, p, _⟩ := ld_ok l ok
  exact ⟨l, to_names nd (pm.trans p.symm) (KCf.D.end h)⟩
/-- what is found: all that are led to, each once -/
structure Found (R : List Stp) (F : List (List Stp)) : Prop where
  led : ∀ S ∈ F, KCf.Ld pasL R S
  nd : (F.map nmsOf).Nodup
  has : R ∈ F
theorem ld_uniq {R S S' : List Stp} (ok : ∀ r ∈ R, okP r) (nd : (nmsOf R).Nodup) (h : KCf.Ld pasL R S) (h' : KCf.Ld pasL R S') (e : nmsOf S = nmsOf S') : S = S' := by
  obtain ⟨_, p, _⟩ := ld_ok h ok
  have nd2 : (nmsOf S).Nodup := p.nodup_iff.mpr nd
  have inn : ∀ r ∈ R, r.name ∈ nmsOf S := fun r hr => p.mem_iff.mpr (List.mem_map.mpr ⟨r, hr, rfl⟩)
  exact to_uniq (ld_to h ok nd inn nd2 rfl) (ld_to h' ok nd inn nd2 e.symm)
/-- turned, it is found -/
def Clo (F : List (List Stp)) (S : List Stp) : Prop := ∀ i S', turnL S i = some S' → ∃ T ∈ F, nmsOf T = nmsOf S'
theorem all_found {R : List Stp} {F : List (List Stp)} (ok : ∀ r ∈ R, okP r) (nd : (nmsOf R).Nodup) (f : Found R F) (c : ∀ S ∈ F, Clo F S) : ∀ {T S : List Stp}, KCf.Ld pasL T S → T ∈ F → S ∈ F := by
  intro T S h
  induction h with
  | refl => exact fun h => h
  | @step T T' S t _ ih =>
    intro hT
    have l := f.led T hT
    obtain ⟨okT, _, _⟩ := ld_ok l ok
    obtain ⟨i, ht⟩ := tn_ok okT t
    obtain ⟨U, hU, e⟩ := c T hT i T' ht
    exact ih (ld_uniq ok nd (f.led U hU) (l.snoc pasL t) e ▸ hU)
/-- so many at most -/
theorem found_few {R : List Stp} {F : List (List Stp)} (ok : ∀ r ∈ R, okP r) (nd : (nmsOf R).Nodup) (led : ∀ S ∈ F, KCf.Ld pasL R S) (ndF : (F.map nmsOf).Nodup) : F.length ≤ (listsK (nmsOf R) (nmsOf R).length).length := by
  have := List.Nodup.length_le_of_subset ndF (l₂ := listsK (nmsOf R) (nmsOf R).length) fun y hy => by
    obtain ⟨S, hS, rfl⟩ := List.mem_map.mp hy
    exact in_lists nd (ld_ok (led S hS) ok).2.1
  rwa [List.length_map] at this
def keyS (ns : List Str) : List Key := ns.map Sum.inr
theorem keyS_inj {a b : List Str} (h : keyS a = keyS b) : a = b := by
  unfold keyS at h
  exact (List.map_inj_right fun x y e => Sum.inr.inj e).mp h
theorem keyS_kV (ns : List Str) : (keyS ns).map kV = ns.map V.str := by
  unfold keyS
  rw [List.map_map]
  rfl
/-- the dict of what is found -/
def FndD (X : Addr → Prop) (H : Hp) (kvs : List (List Key × V)) (F : List (List Stp)) : Prop := Paired (fun kv S => kv.1 = keyS (nmsOf S) ∧ DX X H kv.2 (.list (S.map stpD))) kvs F
section
variable {X : Addr → Prop} {H H' : Hp} {kvs : List (List Key × V)} {F : List (List Stp)}
theorem FndD.mono (k : Kp X H H') (h : FndD X H kvs F) : FndD X H' kvs F := by
  unfold FndD at h ⊢
  induction h with
  | nil => exact .nil
  | cons h t ih => exact .cons ⟨h.1, h.2.mono k⟩ ih
theorem FndD.len (h : FndD X H kvs F) : kvs.length = F.length := Paired.length h
theorem FndD.val (h : FndD X H kvs F) (ns : List Str) : (∃ v S, valV kvs (keyS ns) = some v ∧ S ∈ F ∧ nmsOf S = ns ∧ DX X H v (.list (S.map stpD))) ∨ (valV kvs (keyS ns) = none ∧ ∀ S ∈ F, nmsOf S ≠ ns) := by
  unfold FndD at h
  induction h with
  | nil => exact .inr ⟨rfl, fun S hS => by cases hS⟩
  | @cons p S ps Fs h t ih =>
    obtain ⟨h1, h2⟩ := h
    by_cases e : nmsOf S = ns
    · refine .inl ⟨p.2, S, ?_, List.mem_cons_self, e, h2⟩
      unfold valV
      rw [List.find?_cons_of_pos (by rw [h1, e]; exact decide_eq_true rfl)]
      rfl
    · have e1 : valV (p :: ps) (keyS ns) = valV ps (keyS ns) := by
        unfold valV
        rw [List.find?_cons_of_neg (by rw [h1]; simp; exact fun z => e (keyS_inj z))]
      rw [e1]
      rcases ih with ⟨v, S', a, b, c, d⟩ | ⟨a, b⟩
      · exact .inl ⟨v, S', a, List.mem_cons_of_mem _ b, c, d⟩
      · exact .inr ⟨a, fun T hT => (List.mem_cons.mp hT).elim (fun z => z ▸ e) (b T)⟩
theorem paired_snoc {α β : Type} {R : α → β → Prop} : ∀ {as : List α} {bs : List β} {a : α} {b : β}, Paired R as bs → R a b → Paired R (as ++ [a]) (bs ++ [b])
  | _, _, _, _, .nil, h => .cons h .nil
  | _, _, _, _, .cons h t, k => .cons h (paired_snoc t k)
theorem put_new {k : List Key} {v : V} (h : valV kvs k = none) : putK kvs k v = kvs ++ [(k, v)] := by
  unfold putK
  rw [if_neg]
  intro z
  obtain ⟨kv, h1, h2⟩ := List.any_eq_true.mp z
  unfold valV at h
  have := List.find?_eq_none.mp (Option.map_eq_none_iff.mp h) kv h1
  exact this h2
end
end K20

/-! A run as it is handed. -/
namespace K20
open PySem PySem.Spec PyProof.Rows L2 KD KP KGr
variable {P : Program} {w : World} {K : PySem.W.Frag} {mg : Str → Option Value} {base : Heap}
section
variable {X : Addr → Prop} {σ : L2.St} {H : Hp}
theorem g_nest {i j l m : Nat} {v : V} {d e f g : PyData} (hd : DX X H v (.tuple [d, .tuple [e, f, g]])) {Ψ : L2.St → Hp → Prop} (q : ∀ a b c z, DX X H a d → DX X H b e → DX X H c f → DX X H z g → Ψ ((((σ.set i (some a)).set j (some b)).set l (some c)).set m (some z)) H) : gTup K 2 (gCons (gName i) (gCons (gTup K 3 (gCons (gName j) (gCons (gName l) (gCons (gName m) gNil)))) gNil)) v σ H Ψ := by
  obtain ⟨a, xs, rfl, n, ea, rx⟩ := hd.tup_inv
  cases rx with
  | cons h1 r1 =>
    cases r1 with
    | cons h2 r2 =>
      cases r2
      exact ⟨a, _, rfl, SqT.of ea, rfl, _, _, rfl, _, _, rfl, g_triple h2 fun b c z y1 y2 y3 => ⟨rfl, q _ _ _ _ h1 y1 y2 y3⟩⟩
theorem g_tupW {te : TE} {ws : List Str} (t : Trk X H) (h : G X te σ H (wsD ws)) : G X (tCB (fun xs H Q => ∃ p ys, xs = [V.ref p] ∧ ((SqL K H p ys ∧ ∀ l, H l = none → Q (.ref l) (upd H l (.tup ys))) ∨ (SqT K H p ys ∧ Q (.ref p) H))) (tCons te tNil)) σ H (.tuple (ws.map PyData.str)) :=
  g_cb t (ga_cons h ga_nil) (rf_tuple (K := K) (d := wsD ws) rfl)
end
/-- a step as it is handed -/
def StH (r : Stp) (z : PyData) : Prop := isSeq z = true ∧ ∃ c, itemsD z = [.str r.name, c] ∧ ChH r.p r.os r.ns c
theorem hnd_of {rs : List Stp} {hd : PyData} {zs : List PyData} (e : isSeq hd = true) (e2 : itemsD hd = zs) (l : zs.length = rs.length) (h : ∀ (i : Nat) (z : PyData) (r : Stp), zs[i]? = some z → rs[i]? = some r → StH r z) : Hnd hd rs := ⟨e, by rw [e2]; exact l, fun i z r h1 h2 => h i z r (e2 ▸ h1) h2⟩
def spHanded : Sp := fun vs H Q _ => ∃ (X : Addr → Prop) (st cl : Addr) (n : Nat) (v : V) (rs : List Stp), vs = [.ref st, v] ∧ Sg X st cl n H ∧ n + 100 ≤ 1000000000 ∧ DX X H v (.list (rs.map stpD)) ∧ rs.length ≤ 8 ∧
  ∀ w hd H', Hnd hd rs → Sg X st cl (n + 20) H' → KpS st cl H H' → DX X H' w hd → Q w H'
abbrev s__law_p_handed : Stmt := topS 49
abbrev n__law_p_handed : List Str := ["_law_stream", "_law_run", "_law_rows", "_law_name", "_law_place", "_law_old", "_law_new", "_law_change"]
theorem sc__law_p_handed : FnScope n__law_p_handed ["_law_stream", "_law_run"] (defScope s__law_p_handed) := ⟨rfl, rfl, rfl, by decide +kernel, rfl, by decide +kernel, by decide +kernel⟩
theorem ok_handed {f : Addr} {fd : FuncData} (F : Fun K "_law_p_handed" "_law_p_handed" s__law_p_handed f fd) (T : Bl mg) (O__law_pick : Own P w K mg base CX0 2 "_law_pick" ["_law_stream", "_law_some"] spPick) : FnOk P w K mg base CX0 3 f fd ["_law_stream", "_law_run"] spHanded := by
  refine F.ok sc__law_p_handed (fun vs H Q E h => ?_) (fun cdv A outer s H us Q E hr h => ?_)
  · obtain ⟨X, st, cl, n, v, rs, rfl, _⟩ := h
    rfl
  · obtain ⟨X, st, cl, n, v, rs, rfl, S, hn, d1, few, k⟩ := h
    refine ⟨_, (pss_cons (ps_set (i := 2) sc__law_p_handed.nd rfl (by first | exact Or.inl rfl | exact Or.inr rfl) (pe_lst pa_nil))
    (pss_cons (ps_for PassesOwn.never rfl (pi_list (pv 1)) (pg_tup (n := 2) rfl (pgs_cons (pg_name (i := 3) sc__law_p_handed.nd rfl (by first | exact Or.inl rfl | exact Or.inr rfl)) (pgs_cons (by exact (pg_tup (n := 3) rfl (pgs_cons (pg_name (i := 4) sc__law_p_handed.nd rfl (by first | exact Or.inl rfl | exact Or.inr rfl)) (pgs_cons (pg_name (i := 5) sc__law_p_handed.nd rfl (by first | exact Or.inl rfl | exact Or.inr rfl)) (pgs_cons (pg_name (i := 6) sc__law_p_handed.nd rfl (by first | exact Or.inl rfl | exact Or.inr rfl)) pgs_nil))))) pgs_nil)))
    (pss_cons (ps_set (i := 7) sc__law_p_handed.nd rfl (by first | exact Or.inl rfl | exact Or.inr rfl) (pe_own O__law_pick hr (by decide) (by rfl) (pa_cons (pv 0) (pa_cons (pe_lst (pa_cons (pe_tup (pa_cons (pv 4) (pa_cons (pv 5) (pa_cons (pv 6) pa_nil)))) (pa_cons (pe_lst (pa_cons (pv 4) (pa_cons (pe_callTy call_tuple_of (by rfl) T.b_tuple boot_tuple (pa_cons (pv 5) pa_nil)) (pa_cons (pv 6) pa_nil)))) (pa_cons (pe_tup (pa_cons (pv 4) (pa_cons (pe_callTy call_tuple_of (by rfl) T.b_tuple boot_tuple (pa_cons (pv 5) pa_nil)) (pa_cons (pe_callTy call_tuple_of (by rfl) T.b_tuple boot_tuple (pa_cons (pv 6) pa_nil)) pa_nil)))) pa_nil)))) pa_nil))))
    (pss_one (ps_expr (pe_bm PySem.F.plainAttrs_list PySem.F.slot_list_append PySem.F.type_list_append mt_append (pv 2) (pa_cons (pe_own O__law_pick hr (by decide) (by rfl) (pa_cons (pv 0) (pa_cons (pe_lst (pa_cons (pe_tup (pa_cons (pv 3) (pa_cons (pv 7) pa_nil))) (pa_cons (pe_lst (pa_cons (pv 3) (pa_cons (pv 7) pa_nil))) pa_nil))) pa_nil))) pa_nil))))))
    (pss_one (ps_ret (pe_own O__law_pick hr (by decide) (by rfl) (pa_cons (pv 0) (pa_cons (pe_lst (pa_cons (pv 2) (pa_cons (pe_callTy call_tuple_of (by rfl) T.b_tuple boot_tuple (pa_cons (pv 2) pa_nil)) pa_nil))) pa_nil))))))), ?_⟩
    have En : EnvOk X H (L2.start n__law_p_handed [.ref st, v]) (pad n__law_p_handed [.val (.ref st), .dat (.list (rs.map stpD))]) := env_s1 ⟨_, rfl, d1⟩ (by decide)
    have t := S.t
    refine k_own (i := 2) En t (gn_lst t ga_nil (by simp)) fun L H1 xs1 f1 s1 h1 x1 E1 t1 => ?_
    cases x1
    have nX : ¬ X L := t.new f1
    have n1 := S.ne1 f1
    have n2 := S.ne2 f1
    let X' : Addr → Prop := fun b => X b ∨ b = L
    have S1 : Sg X' st cl n H1 := ⟨S.ok.same s1, .inl S.x1, .inl S.x2, t1⟩
    let Γ : List Sv := [.val (.ref st), .dat (.list (rs.map stpD)), .val (.ref L), .un, .un, .un, .un, .un]
    have E1 : EnvOk X' H1 _ Γ := E1
    refine s_forD (X := X') (gi_list (K := K) (g_var (i := 1) (d := .list (rs.map stpD)) E1 rfl)) (fun Hb i σ' H' => Kp X' Hb H' ∧ Sg X' st cl (n + 2 * i) H' ∧ (∀ a o, a ≠ st → a ≠ cl → a ≠ L → H1 a = some o → H' a = some o) ∧ (∃ xs zs, H' L = some (.lst xs) ∧ DXs X' H' xs zs ∧ zs.length = i ∧ ∀ (j : Nat) (z : PyData) (r : Stp), zs[j]? = some z → rs[j]? = some r → StH r z) ∧ EnvOk X' H' σ' Γ) ?_ ?_ ?_ ?_
    · intro Hb sb
      exact ⟨Kp.refl, S1.same sb, fun a o _ _ _ e => sb _ _ e, ⟨[], [], sb _ _ h1, .nil, rfl, fun j z r h => by cases h⟩, E1.same sb⟩
    · rintro Hb i σ' H' ⟨p1, p2, _⟩
      exact ⟨p1, p2.t⟩
    · rintro Hb i x d σ' H' H'' sb hd ⟨p1, p2, p3, ⟨xs, zs, p4, p5, p6, p7⟩, E2⟩ s2 dx
      rw [List.getElem?_map] at hd
      obtain ⟨r, hr2, rfl⟩ := Option.map_eq_some_iff.mp hd
      have hi : i < rs.length := (List.getElem?_eq_some_iff.mp hr2).1
      refine g_nest (d := .str r.name) (e := .int r.p) (f := wsD r.os) (g := wsD r.ns) dx fun a b c z y1 y2 y3 y4 => ?_
      have S2 := p2.same s2
      have t2 := S2.t
      have E3 : EnvOk X' H'' _ [.val (.ref st), .dat (.list (rs.map stpD)), .val (.ref L), .dat (.str r.name), .dat (.int r.p), .dat (wsD r.os), .dat (wsD r.ns), .un] := (((((E2.same s2).set (i := 3) y1).set (i := 4) y2).set (i := 5) y3).set (i := 6) y4)
      have gp := g_var (i := 4) (d := .int r.p) E3 rfl
      have go := g_var (i := 5) (d := wsD r.os) E3 rfl
      have gs := g_var (i := 6) (d := wsD r.ns) E3 rfl
      refine k_set (c_pick (ds := [.tuple [.int r.p, wsD r.os, wsD r.ns], .list [.int r.p, .tuple (r.os.map PyData.str), wsD r.ns], .tuple [.int r.p, .tuple (r.os.map PyData.str), .tuple (r.ns.map PyData.str)]]) S2 (gv_var (i := 0) E3 rfl) (g_lst t2 (ga_cons (g_tup t2 (ga_cons gp (ga_cons go (ga_cons gs ga_nil))) (by simp)) (ga_cons (g_lst t2 (ga_cons gp (ga_cons (g_tupW t2 go) (ga_cons gs ga_nil))) (by simp)) (ga_cons (g_tup t2 (ga_cons gp (ga_cons (g_tupW t2 go) (ga_cons (g_tupW t2 gs) ga_nil))) (by simp)) ga_nil))) (by simp)) (by omega) (by simp) (by simp) fun u dc H4 hdc S4 k4 du => ?_)
      have hc : ChH r.p r.os r.ns dc := by
        simp only [List.mem_cons, List.not_mem_nil, or_false] at hdc
        rcases hdc with rfl | rfl | rfl
        · exact ⟨rfl, _, _, rfl, ⟨rfl, rfl⟩, ⟨rfl, rfl⟩⟩
        · exact ⟨rfl, _, _, rfl, ⟨rfl, rfl⟩, ⟨rfl, rfl⟩⟩
        · exact ⟨rfl, _, _, rfl, ⟨rfl, rfl⟩, ⟨rfl, rfl⟩⟩
      have E4 := (E3.kps S2 k4).set (i := 7) du
      have t4 := S4.t
      have hL4 : H4 L = some (.lst xs) := k4 _ _ n1 n2 (s2 _ _ p4)
      refine ⟨.ref L, E4.get 2 (.val (.ref L)) rfl, .inl ⟨rfl, _, SqL.of hL4⟩, ?_⟩
      refine c_pick (ds := [.tuple [.str r.name, dc], .list [.str r.name, dc]]) S4 (gv_var (i := 0) E4 rfl) (g_lst t4 (ga_cons (g_tup t4 (ga_cons (g_var (i := 3) (d := .str r.name) E4 rfl) (ga_cons (g_var (i := 7) (d := dc) E4 rfl) ga_nil)) (by simp)) (ga_cons (g_lst t4 (ga_cons (g_var (i := 3) (d := .str r.name) E4 rfl) (ga_cons (g_var (i := 7) (d := dc) E4 rfl) ga_nil)) (by simp)) ga_nil)) (by simp)) (by omega) (by simp) (by simp) fun y dz H5 hdz S5 k5 dy => ?_
      have hz : StH r dz := by
        simp only [List.mem_cons, List.not_mem_nil, or_false] at hdz
        rcases hdz with rfl | rfl
        · exact ⟨rfl, _, rfl, hc⟩
        · exact ⟨rfl, _, rfl, hc⟩
      have hL5 := k5 _ _ n1 n2 hL4
      have el : xs.length = zs.length := p5.length
      refine ⟨L, xs, y, rfl, rfl, hL5, by rw [sizeLine_eq]; omega, ?_⟩
      have k45 : KpS st cl H'' H5 := k4.trans k5
      have kp5 : Kp X' H'' H5 := (S2.kp k4).trans (S4.kp k5)
      have kpu : Kp X' H5 (upd H5 L (.lst (xs ++ [y]))) := Kp.put (.inr rfl)
      refine ⟨((p1.trans (Kp.of s2)).trans kp5).trans kpu, ?_, fun a o m1 m2 m3 e => ?_, ⟨xs ++ [y], zs ++ [dz], upd_same, ?_, by rw [List.length_append, p6]; rfl, ?_⟩, ?_⟩
      · have := (S5.put (o := .lst (xs ++ [y])) n1 n2).le (m := n + 2 * (i + 1)) (by omega)
        exact this
      · rw [upd_ne m3]
        exact k45 _ _ m1 m2 (s2 _ _ (p3 a o m1 m2 m3 e))
      · exact (((p5.mono (Kp.of s2)).mono kp5).snoc dy).mono kpu
      · intro j z' r' h1 h2
        rw [List.getElem?_append] at h1
        split at h1
        · exact p7 j z' r' h1 h2
        · rename_i hj
          have : j = i := by
            have := (List.getElem?_eq_some_iff.mp h1).1
            simp at this
            omega
          subst this
          rw [p6, Nat.sub_self] at h1
          cases h1
          rw [hr2] at h2
          cases h2
          exact hz
      · have E5 := (E4.kps S4 k5).mono kpu
        exact envUn (envUn (envUn (envUn (envUn E5 3) 4) 5) 6) 7
    · rintro Hb σ' H' sb ⟨p1, p2, p3, ⟨xs, zs, p4, p5, p6, p7⟩, E2⟩
      rw [List.length_map] at p6 p2
      have E3 := EnvOk.give (i := 2) E2 rfl nX p4 p5
      have S3 : Sg X st cl (n + 2 * rs.length) H' := ⟨p2.ok, S.x1, S.x2, fun a h => p2.t a (.inl h)⟩
      have t3 := S3.t
      have gz : G X (tVar 2) σ' H' (.list zs) := g_var (i := 2) (d := .list zs) E3 rfl
      refine k_ret (D := { nx := fun _ H' => Q .non H', rt := Q }) (c_pick (ds := [.list zs, .tuple zs]) S3 (gv_var (i := 0) E3 rfl) (g_lst t3 (ga_cons gz (ga_cons (g_cb t3 (ga_cons gz ga_nil) (rf_tuple (K := K) (d := .list zs) rfl)) ga_nil)) (by simp)) (by omega) (by simp) (by simp) fun u hd H4 hh S4 k4 du => k u hd H4 ?_ (S4.le (by omega)) ?_ du)
      · simp only [List.mem_cons, List.not_mem_nil, or_false] at hh
        rcases hh with rfl | rfl
        · exact hnd_of rfl rfl p6 p7
        · exact hnd_of rfl rfl p6 p7
      · exact fun a o m1 m2 e => k4 _ _ m1 m2 (p3 a o m1 m2 (fun z => by rw [z, f1] at e; cases e) (s1 _ _ e))
end K20

/-! All that a run leads to, by the law's own going. -/
namespace K20
open PySem PySem.Spec PyProof.Rows L2 KD KP KGr
-- RAISES change_of checked_text passed side_by_side
variable {P : Program} {w : World} {K : PySem.W.Frag} {mg : Str → Option Value} {base : Heap}
mutual
theorem dx_off {X : Addr → Prop} {H : Hp} {p : Addr} {kvs : List (List Key × V)} (e : H p = some (.dT kvs)) : ∀ {v : V} {d : PyData}, DX X H v d → DX (fun a => X a ∨ a = p) H v d
  | _, _, .non => .non
  | _, _, .bl b => .bl b
  | _, _, .int i => .int i
  | _, _, .str x => .str x
  | _, _, .lst n h r => .lst (fun z => z.elim n fun q => by rw [q, e] at h; cases h) h (dxs_off e r)
  | _, _, .tup n h r => .tup (fun z => z.elim n fun q => by rw [q, e] at h; cases h) h (dxs_off e r)
  | _, _, .dic n h r => .dic (fun z => z.elim n fun q => by rw [q, e] at h; cases h) h (dxk_off e r)
theorem dxs_off {X : Addr → Prop} {H : Hp} {p : Addr} {kvs : List (List Key × V)} (e : H p = some (.dT kvs)) : ∀ {vs : List V} {ds : List PyData}, DXs X H vs ds → DXs (fun a => X a ∨ a = p) H vs ds
  | _, _, .nil => .nil
  | _, _, .cons h r => .cons (dx_off e h) (dxs_off e r)
theorem dxk_off {X : Addr → Prop} {H : Hp} {p : Addr} {kvs : List (List Key × V)} (e : H p = some (.dT kvs)) : ∀ {vs : List (Key × V)} {ds : List (PyData × PyData)}, DXk X H vs ds → DXk (fun a => X a ∨ a = p) H vs ds
  | _, _, .nil => .nil
  | _, _, .cons h r => .cons (dx_off e h) (dxk_off e r)
end
/-! ### shapes -/
theorem nd_strs (l : List Str) : noDicts (l.map PyData.str) = true := nd_all fun z hz => by
  obtain ⟨x, _, rfl⟩ := List.mem_map.mp hz
  rfl
theorem lay_strs {l : List Str} (h : ∀ x ∈ l, PyData.strOk x = true) : PyData.canLayAll0 (l.map PyData.str) = true := lay_all fun z hz => by
  obtain ⟨x, hx, rfl⟩ := List.mem_map.mp hz
  simpa [PyData.canLay0] using h x hx
theorem dep_strs (l : List Str) : PyData.depthAll (l.map PyData.str) ≤ 1 := dep_all fun z hz => by
  obtain ⟨x, _, rfl⟩ := List.mem_map.mp hz
  simp [PyData.depth]
theorem stp_noDict (r : Stp) : noDict (stpD r) = true := by simp [stpD, chD, wsD, noDict, noDicts, nd_strs]
theorem stp_lay {r : Stp} (h : okP r) : (stpD r).canLay0 = true := by
  simp [stpD, chD, wsD, PyData.canLay0, PyData.canLayAll0, lay_strs h.1.2.1.ok.2, lay_strs h.1.2.2.1.ok.2, all_str _ h.1.1]
theorem stp_depth (r : Stp) : (stpD r).depth ≤ 4 := by
  have a := dep_strs r.os
  have b := dep_strs r.ns
  simp only [stpD, chD, wsD, PyData.depth, PyData.depthAll]
  omega
def runsD (W : List (List Stp)) : PyData := .list (W.map fun S => .list (S.map stpD))
theorem run_shape {S : List Stp} (h : ∀ r ∈ S, okP r) : noDict (.list (S.map stpD)) = true ∧ (PyData.list (S.map stpD)).canLay0 = true ∧ (PyData.list (S.map stpD)).depth ≤ 5 := by
  refine ⟨?_, ?_, ?_⟩
  · show noDicts (S.map stpD) = true
    exact nd_all fun z hz => by
      obtain ⟨r, _, rfl⟩ := List.mem_map.mp hz
      exact stp_noDict r
  · simp only [PyData.canLay0]
    exact lay_all fun z hz => by
      obtain ⟨r, hr, rfl⟩ := List.mem_map.mp hz
      exact stp_lay (h r hr)
  · have : PyData.depthAll (S.map stpD) ≤ 4 := dep_all fun z hz => by
      obtain ⟨r, _, rfl⟩ := List.mem_map.mp hz
      exact stp_depth r
    simp only [PyData.depth]
    omega
theorem runs_shape {W : List (List Stp)} (h : ∀ S ∈ W, ∀ r ∈ S, okP r) : noDict (runsD W) = true ∧ SeqAt.shaped (runsD W) = true := by
  constructor
  · show noDicts (W.map fun S => PyData.list (S.map stpD)) = true
    exact nd_all fun z hz => by
      obtain ⟨S, hS, rfl⟩ := List.mem_map.mp hz
      exact (run_shape (h S hS)).1
  · refine shaped_mk ?_ ?_
    · simp only [runsD, PyData.canLay0]
      exact lay_all fun z hz => by
        obtain ⟨S, hS, rfl⟩ := List.mem_map.mp hz
        exact (run_shape (h S hS)).2.1
    · have : PyData.depthAll (W.map fun S => PyData.list (S.map stpD)) ≤ 5 := dep_all fun z hz => by
        obtain ⟨S, hS, rfl⟩ := List.mem_map.mp hz
        exact (run_shape (h S hS)).2.2
      simp only [runsD, PyData.depth]
      omega
section
variable {X : Addr → Prop} {σ : L2.St} {H : Hp} {te tk tv : TE} {E : XK} {S : List Stp} {Q : VK} {Γ : List Sv} {i : Nat} {D : Addr} {kvs : List (List Key × V)} {F : List (List Stp)}
theorem g_key (t : Trk X H) (h : G X te σ H (.list (S.map stpD))) (few : S.length ≤ 100) : G X (tCB (fun xs H Q => ∃ p ys, xs = [V.ref p] ∧ ((SqL K H p ys ∧ ∀ l, H l = none → Q (.ref l) (upd H l (.tup ys))) ∨ (SqT K H p ys ∧ Q (.ref p) H))) (tCons (tCall (sp1 stepsP namesOf) [] E (tCons te tNil)) tNil)) σ H (.tuple ((nmsOf S).map PyData.str)) :=
  g_tupW t (g_is (g_call1 t h ⟨S, rfl, few⟩) (namesOf_is S))
theorem key_is {v : V} {ns : List Str} (h : DX X H v (.tuple (ns.map PyData.str))) : ∃ b, v = .ref b ∧ H b = some (.tup ((keyS ns).map kV)) := by
  obtain ⟨b, xs, rfl, _, e, rx⟩ := h.tup_inv
  exact ⟨b, rfl, by rw [keyS_kV, ← strs_inv rx]; exact e⟩
theorem k_disp1 {ns : List Str} {d : PyData} (t : Trk X H) (h1 : G X tk σ H (.tuple (ns.map PyData.str))) (h2 : G X tv σ H d) (q : ∀ D H' v, H D = none → Same H H' → H' D = some (.dT [(keyS ns, v)]) → DX (fun a => X a ∨ a = D) H' v d → Q (.ref D) H') : KD1.tDisp1T tk tv σ H Q := fun p hp =>
  h1 _ (Same.upd hp) _ fun x H1 s1 r1 => h2 _ ((Same.upd hp).trans s1) _ fun y H2 s2 r2 => by
    obtain ⟨b, rfl, eb⟩ := key_is r1
    have ep : H2 p = some (.dT []) := s2 _ _ (s1 _ _ upd_same)
    refine ⟨ep, b, keyS ns, rfl, s2 _ _ eb, q p _ y hp (fun a o e => ?_) upd_same ?_⟩
    · have : a ≠ p := fun z => by rw [z, hp] at e; cases e
      rw [upd_ne this]
      exact s2 _ _ (s1 _ _ (by rw [upd_ne this]; exact e))
    · exact (dx_off ep r2).mono (Kp.put (.inr rfl))
/-- tuple(..) not in d -/
theorem gt_fnd {ns : List Str} (E : EnvOk X H σ Γ) (hi : Γ[i]? = some (.val (.ref D))) (hD : H D = some (.dT kvs)) (hF : FndD X H kvs F) (hk : G X tk σ H (.tuple (ns.map PyData.str))) : GT (tB (tDNotIn tk (tVar i))) σ H (decide (∀ S ∈ F, nmsOf S ≠ ns)) := fun H1 s Q r =>
  hk H1 s _ fun v H2 s2 rv => by
    obtain ⟨b, rfl, eb⟩ := key_is rv
    refine ⟨.ref D, (E.same (s.trans s2)).get i _ hi, D, valV kvs (keyS ns), rfl, DGet.t (s2 _ _ (s _ _ hD)) eb, ?_⟩
    have e : (!(valV kvs (keyS ns)).isSome) = decide (∀ S ∈ F, nmsOf S ≠ ns) := by
      rcases hF.val ns with ⟨v, S, a, b, c, _⟩ | ⟨a, b⟩
      · rw [a, decide_eq_false fun z => z S b c]
        rfl
      · rw [a, decide_eq_true b]
        rfl
    exact ⟨_, rfl, by rw [e]; exact r H2 s2⟩
end
theorem k_dput {td ty tv : TE} {tz : TS} {De : Ends} {σ : L2.St} {H : Hp} (h : tv σ H fun v H1 => td σ H1 fun x H2 => ty σ H2 fun y H3 => ∃ a H4, x = .ref a ∧ DPut H3 a y v H4 ∧ tz De σ H4) : tSeq (sDPut td ty tv) tz De σ H := h
theorem Clo.more {F N : List (List Stp)} {S : List Stp} (h : Clo F S) : Clo (F ++ N) S := fun i S' e => by
  obtain ⟨T, a, b⟩ := h i S' e
  exact ⟨T, List.mem_append_left _ a, b⟩
theorem Found.one {R : List Stp} {F : List (List Stp)} {S S' : List Stp} {i : Nat} (ok : ∀ r ∈ R, okP r) (f : Found R F) (hS : S ∈ F) (e : turnL S i = some S') (n : ∀ T ∈ F, nmsOf T ≠ nmsOf S') : Found R (F ++ [S']) := by
  have l := f.led S hS
  obtain ⟨okS, _, _⟩ := ld_ok l ok
  obtain ⟨_, _, _, tn⟩ := turn_ok okS e
  refine ⟨fun T hT => ?_, ?_, List.mem_append_left _ f.has⟩
  · rcases List.mem_append.mp hT with h | h
    · exact f.led T h
    · rw [List.mem_singleton.mp h]
      exact l.snoc pasL tn
  · rw [List.map_append]
    refine List.nodup_append.mpr ⟨f.nd, by simp, fun a ha b hb z => ?_⟩
    obtain ⟨T, hT, rfl⟩ := List.mem_map.mp ha
    have : b = nmsOf S' := by simpa using hb
    exact n T hT (z.trans this)
def spLeads : Sp := fun us H Q _ => ∃ (X : Addr → Prop) (v : V) (R : List Stp), us = [v] ∧ Trk X H ∧ DX X H v (.list (R.map stpD)) ∧ (∀ r ∈ R, okP r) ∧ (nmsOf R).Nodup ∧ R.length ≤ 5 ∧
  ∀ D H' kvs, H D = none → Same H H' → H' D = some (.dT kvs) → kvs.length ≤ 3125 → (∀ ns : List Str, ns.Nodup → ns.Perm (nmsOf R) → (∃ v S, valV kvs (keyS ns) = some v ∧ DX (fun a => X a ∨ a = D) H' v (.list (S.map stpD)) ∧ To ns R S) ∨ (valV kvs (keyS ns) = none ∧ ¬ ∃ S, To ns R S)) → Q (.ref D) H'
-- HINT _law_p_leads disp1 yes
-- HINT _law_p_leads dnotin yes
-- HINT _law_p_leads dputn _law_found
abbrev s__law_p_leads : Stmt := topS 48
abbrev n__law_p_leads : List Str := ["_law_run", "_law_found", "_law_waiting", "_law_here", "_law_at", "_law_later"]
theorem sc__law_p_leads : FnScope n__law_p_leads ["_law_run"] (defScope s__law_p_leads) := ⟨rfl, rfl, rfl, by decide +kernel, rfl, by decide +kernel, by decide +kernel⟩
theorem ok_p_leads {f : Addr} {fd : FuncData} (F : Fun K "_law_p_leads" "_law_p_leads" s__law_p_leads f fd) (T : Bl mg) (O__law_p_names : Own P w K mg base CX0 1 "_law_p_names" ["_law_run"] (sp1 stepsP namesOf)) (O__law_p_steps_passed : Own P w K mg base CX0 3 "_law_p_steps_passed" ["_law_run", "_law_at"] spPSteps) : FnOk P w K mg base CX0 4 f fd ["_law_run"] spLeads := by
  refine F.ok sc__law_p_leads (fun vs H Q E h => ?_) (fun cdv A outer s H us Q E hr h => ?_)
  · obtain ⟨X, v, R, rfl, _⟩ := h
    rfl
  · obtain ⟨X, v, R, rfl, t, d1, ok, nd, l5, q⟩ := h
    refine ⟨_, (pss_cons (ps_par (i := 1) (j := 2) (by rfl) sc__law_p_leads.nd rfl rfl (by decide) rfl rfl (pa_cons (KD1.pe_disp1T (hu_of hr) (pe_callTy call_tuple_of (by rfl) T.b_tuple boot_tuple (pa_cons (pe_own O__law_p_names hr (by decide) (by rfl) (pa_cons (pv 0) pa_nil)) pa_nil)) (pv 0)) (pa_cons (pe_lst (pa_cons (pv 0) pa_nil)) pa_nil)) (by rfl))
    (Evl.pss_cut (ps_while PassesOwn.never (pt_cmpR (op_neD hr.units) (pv 2) (pe_lst pa_nil) (nomark _))
    (pss_cons (ps_set (i := 3) sc__law_p_leads.nd rfl (by first | exact Or.inl rfl | exact Or.inr rfl) (pe_bm0 PySem.F.plainAttrs_list PySem.F.slot_list_pop PySem.F.type_list_pop mt_pop (pv 2)))
    (pss_one (ps_for PassesOwn.never rfl (pi_range1 (by rfl) T.b_range (pa_cons (pe_op op_sub (pe_callB call_len (by rfl) T.b_len boot_len (pa_cons (pv 3) pa_nil)) pe_int) pa_nil)) (pg_name (i := 4) sc__law_p_leads.nd rfl (by first | exact Or.inl rfl | exact Or.inr rfl))
    (pss_cons (ps_set (i := 5) sc__law_p_leads.nd rfl (by first | exact Or.inl rfl | exact Or.inr rfl) (pe_own O__law_p_steps_passed hr (by decide) (by rfl) (pa_cons (pv 3) (pa_cons (pv 4) pa_nil))))
    (pss_one (ps_if (PW.pt (pw_and (pt_cmpR op_notN (pv 5) pe_non (nomark _)) (pw_and1 (pt_cmp (pc_dnotin (hu_of hr) (pe_callTy call_tuple_of (by rfl) T.b_tuple boot_tuple (pa_cons (pe_own O__law_p_names hr (by decide) (by rfl) (pa_cons (pv 5) pa_nil)) pa_nil)) (pv 1)) (by rfl)))))
    (pss_cons (ps_dput (hu_of hr) (pv 1) (pe_callTy call_tuple_of (by rfl) T.b_tuple boot_tuple (pa_cons (pe_own O__law_p_names hr (by decide) (by rfl) (pa_cons (pv 5) pa_nil)) pa_nil)) (pv 5) rfl)
    (pss_one (ps_expr (pe_bm PySem.F.plainAttrs_list PySem.F.slot_list_append PySem.F.type_list_append mt_append (pv 2) (pa_cons (pv 5) pa_nil))))) pss_nil)))))))
    (pss_one (ps_ret (pv 1))))), ?_⟩
    have En : EnvOk X H (L2.start n__law_p_leads [v]) [.dat (.list (R.map stpD)), .un, .un, .un, .un, .un] := ⟨rfl, fun i s e => by
      match i, e with
      | 0, e => cases e; exact ⟨_, rfl, d1⟩
      | 1, e => cases e; trivial
      | 2, e => cases e; trivial
      | 3, e => cases e; trivial
      | 4, e => cases e; trivial
      | 5, e => cases e; trivial
      | _ + 6, e => cases e⟩
    refine k_par ?_
    refine k_disp1 t (g_key t (g_var (i := 0) (d := .list (R.map stpD)) En rfl) (by omega)) (g_var (i := 0) (d := .list (R.map stpD)) En rfl) fun D H1 v1 hD s1 e1 dv1 => ?_
    have hX1 : More X (fun a => X a ∨ a = D) H := More.one hD
    have t1 : Trk (fun a => X a ∨ a = D) H1 := fun a z => z.elim (fun z => t.mono s1 a z) fun z => ⟨_, z ▸ e1⟩
    have En1 := (En.more hX1).same s1
    refine gn_lst t1 (ga_cons (g_var (i := 0) (d := .list (R.map stpD)) En1 rfl) ga_nil) (by simp) H1 (Same.refl _) _ fun v2 H2 s2 dv2 nw => ⟨_, _, rfl, ?_⟩
    obtain ⟨LW, xs0, rfl, nL, hL, hx⟩ := dv2.inner
    have h0 := nw LW rfl
    let X1 : Addr → Prop := fun a => X a ∨ a = D
    let X2 : Addr → Prop := fun a => X1 a ∨ a = LW
    have m2 : More X1 X2 H1 := More.one h0
    have nDL : D ≠ LW := fun z => by rw [z, h0] at e1; cases e1
    have t2 : Trk X2 H2 := fun a z => z.elim (fun z => t1.mono s2 a z) fun z => ⟨_, z ▸ hL⟩
    let Γ (x3 x4 x5 : Sv) : List Sv := [.dat (.list (R.map stpD)), .val (.ref D), .val (.ref LW), x3, x4, x5]
    have E2 : EnvOk X2 H2 _ (Γ .un .un .un) := (((En1.more m2).same s2).setV (i := 1) (v := .ref D)).setV (i := 2) (v := .ref LW)
    have fd0 : FndD X2 H2 [(keyS (nmsOf R), v1)] [R] := .cons ⟨rfl, (dv1.more m2).mono (Kp.of s2)⟩ .nil
    have s02 := s1.trans s2
    let Kn := (listsK (nmsOf R) (nmsOf R).length).length
    have K3 : Kn ≤ 3125 := few5 (by unfold nmsOf; rw [List.length_map]; exact l5) (by unfold nmsOf; rw [List.length_map]; exact l5)
    let Iv : L2.St → Hp → List (List Stp) → List (List Stp) → Prop := fun σ' H' W Fs => Found R Fs ∧ ((∀ S ∈ W, S ∈ Fs) ∧ W.length ≤ Fs.length) ∧ (∀ S ∈ Fs, S ∈ W ∨ Clo Fs S) ∧ (∀ a o, a ≠ D → a ≠ LW → H2 a = some o → H' a = some o) ∧ Trk X2 H' ∧ (∃ kvs, H' D = some (.dT kvs) ∧ FndD X2 H' kvs Fs) ∧ (∃ xs, H' LW = some (.lst xs) ∧ DXs X2 H' xs (W.map fun S => .list (S.map stpD))) ∧ EnvOk X2 H' σ' (Γ .un .un .un)
    have okF : ∀ {Fs : List (List Stp)}, Found R Fs → ∀ S ∈ Fs, (∀ r ∈ S, okP r) ∧ S.length = R.length := fun f S hS => by
      obtain ⟨a, _, b⟩ := ld_ok (f.led S hS) ok
      exact ⟨a, b⟩
    have fewF : ∀ {Fs : List (List Stp)}, Found R Fs → Fs.length ≤ Kn := fun f => found_few ok nd f.led f.nd
    refine ⟨fun σ' H' => ∃ Fs, Iv σ' H' [] Fs, ⟨fun m σ' H' => ∃ W Fs, Iv σ' H' W Fs ∧ m = 2 * (Kn - Fs.length) + W.length, ⟨_, [R], [R], ⟨⟨fun S hS => by rw [List.mem_singleton.mp hS]; exact .refl, by simp, List.mem_singleton.mpr rfl⟩, ⟨fun S hS => hS, Nat.le_refl _⟩, fun S hS => .inl hS, fun a o _ _ e => e, t2, ⟨_, s2 _ _ e1, fd0⟩, ⟨xs0, hL, hx⟩, E2⟩, rfl⟩, ?_⟩, ?_⟩
    rotate_left
    · rintro σ' H' ⟨Fs, f, _, c, p1, p2, ⟨kvs, p3, p4⟩, _, E3⟩
      have c' : ∀ S ∈ Fs, Clo Fs S := fun S hS => (c S hS).resolve_left fun z => by cases z
      show tRet (tVar 1) { nx := fun _ H' => Q .non H', rt := Q } σ' H'
      refine ⟨.ref D, E3.get 1 (.val (.ref D)) rfl, q D H' kvs hD (fun a o e => p1 a o (fun z => by rw [z, hD] at e; cases e) (fun z => by rw [z, s1.free h0] at e; cases e) (s02 _ _ e)) p3 (by have := p4.len; have := fewF f; omega) fun ns nd2 pm => ?_⟩
      rcases p4.val ns with ⟨v, S, a, b, c2, d⟩ | ⟨a, b⟩
      · refine .inl ⟨v, S, a, d.less fun a z => .inl z, ?_⟩
        have inn : ∀ r ∈ R, r.name ∈ ns := fun r hr => pm.mem_iff.mpr (List.mem_map.mpr ⟨r, hr, rfl⟩)
        exact ld_to (f.led S b) ok nd inn nd2 c2
      · refine .inr ⟨a, ?_⟩
        rintro ⟨S, hS⟩
        obtain ⟨l, en⟩ := to_facts ok nd2 pm hS
        exact b S (all_found ok nd f c' l f.has) en
    rintro m σ' H' ⟨W, Fs, ⟨f, ⟨cW, lW⟩, cF, p1, p2, ⟨kvs, p3, p4⟩, ⟨xs, p5, p6⟩, E3⟩, rfl⟩
    have gW : G X1 (tVar 2) σ' H' (runsD W) := fun H3 s3 Q q => ⟨.ref LW, E3.get 2 (.val (.ref LW)) rfl, q _ H3 (Same.refl _) (.lst (fun z => by
      rcases z with z | z
      · obtain ⟨o, ho⟩ := t LW z
        rw [s1.free h0] at ho
        cases ho
      · exact nDL z.symm) (s3 _ _ p5) ((p6.less fun a z => .inl z).mono (Kp.of s3)))⟩
    have okW : ∀ S ∈ W, ∀ r ∈ S, okP r := fun S hS => (okF f S (cW S hS)).1
    have sh := runs_shape okW
    have t1' : Trk X1 H' := fun a h => p2 a (.inl h)
    refine gt_neD t1' gW (g_lst t1' ga_nil (by simp)) sh.1 rfl sh.2 (by rfl) H' (Same.refl _) _ fun H3 s3 => ?_
    have ev : PyData.eqv (runsD W) (.list []) = W.isEmpty := by
      unfold runsD
      cases W with
      | nil => simp [PyData.eqv, PyData.eqvAll]
      | cons a W => simp [PyData.eqv, PyData.eqvAll]
    rw [ev]
    have E4 := E3.same s3
    have t4 := p2.mono s3
    rcases List.eq_nil_or_concat W with rfl | ⟨W', here, rfl⟩
    · show (if (false : Bool) = true then _ else _)
      rw [if_neg (by simp)]
      exact ⟨Fs, f, ⟨cW, lW⟩, cF, fun a o n1 n2 e => s3 _ _ (p1 a o n1 n2 e), t4, ⟨kvs, s3 _ _ p3, p4.mono (Kp.of s3)⟩, ⟨xs, s3 _ _ p5, p6.mono (Kp.of s3)⟩, E4⟩
    have ie : (!(W'.concat here).isEmpty) = true := by cases W' <;> rfl
    rw [ie, if_pos rfl]
    rw [List.concat_eq_append] at cW cF p6 lW ⊢
    rw [List.length_append, List.length_singleton] at lW
    have lx : xs.length = W'.length + 1 := by rw [p6.length, List.length_map, List.length_append]; rfl
    obtain ⟨y, hy, dy⟩ := p6.get (i := W'.length) (d := .list (here.map stpD)) (by simp)
    have p6' : DXs X2 H' (xs.take W'.length) (W'.map fun S => .list (S.map stpD)) := by
      have := p6.take W'.length
      rw [List.map_append, List.take_left' (by rw [List.length_map])] at this
      exact this
    have hh : here ∈ Fs := cW here (by simp)
    obtain ⟨okh, lh⟩ := okF f here hh
    refine ⟨fun σ' H' => ∃ m', m' < 2 * (Kn - Fs.length) + (W' ++ [here]).length ∧ ∃ W Fs, Iv σ' H' W Fs ∧ m' = 2 * (Kn - Fs.length) + W.length, fun σ' H' h => h, ?_⟩
    refine k_set ?_
    refine ⟨.ref LW, E4.get 2 (.val (.ref LW)) rfl, .inl ⟨rfl, _, SqL.of (s3 _ _ p5)⟩, LW, xs, y, rfl, rfl, s3 _ _ p5, by rw [lx]; exact hy, ?_⟩
    have kp5 : Kp X2 H3 (upd H3 LW (.lst xs.dropLast)) := Kp.put (.inr rfl)
    obtain ⟨H5, hH5⟩ : ∃ H5, H5 = upd H3 LW (.lst xs.dropLast) := ⟨_, rfl⟩
    rw [← hH5] at kp5 ⊢
    have t5 : Trk X2 H5 := by rw [hH5]; exact t4.put
    have hL5 : H5 LW = some (.lst (xs.take W'.length)) := by
      rw [hH5, upd_same, List.dropLast_eq_take, lx]
      rfl
    have hD5 : H5 D = some (.dT kvs) := by
      rw [hH5, upd_ne nDL]
      exact s3 _ _ p3
    have E5 : EnvOk X2 H5 _ (Γ (.dat (.list (here.map stpD))) .un .un) := (E4.mono kp5).set (i := 3) ((dy.mono (Kp.of s3)).mono kp5)
    have keep5 : ∀ a o, a ≠ D → a ≠ LW → H2 a = some o → H5 a = some o := fun a o n1 n2 e => by
      rw [hH5, upd_ne n2]
      exact s3 _ _ (p1 a o n1 n2 e)
    have kp35 : Kp X2 H' H5 := (Kp.of s3).trans kp5
    have gl := g_sub t5 (g_is (g_len (K := K) t5 (g_var (i := 3) (d := .list (here.map stpD)) E5 rfl) rfl) (by show PyData.int ((here.map stpD).length : Nat) = .int (here.length : Int); rw [List.length_map])) (g_int (i := 1))
    refine s_forD (X := X2) (gi_range1 gl (by omega) (by omega)) (fun Hb j σ2 H6 => (Kp X2 Hb H6 ∧ Trk X2 H6) ∧ ∃ N, Found R (Fs ++ N) ∧ (∀ i < j, ∀ S', turnL here i = some S' → ∃ T ∈ Fs ++ N, nmsOf T = nmsOf S') ∧ (∀ a o, a ≠ D → a ≠ LW → H2 a = some o → H6 a = some o) ∧ (∃ kvs, H6 D = some (.dT kvs) ∧ FndD X2 H6 kvs (Fs ++ N)) ∧ (∃ xs, H6 LW = some (.lst xs) ∧ DXs X2 H6 xs ((W' ++ N).map fun S => .list (S.map stpD))) ∧ EnvOk X2 H6 σ2 (Γ (.dat (.list (here.map stpD))) .un .un)) (fun Hb sb => ⟨⟨Kp.refl, t5.mono sb⟩, [], by rw [List.append_nil]; exact f, fun i h => by omega, fun a o n1 n2 e => sb _ _ (keep5 a o n1 n2 e), ⟨kvs, sb _ _ hD5, by rw [List.append_nil]; exact (p4.mono kp35).mono (Kp.of sb)⟩, ⟨_, sb _ _ hL5, by rw [List.append_nil]; exact (p6'.mono kp35).mono (Kp.of sb)⟩, E5.same sb⟩) (fun Hb j σ2 H6 p => p.1) ?_ ?_
    · rintro Hb j x d σ2 H6 H7 sb hd ⟨⟨c1, c2⟩, N, f2, c3, c4, ⟨kvs2, c5, c6⟩, ⟨zs, c7, c8⟩, E6⟩ s7 dx
      have hj : j + 1 < here.length := by
        have := (List.getElem?_eq_some_iff.mp hd).1
        rw [rangeD_len] at this
        omega
      rw [rangeD_get (by omega)] at hd
      cases hd
      rw [show (0 : Int) + (j : Int) = (j : Nat) from by omega] at dx
      refine k_name ?_
      have t7 := c2.mono s7
      have E7 : EnvOk X2 H7 _ (Γ (.dat (.list (here.map stpD))) (.dat (.int (j : Nat))) .un) := (E6.same s7).set (i := 4) dx
      refine q_set (i := 5) (d := optD (turnL here j)) E7 (g_psteps t7 (g_var (i := 3) (d := .list (here.map stpD)) E7 rfl) (g_var (i := 4) (d := .int (j : Nat)) E7 rfl) hj okh (by omega)) fun H8 v8 s8 E8 => ?_
      have t8 := t7.mono s8
      have s78 := s7.trans s8
      have E8 : EnvOk X2 H8 _ (Γ (.dat (.list (here.map stpD))) (.dat (.int (j : Nat))) (.dat (optD (turnL here j)))) := E8
      have stay : ∀ {H9 : Hp} {σ3 : L2.St}, Same H8 H9 → (∀ S', turnL here j = some S' → ∃ T ∈ Fs ++ N, nmsOf T = nmsOf S') → EnvOk X2 H9 σ3 (Γ (.dat (.list (here.map stpD))) .un .un) → (Kp X2 Hb H9 ∧ Trk X2 H9) ∧ ∃ N, Found R (Fs ++ N) ∧ (∀ i < j + 1, ∀ S', turnL here i = some S' → ∃ T ∈ Fs ++ N, nmsOf T = nmsOf S') ∧ (∀ a o, a ≠ D → a ≠ LW → H2 a = some o → H9 a = some o) ∧ (∃ kvs, H9 D = some (.dT kvs) ∧ FndD X2 H9 kvs (Fs ++ N)) ∧ (∃ xs, H9 LW = some (.lst xs) ∧ DXs X2 H9 xs ((W' ++ N).map fun S => .list (S.map stpD))) ∧ EnvOk X2 H9 σ3 (Γ (.dat (.list (here.map stpD))) .un .un) := fun {H9 σ3} s9 hT E9 => by
        have s79 := s78.trans s9
        refine ⟨⟨c1.trans (Kp.of s79), c2.mono s79⟩, N, f2, fun i hi S' e => ?_, fun a o n1 n2 e => s79 _ _ (c4 a o n1 n2 e), ⟨kvs2, s79 _ _ c5, c6.mono (Kp.of s79)⟩, ⟨zs, s79 _ _ c7, c8.mono (Kp.of s79)⟩, E9⟩
        by_cases z : i = j
        · exact hT S' (z ▸ e)
        · exact c3 i (by omega) S' e
      cases hS : turnL here j with
      | none =>
        rw [hS] at E8 stay
        refine s_if (b := false) (gt_is (gt_and (a := false) (b := false) (gt_is (gt_op t8 (g_var (i := 5) (d := optD none) E8 rfl) g_non rb_notN) rfl) fun h => by cases h) rfl) (fun h => by cases h) fun _ H9 s9 => ?_
        exact stay s9 (fun S' e => by cases e) (envUn (envUn (E8.same s9) 4) 5)
      | some S' =>
        rw [hS] at E8 stay
        obtain ⟨okS', _, lS', _⟩ := turn_ok okh hS
        have gv : G X2 (tVar 5) _ H8 (.list (S'.map stpD)) := g_var (i := 5) (d := .list (S'.map stpD)) E8 rfl
        refine s_if (b := decide (∀ T ∈ Fs ++ N, nmsOf T ≠ nmsOf S')) (gt_is (gt_and (a := true) (gt_is (gt_op t8 gv g_non rb_notN) rfl) fun _ => gt_fnd (i := 1) E8 rfl (s78 _ _ c5) (c6.mono (Kp.of s78)) (g_key t8 gv (by omega))) rfl) (fun hb H9 s9 => ?_) fun hb H9 s9 => ?_
        · have hn := of_decide_eq_true hb
          have f3 := f2.one ok (List.mem_append_left _ hh) hS hn
          have E9 := E8.same s9
          have t9 := t8.mono s9
          have s79 := s78.trans s9
          have fewN := fewF f3
          rw [List.length_append, List.length_append] at fewN
          refine k_dput (g_var (i := 5) (d := .list (S'.map stpD)) E9 rfl H9 (Same.refl _) _ fun v10 H10 s10 d10 => ⟨.ref D, (E9.same s10).get 1 (.val (.ref D)) rfl, g_key (t9.mono s10) (g_var (i := 5) (d := .list (S'.map stpD)) (E9.same s10) rfl) (by omega) H10 (Same.refl _) _ fun v11 H11 s11 d11 => ?_⟩)
          obtain ⟨b, rfl, eb⟩ := key_is d11
          have s711 := (s79.trans s10).trans s11
          have hDv : H11 D = some (.dT kvs2) := s711 _ _ c5
          have fl : kvs2.length = (Fs ++ N).length := c6.len
          refine ⟨D, _, rfl, DPut.t hDv eb (by rw [fl, List.length_append, sizeLine_eq]; omega), ?_⟩
          have vn : valV kvs2 (keyS (nmsOf S')) = none := by
            rcases c6.val (nmsOf S') with ⟨v, T, a, b', c', _⟩ | ⟨a, _⟩
            · exact absurd c' (hn T b')
            · exact a
          rw [put_new vn]
          obtain ⟨H12, hH12⟩ : ∃ H12, H12 = upd H11 D (.dT (kvs2 ++ [(keyS (nmsOf S'), v10)])) := ⟨_, rfl⟩
          rw [← hH12]
          have kp12 : Kp X2 H11 H12 := by rw [hH12]; exact Kp.put (.inl (.inr rfl))
          have E12 := (((E9.same s10).same s11).mono kp12)
          have t12 : Trk X2 H12 := by rw [hH12]; exact ((t9.mono s10).mono s11).put
          have hL12 : H12 LW = some (.lst zs) := by
            rw [hH12, upd_ne (Ne.symm nDL)]
            exact s711 _ _ c7
          have hD12 : H12 D = some (.dT (kvs2 ++ [(keyS (nmsOf S'), v10)])) := by rw [hH12, upd_same]
          have kp712 : Kp X2 H6 H12 := (Kp.of s711).trans kp12
          have d12 : DX X2 H12 v10 (.list (S'.map stpD)) := (d10.mono (Kp.of s11)).mono kp12
          refine k_drop1' (q_append (i := 2) (L := LW) (d := .list (S'.map stpD)) E12 rfl (.inr rfl) t12 hL12 (c8.mono kp712) (g_var (i := 5) (d := .list (S'.map stpD)) E12 rfl) (by
            rw [List.length_map, List.length_append]
            omega) fun H13 us h13 x13 E13 t13 k13 => ?_)
          have hD13 : H13 D = some (.dT (kvs2 ++ [(keyS (nmsOf S'), v10)])) := k13 _ _ nDL hD12
          have kp13 : Kp X2 H12 H13 := fun a o n e => k13 a o (fun z => n (.inr z)) e
          refine ⟨⟨(c1.trans kp712).trans kp13, t13⟩, N ++ [S'], by rw [← List.append_assoc]; exact f3, fun i hi S2 e => ?_, fun a o n1 n2 e => k13 a o n2 (by rw [hH12, upd_ne n1]; exact s711 _ _ (c4 a o n1 n2 e)), ⟨_, hD13, ?_⟩, ⟨us, h13, ?_⟩, envUn (envUn E13 4) 5⟩
          · by_cases z : i = j
            · subst z
              rw [hS] at e
              cases e
              exact ⟨S', by simp, rfl⟩
            · obtain ⟨T, a, b'⟩ := c3 i (by omega) S2 e
              exact ⟨T, by rw [← List.append_assoc]; exact List.mem_append_left _ a, b'⟩
          · rw [← List.append_assoc]
            exact paired_snoc ((c6.mono kp712).mono kp13) ⟨rfl, d12.mono kp13⟩
          · rw [← List.append_assoc, List.map_append]
            exact x13
        · have : ∃ T ∈ Fs ++ N, nmsOf T = nmsOf S' := Classical.byContradiction fun z => of_decide_eq_false hb fun T hT e => z ⟨T, hT, e⟩
          exact stay s9 (fun S2 e => by cases e; exact this) (envUn (envUn (E8.same s9) 4) 5)
    · rintro Hb σ2 H6 sb ⟨⟨c1, c2⟩, N, f2, c3, c4, c5, c6, E6⟩
      have fewN := fewF f2
      rw [List.length_append] at fewN
      refine ⟨2 * (Kn - (Fs ++ N).length) + (W' ++ N).length, ?_, W' ++ N, Fs ++ N, ⟨f2, ⟨fun S hS => ?_, by rw [List.length_append, List.length_append]; omega⟩, fun S hS => ?_, c4, c2, c5, c6, envUn E6 3⟩, rfl⟩
      · rw [List.length_append, List.length_append, List.length_append]
        show _ < 2 * (Kn - Fs.length) + (W'.length + 1)
        omega
      · rcases List.mem_append.mp hS with h | h
        · exact List.mem_append_left _ (cW S (List.mem_append_left _ h))
        · exact List.mem_append_right _ h
      · rcases List.mem_append.mp hS with h | h
        · rcases cF S h with h1 | h1
          · rcases List.mem_append.mp h1 with h2 | h2
            · exact .inl (List.mem_append_left _ h2)
            · rw [List.mem_singleton.mp h2]
              refine .inr fun i S' e => ?_
              obtain ⟨A, B, a, b, b', a', eL, lA, _, _⟩ := turn_get e
              refine c3 i ?_ S' e
              rw [rangeD_len]
              have : here.length = A.length + (B.length + 2) := by rw [eL]; simp
              omega
          · exact .inr h1.more
        · exact .inl (List.mem_append_right _ h)
end K20

/-! How many stand the other way about. -/
namespace K20
open PySem PySem.Spec PyProof.Rows L2 KD KP KGr
variable {P : Program} {w : World} {K : PySem.W.Frag} {mg : Str → Option Value} {base : Heap}
theorem mt_indexK {X : Cx} (h : X.K = K) : MtR X "list.index" (rIndex K) := h ▸ mt_index
theorem g_index {X : Addr → Prop} {σ : L2.St} {H : Hp} {ta tb : TE} {ws : List Str} {s : Str} (t : Trk X H) (h1 : G X ta σ H (wsD ws)) (h2 : G X tb σ H (.str s)) (hs : s ∈ ws) : G X (tBM K "list" (rIndex K) ta (tCons tb tNil)) σ H (.int ((ws.idxOf s : Nat) : Int)) := fun H1 s1 Q q =>
  h1 H1 s1 _ fun v H2 s2 r => by
    obtain ⟨a, xs, rfl, _, e, rx⟩ := r.lst_inv
    have ex := strs_inv rx
    subst ex
    refine ⟨.inl ⟨rfl, _, SqL.of e⟩, h2 H2 (s1.trans s2) _ fun u H3 s3 r3 => ?_⟩
    rw [r3.str_inv]
    have hl := List.idxOf_lt_length_iff.mpr hs
    have he : ws[ws.idxOf s]'hl = s := List.getElem_idxOf _
    refine ⟨a, ws.map V.str, .str s, ws.idxOf s, .str s, rfl, rfl, SqL.of (s3 _ _ e), rfl, ?_, ?_, ?_, fun m z' hm hz => ?_, q _ H3 (s2.trans s3) (.int _)⟩
    · rw [List.all_eq_true]
      intro z hz
      obtain ⟨_, _, rfl⟩ := List.mem_map.mp hz
      rfl
    · rw [List.getElem?_map, List.getElem?_eq_getElem hl, he]
      rfl
    · show eqV (.str s) (.str s) = true
      simp [eqV]
    · rw [List.getElem?_map] at hz
      obtain ⟨x, hx, rfl⟩ := Option.map_eq_some_iff.mp hz
      have nx : x ≠ s := fun z => by
        subst z
        have hm2 : m < ws.length := by omega
        have e2 : ws[m]'hm2 = x := by rw [List.getElem?_eq_getElem hm2] at hx; exact Option.some.inj hx
        have := List.not_of_lt_findIdx (p := fun y => y == x) (xs := ws) (i := m) hm
        simp [e2] at this
      show eqV (.str x) (.str s) = false
      simpa [eqV] using nx
theorem gi_is {X : Addr → Prop} {wi : TI} {σ : L2.St} {H : Hp} {ds es : List PyData} (h : GI X wi σ H ds) (e : ds = es) : GI X wi σ H es := e ▸ h
def spMany : Sp := fun us H Q _ => ∃ (X : Addr → Prop) (v1 v2 : V) (ns ws : List Str), us = [v1, v2] ∧ Trk X H ∧ DX X H v1 (wsD ns) ∧ DX X H v2 (wsD ws) ∧ (∀ s ∈ ns, s ∈ ws) ∧ ns.length ≤ 100 ∧ ∀ w H', Same H H' → DX X H' w (.int ((KCf.invN (ns.map ws.idxOf) : Nat) : Int)) → Q w H'
-- HINT _law_turned_many enum pi_enumQ
-- HINT _law_turned_many index (mt_indexK (K := K) rfl)
-- HINT _law_turned_many lctt#1 tTest (tOp (rI0 fun i j => V.bl (decide (i < j))) (tBM K "list" (rIndex K) (tVar 1) (tCons (tVar 5) tNil)) (tBM K "list" (rIndex K) (tVar 1) (tCons (tVar 4) tNil)))
abbrev s__law_turned_many : Stmt := topS 55
abbrev n__law_turned_many : List Str := ["_law_names", "_law_wanted", "_law_found", "_law_at", "_law_one", "_law_other"]
theorem sc__law_turned_many : FnScope n__law_turned_many ["_law_names", "_law_wanted"] (defScope s__law_turned_many) := ⟨rfl, rfl, rfl, by decide +kernel, rfl, by decide +kernel, by decide +kernel⟩
theorem ok_turned_many {f : Addr} {fd : FuncData} (F : Fun K "_law_turned_many" "_law_turned_many" s__law_turned_many f fd) (T : Bl mg) : FnOk P w K mg base CX0 1 f fd ["_law_names", "_law_wanted"] spMany := by
  refine F.ok sc__law_turned_many (fun vs H Q E h => ?_) (fun cdv A outer s H us Q E hr h => ?_)
  · obtain ⟨X, v1, v2, ns, ws, rfl, _⟩ := h
    rfl
  · obtain ⟨X, v1, v2, ns, ws, rfl, t, d1, d2, inn, few, q⟩ := h
    refine ⟨_, (pss_cons (ps_set (i := 2) sc__law_turned_many.nd rfl (by first | exact Or.inl rfl | exact Or.inr rfl) pe_int)
    (pss_cons (ps_for PassesOwn.never rfl (pi_enumQ (by rfl) T.b_enumerate (pa_cons (pv 0) pa_nil)) (pg_tup (n := 2) rfl (pgs_cons (pg_name (i := 3) sc__law_turned_many.nd rfl (by first | exact Or.inl rfl | exact Or.inr rfl)) (pgs_cons (pg_name (i := 4) sc__law_turned_many.nd rfl (by first | exact Or.inl rfl | exact Or.inr rfl)) pgs_nil)))
    (pss_one (ps_set (i := 2) sc__law_turned_many.nd rfl (by first | exact Or.inl rfl | exact Or.inr rfl) (pe_op op_addA (pv 2) (pe_callB call_len (by rfl) T.b_len boot_len (pa_cons (pe_lc (own := [("_law_other", 5)]) (g := (gName 5)) (tt := tTest (tOp (rI0 fun i j => V.bl (decide (i < j))) (tBM K "list" (rIndex K) (tVar 1) (tCons (tVar 5) tNil)) (tBM K "list" (rIndex K) (tVar 1) (tCons (tVar 4) tNil)))) rfl sc__law_turned_many.nd (pi_list (pe_slice sl_list (pv 0) (po_some (pe_op op_addA (pv 3) pe_int)) po_none)) (blkOk_by (N := n__law_turned_many) (sc := defScope s__law_turned_many) (by decide +kernel)) (fun _ _ _ _ _ => (pg_name (i := 5) sc__law_turned_many.nd rfl (by first | exact Or.inl rfl | exact Or.inr rfl))) (fun _ _ _ _ _ => (pts_one (pt_cmpR op_lt (pe_bm PySem.F.plainAttrs_list PySem.F.slot_list_index PySem.F.type_list_index (mt_indexK (K := K) rfl) (pv 1) (pa_cons (pv 5) pa_nil)) (pe_bm PySem.F.plainAttrs_list PySem.F.slot_list_index PySem.F.type_list_index (mt_indexK (K := K) rfl) (pv 1) (pa_cons (pv 4) pa_nil)) (nomark _)))) (fun _ _ _ _ _ => (pv 5))) pa_nil))))))
    (pss_one (ps_ret (pv 2))))), ?_⟩
    have En : EnvOk X H (L2.start n__law_turned_many [v1, v2]) (pad n__law_turned_many [.dat (wsD ns), .dat (wsD ws)]) := env2 d1 d2 (by decide)
    let l := ns.map ws.idxOf
    let Γ (c : Nat) : List Sv := [.dat (wsD ns), .dat (wsD ws), .dat (.int (c : Nat)), .un, .un, .un]
    refine q_set (i := 2) (d := .int ((0 : Nat) : Int)) En g_int fun H1 u1 s1 E1 => ?_
    have t1 := t.mono s1
    have E1 : EnvOk X H1 _ (Γ 0) := E1
    refine s_forD (X := X) (gi_enumQ (K := K) (d := wsD ns) (g_var (i := 0) (d := wsD ns) E1 rfl) rfl) (fun Hb j σ' H' => (Kp X Hb H' ∧ Trk X H') ∧ Same H H' ∧ ∃ c, c + KCf.invN (l.drop j) = KCf.invN l ∧ EnvOk X H' σ' (Γ c)) (fun Hb sb => ⟨⟨Kp.refl, t1.mono sb⟩, s1.trans sb, 0, by rw [List.drop_zero, Nat.zero_add], E1.same sb⟩) (fun Hb j σ' H' p => p.1) ?_ ?_
    · rintro Hb j x d σ' H' H'' sb hd ⟨⟨p1, p2⟩, p3, c, p4, E2⟩ s2 dx
      have lI : (itemsD (wsD ns)).length = ns.length := List.length_map _
      have hj : j < ns.length := by
        have := (List.getElem?_eq_some_iff.mp hd).1
        rw [enumD_len, lI] at this
        exact this
      rw [enumD_get (d := .str ns[j]) (by show (ns.map PyData.str)[j]? = _; rw [List.getElem?_map, List.getElem?_eq_getElem hj]; rfl)] at hd
      cases hd
      refine g_pair (d := .int (j : Int)) (e := .str ns[j]) dx fun u v q1 q2 => ?_
      have t2 := p2.mono s2
      have E3 : EnvOk X H'' _ [.dat (wsD ns), .dat (wsD ws), .dat (.int (c : Nat)), .dat (.int (j : Int)), .dat (.str ns[j]), .un] := ((E2.same s2).set (i := 3) q1).set (i := 4) q2
      let f0 : PyData → Bool := fun z => match z with | .str s => decide (ws.idxOf s < ws.idxOf ns[j]) | _ => false
      have cut : cutPD (ns.map PyData.str) (some ((j : Int) + 1)) none = (ns.drop (j + 1)).map PyData.str := by
        rw [show ((j : Int) + 1) = ((j + 1 : Nat) : Int) by omega, cut_frm, List.map_drop]
      have gl : G X (tLc (iList K (tSl (rSlL K) (tVar 0) (tPart (tOp rAddA (tVar 3) (tC (.int 1)))) tNoPart)) (gName 5) (tTest (tOp (rI0 fun i j => V.bl (decide (i < j))) (tBM K "list" (rIndex K) (tVar 1) (tCons (tVar 5) tNil)) (tBM K "list" (rIndex K) (tVar 1) (tCons (tVar 4) tNil)))) (tVar 5) [5]) ((σ'.set 3 (some u)).set 4 (some v)) H'' (.list (((ns.drop (j + 1)).map PyData.str).filter f0)) := by
        refine g_is (g_lc (ds := (ns.drop (j + 1)).map PyData.str) (Γ2 := fun z => [.dat (wsD ns), .dat (wsD ws), .dat (.int (c : Nat)), .dat (.int (j : Int)), .dat (.str ns[j]), .dat z]) f0 (fun z => z) t2 (gi_is (gi_list (g_sl (K := K) (ds := ns.map PyData.str) t2 (g_var (i := 0) (d := wsD ns) E3 rfl) (go_some (g_addI (j := 1) t2 (g_var (i := 3) (d := .int (j : Int)) E3 rfl) g_int)) go_none)) cut) (by rw [List.length_map, List.length_drop]; omega) (fun H4 s4 z hz => tgt_name (E3.same s4)) (fun X2 H4 σ2 z hz t4 E4 => ?_) (fun X2 H4 σ2 z hz hf t4 E4 => g_var (i := 5) (d := z) E4 rfl)) (by rw [List.map_id'])
        obtain ⟨s, hs, rfl⟩ := List.mem_map.mp hz
        exact gt_is (gt_cmpI t4 (g := fun i j => decide (i < j)) (g_index t4 (g_var (i := 1) (d := wsD ws) E4 rfl) (g_var (i := 5) (d := .str s) E4 rfl) (inn s (List.mem_of_mem_drop hs))) (g_index t4 (g_var (i := 1) (d := wsD ws) E4 rfl) (g_var (i := 4) (d := .str ns[j]) E4 rfl) (inn _ (List.getElem_mem _)))) (decide_eq_decide.mpr (by omega))
      have ecount : (((ns.drop (j + 1)).map PyData.str).filter f0).length = ((l.drop (j + 1)).filter fun y => decide (y < ws.idxOf ns[j])).length := by
        show _ = (((ns.map ws.idxOf).drop (j + 1)).filter _).length
        rw [← List.map_drop, List.filter_map, List.filter_map, List.length_map, List.length_map]
        rfl
      have ed : l.drop j = ws.idxOf ns[j] :: l.drop (j + 1) := by
        have hjl : j < l.length := by show j < (ns.map ws.idxOf).length; rw [List.length_map]; exact hj
        rw [List.drop_eq_getElem_cons hjl]
        congr 1
        show (ns.map ws.idxOf)[j] = _
        rw [List.getElem_map]
      have ei : KCf.invN (l.drop j) = ((l.drop (j + 1)).filter fun y => decide (y < ws.idxOf ns[j])).length + KCf.invN (l.drop (j + 1)) := by
        rw [ed]
        rfl
      refine g_addI t2 (g_var (i := 2) (d := .int (c : Nat)) E3 rfl) (g_len (K := K) t2 gl rfl) H'' (Same.refl _) _ fun v4 H4 s4 d4 => ?_
      refine ⟨⟨(p1.trans (Kp.of s2)).trans (Kp.of s4), t2.mono s4⟩, (p3.trans s2).trans s4, c + (((ns.drop (j + 1)).map PyData.str).filter f0).length, by rw [ecount]; omega, envUn (envUn ((E3.same s4).set (i := 2) ?_) 3) 4⟩
      have e : ((c : Nat) : Int) + (((((ns.drop (j + 1)).map PyData.str).filter f0).length : Nat) : Int) = ((c + (((ns.drop (j + 1)).map PyData.str).filter f0).length : Nat) : Int) := by omega
      rw [← e]
      exact d4
    · rintro Hb σ' H' sb ⟨⟨p1, p2⟩, p3, c, p4, E2⟩
      rw [enumD_len, show (itemsD (wsD ns)).length = ns.length from List.length_map _, List.drop_eq_nil_of_le (by show (ns.map ws.idxOf).length ≤ _; rw [List.length_map]; exact Nat.le_refl _)] at p4
      have p4 : c = KCf.invN l := p4
      subst p4
      exact s_ret (X := X) (D := { nx := fun _ H' => Q .non H', rt := Q }) (g_var (i := 2) (d := .int ((KCf.invN l : Nat) : Int)) E2 rfl) fun w H3 s3 dw => q w H3 (p3.trans s3) dw
end K20

/-! A row of changes far apart: facts. -/
namespace K20
open PySem PySem.Spec PyProof.Rows L2 KD KP KGr
def tS (i : Nat) : Str := (toString ((i : Nat) : Int) : String)
theorem tS_short : ∀ i, i < 25 → (tS i).length ≤ 3 ∧ ((i : Nat) : Int).natAbs.log2 < 1920 := by decide +kernel
theorem tS_word : ∀ i, i < 25 → isWordsD (.str (tS i)) = true ∧ PyData.strOk (tS i) = true := by decide +kernel
/-- turned about, as long as one stands astray -/
def greedy (ns : List Str) : Nat → List Stp → Option (List Stp)
  | 0, _ => none
  | k + 1, L => match astray ns L with
    | none => some L
    | some i => (turnL L i).bind (greedy ns k)
theorem greedy_to {ns : List Str} : ∀ {k : Nat} {L S : List Stp}, (∀ r ∈ L, okP r) → greedy ns k L = some S → To ns L S
  | 0, _, _, _, h => by cases h
  | k + 1, L, S, ok, h => by
    unfold greedy at h
    cases ha : astray ns L with
    | none =>
      rw [ha] at h
      cases h
      exact .done fun A B a b e => astray_none ha e
    | some i =>
      rw [ha] at h
      obtain ⟨L', h1, h2⟩ := Option.bind_eq_some_iff.mp h
      obtain ⟨ok', _, _, _⟩ := turn_ok ok h1
      obtain ⟨A, a, b, B, eL, lA, lt⟩ := astray_some ha
      subst eL
      obtain ⟨A2, B2, a2, b2, b', a', e2, lA2, ep, rfl⟩ := turn_get h1
      have q := KCf.two_cuts e2
      have eA : A = A2 ∧ a = a2 ∧ b = b2 ∧ B = B2 := by
        rcases q with z | ⟨z, _, _⟩ | ⟨z, _, _⟩ | ⟨M, z, _⟩ | ⟨M, z, _⟩
        · exact z
        all_goals (exfalso; have := congrArg List.length z; simp at this; omega)
      obtain ⟨rfl, rfl, rfl, rfl⟩ := eA
      exact .step lt (by rw [pas_live (ok _ (by simp)) (ok _ (by simp))]; exact ep) (greedy_to ok' h2)
def okTB : List Str → List Stp → Bool
  | _, [] => true
  | ws, r :: rs => decide (0 ≤ r.p) && decide (r.p.toNat + r.os.length ≤ ws.length) && decide ((ws.drop r.p.toNat).take r.os.length = r.os) && okTB (putB ws r.p r.os r.ns) rs
theorem okTB_ok : ∀ {rs : List Stp} {ws : List Str}, okTB ws rs = true → okT ws rs
  | [], _, _ => trivial
  | r :: rs, ws, h => by
    unfold okTB at h
    simp only [Bool.and_eq_true, decide_eq_true_eq] at h
    obtain ⟨⟨⟨h1, h2⟩, h3⟩, h4⟩ := h
    exact ⟨⟨r.p.toNat, by omega, h2, h3⟩, okTB_ok h4⟩
/-! ### the row -/
def rowW (n : Nat) : List Str := (List.range (3 * n)).map tS
def rowN (n : Nat) : List Str := eightN.take n
def stepR (c : Nat) (i : Nat) (s : Str) : Stp := ⟨s, ((c * i : Nat) : Int), [tS (3 * i)], []⟩
def rowR (c n : Nat) : List Stp := (List.range n).map fun i => stepR c i (eightN.getD i "")
def flatR (S : List Stp) : List (Str × Int × List Str × List Str) := S.map fun r => (r.name, r.p, r.os, r.ns)
theorem flat_inj {S T : List Stp} (h : flatR S = flatR T) : S = T := by
  unfold flatR at h
  refine (List.map_inj_right fun x y e => ?_).mp h
  obtain ⟨a, b, c, d⟩ := x
  obtain ⟨a', b', c', d'⟩ := y
  simp only [Prod.mk.injEq] at e
  obtain ⟨rfl, rfl, rfl, rfl⟩ := e
  rfl
def small (n : Nat) : Prop := 2 ≤ n ∧ n < 9
theorem row_bool : ∀ n, n < 9 → 2 ≤ n → (okTB (rowW n) (rowR 2 n) && decide ((greedy (rowN n).reverse 40 (rowR 2 n)).map flatR = some (flatR (rowR 3 n).reverse)) && decide (rkOf (rowN n).reverse (rowR 2 n) = n * (n - 1) / 2) && decide (nmsOf (rowR 2 n) = rowN n) && decide ((rowN n).Nodup)) = true := by decide +kernel
theorem row_facts {n : Nat} (h : small n) : okT (rowW n) (rowR 2 n) ∧ greedy (rowN n).reverse 40 (rowR 2 n) = some (rowR 3 n).reverse ∧ rkOf (rowN n).reverse (rowR 2 n) = n * (n - 1) / 2 ∧ nmsOf (rowR 2 n) = rowN n ∧ (rowN n).Nodup := by
  have := row_bool n h.2 h.1
  simp only [Bool.and_eq_true, decide_eq_true_eq] at this
  obtain ⟨⟨⟨⟨a, b⟩, c⟩, d⟩, e⟩ := this
  refine ⟨okTB_ok a, ?_, c, d, e⟩
  cases hg : greedy (rowN n).reverse 40 (rowR 2 n) with
  | none => rw [hg] at b; cases b
  | some S =>
    rw [hg] at b
    have b : some (flatR S) = some (flatR (rowR 3 n).reverse) := b
    rw [flat_inj (Option.some.inj b)]
theorem wd_row {n : Nat} (h : n < 9) : Wd (rowW n) := ⟨by unfold rowW; rw [List.length_map, List.length_range]; omega, fun z hz => by
  unfold rowW at hz
  obtain ⟨i, hi, rfl⟩ := List.mem_map.mp hz
  have := List.mem_range.mp hi
  exact tS_word i (by omega)⟩
theorem eight_len : eightN.length = 8 := rfl
theorem rowR_ok {c n : Nat} (h : n < 9) : ∀ r ∈ rowR c n, okP r := fun r hr => by
  unfold rowR at hr
  obtain ⟨i, hi, rfl⟩ := List.mem_map.mp hr
  have hi := List.mem_range.mp hi
  have h8 : eightN.getD i "" = eightN[i]'(by rw [eight_len]; omega) := by
    rw [List.getD_eq_getElem?_getD, List.getElem?_eq_getElem (by rw [eight_len]; omega)]
    rfl
  refine ⟨⟨?_, ⟨by simp [stepR], fun z hz => ?_⟩, ⟨by simp [stepR], fun z hz => by simp [stepR] at hz⟩, by simp [stepR]⟩, by show (0 : Int) ≤ ((c * i : Nat) : Int); omega⟩
  · show eightN.getD i "" ∈ allNames
    rw [h8]
    exact eight_all _ (List.getElem_mem _)
  · have : z = tS (3 * i) := by simpa [stepR] using hz
    rw [this]
    exact tS_word _ (by omega)
theorem row_len (c n : Nat) : (rowR c n).length = n := by unfold rowR; rw [List.length_map, List.length_range]
theorem row_names_len {n : Nat} (h : n < 9) : (rowN n).length = n := by unfold rowN; rw [List.length_take, eight_len]; omega
theorem row_at {n i : Nat} (h : n < 9) (hi : i < n) : (rowN n)[i]? = some (eightN.getD i "") := by
  unfold rowN
  rw [List.getElem?_take_of_lt hi, List.getD_eq_getElem?_getD, List.getElem?_eq_getElem (by rw [eight_len]; omega)]
  rfl
end K20

/-! A row of changes far apart is led right. -/
namespace K20
open PySem PySem.Spec PyProof.Rows L2 KD KP KGr
variable {P : Program} {w : World} {K : PySem.W.Frag} {mg : Str → Option Value} {base : Heap}
section
variable {X : Addr → Prop} {H : Hp} {σ : L2.St} {ta tb tc te : TE} {E : XK} {Q : VK} {ws : List Str}
theorem g_mulI {i j : Int} (t : Trk X H) (ha : G X ta σ H (.int i)) (hb : G X tb σ H (.int j)) (hc : CMul i j) : G X (tOp rMulA ta tb) σ H (.int (i * j)) := g_op t ha hb (RD.or1 (rd_I (C := CMul) (g := fun i j => i * j) hc))
theorem g_divI {i j : Int} (t : Trk X H) (ha : G X ta σ H (.int i)) (hb : G X tb σ H (.int j)) (hc : CDiv i j) : G X (tOp (rI CDiv fun i j => .int (i / j)) ta tb) σ H (.int (i / j)) := g_op t ha hb (rd_I (C := CDiv) (g := fun i j => i / j) hc)
theorem g_addS {a b : Str} (t : Trk X H) (ha : G X ta σ H (.str a)) (hb : G X tb σ H (.str b)) (hl : a.length + b.length ≤ 1000000) : G X (tOp rAddA ta tb) σ H (.str (a ++ b)) := g_op t ha hb (RD.or2 (RD.or2 (rd_addS hl)))
theorem g_strI {i : Nat} (hi : i < 25) (h : G X te σ H (.int (i : Int))) : G X (tCB (fun xs H Q => ∃ i, xs = [V.int i] ∧ i.natAbs.log2 < 1920 ∧ Q (.str (toString i : String)) H) (tCons te tNil)) σ H (.str (tS i)) := fun H1 s Q q =>
  h H1 s _ fun v H2 s2 r => ⟨(i : Int), by rw [r.int_inv], (tS_short i hi).2, q _ H2 s2 (.str _)⟩
theorem dxs_rev : ∀ {xs : List V} {ds : List PyData}, DXs X H xs ds → DXs X H xs.reverse ds.reverse
  | _, _, .nil => .nil
  | _, _, .cons h r => by
    rw [List.reverse_cons, List.reverse_cons]
    exact (dxs_rev r).append (.cons h .nil)
theorem g_rev {ds : List PyData} (t : Trk X H) (h : G X te σ H (.list ds)) : G X (tRevL K te) σ H (.list ds.reverse) := fun H1 s Q q =>
  h H1 s _ fun v H2 s2 r => by
    obtain ⟨a, xs, rfl, n, e, rx⟩ := r.lst_inv
    exact ⟨a, xs, rfl, SqL.of e, fun p hp => q _ _ (s2.trans (Same.upd hp)) (DX.newL ((t.mono s).mono s2) (dxs_rev rx) hp)⟩
/-- a call of led_to that leads somewhere -/
theorem g_ledto {hd nd : PyData} {R S : List Stp} {ns : List Str} (t : Trk X H) (h1 : G X ta σ H (wsD ws)) (h2 : G X tb σ H hd) (h3 : G X tc σ H nd) (r0 : Hnd hd R ∧ TxH nd ns ∧ (∀ r ∈ R, okP r) ∧ ns.Nodup ∧ ns.Perm (R.map Stp.name) ∧ okT ws R ∧ Wd ws ∧ R.length ≤ 8) (hS : To ns R S) :
    G X (tCall (spLedTo LedToA) [] E (tCons ta (tCons tb (tCons tc tNil)))) σ H (.list (S.map stpD)) :=
  g_call (ga_cons h1 (ga_cons h2 (ga_cons h3 ga_nil))) fun vs H1 s rs' Q k => by
    cases rs' with
    | cons r1 r2 =>
      cases r2 with
      | cons r2 r3 =>
        cases r3 with
        | cons r3 r4 =>
          cases r4
          refine ⟨X, _, _, _, ws, hd, nd, R, ns, rfl, ⟨t.mono s, r1, r2, r3, r0⟩, fun w H2 d s2 la dw => ?_⟩
          rcases la with ⟨_, z⟩ | ⟨S', rfl, hS'⟩
          · exact absurd ⟨S, hS⟩ z
          · rw [to_uniq hS hS'] at *
            exact k w H2 s2 dw
theorem g_walked {rs S : List Stp} {is : List Nat} (t : Trk X H) (h1 : G X ta σ H (.list (rs.map stpD))) (h2 : G X tb σ H (idxD is)) (ok : ∀ r ∈ rs, okP r) (f1 : rs.length ≤ 100) (f2 : is.length ≤ 1000) (hw : walkL rs is = some S) : G X (tCall spWalked [] E (tCons ta (tCons tb tNil))) σ H (.list (S.map stpD)) :=
  g_call (ga_cons h1 (ga_cons h2 ga_nil)) fun vs H1 s rs' Q k => by
    cases rs' with
    | cons r1 r2 =>
      cases r2 with
      | cons r2 r3 =>
        cases r3
        exact ⟨X, _, _, rs, is, S, rfl, t.mono s, r1, r2, ok, f1, f2, hw, k⟩
theorem sm_step {r : Stp} (n : Nat) (h1 : PyData.strOk r.name = true) (h2 : WsOk r.os) (h3 : WsOk r.ns) : sm (n + 3) (stpD r) := ⟨by simp, fun z hz => by
  simp at hz
  rcases hz with rfl | rfl
  · exact sm_leaf _ h1
  · exact sm_ch n h2 h3⟩
theorem sm_steps {rs : List Stp} (n : Nat) (h : ∀ r ∈ rs, okP r) (l : rs.length ≤ 100) : sm (n + 4) (.list (rs.map stpD)) := ⟨by rw [List.length_map]; omega, fun z hz => by
  obtain ⟨r, hr, rfl⟩ := List.mem_map.mp hz
  exact sm_step n (all_str _ (h r hr).1.1) (h r hr).1.2.1.ok (h r hr).1.2.2.1.ok⟩
end
theorem ix_seqK {X : Cx} (h : X.K = K) : IxR X (rIx K) := h ▸ ix_seq
def aD (c : Nat) (z : PyData) : PyData := match it z 0, it z 1 with
  | .int a, .str s => stpD (stepR c a.toNat s)
  | _, _ => .none
theorem aD_row {c n : Nat} (h : n < 9) : (enumD ((rowN n).map PyData.str)).map (aD c) = (rowR c n).map stpD := by
  apply List.ext_getElem?
  intro i
  rw [List.getElem?_map, List.getElem?_map]
  by_cases hi : i < n
  · rw [enumD_get (d := .str (eightN.getD i "")) (by rw [List.getElem?_map, row_at h hi]; rfl)]
    unfold rowR
    rw [List.getElem?_map, List.getElem?_range hi]
    rfl
  · rw [List.getElem?_eq_none (by rw [enumD_len, List.length_map, row_names_len h]; omega), List.getElem?_eq_none (by rw [row_len]; omega)]
    rfl
def spRowR : Sp := fun vs H Q _ => ∃ (X : Addr → Prop) (st cl : Addr) (n : Nat), vs = [.ref st] ∧ Sg X st cl n H ∧ n + 10 ≤ 1000000000 ∧ ∀ H', Q (.bl true) H'
-- HINT _law_row_right it#1 pi_str
-- HINT _law_row_right enum pi_enumQ
-- HINT _law_row_right ix (ix_seqK (K := K) rfl)
abbrev s__law_row_right : Stmt := topS 57
abbrev n__law_row_right : List Str := ["_law_stream", "_law_many", "_law_words", "_law_names", "_law_run", "_law_due", "_law_told", "_law_at", "_law_name", "_law_k", "_law_sign"]
theorem sc__law_row_right : FnScope n__law_row_right ["_law_stream"] (defScope s__law_row_right) := ⟨rfl, rfl, rfl, by decide +kernel, rfl, by decide +kernel, by decide +kernel⟩
theorem ok_row_right {f : Addr} {fd : FuncData} (F : Fun K "_law_row_right" "_law_row_right" s__law_row_right f fd) (T : Bl mg) (O__law_draw : Own P w K mg base CX0 1 "_law_draw" ["_law_stream", "_law_many"] spDraw) (O_fewest_passes : Own P w K mg base CX0 8 "fewest_passes" ["text", "run", "names"] (spLedTo FewA)) (O_led_to : Own P w K mg base CX0 8 "led_to" ["text", "run", "names"] (spLedTo LedToA))
    (O__law_walked : Own P w K mg base CX0 4 "_law_walked" ["_law_run", "_law_spots"] spWalked) (O__law_same : Own P w K mg base CX0 7 "_law_same" ["_law_found", "_law_due"] (spSame 5)) : FnOk P w K mg base CX0 9 f fd ["_law_stream"] spRowR := by
  refine F.ok sc__law_row_right (fun vs H Q E h => ?_) (fun cdv A outer s H us Q E hr h => ?_)
  · obtain ⟨X, st, cl, n, rfl, _⟩ := h
    rfl
  · obtain ⟨X, st, cl, n0, rfl, S, hn, q⟩ := h
    refine ⟨_, (pss_cons (ps_set (i := 1) sc__law_row_right.nd rfl (by first | exact Or.inl rfl | exact Or.inr rfl) (pe_op op_addA pe_int (pe_own O__law_draw hr (by decide) (by rfl) (pa_cons (pv 0) (pa_cons pe_int pa_nil)))))
    (pss_cons (ps_asg (pe_tup (pa_cons (pe_lc (own := [("_law_k", 9)]) (g := (gName 9)) (tt := tYes) rfl sc__law_row_right.nd (pi_range1 (by rfl) T.b_range (pa_cons (pe_op op_mulA pe_int (pv 1)) pa_nil)) (blkOk_by (N := n__law_row_right) (sc := defScope s__law_row_right) (by decide +kernel)) (fun _ _ _ _ _ => (pg_name (i := 9) sc__law_row_right.nd rfl (by first | exact Or.inl rfl | exact Or.inr rfl))) (fun _ _ _ _ _ => pts_nil) (fun _ _ _ _ _ => (pe_callTy call_str_int (by rfl) T.b_str boot_str (pa_cons (pv 9) pa_nil)))) (pa_cons (pe_slice sl_list (pe_lc (own := [("_law_sign", 10)]) (g := (gName 10)) (tt := tYes) rfl sc__law_row_right.nd (pi_str pe_str) (blkOk_by (N := n__law_row_right) (sc := defScope s__law_row_right) (by decide +kernel)) (fun _ _ _ _ _ => (pg_name (i := 10) sc__law_row_right.nd rfl (by first | exact Or.inl rfl | exact Or.inr rfl))) (fun _ _ _ _ _ => pts_nil) (fun _ _ _ _ _ => (pe_op op_addA (pv 10) pe_str))) po_none (po_some (pv 1))) pa_nil))) (pg_tup (n := 2) rfl (pgs_cons (pg_name (i := 2) sc__law_row_right.nd rfl (by first | exact Or.inl rfl | exact Or.inr rfl)) (pgs_cons (pg_name (i := 3) sc__law_row_right.nd rfl (by first | exact Or.inl rfl | exact Or.inr rfl)) pgs_nil))))
    (pss_cons (ps_setLc (i := 4) (own := [("_law_at", 7), ("_law_name", 8)]) (g := (gTup K 2 (gCons (gName 7) (gCons (gName 8) gNil)))) (tt := tYes) rfl sc__law_row_right.nd rfl rfl (sw_true rfl rfl rfl (by decide +kernel)) (pi_enumQ (by rfl) T.b_enumerate (pa_cons (pv 3) pa_nil)) (blkOk_by (N := n__law_row_right) (sc := defScope s__law_row_right) (by decide +kernel)) (fun _ _ _ _ _ => (pg_tup (n := 2) rfl (pgs_cons (pg_name (i := 7) sc__law_row_right.nd rfl (by first | exact Or.inl rfl | exact Or.inr rfl)) (pgs_cons (pg_name (i := 8) sc__law_row_right.nd rfl (by first | exact Or.inl rfl | exact Or.inr rfl)) pgs_nil)))) (fun _ _ _ _ _ => pts_nil) (fun _ _ _ _ _ => (pe_tup (pa_cons (pv 8) (pa_cons (pe_tup (pa_cons (pe_op op_mulA pe_int (pv 7)) (pa_cons (pe_lst (pa_cons (pe_ix (ix_seqK (K := K) rfl) (pv 2) (pe_op op_mulA pe_int (pv 7)) (fun _ _ => rfl)) pa_nil)) (pa_cons (pe_lst pa_nil) pa_nil)))) pa_nil)))))
    (pss_cons (ps_set (i := 5) sc__law_row_right.nd rfl (by first | exact Or.inl rfl | exact Or.inr rfl) (pe_revL (pe_lc (own := [("_law_at", 7), ("_law_name", 8)]) (g := (gTup K 2 (gCons (gName 7) (gCons (gName 8) gNil)))) (tt := tYes) rfl sc__law_row_right.nd (pi_enumQ (by rfl) T.b_enumerate (pa_cons (pv 3) pa_nil)) (blkOk_by (N := n__law_row_right) (sc := defScope s__law_row_right) (by decide +kernel)) (fun _ _ _ _ _ => (pg_tup (n := 2) rfl (pgs_cons (pg_name (i := 7) sc__law_row_right.nd rfl (by first | exact Or.inl rfl | exact Or.inr rfl)) (pgs_cons (pg_name (i := 8) sc__law_row_right.nd rfl (by first | exact Or.inl rfl | exact Or.inr rfl)) pgs_nil)))) (fun _ _ _ _ _ => pts_nil) (fun _ _ _ _ _ => (pe_tup (pa_cons (pv 8) (pa_cons (pe_tup (pa_cons (pe_op op_mulA pe_int (pv 7)) (pa_cons (pe_lst (pa_cons (pe_ix (ix_seqK (K := K) rfl) (pv 2) (pe_op op_mulA pe_int (pv 7)) (fun _ _ => rfl)) pa_nil)) (pa_cons (pe_lst pa_nil) pa_nil)))) pa_nil)))))))
    (pss_cons (ps_set (i := 6) sc__law_row_right.nd rfl (by first | exact Or.inl rfl | exact Or.inr rfl) (pe_own O_fewest_passes hr (by decide) (by rfl) (pa_cons (pv 2) (pa_cons (pv 4) (pa_cons (pe_revL (pv 3)) pa_nil)))))
    (pss_cons (ps_if (PW.pt (pw_or (pt_cmpR op_isN (pv 6) pe_non (nomark _)) (pw_or (pt_cmpR (op_neD hr.units) (pe_callB call_len (by rfl) T.b_len boot_len (pa_cons (pv 6) pa_nil)) (pe_op op_fdiv (pe_op op_mulA (pv 1) (pe_op op_sub (pv 1) pe_int)) pe_int) (nomark _)) (pw_or1 (pt_not (pt_val (pe_own O__law_same hr (by decide) (by rfl) (pa_cons (pe_own O_led_to hr (by decide) (by rfl) (pa_cons (pv 2) (pa_cons (pv 4) (pa_cons (pe_revL (pv 3)) pa_nil)))) (pa_cons (pv 5) pa_nil)))))))))
    (pss_one (ps_ret pe_bl)) pss_nil)
    (pss_one (ps_ret (pe_own O__law_same hr (by decide) (by rfl) (pa_cons (pe_own O__law_walked hr (by decide) (by rfl) (pa_cons (pv 4) (pa_cons (pv 6) pa_nil))) (pa_cons (pv 5) pa_nil))))))))))), ?_⟩
    have En : EnvOk X H (L2.start n__law_row_right [.ref st]) [.val (.ref st), .un, .un, .un, .un, .un, .un, .un, .un, .un, .un] := ⟨rfl, fun i s e => by
      rcases i with _ | i
      · cases e; rfl
      · have : s = .un := by
          have hi : i + 1 < 11 := (List.getElem?_eq_some_iff.mp e).1
          rcases i with _ | _ | _ | _ | _ | _ | _ | _ | _ | _ | i <;> first | (cases e; rfl) | omega
        subst this
        trivial⟩
    refine k_set (k_op (c_draw (m := 7) S (gv_var (i := 0) En rfl) g_int (by omega) (by decide) (by decide) fun m H1 m0 m1 S1 k1 => ?_))
    refine .inl ⟨2, m, rfl, rfl, ?_⟩
    obtain ⟨n, rfl⟩ : ∃ n : Nat, m = (n : Int) - 2 := ⟨(m + 2).toNat, by omega⟩
    have n2 : 2 ≤ n := by omega
    have n9 : n < 9 := by omega
    have E1 : EnvOk X H1 _ [.val (.ref st), .dat (.int (n : Nat)), .un, .un, .un, .un, .un, .un, .un, .un, .un] := (En.kps S k1).set (i := 1) (v := .int (2 + ((n : Int) - 2))) (d := .int (n : Nat)) (by rw [show 2 + ((n : Int) - 2) = (n : Nat) from by omega]; exact .int _)
    have t1 := S1.t
    obtain ⟨f1, f2, f3, f4, f5⟩ := row_facts ⟨n2, n9⟩
    have gn : G X (tVar 1) _ H1 (.int (n : Nat)) := g_var (i := 1) (d := .int (n : Nat)) E1 rfl
    refine k_asg ((g_tup (ds := [wsD (rowW n), wsD (rowN n)]) t1 (ga_cons ?_ (ga_cons ?_ ga_nil)) (by simp)) H1 (Same.refl _) _ fun v2 H2 s2 d2 => ?_)
    · refine g_is (g_lc1 (ds := rangeD 0 (3 * (n : Int)).toNat) (Γ2 := fun z => [.val (.ref st), .dat (.int (n : Nat)), .un, .un, .un, .un, .un, .un, .un, .dat z, .un]) (fun z => .str (tS (intOf z).toNat)) t1 (gi_range1 (g_mulI t1 (g_int (i := 3)) gn (.inl ⟨by omega, by omega⟩)) (by omega) (by omega)) (by rw [rangeD_len]; omega) (fun H3 s3 z hz => tgt_name (E1.same s3)) (fun X2 H3 σ2 z hz t3 E3 => ?_)) ?_
      · obtain ⟨j, hj, rfl⟩ := List.mem_map.mp hz
        have hj := List.mem_range.mp hj
        rw [show (0 : Int) + (j : Int) = (j : Nat) from by omega] at E3 ⊢
        exact g_strI (i := j) (by omega) (g_var (i := 9) (d := .int (j : Nat)) E3 rfl)
      · show PyData.list (((List.range (3 * (n : Int)).toNat).map _).map _) = PyData.list (((List.range (3 * n)).map tS).map PyData.str)
        rw [show (3 * (n : Int)).toNat = 3 * n from by omega, List.map_map, List.map_map]
        congr 1
        refine List.map_congr_left fun j hj => ?_
        show PyData.str (tS ((0 : Int) + (j : Int)).toNat) = _
        rw [show ((0 : Int) + (j : Int)).toNat = j from by omega]
        rfl
    · refine g_is (g_sl (K := K) (lo := none) (hi := some (n : Int)) (ds := eightN.map PyData.str) t1 (g_is (g_lc1 (ds := ("abcdefgh" : Str).cps.toList.map fun c => .str ⟨#[c]⟩) (Γ2 := fun z => [.val (.ref st), .dat (.int (n : Nat)), .un, .un, .un, .un, .un, .un, .un, .un, .dat z]) (fun z => match z with | .str s => .str (s ++ "1") | _ => .none) t1 (gi_str (g_str (s := "abcdefgh"))) (by rw [List.length_map]; decide) (fun H3 s3 z hz => tgt_name (E1.same s3)) (fun X2 H3 σ2 z hz t3 E3 => ?_)) ?_) go_none (go_some gn)) ?_
      · obtain ⟨c, hc, rfl⟩ := List.mem_map.mp hz
        have l1 : ((⟨#[c]⟩ : Str)).length = 1 := rfl
        have l2 : ("1" : Str).length = 1 := by decide +kernel
        exact g_addS (a := ⟨#[c]⟩) t3 (g_var (i := 10) (d := .str ⟨#[c]⟩) E3 rfl) (g_str (s := "1")) (by omega)
      · have e8 : (("abcdefgh" : Str).cps.toList.map fun c => (⟨#[c]⟩ : Str) ++ "1") = eightN := by decide +kernel
        rw [← e8, List.map_map, List.map_map]
        rfl
      · rw [cutP_to _ (by omega), ← List.map_take]
        rfl
    refine g_pair d2 fun u2 u3 q2 q3 => ?_
    have t2 := t1.mono s2
    have E2 : EnvOk X H2 _ [.val (.ref st), .dat (.int (n : Nat)), .dat (wsD (rowW n)), .dat (wsD (rowN n)), .un, .un, .un, .un, .un, .un, .un] := ((E1.same s2).set (i := 2) q2).set (i := 3) q3
    have mem_at : ∀ z ∈ enumD ((rowN n).map PyData.str), ∃ i, i < n ∧ z = .tuple [.int (i : Nat), .str (eightN.getD i "")] := fun z hz => by
      obtain ⟨i, hi⟩ := List.mem_iff_getElem?.mp hz
      have li : i < n := by
        have := (List.getElem?_eq_some_iff.mp hi).1
        rw [enumD_len, List.length_map, row_names_len n9] at this
        exact this
      rw [enumD_get (d := .str (eightN.getD i "")) (by rw [List.getElem?_map, row_at n9 li]; rfl)] at hi
      exact ⟨i, li, (Option.some.inj hi).symm⟩
    have rowG : ∀ {H3 : Hp} {σ3 : L2.St} {x4 : Sv} (c : Nat), c ≤ 3 → Trk X H3 → EnvOk X H3 σ3 [.val (.ref st), .dat (.int (n : Nat)), .dat (wsD (rowW n)), .dat (wsD (rowN n)), x4, .un, .un, .un, .un, .un, .un] → G X (tLc (iEnumQ K (tCons (tVar 3) tNil)) (gTup K 2 (gCons (gName 7) (gCons (gName 8) gNil))) tYes (tTup (tCons (tVar 8) (tCons (tTup (tCons (tOp rMulA (tC (.int (c : Int))) (tVar 7)) (tCons (tLst (tCons (tOp (rIx K) (tVar 2) (tOp rMulA (tC (.int 3)) (tVar 7))) tNil)) (tCons (tLst tNil) tNil)))) tNil))) [7, 8]) σ3 H3 (.list ((rowR c n).map stpD)) := fun {H3 σ3 x4} c hc t3 E3 => by
      refine g_is (g_lc1 (ds := enumD ((rowN n).map PyData.str)) (Γ2 := fun z => [.val (.ref st), .dat (.int (n : Nat)), .dat (wsD (rowW n)), .dat (wsD (rowN n)), x4, .un, .un, .dat (it z 0), .dat (it z 1), .un, .un]) (aD c) t3 (gi_enumQ (K := K) (d := wsD (rowN n)) (g_var (i := 3) (d := wsD (rowN n)) E3 rfl) rfl) (by rw [enumD_len, List.length_map, row_names_len n9]; omega) (fun H4 s4 z hz => ?_) (fun X2 H4 σ2 z hz t4 E4 => ?_)) (by rw [aD_row n9])
      · obtain ⟨i, hi, rfl⟩ := mem_at z hz
        exact tgt_pair (i := 7) (j := 8) (E3.same s4) (by decide)
      · obtain ⟨i, hi, rfl⟩ := mem_at z hz
        have gi : G X2 (tVar 7) σ2 H4 (.int (i : Nat)) := g_var (i := 7) (d := .int (i : Nat)) E4 rfl
        have gw : G X2 (tOp (rIx K) (tVar 2) (tOp rMulA (tC (.int 3)) (tVar 7))) σ2 H4 (.str (tS (3 * i))) := g_ixL (ds := (rowW n).map PyData.str) (i := ((3 * i : Nat) : Int)) t4 (g_var (i := 2) (d := wsD (rowW n)) E4 rfl) (g_is (g_mulI t4 (g_int (i := 3)) gi (.inl ⟨by omega, by omega⟩)) (by congr 1)) (atI_nat (by
          unfold rowW
          rw [List.map_map, List.getElem?_map, List.getElem?_range (by omega)]
          rfl))
        show G X2 _ σ2 H4 (.tuple [.str (eightN.getD i ""), .tuple [.int ((c * i : Nat) : Int), .list [.str (tS (3 * i))], .list []]])
        exact g_tup t4 (ga_cons (g_var (i := 8) (d := .str (eightN.getD i "")) E4 rfl) (ga_cons (g_tup t4 (ga_cons (g_is (g_mulI t4 (g_int (i := (c : Int))) gi (.inl ⟨by omega, by omega⟩)) (by congr 1)) (ga_cons (g_lst t4 (ga_cons gw ga_nil) (by simp)) (ga_cons (g_lst t4 ga_nil (by simp)) ga_nil))) (by simp)) ga_nil)) (by simp)
    refine q_set (i := 4) (d := .list ((rowR 2 n).map stpD)) E2 (rowG 2 (by omega) t2 E2) fun H3 v3 s3 E3 => ?_
    have t3 := t2.mono s3
    refine q_set (i := 5) (d := .list ((rowR 3 n).reverse.map stpD)) E3 (g_is (g_rev t3 (rowG 3 (by omega) t3 E3)) (by rw [List.map_reverse])) fun H4 v4 s4 E4 => ?_
    have t4 := t3.mono s4
    have ok2 := rowR_ok (c := 2) n9
    have ok3 : ∀ r ∈ (rowR 3 n).reverse, okP r := fun r hr => rowR_ok n9 r (List.mem_reverse.mp hr)
    have hS := greedy_to ok2 f2
    have l2 := row_len 2 n
    have r0 : Hnd (.list ((rowR 2 n).map stpD)) (rowR 2 n) ∧ TxH (wsD (rowN n).reverse) (rowN n).reverse ∧ (∀ r ∈ rowR 2 n, okP r) ∧ (rowN n).reverse.Nodup ∧ (rowN n).reverse.Perm ((rowR 2 n).map Stp.name) ∧ okT (rowW n) (rowR 2 n) ∧ Wd (rowW n) ∧ (rowR 2 n).length ≤ 8 := ⟨hnd_list _, ⟨rfl, rfl⟩, ok2, (List.reverse_perm _).nodup_iff.mpr f5, (List.reverse_perm _).trans (by rw [← f4]; exact .refl _), f1, wd_row n9, by omega⟩
    have gnr : ∀ {H5 : Hp} {σ5 : L2.St} {Γ : List Sv}, Trk X H5 → EnvOk X H5 σ5 Γ → Γ[3]? = some (.dat (wsD (rowN n))) → G X (tRevL K (tVar 3)) σ5 H5 (wsD (rowN n).reverse) := fun t E e => g_is (g_rev t (g_var (i := 3) (d := wsD (rowN n)) E e)) (by unfold wsD; rw [List.map_reverse])
    refine k_set ((ga_cons (g_var (i := 2) (d := wsD (rowW n)) E4 rfl) (ga_cons (g_var (i := 4) (d := .list ((rowR 2 n).map stpD)) E4 rfl) (ga_cons (gnr t4 E4 rfl) ga_nil))) H4 (Same.refl _) _ fun vs H5 s5 rs' => ?_)
    cases rs' with
    | cons r1 rs' =>
      cases rs' with
      | cons r2 rs' =>
        cases rs' with
        | cons r3 rs' =>
          cases rs'
          rw [List.append_nil]
          refine ⟨X, _, _, _, rowW n, _, _, rowR 2 n, (rowN n).reverse, rfl, ⟨t4.mono s5, r1, r2, r3, r0⟩, fun w6 H6 d s6 la dw => ?_⟩
          rcases la with ⟨_, z⟩ | ⟨S', is, rfl, hS', hw, hlen⟩
          · exact absurd ⟨_, hS⟩ z
          have eS := to_uniq hS hS'
          subst eS
          rw [f3] at hlen
          have t6 := (t4.mono s5).mono s6
          have E6 : EnvOk X H6 _ [.val (.ref st), .dat (.int (n : Nat)), .dat (wsD (rowW n)), .dat (wsD (rowN n)), .dat (.list ((rowR 2 n).map stpD)), .dat (.list ((rowR 3 n).reverse.map stpD)), .dat (idxD is), .un, .un, .un, .un] := (E4.same (s5.trans s6)).set (i := 6) dw
          have eN : ((n : Int) * ((n : Int) - 1)) / 2 = ((n * (n - 1) / 2 : Nat) : Int) := by
            have : n = 2 ∨ n = 3 ∨ n = 4 ∨ n = 5 ∨ n = 6 ∨ n = 7 ∨ n = 8 := by omega
            rcases this with rfl | rfl | rfl | rfl | rfl | rfl | rfl <;> rfl
          have small : n * (n - 1) / 2 ≤ 100 := by
            have : n = 2 ∨ n = 3 ∨ n = 4 ∨ n = 5 ∨ n = 6 ∨ n = 7 ∨ n = 8 := by omega
            rcases this with rfl | rfl | rfl | rfl | rfl | rfl | rfl <;> decide
          have gnN : G X (tVar 1) _ H6 (.int (n : Nat)) := g_var (i := 1) (d := .int (n : Nat)) E6 rfl
          have gd : ∀ {H7 : Hp} {σ7 : L2.St} {Γ : List Sv}, EnvOk X H7 σ7 Γ → Γ[5]? = some (.dat (.list ((rowR 3 n).reverse.map stpD))) → G X (tVar 5) σ7 H7 (.list ((rowR 3 n).reverse.map stpD)) := fun E e => g_var (i := 5) (d := .list ((rowR 3 n).reverse.map stpD)) E e
          have l3 : (rowR 3 n).reverse.length ≤ 100 := by rw [List.length_reverse, row_len]; omega
          refine q_if (b := false) (gt_is (gt_or (a := false) (b := false) (gt_is (gt_op t6 (g_var (i := 6) (d := idxD is) E6 rfl) g_non rb_isN) rfl) fun _ => gt_is (gt_or (a := false) (b := false) (gt_is (gt_neD t6 (g_len (K := K) t6 (g_var (i := 6) (d := idxD is) E6 rfl) rfl) (g_divI t6 (g_mulI t6 gnN (g_sub t6 gnN (g_int (i := 1))) (.inl ⟨by omega, by omega⟩)) (g_int (i := 2)) ⟨by omega, by omega⟩) rfl rfl (shaped_int _) (shaped_int _)) ?_) fun _ => gt_is (gt_not (gt_B (g_same t6 (g_ledto t6 (g_var (i := 2) (d := wsD (rowW n)) E6 rfl) (g_var (i := 4) (d := .list ((rowR 2 n).map stpD)) E6 rfl) (gnr t6 E6 rfl) r0 hS) (gd E6 rfl) (sm_steps 1 ok3 l3)))) rfl) rfl) rfl) (fun h => by cases h) fun _ H7 s7 => ?_
          · rw [eqv_int]
            show (!decide (((is.map fun i : Nat => PyData.int (i : Int)).length : Int) = _)) = false
            rw [List.length_map, hlen, eN, decide_eq_true rfl]
            rfl
          · have E7 := E6.same s7
            have t7 := t6.mono s7
            refine s_ret (X := X) (D := { nx := fun _ H' => Q .non H', rt := Q }) (d := .bool true) (g_same t7 (g_walked t7 (g_var (i := 4) (d := .list ((rowR 2 n).map stpD)) E7 rfl) (g_var (i := 6) (d := idxD is) E7 rfl) ok2 (by omega) (by omega) hw) (gd E7 rfl) (sm_steps 1 ok3 l3)) fun w8 H8 s8 dw8 => ?_
            rw [dw8.bl_inv]
            exact q H8
end K20

/-! The law. -/
namespace K20
open PySem PySem.Spec PyProof.Rows L2 KD KP KGr LamX
-- RAISES change_of checked_text passed side_by_side
theorem run_facts : ∀ {rs : List Stp} {ws : List Str}, okRun ws rs → (∀ z ∈ ws, z ∈ goodW) → ws.length + 2 * rs.length ≤ 90 → (∀ r ∈ rs, r.name ∈ allNames) → (∀ r ∈ rs, okP r) ∧ okT ws rs
  | [], _, _, _, _, _ => ⟨fun r h => (by cases h), trivial⟩
  | r :: rs, ws, ⟨⟨p0, p1, eo, hns, lns, hab⟩, h2⟩, hg, hl, hn => by
    rw [List.length_cons] at hl
    obtain ⟨p, hp⟩ : ∃ p : Nat, r.p = (p : Int) := ⟨r.p.toNat, by omega⟩
    have p0' := p0
    rw [hp] at p0 p1 eo h2
    rw [Int.toNat_natCast] at eo
    have f1 := fit_le (by omega : p ≤ ws.length) eo.symm
    have pl := put_len (ns := r.ns) f1
    have gp : ∀ z ∈ putB ws p r.os r.ns, z ∈ goodW := fun z hz => (put_in hz).elim (hg z) fun h => letters2_good z (hns z h)
    have os1 : okS r := ⟨hn r List.mem_cons_self, Wd.of (by omega) fun z hz => hg z (take_mem eo z hz), Wd.of (by omega) fun z hz => letters2_good z (hns z hz), hab⟩
    obtain ⟨a1, a2⟩ := run_facts h2 gp (by rw [pl]; omega) fun s hs => hn s (List.mem_cons_of_mem _ hs)
    exact ⟨fun s hs => (List.mem_cons.mp hs).elim (fun e => e ▸ ⟨os1, p0'⟩) (a1 s), ⟨⟨p, hp, f1, eo.symm⟩, by rw [hp]; exact a2⟩⟩
section
variable {X : Addr → Prop} {H : Hp} {σ : L2.St} {st cl : Addr} {n : Nat} {ta tb tc te : TE} {E : XK} {Q : VK} {ws : List Str}
theorem g_led0 {A : List Str → List Stp → PyData → Prop} {hd nd : PyData} {R : List Stp} {ns : List Str} (t : Trk X H) (h1 : G X ta σ H (wsD ws)) (h2 : G X tb σ H hd) (h3 : G X tc σ H nd) (r0 : Hnd hd R ∧ TxH nd ns ∧ (∀ r ∈ R, okP r) ∧ ns.Nodup ∧ ns.Perm (R.map Stp.name) ∧ okT ws R ∧ Wd ws ∧ R.length ≤ 8) (hA : ∀ d, A ns R d → d = .none) :
    G X (tCall (spLedTo A) [] E (tCons ta (tCons tb (tCons tc tNil)))) σ H .none :=
  g_call (ga_cons h1 (ga_cons h2 (ga_cons h3 ga_nil))) fun vs H1 s rs' Q k => by
    cases rs' with
    | cons r1 r2 =>
      cases r2 with
      | cons r2 r3 =>
        cases r3 with
        | cons r3 r4 =>
          cases r4
          exact ⟨X, _, _, _, ws, hd, nd, R, ns, rfl, ⟨t.mono s, r1, r2, r3, r0⟩, fun w H2 d s2 la dw => k w H2 s2 (hA d la ▸ dw)⟩
theorem g_many {ns ws : List Str} (t : Trk X H) (h1 : G X ta σ H (wsD ns)) (h2 : G X tb σ H (wsD ws)) (inn : ∀ s ∈ ns, s ∈ ws) (few : ns.length ≤ 100) : G X (tCall spMany [] E (tCons ta (tCons tb tNil))) σ H (.int ((KCf.invN (ns.map ws.idxOf) : Nat) : Int)) :=
  g_call (ga_cons h1 (ga_cons h2 ga_nil)) fun vs H1 s rs' Q k => by
    cases rs' with
    | cons r1 r2 =>
      cases r2 with
      | cons r2 r3 =>
        cases r3
        exact ⟨X, _, _, ns, ws, rfl, t.mono s, r1, r2, inn, few, k⟩
theorem g_lists {ns : List Str} (t : Trk X H) (h1 : G X ta σ H (wsD ns)) (l : ns.length ≤ 5) : G X (tCall spLists [] E (tCons ta tNil)) σ H (lsD' (listsK ns ns.length)) :=
  g_call (ga_cons h1 ga_nil) fun vs H1 s rs' Q k => by
    cases rs' with
    | cons r1 r2 =>
      cases r2
      exact ⟨X, _, ns, rfl, t.mono s, r1, l, k⟩
theorem c_handed {rs : List Stp} (S : Sg X st cl n H) (hv : GV ta σ H (.ref st)) (h1 : G X tb σ H (.list (rs.map stpD))) (hn : n + 100 ≤ 1000000000) (l : rs.length ≤ 8) (k : ∀ w hd H', Hnd hd rs → Sg X st cl (n + 20) H' → KpS st cl H H' → DX X H' w hd → Q w H') : tCall spHanded [] E (tCons ta (tCons tb tNil)) σ H Q :=
  hv H (Same.refl H) _ (h1 H (Same.refl H) _ fun v H1 s1 r1 => ⟨X, st, cl, n, v, rs, rfl, S.same s1, hn, r1, l, fun w hd H' a b c d => k w hd H' a b ((KpS.of s1).trans c) d⟩)
theorem k_cc {v : V} (h : Q v H) : tC v σ H Q := h
theorem k_nil' {Qa : List V → Hp → Prop} (h : Qa [] H) : tNil σ H Qa := h
theorem k_call3 {sp : Sp} (h : ta σ H fun v1 H1 => tb σ H1 fun v2 H2 => tc σ H2 fun v3 H3 => sp [v1, v2, v3] H3 Q E) : tCall sp [] E (tCons ta (tCons tb (tCons tc tNil))) σ H Q := h
theorem k_call4 {sp : Sp} {td : TE} (h : ta σ H fun v1 H1 => tb σ H1 fun v2 H2 => tc σ H2 fun v3 H3 => td σ H3 fun v4 H4 => sp [v1, v2, v3, v4] H4 Q E) : tCall sp [] E (tCons ta (tCons tb (tCons tc (tCons td tNil)))) σ H Q := h
end
section
variable {P : Program} {w : World} {K : PySem.W.Frag} {mg : Str → Option Value} {base : Heap}
abbrev s_law : Stmt := topS 58
abbrev n_law : List Str := ["_law_script", "_law_stream", "_law_turn", "_law_words", "_law_run", "_law_leads", "_law_handed", "_law_names", "_law_wanted", "_law_due", "_law_found", "_law_told"]
theorem sc_law : FnScope n_law ["_law_script"] (defScope s_law) := ⟨rfl, rfl, rfl, by decide +kernel, rfl, by decide +kernel, by decide +kernel⟩
/-- what the law's text leans on -/
structure Lib (P : Program) (w : World) (K : PySem.W.Frag) (mg : Str → Option Value) (base : Heap) : Prop where
  T : Bl mg
  start : Own P w K mg base CX0 1 "_law_start" ["_law_script"] (spStart K)
  draw : Own P w K mg base CX0 1 "_law_draw" ["_law_stream", "_law_many"] spDraw
  pick : Own P w K mg base CX0 2 "_law_pick" ["_law_stream", "_law_some"] spPick
  text : Own P w K mg base CX0 3 "_law_p_text" ["_law_stream", "_law_many"] spText
  run : Own P w K mg base CX0 4 "_law_p_run" ["_law_stream", "_law_words", "_law_many", "_law_is_plain"] spRunB
  leads : Own P w K mg base CX0 4 "_law_p_leads" ["_law_run"] spLeads
  handed : Own P w K mg base CX0 3 "_law_p_handed" ["_law_stream", "_law_run"] spHanded
  lists : Own P w K mg base CX0 1 "_law_p_lists" ["_law_names"] spLists
  names : Own P w K mg base CX0 1 "_law_p_names" ["_law_run"] (sp1 stepsP namesOf)
  led : Own P w K mg base CX0 8 "led_to" ["text", "run", "names"] (spLedTo LedToA)
  few : Own P w K mg base CX0 8 "fewest_passes" ["text", "run", "names"] (spLedTo FewA)
  same : Own P w K mg base CX0 7 "_law_same" ["_law_found", "_law_due"] (spSame 5)
  many : Own P w K mg base CX0 1 "_law_turned_many" ["_law_names", "_law_wanted"] spMany
  walked : Own P w K mg base CX0 4 "_law_walked" ["_law_run", "_law_spots"] spWalked
  row : Own P w K mg base CX0 9 "_law_row_right" ["_law_stream"] spRowR
def Gm0 (st : Addr) : List Sv := [.un, .val (.ref st), .un, .un, .un, .un, .un, .un, .un, .un, .un, .un]
theorem law_reads {f a : Addr} {cdv : Value} {s : Shared} {H : Hp} {E : XK} {ns : List Int} (L : Lib P w K mg base) (hr : Room 10 (callerA.deeper (envOfC "law" (defScope s_law) s.heap.objs.size f cdv))) (hS : SqL K H a (ns.map V.int)) (hl : ns.length ≤ 63) :
    ∃ t, PSs (cxOf CX0 P w K mg base n_law "law" (defScope s_law) f cdv callerA [] s H E).nox (defBody s_law) t ∧ t { nx := fun _ _ => V.non = V.bl true, rt := fun v _ => v = V.bl true } (L2.start n_law [.ref a]) H := by
  obtain ⟨T, O__law_start, O__law_draw, O__law_pick, O__law_p_text, O__law_p_run, O__law_p_leads, O__law_p_handed, O__law_p_lists, O__law_p_names, O_led_to, O_fewest_passes, O__law_same, O__law_turned_many, O__law_walked, O__law_row_right⟩ := L
  have hrr := hr
  refine ⟨_, (pss_cons (ps_set (i := 1) sc_law.nd rfl (by first | exact Or.inl rfl | exact Or.inr rfl) (pe_own O__law_start hr (by decide) (by rfl) (pa_cons (pv 0) pa_nil)))
    (pss_cons (ps_for PassesOwn.never rfl (pi_range1 (by rfl) T.b_range (pa_cons pe_int pa_nil)) (pg_name (i := 2) sc_law.nd rfl (by first | exact Or.inl rfl | exact Or.inr rfl))
    (pss_cons (ps_set (i := 3) sc_law.nd rfl (by first | exact Or.inl rfl | exact Or.inr rfl) (pe_own O__law_p_text hr (by decide) (by rfl) (pa_cons (pv 1) (pa_cons (pe_own O__law_draw hr (by decide) (by rfl) (pa_cons (pv 1) (pa_cons pe_int pa_nil))) pa_nil))))
    (pss_cons (ps_set (i := 4) sc_law.nd rfl (by first | exact Or.inl rfl | exact Or.inr rfl) (pe_own O__law_p_run hr (by decide) (by rfl) (pa_cons (pv 1) (pa_cons (pv 3) (pa_cons (pe_own O__law_pick hr (by decide) (by rfl) (pa_cons (pv 1) (pa_cons (pe_lst (pa_cons pe_int (pa_cons pe_int (pa_cons pe_int (pa_cons pe_int (pa_cons pe_int pa_nil)))))) pa_nil))) (pa_cons (pe_cmpR (op_eqD hr.units) (pe_own O__law_draw hr (by decide) (by rfl) (pa_cons (pv 1) (pa_cons pe_int pa_nil))) pe_int (nomark _)) pa_nil))))))
    (pss_cons (ps_par (i := 5) (j := 6) (by rfl) sc_law.nd rfl rfl (by decide) rfl rfl (pa_cons (pe_own O__law_p_leads hr (by decide) (by rfl) (pa_cons (pv 4) pa_nil)) (pa_cons (pe_own O__law_p_handed hr (by decide) (by rfl) (pa_cons (pv 1) (pa_cons (pv 4) pa_nil))) pa_nil)) (by rfl))
    (pss_one (ps_for PassesOwn.never rfl (pi_list (pe_own O__law_p_lists hr (by decide) (by rfl) (pa_cons (pe_own O__law_p_names hr (by decide) (by rfl) (pa_cons (pv 4) pa_nil)) pa_nil))) (pg_name (i := 7) sc_law.nd rfl (by first | exact Or.inl rfl | exact Or.inr rfl))
    (pss_cons (ps_set (i := 8) sc_law.nd rfl (by first | exact Or.inl rfl | exact Or.inr rfl) (pe_own O__law_pick hr (by decide) (by rfl) (pa_cons (pv 1) (pa_cons (pe_lst (pa_cons (pv 7) (pa_cons (pe_callTy call_tuple_of (by rfl) T.b_tuple boot_tuple (pa_cons (pv 7) pa_nil)) pa_nil))) pa_nil))))
    (pss_cons (ps_set (i := 9) sc_law.nd rfl (by first | exact Or.inl rfl | exact Or.inr rfl) (pe_dget1 (hu_of hr) (pv 5) (pe_callTy call_tuple_of (by rfl) T.b_tuple boot_tuple (pa_cons (pv 7) pa_nil)) ⟨rfl, rfl, rfl, rfl⟩))
    (pss_cons (ps_par (i := 10) (j := 11) (by rfl) sc_law.nd rfl rfl (by decide) rfl rfl (pa_cons (pe_own O_led_to hr (by decide) (by rfl) (pa_cons (pv 3) (pa_cons (pv 6) (pa_cons (pv 8) pa_nil)))) (pa_cons (pe_own O_fewest_passes hr (by decide) (by rfl) (pa_cons (pv 3) (pa_cons (pv 6) (pa_cons (pv 8) pa_nil)))) pa_nil)) (by rfl))
    (pss_cons (ps_if (PW.pt (pw_or (pt_not (pt_val (pe_own O__law_same hr (by decide) (by rfl) (pa_cons (pe_lst (pa_cons (pv 10) pa_nil)) (pa_cons (pe_lst (pa_cons (pv 9) pa_nil)) pa_nil))))) (pw_or1 (pt_cmpR (op_neD hr.units) (pe_cmpR op_isN (pv 11) pe_non (nomark _)) (pe_cmpR op_isN (pv 9) pe_non (nomark _)) (nomark _)))))
    (pss_one (ps_ret pe_bl)) pss_nil)
    (pss_one (ps_if (pt_cmpR op_notN (pv 9) pe_non (nomark _))
    (pss_cons (ps_if (PW.pt (pw_or (pt_not (pt_val (pe_callB call_isi (by rfl) T.b_isinstance boot_isinstance (pa_cons (pv 11) (pa_cons (pe_bltn (v := .ty "list") (by rfl) T.b_list boot_list rfl) pa_nil))))) (pw_or1 (pt_cmpR (op_neD hr.units) (pe_callB call_len (by rfl) T.b_len boot_len (pa_cons (pv 11) pa_nil)) (pe_own O__law_turned_many hr (by decide) (by rfl) (pa_cons (pe_own O__law_p_names hr (by decide) (by rfl) (pa_cons (pv 4) pa_nil)) (pa_cons (pv 7) pa_nil))) (nomark _)))))
    (pss_one (ps_ret pe_bl)) pss_nil)
    (pss_one (ps_if (pt_not (pt_val (pe_own O__law_same hr (by decide) (by rfl) (pa_cons (pe_lst (pa_cons (pe_own O__law_walked hr (by decide) (by rfl) (pa_cons (pv 4) (pa_cons (pv 11) pa_nil))) pa_nil)) (pa_cons (pe_lst (pa_cons (pv 9) pa_nil)) pa_nil)))))
    (pss_one (ps_ret pe_bl)) pss_nil))) pss_nil))))))))))))
    (pss_one (ps_ret (pe_own O__law_row_right hr (by decide) (by rfl) (pa_cons (pv 1) pa_nil)))))), ?_⟩
  clear hrr
  -- the spring
  refine k_set ?_
  refine ⟨.ref a, rfl, a, ns, rfl, hS, hl, fun st cl H1 s1 h1 h2 so => ?_⟩
  have hst : ∃ ms x y z, SpAt st cl ms x y z H1 := by
    obtain ⟨ms, x, y, z, S, _⟩ := so
    exact ⟨ms, x, y, z, S⟩
  let X : Addr → Prop := fun b => b = st ∨ b = cl
  have lst1 : ∀ b, X b → ∃ xs, H1 b = some (.lst xs) := fun b hb => by
    obtain ⟨ms, x, y, z, S⟩ := hst
    rcases hb with rfl | rfl
    · exact ⟨_, S.hs⟩
    · exact ⟨_, S.hc⟩
  have Z1 : Sg X st cl 0 H1 := ⟨so, .inl rfl, .inr rfl, fun b hb => let ⟨xs, e⟩ := lst1 b hb; ⟨_, e⟩⟩
  have E1 : EnvOk X H1 ((L2.start n_law [.ref a]).set 1 (some (.ref st))) (Gm0 st) := ⟨rfl, fun i s e => by
    rcases i with _ | _ | i
    · cases e; trivial
    · cases e; rfl
    · have : s = .un := by
        have hi : i + 2 < 12 := by
          have := (List.getElem?_eq_some_iff.mp e).1
          exact this
        rcases i with _ | _ | _ | _ | _ | _ | _ | _ | _ | _ | i <;> first | (cases e; rfl) | omega
      subst this
      trivial⟩
  clear hst so lst1 h1 h2
  refine ⟨4, rfl, by decide, by decide, ?_⟩
  refine for_it walk_range (fun i σ H' => Sg X st cl (i * 5000) H' ∧ EnvOk X H' σ (Gm0 st)) ⟨Z1, E1⟩ (fun _ _ _ _ _ => trivial) (fun i x σ H2 H3 hi p y => ?_) (fun σ H2 p => (show tRet (tCall spRowR [] E0 (tCons (tVar 1) tNil)) { nx := fun _ _ => V.non = V.bl true, rt := fun v _ => v = V.bl true } σ H2 from ⟨.ref st, p.2.get 1 (.val (.ref st)) rfl, X, st, cl, _, rfl, p.1, by omega, fun H' => rfl⟩))
  obtain ⟨rfl, rfl⟩ := y
  obtain ⟨Z2, E2⟩ := p
  have hi5 : i < 4 := hi
  clear Z1 E1
  have E3 : EnvOk X _ _ [.un, .val (.ref st), .un, .un, .un, .un, .un, .un, .un, .un, .un, .un] := envUn (E2.setV (i := 2) (v := .int (0 + (i : Int)))) 2
  clear E2
  -- words
  refine k_set ?_
  refine ⟨.ref st, E3.get 1 _ rfl, ?_⟩
  refine c_draw (m := 9) Z2 (gv_var (i := 1) E3 rfl) g_int (by omega) (by decide) (by decide) fun m H4 m0 m1 S4 k4 => ?_
  have E4 := E3.kps Z2 k4
  refine ⟨X, st, cl, i * 5000 + 1, m.toNat, by rw [show ((m.toNat : Nat) : Int) = m from by omega]; rfl, S4, by omega, by omega, fun w5 ws H5 hl5 hw5 S5 k5 dw5 nw5 => ?_⟩
  have Z5 := S5.le (m := i * 5000 + 20) (by omega)
  have lw : ws.length ≤ 8 := by omega
  have gw : ∀ z ∈ ws, z ∈ goodW := fun z hz => letters_good z (hw5 z hz)
  have ww : Wd ws := Wd.of (by omega) gw
  have E5 : EnvOk X H5 _ [.un, .val (.ref st), .un, .dat (wsD ws), .un, .un, .un, .un, .un, .un, .un, .un] := (E4.kps S4 k5).set (i := 3) dw5
  clear E3 Z2 E4 S4 k4 S5 k5 hw5 dw5 nw5
  -- run
  refine k_set (k_call4 ?_)
  refine gv_var (i := 1) E5 rfl H5 (Same.refl _) _ ?_
  refine g_var (i := 3) (d := wsD ws) E5 rfl H5 (Same.refl _) _ fun u3 H6 s6 r6 => ?_
  have Z6 := Z5.same s6
  have E6 := E5.same s6
  refine c_pick (ds := [.int 1, .int 2, .int 3, .int 4, .int 4]) Z6 (gv_var (i := 1) E6 rfl) (g_lst Z6.t (ga_cons g_int (ga_cons g_int (ga_cons g_int (ga_cons g_int (ga_cons g_int ga_nil))))) (by decide)) (by omega) (by decide) (by decide) fun u4 d4 H7 hd4 S7 k7 r7 => ?_
  have hm : ∃ m : Nat, d4 = .int (m : Int) ∧ 1 ≤ m ∧ m ≤ 4 := by
    simp only [List.mem_cons, List.not_mem_nil, or_false] at hd4
    rcases hd4 with rfl | rfl | rfl | rfl | rfl
    · exact ⟨1, rfl, by omega, by omega⟩
    · exact ⟨2, rfl, by omega, by omega⟩
    · exact ⟨3, rfl, by omega, by omega⟩
    · exact ⟨4, rfl, by omega, by omega⟩
    · exact ⟨4, rfl, by omega, by omega⟩
  obtain ⟨m2, rfl, m21, m22⟩ := hm
  have E7 := E6.kps Z6 k7
  refine k_op (c_draw (m := 2) S7 (gv_var (i := 1) E7 rfl) g_int (by omega) (by decide) (by decide) fun j H8 j0 j1 S8 k8 => ?_)
  refine k_cc (rb_eqD (X := X) (x := .int j) (y := .int 0) rfl rfl (shaped_int _) (shaped_int _) H8 (.int j) (.int 0) S8.t (.int _) (.int _) _ ?_)
  rw [r7.int_inv]
  refine ⟨X, st, cl, _, m2, u3, ws, _, rfl, by omega, S8, by omega, (r6.mono (Z6.kp k7)).mono (S7.kp k8), ww.ok, by omega, fun w9 R H9 lR okR nmR ndR S9 k9 d9 => ?_⟩
  have Z9 := S9.le (m := i * 5000 + 90) (by omega)
  have E9 : EnvOk X H9 _ [.un, .val (.ref st), .un, .dat (wsD ws), .dat (.list (R.map stpD)), .un, .un, .un, .un, .un, .un, .un] := ((E7.kps S7 k8).kps S8 k9).set (i := 4) d9
  clear E5 Z5 E6 Z6 S7 k7 r7 r6 E7 S8 k8 S9 k9 d9
  obtain ⟨ok, tt⟩ := run_facts okR gw (by omega) fun r hr => run_all _ (nmR r hr)
  -- leads, handed
  refine k_par (k_cons ?_)
  refine g_var (i := 4) (d := .list (R.map stpD)) E9 rfl H9 (Same.refl _) _ fun u10 H10 s10 r10 => ?_
  have Z10 := Z9.same s10
  refine k_nil' ⟨X, u10, R, rfl, Z10.t, r10, ok, ndR, by omega, fun D H11 kvs hD s11 eD lk C => ?_⟩
  have Z11 := Z10.same s11
  have E11 := E9.same (s10.trans s11)
  have nD1 : D ≠ st := Z10.ne1 hD
  have nD2 : D ≠ cl := Z10.ne2 hD
  let Xd : Addr → Prop := fun a => X a ∨ a = D
  refine c_handed (rs := R) Z11 (gv_var (i := 1) E11 rfl) (g_var (i := 4) (d := .list (R.map stpD)) E11 rfl) (by omega) (by omega) fun u12 hd H12 hh S12 k12 r12 => ⟨_, _, rfl, ?_⟩
  have Z12 := S12.le (m := i * 5000 + 120) (by omega)
  let Γ (x7 x8 x9 x10 x11 : Sv) : List Sv := [.un, .val (.ref st), .un, .dat (wsD ws), .dat (.list (R.map stpD)), .val (.ref D), .dat hd, x7, x8, x9, x10, x11]
  have E12 : EnvOk X H12 _ (Γ .un .un .un .un .un) := ((E11.kps Z11 k12).setV (i := 5) (v := .ref D)).set (i := 6) r12
  have kd : ∀ {H' : Hp}, KpS st cl H11 H' → Kp Xd H11 H' := fun k a o n e => k a o (fun z => n (.inl (.inl z))) (fun z => n (.inl (.inr z))) e
  -- what the dict tells
  let Tel : Hp → Prop := fun H' => H' D = some (.dT kvs) ∧ ∀ N : List Str, N.Nodup → N.Perm (nmsOf R) → (∃ v S, valV kvs (keyS N) = some v ∧ DX Xd H' v (.list (S.map stpD)) ∧ To N R S) ∨ (valV kvs (keyS N) = none ∧ ¬ ∃ S, To N R S)
  have telS : ∀ {H1 H' : Hp}, Tel H1 → KpS st cl H1 H' → Tel H' := fun {H1 H'} T k => ⟨k _ _ nD1 nD2 T.1, fun N a b => by
    rcases T.2 N a b with ⟨v, S, c, d, e⟩ | h
    · exact .inl ⟨v, S, c, d.mono (fun a o n e => k a o (fun z => n (.inl (.inl z))) (fun z => n (.inl (.inr z))) e), e⟩
    · exact .inr h⟩
  have T11 : Tel H11 := ⟨eD, C⟩
  have T12 := telS T11 k12
  clear E9 Z9 E11 Z11 Z10 k12 r12 S12 r10
  have lR4 : R.length ≤ 4 := by omega
  have lnm : (nmsOf R).length = R.length := by unfold nmsOf; rw [List.length_map]
  have hfin : ∀ {k : Nat} {H' : Hp} {σ' : L2.St}, k ≤ 3125 → Sg X st cl (i * 5000 + 120 + k) H' → EnvOk X H' σ' (Γ .un .un .un .un .un) → Sg X st cl ((i + 1) * 5000) H' ∧ EnvOk X H' σ' (Gm0 st) := fun {k H' σ'} hk Z E => ⟨Z.le (by omega), E.weak rfl fun j s hj => by
    rcases j with _ | _ | _ | _ | _ | _ | _ | _ | _ | _ | _ | _ | j
    all_goals first | (cases hj; first | exact .inl rfl | exact .inr rfl) | cases hj⟩
  have t12 := Z12.t
  have gnm : ∀ {H' : Hp} {σ' : L2.St} {Δ : List Sv}, Trk X H' → EnvOk X H' σ' Δ → Δ[4]? = some (.dat (.list (R.map stpD))) → G X (tCall (sp1 stepsP namesOf) [] E0 (tCons (tVar 4) tNil)) σ' H' (wsD (nmsOf R)) := fun t E e => g_is (g_call1 t (g_var (i := 4) (d := .list (R.map stpD)) E e) ⟨R, rfl, by omega⟩) (namesOf_is R)
  have few := few5 (ns := nmsOf R) (by omega) (k := (nmsOf R).length) (by omega)
  refine s_forD (X := X) (gi_list (K := K) (ds := (listsK (nmsOf R) (nmsOf R).length).map wsD) (g_lists t12 (gnm t12 E12 rfl) (by omega))) (fun Hb k σ' H' => Kp X Hb H' ∧ Sg X st cl (i * 5000 + 120 + k) H' ∧ Tel H' ∧ EnvOk X H' σ' (Γ .un .un .un .un .un)) (fun Hb sb => ⟨Kp.refl, Z12.same sb, telS T12 (KpS.of sb), E12.same sb⟩) (fun Hb k σ' H' p => ⟨p.1, p.2.1.t⟩) ?_ ?_
  rotate_left
  · rintro Hb σ' H' sb ⟨p1, p2, p3, p4⟩
    rw [List.length_map] at p2
    exact hfin few p2 p4
  rintro Hb k x d σ' H' H13 sb hdd ⟨p1, p2, p3, p4⟩ s13 dx
  rw [List.getElem?_map] at hdd
  obtain ⟨N, hN, rfl⟩ := Option.map_eq_some_iff.mp hdd
  have hk : k < (listsK (nmsOf R) (nmsOf R).length).length := (List.getElem?_eq_some_iff.mp hN).1
  have pN := perm_of ndR (List.mem_of_getElem? hN)
  have ndN : N.Nodup := pN.nodup_iff.mpr ndR
  have S13 := p2.same s13
  have T13 := telS p3 (KpS.of s13)
  refine k_name ?_
  have E13 : EnvOk X H13 _ (Γ (.dat (wsD N)) .un .un .un .un) := (p4.same s13).set (i := 7) dx
  have kb : Kp X Hb H13 := p1.trans (Kp.of s13)
  refine k_set (c_pick (ds := [wsD N, .tuple (N.map PyData.str)]) S13 (gv_var (i := 1) E13 rfl) (g_lst S13.t (ga_cons (g_var (i := 7) (d := wsD N) E13 rfl) (ga_cons (g_tupW S13.t (g_var (i := 7) (d := wsD N) E13 rfl)) ga_nil)) (by simp)) (by omega) (by simp) (by simp) fun u14 dw H14 hdw S14 k14 r14 => ?_)
  have hx : TxH dw N := by
    simp only [List.mem_cons, List.not_mem_nil, or_false] at hdw
    rcases hdw with rfl | rfl <;> exact ⟨rfl, rfl⟩
  have T14 := telS T13 k14
  have E14 : EnvOk X H14 _ (Γ (.dat (wsD N)) (.dat dw) .un .un .un) := (E13.kps S13 k14).set (i := 8) r14
  have kb14 : Kp X Hb H14 := kb.trans (S13.kp k14)
  have S14 : Sg X st cl (i * 5000 + 120 + (k + 1)) H14 := S14
  clear E13 S13 T13 r14
  have t14 := S14.t
  -- due
  refine k_set ⟨.ref D, E14.get 5 (.val (.ref D)) rfl, D, rfl, .inr ⟨kvs, .inl T14.1⟩, ?_⟩
  refine g_tupW t14 (g_var (i := 7) (d := wsD N) E14 rfl) H14 (Same.refl _) _ fun y H15 s15 ry => ?_
  obtain ⟨b, rfl, eb⟩ := key_is ry
  have T15 := telS T14 (KpS.of s15)
  refine ⟨valV kvs (keyS N), DGet.t T15.1 eb, ?_⟩
  have r0 : Hnd hd R ∧ TxH dw N ∧ (∀ r ∈ R, okP r) ∧ N.Nodup ∧ N.Perm (R.map Stp.name) ∧ okT ws R ∧ Wd ws ∧ R.length ≤ 8 := ⟨hh, hx, ok, ndN, pN, tt, ww, by omega⟩
  have S15 := S14.same s15
  have t15 := S15.t
  have key : ∀ {H' : Hp} {σ' : L2.St} {x7 x8 x9 x10 x11 : Sv}, Same H15 H' → EnvOk X H' σ' (Γ x7 x8 x9 x10 x11) → Kp X Hb H' ∧ Sg X st cl (i * 5000 + 120 + (k + 1)) H' ∧ Tel H' ∧ EnvOk X H' σ' (Γ .un .un .un .un .un) := fun {H' σ' x7 x8 x9 x10 x11} s E => ⟨(kb14.trans (Kp.of s15)).trans (Kp.of s), S15.same s, telS T15 (KpS.of s), envUn (envUn (envUn (envUn (envUn E 7) 8) 9) 10) 11⟩
  have gw : ∀ {H' : Hp} {σ' : L2.St} {Δ : List Sv}, EnvOk X H' σ' Δ → Δ[3]? = some (.dat (wsD ws)) → G X (tVar 3) σ' H' (wsD ws) := fun E e => g_var (i := 3) (d := wsD ws) E e
  have gh : ∀ {H' : Hp} {σ' : L2.St} {Δ : List Sv}, EnvOk X H' σ' Δ → Δ[6]? = some (.dat hd) → G X (tVar 6) σ' H' hd := fun E e => g_var (i := 6) (d := hd) E e
  have gd : ∀ {H' : Hp} {σ' : L2.St} {Δ : List Sv}, EnvOk X H' σ' Δ → Δ[8]? = some (.dat dw) → G X (tVar 8) σ' H' dw := fun E e => g_var (i := 8) (d := dw) E e
  rcases T15.2 N ndN pN with ⟨v, S, hv, dS, hS⟩ | ⟨hv, hno⟩
  rotate_left
  · rw [hv]
    have E15 : EnvOk X H15 _ (Γ (.dat (wsD N)) (.dat dw) (.dat .none) .un .un) := (E14.same s15).set (i := 9) (v := .non) (d := .none) .non
    have a1 : ∀ d, LedToA N R d → d = .none := fun d h => h.elim (fun z => z.1) fun z => absurd ⟨z.choose, z.choose_spec.2⟩ hno
    have a2 : ∀ d, FewA N R d → d = .none := fun d h => h.elim (fun z => z.1) fun ⟨S, is, _, z, _⟩ => absurd ⟨S, z⟩ hno
    refine k_par ?_
    refine g_led0 t15 (gw E15 rfl) (gh E15 rfl) (gd E15 rfl) r0 a1 H15 (Same.refl _) _ fun v16 H16 s16 d16 => ?_
    have E16 := E15.same s16
    refine g_led0 (t15.mono s16) (gw E16 rfl) (gh E16 rfl) (gd E16 rfl) r0 a2 H16 (Same.refl _) _ fun v17 H17 s17 d17 => ⟨_, _, rfl, ?_⟩
    have s17' := s16.trans s17
    have t17 := t15.mono s17'
    have E17 : EnvOk X H17 _ (Γ (.dat (wsD N)) (.dat dw) (.dat .none) (.dat .none) (.dat .none)) := ((E15.same s17').set (i := 10) (d16.mono (Kp.of s17))).set (i := 11) d17
    have gN : ∀ {j : Nat}, (Γ (.dat (wsD N)) (.dat dw) (.dat .none) (.dat .none) (.dat .none))[j]? = some (.dat .none) → G X (tOp (fun x y H Q => y = .non ∧ Q (.bl (decide (x = .non))) H) (tVar j) (tC .non)) _ H17 (.bool true) := fun {j} e => g_op t17 (g_var (i := j) (d := .none) E17 e) g_non (RB.rd rb_isN)
    refine q_if (b := false) (gt_is (gt_or (a := false) (b := false) (gt_is (gt_not (gt_B (g_same (d := .list [.none]) t17 (g_lst t17 (ga_cons (g_var (i := 10) (d := .none) E17 rfl) ga_nil) (by simp)) (g_lst t17 (ga_cons (g_var (i := 9) (d := .none) E17 rfl) ga_nil) (by simp)) ⟨by simp, fun z hz => by rw [List.mem_singleton.mp hz]; exact sm_leaf 4 rfl⟩))) rfl) fun _ => gt_is (gt_neD t17 (gN (j := 11) rfl) (gN (j := 9) rfl) rfl rfl (by rfl) (by rfl)) rfl) rfl) (fun h => by cases h) fun _ H18 s18 => ?_
    refine s_if (b := false) (gt_is (gt_op (t17.mono s18) (g_var (i := 9) (d := .none) (E17.same s18) rfl) g_non rb_notN) rfl) (fun h => by cases h) fun _ H19 s19 => ?_
    exact key ((s17'.trans s18).trans s19) ((E17.same s18).same s19)
  · rw [hv]
    have okS : (∀ r ∈ S, okP r) ∧ S.length = R.length := by
      obtain ⟨l, _⟩ := to_facts ok ndN pN hS
      obtain ⟨a, _, b⟩ := ld_ok l ok
      exact ⟨a, b⟩
    have E15 : EnvOk X H15 _ (Γ (.dat (wsD N)) (.dat dw) (.dat (.list (S.map stpD))) .un .un) := (E14.same s15).set (i := 9) (v := v) (dS.less fun a z => .inl z)
    refine k_par ?_
    refine g_ledto t15 (gw E15 rfl) (gh E15 rfl) (gd E15 rfl) r0 hS H15 (Same.refl _) _ fun v16 H16 s16 d16 => ?_
    have E16 := E15.same s16
    refine (ga_cons (gw E16 rfl) (ga_cons (gh E16 rfl) (ga_cons (gd E16 rfl) ga_nil))) H16 (Same.refl _) _ fun vs17 H17 s17 rs' => ?_
    cases rs' with
    | cons r1 rs' =>
      cases rs' with
      | cons r2 rs' =>
        cases rs' with
        | cons r3 rs' =>
          cases rs'
          rw [List.append_nil]
          refine ⟨X, _, _, _, ws, hd, dw, R, N, rfl, ⟨(t15.mono s16).mono s17, r1, r2, r3, r0⟩, fun w18 H18 d18 s18 la dw18 => ⟨_, _, rfl, ?_⟩⟩
          rcases la with ⟨_, z⟩ | ⟨S', is, rfl, hS', hw, hlen⟩
          · exact absurd ⟨S, hS⟩ z
          have eS := to_uniq hS hS'
          subst eS
          have s1518 := (s16.trans s17).trans s18
          have t18 := t15.mono s1518
          have E18 : EnvOk X H18 _ (Γ (.dat (wsD N)) (.dat dw) (.dat (.list (S.map stpD))) (.dat (.list (S.map stpD))) (.dat (idxD is))) := ((E15.same s1518).set (i := 10) (d16.mono (Kp.of (s17.trans s18)))).set (i := 11) dw18
          have gN : ∀ {j : Nat} {d : PyData}, (Γ (.dat (wsD N)) (.dat dw) (.dat (.list (S.map stpD))) (.dat (.list (S.map stpD))) (.dat (idxD is)))[j]? = some (.dat d) → isNone d = false → G X (tOp (fun x y H Q => y = .non ∧ Q (.bl (decide (x = .non))) H) (tVar j) (tC .non)) _ H18 (.bool false) := fun {j d} e h => g_is (g_op t18 (g_var (i := j) (d := d) E18 e) g_non (RB.rd rb_isN)) (by rw [h])
          have smS : sm 5 (.list [.list (S.map stpD)]) := ⟨by simp, fun z hz => by rw [List.mem_singleton.mp hz]; exact sm_steps 0 okS.1 (by omega)⟩
          have g9 : ∀ {H' : Hp} {σ' : L2.St} {Δ : List Sv}, Trk X H' → EnvOk X H' σ' Δ → Δ[9]? = some (.dat (.list (S.map stpD))) → G X (tLst (tCons (tVar 9) tNil)) σ' H' (.list [.list (S.map stpD)]) := fun t E e => g_lst t (ga_cons (g_var (i := 9) (d := .list (S.map stpD)) E e) ga_nil) (by simp)
          refine q_if (b := false) (gt_is (gt_or (a := false) (b := false) (gt_is (gt_not (gt_B (g_same (d := .list [.list (S.map stpD)]) t18 (g_lst t18 (ga_cons (g_var (i := 10) (d := .list (S.map stpD)) E18 rfl) ga_nil) (by simp)) (g9 t18 E18 rfl) smS))) rfl) fun _ => gt_is (gt_neD t18 (gN (j := 11) (d := idxD is) rfl rfl) (gN (j := 9) (d := .list (S.map stpD)) rfl rfl) rfl rfl (by rfl) (by rfl)) rfl) rfl) (fun h => by cases h) fun _ H19 s19 => ?_
          have t19 := t18.mono s19
          have E19 := E18.same s19
          refine s_if (b := true) (gt_is (gt_op t19 (g_var (i := 9) (d := .list (S.map stpD)) E19 rfl) g_non rb_notN) rfl) (fun _ H20 s20 => ?_) fun h => by cases h
          have t20 := t19.mono s20
          have E20 := E19.same s20
          have em : (KCf.invN ((nmsOf R).map N.idxOf) : Nat) = rkOf N R := by
            unfold rkOf nmsOf
            rw [List.map_map]
            rfl
          have fewI : is.length ≤ 64 := by
            have := inv_few (R.map (ixN N))
            rw [List.length_map] at this
            have : R.length * R.length ≤ 8 * 8 := Nat.mul_le_mul (by omega) (by omega)
            unfold rkOf at hlen
            omega
          refine q_if (b := false) (gt_is (gt_or (a := false) (b := false) (gt_is (gt_not (gt_B (g_isi (n := "list") (g_var (i := 11) (d := idxD is) E20 rfl) (by rfl)))) rfl) fun _ => gt_is (gt_neD t20 (g_len (K := K) t20 (g_var (i := 11) (d := idxD is) E20 rfl) rfl) (g_many t20 (gnm t20 E20 rfl) (g_var (i := 7) (d := wsD N) E20 rfl) (fun s hs => pN.mem_iff.mpr hs) (by omega)) rfl rfl (shaped_int _) (shaped_int _)) ?_) rfl) (fun h => by cases h) fun _ H21 s21 => ?_
          · rw [eqv_int, em]
            show (!decide (((is.map fun i : Nat => PyData.int (i : Int)).length : Int) = _)) = false
            rw [List.length_map, hlen, decide_eq_true rfl]
            rfl
          · have t21 := t20.mono s21
            have E21 := E20.same s21
            refine s_if (b := false) (gt_is (gt_not (gt_B (g_same (d := .list [.list (S.map stpD)]) t21 (g_lst t21 (ga_cons (g_walked t21 (g_var (i := 4) (d := .list (R.map stpD)) E21 rfl) (g_var (i := 11) (d := idxD is) E21 rfl) ok (by omega) (by omega) hw) ga_nil) (by simp)) (g9 t21 E21 rfl) smS))) rfl) (fun h => by cases h) fun _ H22 s22 => ?_
            exact key ((((s1518.trans s19).trans s20).trans s21).trans s22) (E21.same s22)
end
end K20

/-! What the top has written; the law's own head. -/
namespace K20
open PySem PySem.Spec PyProof.Rows L2 KD LamX
def inC : Stmt → Stmt
  | .ClassDef _ _ _ b _ _ _ _ _ _ _ => b.getD 0 (.Pass ⟨0, 0, 0, 0⟩)
  | s => s
/-- a def of the text -/
def DefA (K : PySem.W.Frag) (x : Str) (st : Stmt) : Prop := ∃ (f : Addr) (fd : FuncData), PySem.W.nsIn K mainGlobals x = some (some (.ref f)) ∧ PySem.W.keepIn K (.ref f) = true ∧ Fun K x x st f fd
theorem da {K : PySem.W.Frag} {x : Str} {st : Stmt} {f : Addr} {oc kV dc pm cd ct : Value} {od an : Option Addr} {sl : Array (Option Value)} (a : PySem.W.nsIn K mainGlobals x = some (some (.ref f)))
    (l : K.lookup f = some ⟨oc, od, .func (PySem.W.fnOf x x (defArgs st) (defBody st) (defScope st) .none kV dc pm an cd ct), sl⟩) (c : PySem.W.codeIn K cd x = true) (k : PySem.W.keepIn K (.ref f) = true) : DefA K x st := ⟨f, _, a, k, fun_mk l c k⟩
/-- a class of errors of the text -/
structure ClsA (K : PySem.W.Frag) (x qual f : Str) (st : Stmt) (C : Addr) : Prop where
  a : PySem.W.nsIn K mainGlobals x = some (some (.ref C))
  T : OexC K C
  xf : XfC K C
  no : PySem.W.findIn K (.ref C) f = some none
  ini : ∃ (fI : Addr) (fd : FuncData), PySem.W.findIn K (.ref C) "__init__" = some (some (.ref fI)) ∧ PySem.W.typeIn K (.ref fI) = some (.type "function") ∧ Fun K "__init__" qual (inC st) fI fd
theorem ca {K : PySem.W.Frag} {x qual f : Str} {st : Stmt} {C f1 N : Addr} {nm q : Str} {bs bm : List Value} {sn : List Str} {sub : List Value} {ab : Bool} {col : Option Bool} {dd : Option Addr} {m0 m1 m2 m3 m5 : Option Value} {oc kV dc pm cd ct : Value} {od an : Option Addr} {sl : Array (Option Value)}
    (a : PySem.W.nsIn K mainGlobals x = some (some (.ref C))) (xL : K.lookup C = some (excClassObj nm q C N bs bm true sn sub ab col dd m0 m1 m2 m3 m5 "ValueError.__new__")) (rv : PySem.HandSPX.refsVE bm = true)
    (sa : PySem.W.findIn K (.ref C) "__setattr__" = some (some (.builtin "object.__setattr__"))) (ga : PySem.W.findIn K (.ref C) "__getattribute__" = some (some (.builtin "BaseException.__getattribute__"))) (gg : PySem.W.findIn K (.ref C) "__getattr__" = some none)
    (no : PySem.W.findIn K (.ref C) f = some none) (a1 : PySem.W.findIn K (.ref C) "__init__" = some (some (.ref f1))) (t1 : PySem.W.typeIn K (.ref f1) = some (.type "function"))
    (l1 : K.lookup f1 = some ⟨oc, od, .func (PySem.W.fnOf "__init__" qual (defArgs (inC st)) (defBody (inC st)) (defScope (inC st)) .none kV dc pm an cd ct), sl⟩) (c1 : PySem.W.codeIn K cd qual = true) (k1 : PySem.W.keepIn K (.ref f1) = true)
    (kC : PySem.W.keepIn K (.ref C) = true) (eC : PySem.W.subIn K (.ref C) (.type "BaseException") = some true) (tC : PySem.W.typeIn K (.ref C) = some (.type "type")) (hC : PySem.W.hasDictIn K C = true) : ClsA K x qual f st C :=
  ⟨a, ⟨⟨nm, q, N, bs, bm, sn, sub, ab, col, dd, m0, m1, m2, m3, m5, xL, rv⟩, sa, eC, tC, kC⟩, ⟨ga, gg, eC, hC⟩, no, ⟨f1, _, a1, t1, fun_mk l1 c1 k1⟩⟩
theorem exm_of {K : PySem.W.Frag} {A B : Addr} {b : Bool} (h1 : PySem.W.subIn K (.ref B) (.type "BaseException") = some true) (h2 : PySem.W.isClsIn K B = true) (h3 : PySem.W.typeIn K (.ref B) = some (.type "type")) (h4 : PySem.W.subIn K (.ref A) (.ref B) = some b) : PySem.W.exmOne K (.ref A) (.ref B) = some b := by
  have i : (PySem.W.clsIn K B).isSome = true := h2
  show (if (PySem.W.subIn K (.ref B) (.type "BaseException") == some true) = true then (if ((PySem.W.clsIn K B).isSome && PySem.W.typeIn K (.ref B) == some (.type "type")) = true then PySem.W.subIn K (.ref A) (.ref B) else none) else none) = some b
  rw [h1, i, h3, if_pos (by rfl), if_pos (by rfl), h4]
/-- a def with lambdas -/
def DefC (K : PySem.W.Frag) (x : Str) (st : Stmt) (c : Addr) : Prop := ∃ (f : Addr) (oc kV dc pm ct : Value) (od an : Option Addr) (sl : Array (Option Value)), PySem.W.nsIn K mainGlobals x = some (some (.ref f)) ∧ PySem.W.keepIn K (.ref f) = true ∧
  K.lookup f = some ⟨oc, od, .func (PySem.W.fnOf x x (defArgs st) (defBody st) (defScope st) .none kV dc pm an (.ref c) ct), sl⟩ ∧ PySem.W.codeIn K (.ref c) x = true
theorem dc {K : PySem.W.Frag} {x : Str} {st : Stmt} {f c : Addr} {oc kV dc pm ct : Value} {od an : Option Addr} {sl : Array (Option Value)} (a : PySem.W.nsIn K mainGlobals x = some (some (.ref f))) (k : PySem.W.keepIn K (.ref f) = true)
    (l : K.lookup f = some ⟨oc, od, .func (PySem.W.fnOf x x (defArgs st) (defBody st) (defScope st) .none kV dc pm an (.ref c) ct), sl⟩) (cc : PySem.W.codeIn K (.ref c) x = true) : DefC K x st c := ⟨f, oc, kV, dc, pm, ct, od, an, sl, a, k, l, cc⟩
/-- the law's own def -/
def LawA (K : PySem.W.Frag) (c : Addr) : Prop := ∃ (f : Addr) (oc kV dc pm ct : Value) (od an : Option Addr) (sl : Array (Option Value)), PySem.W.nsIn K mainGlobals "law" = some (some (.ref f)) ∧
  K.lookup f = some ⟨oc, od, .func (PySem.W.fnOf "law" "law" (defArgs s_law) (defBody s_law) (defScope s_law) .none kV dc pm an (.ref c) ct), sl⟩ ∧ PySem.W.codeIn K (.ref c) "law" = true
theorem la {K : PySem.W.Frag} {f c : Addr} {oc kV dc pm ct : Value} {od an : Option Addr} {sl : Array (Option Value)} (a : PySem.W.nsIn K mainGlobals "law" = some (some (.ref f)))
    (l : K.lookup f = some ⟨oc, od, .func (PySem.W.fnOf "law" "law" (defArgs s_law) (defBody s_law) (defScope s_law) .none kV dc pm an (.ref c) ct), sl⟩) (cc : PySem.W.codeIn K (.ref c) "law" = true) : LawA K c := ⟨f, oc, kV, dc, pm, ct, od, an, sl, a, l, cc⟩
def spLaw (K : PySem.W.Frag) : Sp := fun vs H Q _ => ∃ (a : Addr) (ns : List Int), vs = [.ref a] ∧ SqL K H a (ns.map V.int) ∧ ns.length ≤ 63 ∧ Q = fun v _ => v = V.bl true
section
variable {P : Program} {w : World} {K : PySem.W.Frag} {mg : Str → Option Value} {base h : Heap}
abbrev s_BadWords : Stmt := topS 5
theorem ec_BadWords {C : Addr} (X : K.In h) (G : h.Ns mainGlobals mg) (A : ClsA K "BadWords" "BadWords.__init__" "index" s_BadWords C) : Ec P w K mg base "BadWords" "index" C := by
  obtain ⟨fI, fd, h1, h2, F⟩ := A.ini
  have S : FnScope ["self", "index"] ["self", "index"] (defScope (inC s_BadWords)) := ⟨rfl, rfl, rfl, by decide +kernel, rfl, by decide +kernel, by decide +kernel⟩
  exact ⟨PySem.W.mg_of X G A.a, A.T, A.xf, A.no, fI, fd, h1, h2, ok_initF F S A.T A.no rfl rfl rfl (by decide) (by decide) (fun _ => rfl), F.binds (ps := ["self", "index"]) fun _ _ _ _ _ _ us hl => match us, hl with | [_, _], _ => rfl⟩
abbrev s_BadChange : Stmt := topS 2
theorem ec_BadChange {C : Addr} (X : K.In h) (G : h.Ns mainGlobals mg) (A : ClsA K "BadChange" "BadChange.__init__" "thing" s_BadChange C) : Ec P w K mg base "BadChange" "thing" C := by
  obtain ⟨fI, fd, h1, h2, F⟩ := A.ini
  have S : FnScope ["self", "thing"] ["self", "thing"] (defScope (inC s_BadChange)) := ⟨rfl, rfl, rfl, by decide +kernel, rfl, by decide +kernel, by decide +kernel⟩
  exact ⟨PySem.W.mg_of X G A.a, A.T, A.xf, A.no, fI, fd, h1, h2, ok_initF F S A.T A.no rfl rfl rfl (by decide) (by decide) (fun _ => rfl), F.binds (ps := ["self", "thing"]) fun _ _ _ _ _ _ us hl => match us, hl with | [_, _], _ => rfl⟩
theorem own_of {CX : CXT} {k : Nat} {x : Str} {st : Stmt} {ps : List Str} {sp : Sp} (X : K.In h) (G : h.Ns mainGlobals mg) (D : DefA K x st) (b : ∀ (kV doc pm : Value) (an : Option Addr) (cdv ct : Value) (us : List Value), us.length = ps.length → bindArgs (PySem.W.fnOf x x (defArgs st) (defBody st) (defScope st) .none kV doc pm an cdv ct) ⟨us, []⟩ = pure (ps.zip us))
    (F : ∀ f fd, mg x = some (.ref f) → PySem.W.keepIn K (.ref f) = true → Binds K fd ps [] → Fun K x x st f fd → FnOk P w K mg base CX k f fd ps sp) : Own P w K mg base CX k x ps sp := by
  obtain ⟨f, fd, a, kp, Fn⟩ := D
  exact ⟨f, fd, PySem.W.mg_of X G a, kp, Fn.binds b, F f fd (PySem.W.mg_of X G a) kp (Fn.binds b) Fn⟩
end
theorem all_mk {l : PySem.W.OpenLaw} {w : World} {K : PySem.W.Frag} {h : Heap} {mg : Str → Option Value} {fa C1 C2 c  : Addr} {t_SIGNS : Tok} (X : K.In h) (G : h.Ns mainGlobals mg) (hfa : mg "law" = some (.ref fa))
    (lw : LawA K c)
    (c1 : ClsA K "BadWords" "BadWords.__init__" "index" s_BadWords C1)
    (c2 : ClsA K "BadChange" "BadChange.__init__" "thing" s_BadChange C2)
    (d_is_list : DefA K "is_list" s_is_list)
    (d_is_integer : DefA K "is_integer" s_is_integer)
    (d_is_number : DefA K "is_number" s_is_number)
    (d_is_pair : DefA K "is_pair" s_is_pair)
    (d_is_name : DefA K "is_name" s_is_name)
    (d_is_words : DefA K "is_words" s_is_words)
    (d_first_false : DefA K "first_false" s_first_false)
    (d_wrong_words : DefA K "wrong_words" s_wrong_words)
    (d_are_names : DefA K "are_names" s_are_names)
    (d_are_just_names : DefA K "are_just_names" s_are_just_names)
    (d_is_change : DefA K "is_change" s_is_change)
    (d_change_of : DefA K "change_of" s_change_of)
    (d_checked_text : DefA K "checked_text" s_checked_text)
    (d_fits : DefA K "fits" s_fits)
    (d_put_in : DefA K "put_in" s_put_in)
    (d_moved : DefA K "moved" s_moved)
    (d_moved_back : DefA K "moved_back" s_moved_back)
    (d_apart : DefA K "apart" s_apart)
    (d_passed : DefA K "passed" s_passed)
    (d_places_in : DefA K "places_in" s_places_in)
    (d_steps_of : DefA K "steps_of" s_steps_of)
    (d_names_of : DefA K "names_of" s_names_of)
    (d_turned_at : DefA K "turned_at" s_turned_at)
    (d_led : DefA K "led" s_led)
    (d_first_astray : DefA K "first_astray" s_first_astray)
    (d_led_to : DefA K "led_to" s_led_to)
    (d_fewest_passes : DefA K "fewest_passes" s_fewest_passes)
    (d__law_p_text : DefA K "_law_p_text" s__law_p_text)
    (d__law_p_made : DefA K "_law_p_made" s__law_p_made)
    (d__law_p_change : DefA K "_law_p_change" s__law_p_change)
    (d__law_p_run : DefA K "_law_p_run" s__law_p_run)
    (d__law_p_where : DefA K "_law_p_where" s__law_p_where)
    (d__law_p_passed : DefA K "_law_p_passed" s__law_p_passed)
    (d__law_p_lists : DefA K "_law_p_lists" s__law_p_lists)
    (d__law_p_names : DefA K "_law_p_names" s__law_p_names)
    (d__law_p_steps_passed : DefA K "_law_p_steps_passed" s__law_p_steps_passed)
    (d__law_p_leads : DefA K "_law_p_leads" s__law_p_leads)
    (d__law_p_handed : DefA K "_law_p_handed" s__law_p_handed)
    (d__law_start : DefA K "_law_start" s__law_start)
    (d__law_draw : DefA K "_law_draw" s__law_draw)
    (d__law_pick : DefA K "_law_pick" s__law_pick)
    (d__law_mixed : DefA K "_law_mixed" s__law_mixed)
    (d__law_same : DefA K "_law_same" s__law_same)
    (d__law_turned_many : DefA K "_law_turned_many" s__law_turned_many)
    (d__law_walked : DefA K "_law_walked" s__law_walked)
    (d__law_row_right : DefA K "_law_row_right" s__law_row_right)
    (k_SIGNS : PySem.W.nsIn K mainGlobals "SIGNS" = some (some (.str SIGNS_S t_SIGNS)))
    (z_isinstance : PySem.W.nsIn K mainGlobals "isinstance" = some none)
    (z_len : PySem.W.nsIn K mainGlobals "len" = some none)
    (z_list : PySem.W.nsIn K mainGlobals "list" = some none)
    (z_tuple : PySem.W.nsIn K mainGlobals "tuple" = some none)
    (z_dict : PySem.W.nsIn K mainGlobals "dict" = some none)
    (z_int : PySem.W.nsIn K mainGlobals "int" = some none)
    (z_bool : PySem.W.nsIn K mainGlobals "bool" = some none)
    (z_str : PySem.W.nsIn K mainGlobals "str" = some none)
    (z_min : PySem.W.nsIn K mainGlobals "min" = some none)
    (z_all : PySem.W.nsIn K mainGlobals "all" = some none)
    (z_range : PySem.W.nsIn K mainGlobals "range" = some none)
    (z_enumerate : PySem.W.nsIn K mainGlobals "enumerate" = some none)
    (z_zip : PySem.W.nsIn K mainGlobals "zip" = some none)
    (z_repr : PySem.W.nsIn K mainGlobals "repr" = some none)
    (z_sorted : PySem.W.nsIn K mainGlobals "sorted" = some none)
    (z_set : PySem.W.nsIn K mainGlobals "set" = some none) :
    LawG l w K CX0 63 "_law_script" mg fa h := by
  obtain ⟨f, oc, kV, dc, pm, ct, od, an, sl, la, ll, lc⟩ := lw
  have e := hfa.symm.trans (PySem.W.mg_of X G la)
  cases e
  have T : Bl mg := ⟨PySem.W.mg_none_of X G z_isinstance, PySem.W.mg_none_of X G z_len, PySem.W.mg_none_of X G z_list, PySem.W.mg_none_of X G z_tuple, PySem.W.mg_none_of X G z_dict, PySem.W.mg_none_of X G z_int, PySem.W.mg_none_of X G z_bool, PySem.W.mg_none_of X G z_str, PySem.W.mg_none_of X G z_min, PySem.W.mg_none_of X G z_all, PySem.W.mg_none_of X G z_range, PySem.W.mg_none_of X G z_enumerate, PySem.W.mg_none_of X G z_zip, PySem.W.mg_none_of X G z_repr⟩
  refine ⟨PySem.W.fnOf "law" "law" (defArgs s_law) (defBody s_law) (defScope s_law) .none kV dc pm an (.ref c) ct, [], spLaw K, (fun p hp => (by cases hp)), (fun p hp => (by cases hp)), (fun p hp => (by cases hp)), fun s u => .of_eq rfl, fun H a ns hn _ hT hS => ⟨a, ns, rfl, hS, hn, rfl⟩, fun base kin glob tb => ?_⟩
  have b_sorted : mg "sorted" = none := PySem.W.mg_none_of X G z_sorted
  have b_set : mg "set" = none := PySem.W.mg_none_of X G z_set
  have E_BadWords : Ec l.prog w K mg base "BadWords" "index" C1 := ec_BadWords X G c1
  have E_BadChange : Ec l.prog w K mg base "BadChange" "thing" C2 := ec_BadChange X G c2
  have g_SIGNS := PySem.W.mg_of X G k_SIGNS
  have O_is_list : Own l.prog w K mg base CX0 1 "is_list" ["thing"] (sp1 (fun _ => True) fun d => .bool (isSeq d)) := own_of X G d_is_list (fun _ _ _ _ _ _ us hl => match us, hl with | [_], _ => rfl) fun f fd m k b F => ok_is_list F T
  have O_is_integer : Own l.prog w K mg base CX0 1 "is_integer" ["thing"] (sp1 (fun _ => True) fun d => .bool (isIntD d)) := own_of X G d_is_integer (fun _ _ _ _ _ _ us hl => match us, hl with | [_], _ => rfl) fun f fd m k b F => ok_is_integer F T
  have O_is_number : Own l.prog w K mg base CX0 2 "is_number" ["thing"] (sp1 (fun _ => True) fun d => .bool (isNumD d)) := own_of X G d_is_number (fun _ _ _ _ _ _ us hl => match us, hl with | [_], _ => rfl) fun f fd m k b F => ok_is_number F T O_is_integer
  have O_is_words : Own l.prog w K mg base CX0 1 "is_words" ["thing"] (sp1 wordsPre fun d => .bool (isWordsD d)) := own_of X G d_is_words (fun _ _ _ _ _ _ us hl => match us, hl with | [_], _ => rfl) fun f fd m k b F => ok_is_words F T
  have O_first_false : Own l.prog w K mg base CX0 1 "first_false" ["tests"] (sp1 Bools fun d => ffD 0 (itemsD d)) := own_of X G d_first_false (fun _ _ _ _ _ _ us hl => match us, hl with | [_], _ => rfl) fun f fd m k b F => ok_first_false F T
  have O_wrong_words : Own l.prog w K mg base CX0 2 "wrong_words" ["things"] (sp1 wordsAll wrongD) := own_of X G d_wrong_words (fun _ _ _ _ _ _ us hl => match us, hl with | [_], _ => rfl) fun f fd m k b F => ok_wrong_words F T O_is_list O_is_words O_first_false
  have O_is_change : Own l.prog w K mg base CX0 3 "is_change" ["thing"] (sp1 chPre fun d => .bool (isChangeD d)) := own_of X G d_is_change (fun _ _ _ _ _ _ us hl => match us, hl with | [_], _ => rfl) fun f fd m k b F => ok_is_change F T O_is_list O_is_number O_wrong_words
  have O_change_of : Own l.prog w K mg base (L2.CX l.prog w) 4 "change_of" ["thing"] (spX1 chPre (changeOut C2)) := own_of X G d_change_of (fun _ _ _ _ _ _ us hl => match us, hl with | [_], _ => rfl) fun f fd m k b F => ok_change_of F T O_is_change E_BadChange
  have O_checked_text : Own l.prog w K mg base (L2.CX l.prog w) 3 "checked_text" ["text"] (spX1 wordsAll (textOut C1)) := own_of X G d_checked_text (fun _ _ _ _ _ _ us hl => match us, hl with | [_], _ => rfl) fun f fd m k b F => ok_checked_text F T O_wrong_words E_BadWords
  have O_fits : Own l.prog w K mg base CX0 1 "fits" ["text", "change"] (sp2 TC fun a b => .bool (fitsB (wsOf a) (intOf (it b 0)) (wsOf (it b 1)))) := own_of X G d_fits (fun _ _ _ _ _ _ us hl => match us, hl with | [_, _], _ => rfl) fun f fd m k b F => ok_fits F T
  have O_put_in : Own l.prog w K mg base CX0 1 "put_in" ["text", "change"] (sp2N TC fun a b => wsD (putB (wsOf a) (intOf (it b 0)) (wsOf (it b 1)) (wsOf (it b 2)))) := own_of X G d_put_in (fun _ _ _ _ _ _ us hl => match us, hl with | [_, _], _ => rfl) fun f fd m k b F => ok_put_in F T
  have O_moved : Own l.prog w K mg base CX0 1 "moved" ["change", "by"] (sp2 CC fun a b => chD (intOf (it a 0) + ((wsOf (it b 2)).length : Int) - ((wsOf (it b 1)).length : Int)) (wsOf (it a 1)) (wsOf (it a 2))) := own_of X G d_moved (fun _ _ _ _ _ _ us hl => match us, hl with | [_, _], _ => rfl) fun f fd m k b F => ok_moved F T
  have O_moved_back : Own l.prog w K mg base CX0 1 "moved_back" ["change", "by"] (sp2 CC fun a b => chD (intOf (it a 0) - ((wsOf (it b 2)).length : Int) + ((wsOf (it b 1)).length : Int)) (wsOf (it a 1)) (wsOf (it a 2))) := own_of X G d_moved_back (fun _ _ _ _ _ _ us hl => match us, hl with | [_, _], _ => rfl) fun f fd m k b F => ok_moved_back F T
  have O_apart : Own l.prog w K mg base CX0 1 "apart" ["one", "two", "room"] sp3A := own_of X G d_apart (fun _ _ _ _ _ _ us hl => match us, hl with | [_, _, _], _ => rfl) fun f fd m k b F => ok_apart F T
  have O_passed : Own l.prog w K mg base (L2.CX l.prog w) 5 "passed" ["one", "two"] (spX2 twoPre (twoOut passB C2)) := own_of X G d_passed (fun _ _ _ _ _ _ us hl => match us, hl with | [_, _], _ => rfl) fun f fd m k b F => ok_passed F T O_change_of O_apart O_moved O_moved_back
  have O_is_pair : Own l.prog w K mg base CX0 2 "is_pair" ["thing"] (sp1 (fun _ => True) fun d => .bool (isSeq d && decide (lenD d = 2))) := own_of X G d_is_pair (fun _ _ _ _ _ _ us hl => match us, hl with | [_], _ => rfl) fun f fd m k b F => ok_is_pair F T O_is_list
  have O_is_name : Own l.prog w K mg base CX0 1 "is_name" ["thing"] (sp1 (fun d => ∃ s ∈ allNames, d = .str s) fun _ => .bool true) := own_of X G d_is_name (fun _ _ _ _ _ _ us hl => match us, hl with | [_], _ => rfl) fun f fd m k b F => ok_is_name F T g_SIGNS
  have O_steps_of : Own l.prog w K mg base CX0 5 "steps_of" ["text", "run", "taken"] spStepsG := own_of X G d_steps_of (fun _ _ _ _ _ _ us hl => match us, hl with | [_, _, _], _ => rfl) fun f fd m k b F => ok_steps_ofG F T O_is_list O_is_pair O_is_name O_is_change O_fits O_change_of O_put_in
  have O_names_of : Own l.prog w K mg base CX0 1 "names_of" ["steps"] (sp1 stepsP namesOf) := own_of X G d_names_of (fun _ _ _ _ _ _ us hl => match us, hl with | [_], _ => rfl) fun f fd m k b F => ok_names_of F T
  have O_are_names : Own l.prog w K mg base CX0 2 "are_names" ["thing"] (sp1 NamesQ fun _ => .bool true) := own_of X G d_are_names (fun _ _ _ _ _ _ us hl => match us, hl with | [_], _ => rfl) fun f fd m k b F => ok_are_namesQ F T b_set O_is_list O_is_name
  have O_are_just_names : Own l.prog w K mg base CX0 3 "are_just_names" ["thing", "names"] (sp2 justQ fun _ _ => .bool true) := own_of X G d_are_just_names (fun _ _ _ _ _ _ us hl => match us, hl with | [_, _], _ => rfl) fun f fd m k b F => ok_justQ F T b_sorted O_are_names
  have O_places_in : Own l.prog w K mg base CX0 1 "places_in" ["things"] spPlacesQ := own_of X G d_places_in (fun _ _ _ _ _ _ us hl => match us, hl with | [_], _ => rfl) fun f fd m k b F => ok_placesQ F T
  have O_first_astray : Own l.prog w K mg base CX0 1 "first_astray" ["steps", "places"] spAstray := own_of X G d_first_astray (fun _ _ _ _ _ _ us hl => match us, hl with | [_, _], _ => rfl) fun f fd m k b F => ok_astray F T
  have O_turned_at : Own l.prog w K mg base CX0 6 "turned_at" ["steps", "index"] spTurned := own_of X G d_turned_at (fun _ _ _ _ _ _ us hl => match us, hl with | [_, _], _ => rfl) fun f fd m k b F => ok_turned_at F T O_passed
  have O_led : Own l.prog w K mg base CX0 7 "led" ["text", "run", "names"] spLed := own_of X G d_led (fun _ _ _ _ _ _ us hl => match us, hl with | [_, _, _], _ => rfl) fun f fd m k b F => ok_led F T O_checked_text O_steps_of O_are_just_names O_names_of O_places_in O_first_astray O_turned_at
  have O_led_to : Own l.prog w K mg base CX0 8 "led_to" ["text", "run", "names"] (spLedTo LedToA) := own_of X G d_led_to (fun _ _ _ _ _ _ us hl => match us, hl with | [_, _, _], _ => rfl) fun f fd m k b F => ok_led_to F T O_led
  have O_fewest_passes : Own l.prog w K mg base CX0 8 "fewest_passes" ["text", "run", "names"] (spLedTo FewA) := own_of X G d_fewest_passes (fun _ _ _ _ _ _ us hl => match us, hl with | [_, _, _], _ => rfl) fun f fd m k b F => ok_fewest F T O_led
  have O__law_start : Own l.prog w K mg base CX0 1 "_law_start" ["_law_script"] (spStart K) := own_of X G d__law_start (fun _ _ _ _ _ _ us hl => match us, hl with | [_], _ => rfl) fun f fd m k b F => ok_start F T
  have O__law_draw : Own l.prog w K mg base CX0 1 "_law_draw" ["_law_stream", "_law_many"] spDraw := own_of X G d__law_draw (fun _ _ _ _ _ _ us hl => match us, hl with | [_, _], _ => rfl) fun f fd m k b F => ok_draw F T
  have O__law_pick : Own l.prog w K mg base CX0 2 "_law_pick" ["_law_stream", "_law_some"] spPick := own_of X G d__law_pick (fun _ _ _ _ _ _ us hl => match us, hl with | [_, _], _ => rfl) fun f fd m k b F => ok_pick F T O__law_draw
  have O__law_mixed : Own l.prog w K mg base CX0 2 "_law_mixed" ["_law_stream", "_law_some"] spMixed := own_of X G d__law_mixed (fun _ _ _ _ _ _ us hl => match us, hl with | [_, _], _ => rfl) fun f fd m k b F => ok_mixed F T O__law_draw
  have O__law_p_text : Own l.prog w K mg base CX0 3 "_law_p_text" ["_law_stream", "_law_many"] spText := own_of X G d__law_p_text (fun _ _ _ _ _ _ us hl => match us, hl with | [_, _], _ => rfl) fun f fd m k b F => ok_p_text F T O__law_pick
  have O__law_p_made : Own l.prog w K mg base CX0 1 "_law_p_made" ["_law_words", "_law_change"] (sp2N TC fun a b => wsD (putB (wsOf a) (intOf (it b 0)) (wsOf (it b 1)) (wsOf (it b 2)))) := own_of X G d__law_p_made (fun _ _ _ _ _ _ us hl => match us, hl with | [_, _], _ => rfl) fun f fd m k b F => ok_p_made F T
  have O__law_p_change : Own l.prog w K mg base CX0 3 "_law_p_change" ["_law_stream", "_law_words", "_law_marks"] spChangeB := own_of X G d__law_p_change (fun _ _ _ _ _ _ us hl => match us, hl with | [_, _, _], _ => rfl) fun f fd m k b F => ok_p_changeB F T O__law_draw O__law_pick
  have O__law_p_run : Own l.prog w K mg base CX0 4 "_law_p_run" ["_law_stream", "_law_words", "_law_many", "_law_is_plain"] spRunB := own_of X G d__law_p_run (fun _ _ _ _ _ _ us hl => match us, hl with | [_, _, _, _], _ => rfl) fun f fd m k b F => ok_p_runB F T O__law_mixed O__law_p_change O__law_p_made
  have O__law_same : Own l.prog w K mg base CX0 7 "_law_same" ["_law_found", "_law_due"] (spSame 5) := own_of X G d__law_same (fun _ _ _ _ _ _ us hl => match us, hl with | [_, _], _ => rfl) fun f fd m k b F => ok_same F T m k b 5
  have O__law_p_where : Own l.prog w K mg base CX0 1 "_law_p_where" ["_law_one", "_law_two", "_law_many"] spWhere := own_of X G d__law_p_where (fun _ _ _ _ _ _ us hl => match us, hl with | [_, _, _], _ => rfl) fun f fd m k b F => ok_p_where F T
  have O__law_p_names : Own l.prog w K mg base CX0 1 "_law_p_names" ["_law_run"] (sp1 stepsP namesOf) := own_of X G d__law_p_names (fun _ _ _ _ _ _ us hl => match us, hl with | [_], _ => rfl) fun f fd m k b F => ok_p_names F T
  have O__law_p_handed : Own l.prog w K mg base CX0 3 "_law_p_handed" ["_law_stream", "_law_run"] spHanded := own_of X G d__law_p_handed (fun _ _ _ _ _ _ us hl => match us, hl with | [_, _], _ => rfl) fun f fd m k b F => ok_handed F T O__law_pick
  have O__law_p_passed : Own l.prog w K mg base CX0 2 "_law_p_passed" ["_law_one", "_law_two"] spPPassed := own_of X G d__law_p_passed (fun _ _ _ _ _ _ us hl => match us, hl with | [_, _], _ => rfl) fun f fd m k b F => ok_p_passed F T O__law_p_where
  have O__law_p_steps_passed : Own l.prog w K mg base CX0 3 "_law_p_steps_passed" ["_law_run", "_law_at"] spPSteps := own_of X G d__law_p_steps_passed (fun _ _ _ _ _ _ us hl => match us, hl with | [_, _], _ => rfl) fun f fd m k b F => ok_p_steps_passed F T O__law_p_passed
  have O__law_p_lists : Own l.prog w K mg base CX0 1 "_law_p_lists" ["_law_names"] spLists := own_of X G d__law_p_lists (fun _ _ _ _ _ _ us hl => match us, hl with | [_], _ => rfl) fun f fd m k b F => ok_p_lists F T
  have O__law_p_leads : Own l.prog w K mg base CX0 4 "_law_p_leads" ["_law_run"] spLeads := own_of X G d__law_p_leads (fun _ _ _ _ _ _ us hl => match us, hl with | [_], _ => rfl) fun f fd m k b F => ok_p_leads F T O__law_p_names O__law_p_steps_passed
  have O__law_turned_many : Own l.prog w K mg base CX0 1 "_law_turned_many" ["_law_names", "_law_wanted"] spMany := own_of X G d__law_turned_many (fun _ _ _ _ _ _ us hl => match us, hl with | [_, _], _ => rfl) fun f fd m k b F => ok_turned_many F T
  have O__law_walked : Own l.prog w K mg base CX0 4 "_law_walked" ["_law_run", "_law_spots"] spWalked := own_of X G d__law_walked (fun _ _ _ _ _ _ us hl => match us, hl with | [_, _], _ => rfl) fun f fd m k b F => ok_walked F T O__law_p_steps_passed
  have O__law_row_right : Own l.prog w K mg base CX0 9 "_law_row_right" ["_law_stream"] spRowR := own_of X G d__law_row_right (fun _ _ _ _ _ _ us hl => match us, hl with | [_], _ => rfl) fun f fd m k b F => ok_row_right F T O__law_draw O_fewest_passes O_led_to O__law_walked O__law_same
  have Lb : Lib l.prog w K mg base := ⟨T, O__law_start, O__law_draw, O__law_pick, O__law_p_text, O__law_p_run, O__law_p_leads, O__law_p_handed, O__law_p_lists, O__law_p_names, O_led_to, O_fewest_passes, O__law_same, O__law_turned_many, O__law_walked, O__law_row_right⟩
  intro s H u v Q E env bind rel sp
  obtain ⟨a, ns, hv, hS, hn, rfl⟩ := sp
  refine run_ofS (k := 10) (N := n_law) (ps := ["_law_script"]) (us := [u]) (vs := [v]) ll lc sc_law ⟨rfl, by decide, by decide⟩ env bind (.cons rel .nil) rfl fun hr => ?_
  obtain ⟨t, h1, h2⟩ := law_reads Lb hr hS hn
  cases hv
  exact ⟨t, h1.nox, h2⟩
end K20
open PySem PySem.W PyProof.Rows
set_option maxRecDepth 100000 in
set_option maxHeartbeats 0 in
theorem PySem.Challenge.cw_patchlots_k20_whole_fewest_passes_holds : PySem.Challenge.rw_patchlots_k20_whole_fewest_passes.Holds := by
  w_on; o_law; k_head; (case hw => w_witness2)
  k_fill
  refine KD.walk_ofG (l := PySem.Challenge.rw_patchlots_k20_whole_fewest_passes) (n := 63) (x := "_law_script") (CX := fun _ => L2.CX0) rfl (by decide) rfl (fun w h Y => PySem.W.kIn_of Y) ?F (fun _ _ _ _ _ z => z)
  case F =>
    intro w mg fa h Y KX G hmg
    refine' K20.all_mk KX G hmg ?lw ?c1 ?c2 ?d_is_list ?d_is_integer ?d_is_number ?d_is_pair ?d_is_name ?d_is_words ?d_first_false ?d_wrong_words ?d_are_names ?d_are_just_names ?d_is_change ?d_change_of ?d_checked_text ?d_fits ?d_put_in ?d_moved ?d_moved_back ?d_apart ?d_passed ?d_places_in ?d_steps_of ?d_names_of ?d_turned_at ?d_led ?d_first_astray ?d_led_to ?d_fewest_passes ?d__law_p_text ?d__law_p_made ?d__law_p_change ?d__law_p_run ?d__law_p_where ?d__law_p_passed ?d__law_p_lists ?d__law_p_names ?d__law_p_steps_passed ?d__law_p_leads ?d__law_p_handed ?d__law_start ?d__law_draw ?d__law_pick ?d__law_mixed ?d__law_same ?d__law_turned_many ?d__law_walked ?d__law_row_right ?k_SIGNS ?z_isinstance ?z_len ?z_list ?z_tuple ?z_dict ?z_int ?z_bool ?z_str ?z_min ?z_all ?z_range ?z_enumerate ?z_zip ?z_repr ?z_sorted ?z_set
    (case d_is_list => (refine' K20.da ?a ?l ?c ?k; (case a => k_is); (case l => k_is); (case c => k_is); (case k => k_is)))
    (case d_is_integer => (refine' K20.da ?a ?l ?c ?k; (case a => k_is); (case l => k_is); (case c => k_is); (case k => k_is)))
    (case d_is_number => (refine' K20.da ?a ?l ?c ?k; (case a => k_is); (case l => k_is); (case c => k_is); (case k => k_is)))
    (case d_is_pair => (refine' K20.da ?a ?l ?c ?k; (case a => k_is); (case l => k_is); (case c => k_is); (case k => k_is)))
    (case d_is_name => (refine' K20.da ?a ?l ?c ?k; (case a => k_is); (case l => k_is); (case c => k_is); (case k => k_is)))
    (case d_is_words => (refine' K20.da ?a ?l ?c ?k; (case a => k_is); (case l => k_is); (case c => k_is); (case k => k_is)))
    (case d_first_false => (refine' K20.da ?a ?l ?c ?k; (case a => k_is); (case l => k_is); (case c => k_is); (case k => k_is)))
    (case d_wrong_words => (refine' K20.da ?a ?l ?c ?k; (case a => k_is); (case l => k_is); (case c => k_is); (case k => k_is)))
    (case d_are_names => (refine' K20.da ?a ?l ?c ?k; (case a => k_is); (case l => k_is); (case c => k_is); (case k => k_is)))
    (case d_are_just_names => (refine' K20.da ?a ?l ?c ?k; (case a => k_is); (case l => k_is); (case c => k_is); (case k => k_is)))
    (case d_is_change => (refine' K20.da ?a ?l ?c ?k; (case a => k_is); (case l => k_is); (case c => k_is); (case k => k_is)))
    (case d_change_of => (refine' K20.da ?a ?l ?c ?k; (case a => k_is); (case l => k_is); (case c => k_is); (case k => k_is)))
    (case d_checked_text => (refine' K20.da ?a ?l ?c ?k; (case a => k_is); (case l => k_is); (case c => k_is); (case k => k_is)))
    (case d_fits => (refine' K20.da ?a ?l ?c ?k; (case a => k_is); (case l => k_is); (case c => k_is); (case k => k_is)))
    (case d_put_in => (refine' K20.da ?a ?l ?c ?k; (case a => k_is); (case l => k_is); (case c => k_is); (case k => k_is)))
    (case d_moved => (refine' K20.da ?a ?l ?c ?k; (case a => k_is); (case l => k_is); (case c => k_is); (case k => k_is)))
    (case d_moved_back => (refine' K20.da ?a ?l ?c ?k; (case a => k_is); (case l => k_is); (case c => k_is); (case k => k_is)))
    (case d_apart => (refine' K20.da ?a ?l ?c ?k; (case a => k_is); (case l => k_is); (case c => k_is); (case k => k_is)))
    (case d_passed => (refine' K20.da ?a ?l ?c ?k; (case a => k_is); (case l => k_is); (case c => k_is); (case k => k_is)))
    (case d_places_in => (refine' K20.da ?a ?l ?c ?k; (case a => k_is); (case l => k_is); (case c => k_is); (case k => k_is)))
    (case d_steps_of => (refine' K20.da ?a ?l ?c ?k; (case a => k_is); (case l => k_is); (case c => k_is); (case k => k_is)))
    (case d_names_of => (refine' K20.da ?a ?l ?c ?k; (case a => k_is); (case l => k_is); (case c => k_is); (case k => k_is)))
    (case d_turned_at => (refine' K20.da ?a ?l ?c ?k; (case a => k_is); (case l => k_is); (case c => k_is); (case k => k_is)))
    (case d_led => (refine' K20.da ?a ?l ?c ?k; (case a => k_is); (case l => k_is); (case c => k_is); (case k => k_is)))
    (case d_first_astray => (refine' K20.da ?a ?l ?c ?k; (case a => k_is); (case l => k_is); (case c => k_is); (case k => k_is)))
    (case d_led_to => (refine' K20.da ?a ?l ?c ?k; (case a => k_is); (case l => k_is); (case c => k_is); (case k => k_is)))
    (case d_fewest_passes => (refine' K20.da ?a ?l ?c ?k; (case a => k_is); (case l => k_is); (case c => k_is); (case k => k_is)))
    (case d__law_p_text => (refine' K20.da ?a ?l ?c ?k; (case a => k_is); (case l => k_is); (case c => k_is); (case k => k_is)))
    (case d__law_p_made => (refine' K20.da ?a ?l ?c ?k; (case a => k_is); (case l => k_is); (case c => k_is); (case k => k_is)))
    (case d__law_p_change => (refine' K20.da ?a ?l ?c ?k; (case a => k_is); (case l => k_is); (case c => k_is); (case k => k_is)))
    (case d__law_p_run => (refine' K20.da ?a ?l ?c ?k; (case a => k_is); (case l => k_is); (case c => k_is); (case k => k_is)))
    (case d__law_p_where => (refine' K20.da ?a ?l ?c ?k; (case a => k_is); (case l => k_is); (case c => k_is); (case k => k_is)))
    (case d__law_p_passed => (refine' K20.da ?a ?l ?c ?k; (case a => k_is); (case l => k_is); (case c => k_is); (case k => k_is)))
    (case d__law_p_lists => (refine' K20.da ?a ?l ?c ?k; (case a => k_is); (case l => k_is); (case c => k_is); (case k => k_is)))
    (case d__law_p_names => (refine' K20.da ?a ?l ?c ?k; (case a => k_is); (case l => k_is); (case c => k_is); (case k => k_is)))
    (case d__law_p_steps_passed => (refine' K20.da ?a ?l ?c ?k; (case a => k_is); (case l => k_is); (case c => k_is); (case k => k_is)))
    (case d__law_p_leads => (refine' K20.da ?a ?l ?c ?k; (case a => k_is); (case l => k_is); (case c => k_is); (case k => k_is)))
    (case d__law_p_handed => (refine' K20.da ?a ?l ?c ?k; (case a => k_is); (case l => k_is); (case c => k_is); (case k => k_is)))
    (case d__law_start => (refine' K20.da ?a ?l ?c ?k; (case a => k_is); (case l => k_is); (case c => k_is); (case k => k_is)))
    (case d__law_draw => (refine' K20.da ?a ?l ?c ?k; (case a => k_is); (case l => k_is); (case c => k_is); (case k => k_is)))
    (case d__law_pick => (refine' K20.da ?a ?l ?c ?k; (case a => k_is); (case l => k_is); (case c => k_is); (case k => k_is)))
    (case d__law_mixed => (refine' K20.da ?a ?l ?c ?k; (case a => k_is); (case l => k_is); (case c => k_is); (case k => k_is)))
    (case d__law_same => (refine' K20.da ?a ?l ?c ?k; (case a => k_is); (case l => k_is); (case c => k_is); (case k => k_is)))
    (case d__law_turned_many => (refine' K20.da ?a ?l ?c ?k; (case a => k_is); (case l => k_is); (case c => k_is); (case k => k_is)))
    (case d__law_walked => (refine' K20.da ?a ?l ?c ?k; (case a => k_is); (case l => k_is); (case c => k_is); (case k => k_is)))
    (case d__law_row_right => (refine' K20.da ?a ?l ?c ?k; (case a => k_is); (case l => k_is); (case c => k_is); (case k => k_is)))
    (case lw => (refine' K20.la ?a ?l ?c; (case a => k_is); (case l => k_is); (case c => k_is)))
    (case c1 => (refine' K20.ca ?a ?xL ?rv ?sa ?ga ?gg ?no ?a1 ?t1 ?l1 ?c1 ?k1 ?kC ?eC ?tC ?hC; (case a => k_is); (case xL => k_is); (case rv => decide +kernel); (case sa => k_is); (case ga => k_is); (case gg => k_is); (case no => k_is); (case a1 => k_is); (case t1 => k_is); (case l1 => k_is); (case c1 => k_is); (case k1 => k_is); (case kC => k_is); (case eC => k_is); (case tC => k_is); (case hC => k_is)))
    (case c2 => (refine' K20.ca ?a ?xL ?rv ?sa ?ga ?gg ?no ?a1 ?t1 ?l1 ?c1 ?k1 ?kC ?eC ?tC ?hC; (case a => k_is); (case xL => k_is); (case rv => decide +kernel); (case sa => k_is); (case ga => k_is); (case gg => k_is); (case no => k_is); (case a1 => k_is); (case t1 => k_is); (case l1 => k_is); (case c1 => k_is); (case k1 => k_is); (case kC => k_is); (case eC => k_is); (case tC => k_is); (case hC => k_is)))
    (case k_SIGNS => k_is)
    (case z_isinstance => k_is)
    (case z_len => k_is)
    (case z_list => k_is)
    (case z_tuple => k_is)
    (case z_dict => k_is)
    (case z_int => k_is)
    (case z_bool => k_is)
    (case z_str => k_is)
    (case z_min => k_is)
    (case z_all => k_is)
    (case z_range => k_is)
    (case z_enumerate => k_is)
    (case z_zip => k_is)
    (case z_repr => k_is)
    (case z_sorted => k_is)
    (case z_set => k_is)

