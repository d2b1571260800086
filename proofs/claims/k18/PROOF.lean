import PyProof.Rows.All
import Wide.All
import OpenK.AllK
import Wide.FinOn
import HandS.ForMost
import HandS.IsInst
import HandS.Style
import HandS.TupAny
import HandS.Deep
import KE.SortData
import HandS.Walk
import HandS.ForExc
import HandS.ExcInit
import HandS.ExcField
import PyProof.ReprReads
import PyProof.ReprRoads
import HandS.EndTab
import HandS.SortInts
import HandS.Dict
import HandS.Small
import HandS.DictComp
import KE.KEqDict
import HandS.GenList
import HandS.Zip
import KE.KDictZip
import PyProof.ListNew
import HandS.ExcValue
import PySem.Challenge.RW_patchlots_k18_whole_cube
import HandS.Evl
import PyProof.ReprLen
import HandS.Lambda
import HandS.Text
import HandS.Iter
import HandS.Steps
import HandS.List
import HandS.NoneIn
set_option Elab.async false
set_option linter.all false
set_option maxRecDepth 100000
set_option maxHeartbeats 4000000
/-! Data as a whole over the hand layer: DX, what evaluates to what, a def's promise over data. -/
namespace KD
open PySem L2

/-! ### data that stands apart from some addresses -/
def kd : Key → PyData
  | .inl i => .int i
  | .inr x => .str x
mutual
inductive DX (X : Addr → Prop) (H : Hp) : V → PyData → Prop
  | non : DX X H .non .none
  | bl (b : Bool) : DX X H (.bl b) (.bool b)
  | int (i : Int) : DX X H (.int i) (.int i)
  | str (x : Str) : DX X H (.str x) (.str x)
  | lst {a : Addr} {xs : List V} {ds : List PyData} : ¬ X a → H a = some (.lst xs) → DXs X H xs ds → DX X H (.ref a) (.list ds)
  | tup {a : Addr} {xs : List V} {ds : List PyData} : ¬ X a → H a = some (.tup xs) → DXs X H xs ds → DX X H (.ref a) (.tuple ds)
  | dic {a : Addr} {kvs : List (Key × V)} {ks : List (PyData × PyData)} : ¬ X a → H a = some (.dK kvs) → DXk X H kvs ks → DX X H (.ref a) (.dict ks)
inductive DXs (X : Addr → Prop) (H : Hp) : List V → List PyData → Prop
  | nil : DXs X H [] []
  | cons {v : V} {vs : List V} {d : PyData} {ds : List PyData} : DX X H v d → DXs X H vs ds → DXs X H (v :: vs) (d :: ds)
inductive DXk (X : Addr → Prop) (H : Hp) : List (Key × V) → List (PyData × PyData) → Prop
  | nil : DXk X H [] []
  | cons {k : Key} {v : V} {vs : List (Key × V)} {d : PyData} {ds : List (PyData × PyData)} : DX X H v d → DXk X H vs ds → DXk X H ((k, v) :: vs) ((kd k, d) :: ds)
end
/-- what is not of X is kept -/
def Kp (X : Addr → Prop) (H H' : Hp) : Prop := ∀ a o, ¬ X a → H a = some o → H' a = some o
theorem Kp.of {X : Addr → Prop} {H H' : Hp} (h : Same H H') : Kp X H H' := fun a o _ e => h a o e
theorem Kp.refl {X : Addr → Prop} {H : Hp} : Kp X H H := fun _ _ _ e => e
theorem Kp.trans {X : Addr → Prop} {H H1 H2 : Hp} (h : Kp X H H1) (k : Kp X H1 H2) : Kp X H H2 := fun a o n e => k a o n (h a o n e)
section
variable {X : Addr → Prop} {H H' : Hp}
mutual
theorem DX.mono (k : Kp X H H') : ∀ {v : V} {d : PyData}, DX X H v d → DX X H' v d
  | _, _, .non => .non
  | _, _, .bl b => .bl b
  | _, _, .int i => .int i
  | _, _, .str x => .str x
  | _, _, .lst n h r => .lst n (k _ _ n h) (DXs.mono k r)
  | _, _, .tup n h r => .tup n (k _ _ n h) (DXs.mono k r)
  | _, _, .dic n h r => .dic n (k _ _ n h) (DXk.mono k r)
theorem DXs.mono (k : Kp X H H') : ∀ {vs : List V} {ds : List PyData}, DXs X H vs ds → DXs X H' vs ds
  | _, _, .nil => .nil
  | _, _, .cons h r => .cons (DX.mono k h) (DXs.mono k r)
theorem DXk.mono (k : Kp X H H') : ∀ {vs : List (Key × V)} {ds : List (PyData × PyData)}, DXk X H vs ds → DXk X H' vs ds
  | _, _, .nil => .nil
  | _, _, .cons h r => .cons (DX.mono k h) (DXk.mono k r)
end
theorem DXs.length : ∀ {vs : List V} {ds : List PyData}, DXs X H vs ds → vs.length = ds.length
  | _, _, .nil => rfl
  | _, _, .cons _ r => congrArg (· + 1) (DXs.length r)
theorem DXs.get : ∀ {vs : List V} {ds : List PyData} {i : Nat} {d : PyData}, DXs X H vs ds → ds[i]? = some d → ∃ v, vs[i]? = some v ∧ DX X H v d
  | _, _, _, _, .nil, e => by simp at e
  | _, _, 0, _, .cons h _, e => by simp at e; subst e; exact ⟨_, rfl, h⟩
  | _, _, i + 1, d, .cons _ r, e => by
    obtain ⟨v, h1, h2⟩ := DXs.get (i := i) (d := d) r (by simpa using e)
    exact ⟨v, by simpa using h1, h2⟩
theorem DXs.getV : ∀ {vs : List V} {ds : List PyData} {i : Nat} {v : V}, DXs X H vs ds → vs[i]? = some v → ∃ d, ds[i]? = some d ∧ DX X H v d
  | _, _, _, _, .nil, e => by simp at e
  | _, _, 0, _, .cons h _, e => by simp at e; subst e; exact ⟨_, rfl, h⟩
  | _, _, i + 1, d, .cons _ r, e => by
    obtain ⟨v, h1, h2⟩ := DXs.getV (i := i) (v := d) r (by simpa using e)
    exact ⟨v, by simpa using h1, h2⟩
theorem DXs.append : ∀ {vs ws : List V} {ds es : List PyData}, DXs X H vs ds → DXs X H ws es → DXs X H (vs ++ ws) (ds ++ es)
  | _, _, _, _, .nil, s => s
  | _, _, _, _, .cons h r, s => .cons h (DXs.append r s)
theorem DXs.take : ∀ {vs : List V} {ds : List PyData} (n : Nat), DXs X H vs ds → DXs X H (vs.take n) (ds.take n)
  | _, _, 0, _ => .nil
  | _, _, _ + 1, .nil => .nil
  | _, _, n + 1, .cons h r => .cons h (DXs.take n r)
theorem DXs.drop : ∀ {vs : List V} {ds : List PyData} (n : Nat), DXs X H vs ds → DXs X H (vs.drop n) (ds.drop n)
  | _, _, 0, r => r
  | _, _, _ + 1, .nil => .nil
  | _, _, n + 1, .cons _ r => DXs.drop n r
theorem DXs.erase : ∀ {vs : List V} {ds : List PyData} (n : Nat), DXs X H vs ds → DXs X H (vs.eraseIdx n) (ds.eraseIdx n)
  | _, _, _, .nil => .nil
  | _, _, 0, .cons _ r => r
  | _, _, n + 1, .cons h r => .cons h (DXs.erase n r)
theorem DXs.rep {vs : List V} {ds : List PyData} (h : DXs X H vs ds) : ∀ n : Nat, DXs X H (List.replicate n vs).flatten (List.replicate n ds).flatten
  | 0 => .nil
  | n + 1 => by
    rw [List.replicate_succ, List.replicate_succ, List.flatten_cons, List.flatten_cons]
    exact DXs.append h (DXs.rep h n)
theorem DXs.snoc {vs : List V} {ds : List PyData} {v : V} {d : PyData} (h : DXs X H vs ds) (k : DX X H v d) : DXs X H (vs ++ [v]) (ds ++ [d]) := DXs.append h (.cons k .nil)

/-! ### data without dicts is the layer's data -/
mutual
def noDict : PyData → Bool
  | .none => true
  | .bool _ => true
  | .int _ => true
  | .str _ => true
  | .list ds => noDicts ds
  | .tuple ds => noDicts ds
  | .dict _ => false
def noDicts : List PyData → Bool
  | [] => true
  | d :: ds => noDict d && noDicts ds
end
mutual
theorem DX.dp {K : PySem.W.Frag} : ∀ {v : V} {d : PyData}, DX X H v d → noDict d = true → Dp K H v d
  | _, _, .non, _ => .non
  | _, _, .bl b, _ => .bl b
  | _, _, .int i, _ => .int i
  | _, _, .str x, _ => .str x
  | _, _, .lst _ h r, n => .lst (SqL.of h) (DXs.dp r (by simpa [noDict] using n))
  | _, _, .tup _ h r, n => .tup (SqT.of h) (DXs.dp r (by simpa [noDict] using n))
  | _, _, .dic _ _ _, n => by simp [noDict] at n
theorem DXs.dp {K : PySem.W.Frag} : ∀ {vs : List V} {ds : List PyData}, DXs X H vs ds → noDicts ds = true → DpAll K H vs ds
  | _, _, .nil, _ => .nil
  | _, _, .cons (d := d) (ds := ds) h r, n => by
    have n' : noDict d = true ∧ noDicts ds = true := by simpa [noDicts] using n
    exact .cons (DX.dp h n'.1) (DXs.dp r n'.2)
end
end
/-- the addresses of X stand in the heap -/
def Trk (X : Addr → Prop) (H : Hp) : Prop := ∀ a, X a → ∃ o, H a = some o
theorem Trk.mono {X : Addr → Prop} {H H' : Hp} (t : Trk X H) (s : Same H H') : Trk X H' := fun a h => let ⟨o, e⟩ := t a h; ⟨o, s a o e⟩
theorem Trk.new {X : Addr → Prop} {H : Hp} {p : Addr} (t : Trk X H) (h : H p = none) : ¬ X p := fun x => by
  obtain ⟨o, e⟩ := t p x
  rw [h] at e
  cases e
theorem Same.upd {H : Hp} {p : Addr} {o : HO} (h : H p = none) : Same H (upd H p o) := fun b u e => by
  rw [upd_ne (ne_of_none e h)]
  exact e

/-! ### the frame's values as data -/
inductive Sv where
  | dat (d : PyData) | val (v : V) | un
def SvOk (X : Addr → Prop) (H : Hp) : Sv → Option (Option V) → Prop
  | .dat d, o => ∃ v, o = some (some v) ∧ DX X H v d
  | .val v, o => o = some (some v)
  | .un, _ => True
structure EnvOk (X : Addr → Prop) (H : Hp) (σ : St) (Γ : List Sv) : Prop where
  len : σ.length = Γ.length
  get : ∀ (i : Nat) (s : Sv), Γ[i]? = some s → SvOk X H s σ[i]?
section
variable {X : Addr → Prop} {H H' : Hp} {σ : St} {Γ : List Sv}
theorem SvOk.mono (k : Kp X H H') {s : Sv} {o : Option (Option V)} (h : SvOk X H s o) : SvOk X H' s o := by
  cases s with
  | dat d =>
    obtain ⟨v, e, r⟩ := h
    exact ⟨v, e, r.mono k⟩
  | val v => exact h
  | un => trivial
theorem EnvOk.mono (k : Kp X H H') (h : EnvOk X H σ Γ) : EnvOk X H' σ Γ := ⟨h.len, fun i s e => (h.get i s e).mono k⟩
theorem EnvOk.same (k : Same H H') (h : EnvOk X H σ Γ) : EnvOk X H' σ Γ := h.mono (Kp.of k)
theorem EnvOk.put {i : Nat} {v : V} {s : Sv} (h : EnvOk X H σ Γ) (hs : SvOk X H s (some (some v))) : EnvOk X H (σ.set i (some v)) (Γ.set i s) := by
  refine ⟨by rw [List.length_set, List.length_set]; exact h.len, fun j t e => ?_⟩
  by_cases hj : i = j
  · subst hj
    by_cases hl : i < Γ.length
    · rw [List.getElem?_set_self hl] at e
      cases e
      rw [List.getElem?_set_self (by rw [h.len]; exact hl)]
      exact hs
    · rw [List.getElem?_eq_none (by rw [List.length_set]; omega)] at e
      cases e
  · rw [List.getElem?_set_ne hj] at e
    rw [List.getElem?_set_ne hj]
    exact h.get j t e
theorem EnvOk.set {i : Nat} {v : V} {d : PyData} (h : EnvOk X H σ Γ) (hd : DX X H v d) : EnvOk X H (σ.set i (some v)) (Γ.set i (.dat d)) := h.put ⟨v, rfl, hd⟩
theorem EnvOk.setV {i : Nat} {v : V} (h : EnvOk X H σ Γ) : EnvOk X H (σ.set i (some v)) (Γ.set i (.val v)) := h.put rfl
/-- what is not asked any more -/
theorem EnvOk.wipe (h : EnvOk X H σ Γ) : ∀ vs : List Nat, EnvOk X H (wipe σ vs) (vs.foldr (fun v g => g.set v .un) Γ)
  | [] => h
  | v :: vs => by
    have ih := EnvOk.wipe h vs
    show EnvOk X H ((L2.wipe σ vs).set v none) ((vs.foldr (fun v g => g.set v .un) Γ).set v .un)
    refine ⟨by rw [List.length_set, List.length_set]; exact ih.len, fun j t e => ?_⟩
    by_cases hj : v = j
    · subst hj
      by_cases hl : v < (vs.foldr (fun v g => g.set v Sv.un) Γ).length
      · rw [List.getElem?_set_self hl] at e
        cases e
        trivial
      · rw [List.getElem?_eq_none (by rw [List.length_set]; omega)] at e
        cases e
    · rw [List.getElem?_set_ne hj] at e
      rw [List.getElem?_set_ne hj]
      exact ih.get j t e
theorem envOk_start {N : List Str} {vs : List V} {ss : List Sv} (hl : vs.length = ss.length) (hs : ∀ (i : Nat) (s : Sv), ss[i]? = some s → ∀ v, vs[i]? = some v → SvOk X H s (some (some v))) (hN : vs.length ≤ N.length) : EnvOk X H (L2.start N vs) (ss ++ List.replicate (N.length - vs.length) .un) := by
  unfold L2.start
  refine ⟨by simp [hl], fun i s e => ?_⟩
  by_cases hi : i < vs.length
  · rw [List.getElem?_append_left (by omega)] at e
    rw [List.getElem?_append_left (by simpa using hi)]
    rw [List.getElem?_map, List.getElem?_eq_getElem hi]
    exact hs i s e _ (List.getElem?_eq_getElem hi)
  · rw [List.getElem?_append_right (by omega)] at e
    have hu : s = .un := by
      have := List.mem_of_getElem? e
      exact List.eq_of_mem_replicate this
    subst hu
    trivial
end

/-! ### what evaluates to what datum, leaving all as it is -/
def G (X : Addr → Prop) (te : TE) (σ : St) (H : Hp) (d : PyData) : Prop := ∀ H1, Same H H1 → ∀ Q : VK, (∀ v H2, Same H1 H2 → DX X H2 v d → Q v H2) → te σ H1 Q
def GV (te : TE) (σ : St) (H : Hp) (v : V) : Prop := ∀ H1, Same H H1 → ∀ Q : VK, Q v H1 → te σ H1 Q
def GT (tt : TT) (σ : St) (H : Hp) (b : Bool) : Prop := ∀ H1, Same H H1 → ∀ Q : Bool → Hp → Prop, (∀ H2, Same H1 H2 → Q b H2) → tt σ H1 Q
def GA (X : Addr → Prop) (ta : TA) (σ : St) (H : Hp) (ds : List PyData) : Prop := ∀ H1, Same H H1 → ∀ Q : List V → Hp → Prop, (∀ vs H2, Same H1 H2 → DXs X H2 vs ds → Q vs H2) → ta σ H1 Q
def GO (to : TO) (σ : St) (H : Hp) (o : Option Int) : Prop := ∀ H1, Same H H1 → ∀ Q : Option Int → Hp → Prop, (∀ H2, Same H1 H2 → Q o H2) → to σ H1 Q
/-- operations on data -/
def RD (X : Addr → Prop) (r : R2) (x y z : PyData) : Prop := ∀ H u v, Trk X H → DX X H u x → DX X H v y → ∀ Q : VK, (∀ w H2, Same H H2 → DX X H2 w z → Q w H2) → r u v H Q
def RB (X : Addr → Prop) (r : R2) (x y : PyData) (b : Bool) : Prop := ∀ H u v, Trk X H → DX X H u x → DX X H v y → ∀ Q : VK, Q (.bl b) H → r u v H Q
def RF (X : Addr → Prop) (r : List V → Hp → VK → Prop) (xs : List PyData) (z : PyData) : Prop := ∀ H us, Trk X H → DXs X H us xs → ∀ Q : VK, (∀ w H2, Same H H2 → DX X H2 w z → Q w H2) → r us H Q
section
variable {X : Addr → Prop} {σ : St} {H H' : Hp} {te ta tb tc : TE} {tt tu : TT} {x y z d e : PyData} {Γ : List Sv} {K : PySem.W.Frag} {r : R2}
theorem DX.int_inv {v : V} {i : Int} (h : DX X H v (.int i)) : v = .int i := by cases h; rfl
theorem DX.bl_inv {v : V} {b : Bool} (h : DX X H v (.bool b)) : v = .bl b := by cases h; rfl
theorem DX.str_inv {v : V} {s : Str} (h : DX X H v (.str s)) : v = .str s := by cases h; rfl
theorem DX.non_inv {v : V} (h : DX X H v .none) : v = .non := by cases h; rfl
theorem DX.lst_inv {v : V} {ds : List PyData} (h : DX X H v (.list ds)) : ∃ a xs, v = .ref a ∧ ¬ X a ∧ H a = some (.lst xs) ∧ DXs X H xs ds := by
  cases h with | lst n e r => exact ⟨_, _, rfl, n, e, r⟩
theorem DX.tup_inv {v : V} {ds : List PyData} (h : DX X H v (.tuple ds)) : ∃ a xs, v = .ref a ∧ ¬ X a ∧ H a = some (.tup xs) ∧ DXs X H xs ds := by
  cases h with | tup n e r => exact ⟨_, _, rfl, n, e, r⟩
theorem DX.newL {xs : List V} {ds : List PyData} (t : Trk X H) (h : DXs X H xs ds) {p : Addr} (hp : H p = none) : DX X (upd H p (.lst xs)) (.ref p) (.list ds) := .lst (t.new hp) upd_same (h.mono (Kp.of (Same.upd hp)))
theorem DX.newT {xs : List V} {ds : List PyData} (t : Trk X H) (h : DXs X H xs ds) {p : Addr} (hp : H p = none) : DX X (upd H p (.tup xs)) (.ref p) (.tuple ds) := .tup (t.new hp) upd_same (h.mono (Kp.of (Same.upd hp)))
theorem DX.isa_bool {v : V} {b : Bool} (h : DX X H v d) (e : v = .bl b) : d = .bool b := by subst e; cases h; rfl

theorem G.mono (s : Same H H') (h : G X te σ H d) : G X te σ H' d := fun H1 k Q q => h H1 (s.trans k) Q q
theorem GT.mono {b : Bool} (s : Same H H') (h : GT tt σ H b) : GT tt σ H' b := fun H1 k Q q => h H1 (s.trans k) Q q
theorem g_var {i : Nat} (E : EnvOk X H σ Γ) (h : Γ[i]? = some (.dat d)) : G X (tVar i) σ H d := fun H1 s Q q => by
  obtain ⟨v, e, r⟩ := E.get i _ h
  exact ⟨v, e, q v H1 (Same.refl H1) (r.mono (Kp.of s))⟩
theorem gv_var {i : Nat} {v : V} (E : EnvOk X H σ Γ) (h : Γ[i]? = some (.val v)) : GV (tVar i) σ H v := fun H1 s Q q => ⟨v, E.get i _ h, q⟩
theorem g_int {i : Int} : G X (tC (.int i)) σ H (.int i) := fun H1 _ Q q => q _ H1 (Same.refl H1) (.int i)
theorem g_bl {b : Bool} : G X (tC (.bl b)) σ H (.bool b) := fun H1 _ Q q => q _ H1 (Same.refl H1) (.bl b)
theorem g_str {s : Str} : G X (tC (.str s)) σ H (.str s) := fun H1 _ Q q => q _ H1 (Same.refl H1) (.str s)
theorem g_non : G X (tC .non) σ H .none := fun H1 _ Q q => q _ H1 (Same.refl H1) .non
theorem ga_nil : GA X tNil σ H [] := fun H1 _ Q q => q [] H1 (Same.refl H1) .nil
theorem ga_cons {ta : TE} {tr : TA} {ds : List PyData} (h : G X ta σ H d) (k : GA X tr σ H ds) : GA X (tCons ta tr) σ H (d :: ds) := fun H1 s Q q =>
  h H1 s _ fun v H2 s2 r => k H2 (s.trans s2) _ fun vs H3 s3 rs => q _ H3 (s2.trans s3) (.cons (r.mono (Kp.of s3)) rs)
theorem g_lst {ta : TA} {ds : List PyData} (t : Trk X H) (h : GA X ta σ H ds) (hl : ds.length ≤ 1000000) : G X (tLst ta) σ H (.list ds) := fun H1 s Q q =>
  h H1 s _ fun vs H2 s2 rs => ⟨by rw [rs.length, sizeLine_eq]; omega, fun p hp => q _ _ (s2.trans (Same.upd hp)) (DX.newL ((t.mono s).mono s2) rs hp)⟩
theorem g_tup {ta : TA} {ds : List PyData} (t : Trk X H) (h : GA X ta σ H ds) (hl : ds.length ≤ 1000000) : G X (tTup ta) σ H (.tuple ds) := fun H1 s Q q =>
  h H1 s _ fun vs H2 s2 rs => ⟨by rw [rs.length, sizeLine_eq]; omega, fun p hp => q _ _ (s2.trans (Same.upd hp)) (DX.newT ((t.mono s).mono s2) rs hp)⟩
theorem g_op (t : Trk X H) (ha : G X ta σ H x) (hb : G X tb σ H y) (hr : RD X r x y z) : G X (tOp r ta tb) σ H z := fun H1 s Q q =>
  ha H1 s _ fun u H2 s2 ru => hb H2 (s.trans s2) _ fun v H3 s3 rv => hr H3 u v (((t.mono s).mono s2).mono s3) (ru.mono (Kp.of s3)) rv Q fun w H4 s4 rw_ => q w H4 ((s2.trans s3).trans s4) rw_
theorem gt_op {b : Bool} (t : Trk X H) (ha : G X ta σ H x) (hb : G X tb σ H y) (hr : RB X r x y b) : GT (tTest (tOp r ta tb)) σ H b := fun H1 s Q q =>
  ha H1 s _ fun u H2 s2 ru => hb H2 (s.trans s2) _ fun v H3 s3 rv => hr H3 u v (((t.mono s).mono s2).mono s3) (ru.mono (Kp.of s3)) rv _ ⟨b, rfl, q H3 (s2.trans s3)⟩
theorem RB.rd {b : Bool} (h : RB X r x y b) : RD X r x y (.bool b) := fun H u v t ru rv Q q => h H u v t ru rv Q (q _ H (Same.refl H) (.bl b))
theorem RD.or1 {r r' : R2} (h : RD X r x y z) : RD X (fun x y H Q => r x y H Q ∨ r' x y H Q) x y z := fun H u v t ru rv Q q => .inl (h H u v t ru rv Q q)
theorem RD.or2 {r r' : R2} (h : RD X r' x y z) : RD X (fun x y H Q => r x y H Q ∨ r' x y H Q) x y z := fun H u v t ru rv Q q => .inr (h H u v t ru rv Q q)
/-- a test that is a bool's -/
theorem gt_B {b : Bool} (h : G X te σ H (.bool b)) : GT (tB te) σ H b := fun H1 s Q q => h H1 s _ fun v H2 s2 r => ⟨b, r.bl_inv, q H2 s2⟩
theorem gt_test {b : Bool} (h : G X te σ H (.bool b)) : GT (tTest te) σ H b := fun H1 s Q q => h H1 s _ fun v H2 s2 r => ⟨b, r.bl_inv, q H2 s2⟩
theorem gt_not {b : Bool} (h : GT tt σ H b) : GT (tNot tt) σ H (!b) := fun H1 s Q q => h H1 s _ fun H2 s2 => q H2 s2
theorem gt_and {a b : Bool} (h : GT tt σ H a) (k : a = true → GT tu σ H b) : GT (tAnd tt tu) σ H (a && b) := fun H1 s Q q => h H1 s _ fun H2 s2 => by
  cases a with
  | true =>
    show tu σ H2 Q
    exact k rfl H2 (s.trans s2) Q fun H3 s3 => q H3 (s2.trans s3)
  | false =>
    show Q false H2
    exact q H2 s2
theorem gt_or {a b : Bool} (h : GT tt σ H a) (k : a = false → GT tu σ H b) : GT (tOr tt tu) σ H (a || b) := fun H1 s Q q => h H1 s _ fun H2 s2 => by
  cases a with
  | true =>
    show Q true H2
    exact q H2 s2
  | false =>
    show tu σ H2 Q
    exact k rfl H2 (s.trans s2) Q fun H3 s3 => q H3 (s2.trans s3)
theorem gt_is {a b : Bool} (h : GT tt σ H a) (e : a = b) : GT tt σ H b := e ▸ h
theorem g_is (h : G X te σ H d) (e' : d = e) : G X te σ H e := e' ▸ h
theorem g_and {a b : Bool} (h : G X ta σ H (.bool a)) (k : a = true → G X tb σ H (.bool b)) : G X (tAndV ta tb) σ H (.bool (a && b)) := fun H1 s Q q => h H1 s _ fun v H2 s2 r => ⟨a, r.bl_inv, by
  cases a with
  | true =>
    show tb σ H2 Q
    exact k rfl H2 (s.trans s2) Q fun v H3 s3 r3 => q v H3 (s2.trans s3) r3
  | false =>
    show Q (.bl false) H2
    exact q _ H2 s2 (.bl false)⟩
theorem g_or {a b : Bool} (h : G X ta σ H (.bool a)) (k : a = false → G X tb σ H (.bool b)) : G X (tOrV ta tb) σ H (.bool (a || b)) := fun H1 s Q q => h H1 s _ fun v H2 s2 r => ⟨a, r.bl_inv, by
  cases a with
  | true =>
    show Q (.bl true) H2
    exact q _ H2 s2 (.bl true)
  | false =>
    show tb σ H2 Q
    exact k rfl H2 (s.trans s2) Q fun v H3 s3 r3 => q v H3 (s2.trans s3) r3⟩
theorem g_not {a : Bool} (h : G X ta σ H (.bool a)) : G X (tNotV ta) σ H (.bool (!a)) := fun H1 s Q q => h H1 s _ fun v H2 s2 r => ⟨a, r.bl_inv, q _ H2 s2 (.bl _)⟩
theorem g_if {b : Bool} (h : GT tt σ H b) (h1 : b = true → G X ta σ H d) (h2 : b = false → G X tb σ H d) : G X (tIf tt ta tb) σ H d := fun H1 s Q q => h H1 s _ fun H2 s2 => by
  cases b with
  | true =>
    show ta σ H2 Q
    exact h1 rfl H2 (s.trans s2) Q fun v H3 s3 r3 => q v H3 (s2.trans s3) r3
  | false =>
    show tb σ H2 Q
    exact h2 rfl H2 (s.trans s2) Q fun v H3 s3 r3 => q v H3 (s2.trans s3) r3
theorem g_call {sp : Sp} {E : XK} {ta : TA} {ds : List PyData} (h : GA X ta σ H ds) (k : ∀ vs H1, Same H H1 → DXs X H1 vs ds → ∀ Q : VK, (∀ v H2, Same H1 H2 → DX X H2 v d → Q v H2) → sp vs H1 Q E) : G X (tCall sp [] E ta) σ H d := fun H1 s Q q =>
  h H1 s _ fun vs H2 s2 rs => by
    rw [List.append_nil]
    exact k vs H2 (s.trans s2) rs Q fun v H3 s3 r3 => q v H3 (s2.trans s3) r3
theorem g_cb {rr : List V → Hp → VK → Prop} {ta : TA} {ds : List PyData} (t : Trk X H) (h : GA X ta σ H ds) (k : RF X rr ds d) : G X (tCB rr ta) σ H d := fun H1 s Q q =>
  h H1 s _ fun vs H2 s2 rs => k H2 vs ((t.mono s).mono s2) rs Q fun w H3 s3 r3 => q w H3 (s2.trans s3) r3
theorem go_none : GO tNoPart σ H none := fun H1 _ Q q => q H1 (Same.refl H1)
theorem go_some {i : Int} (h : G X te σ H (.int i)) : GO (tPart te) σ H (some i) := fun H1 s Q q => h H1 s _ fun v H2 s2 r => ⟨i, r.int_inv, q H2 s2⟩

/-! ### the operations -/
theorem rd_I0 {g : Int → Int → Int} {i j : Int} : RD X (rI0 fun i j => .int (g i j)) (.int i) (.int j) (.int (g i j)) := fun H u v _ ru rv Q q => ⟨i, j, ru.int_inv, rv.int_inv, q _ H (Same.refl H) (.int _)⟩
theorem rd_I {C : Int → Int → Prop} {g : Int → Int → Int} {i j : Int} (c : C i j) : RD X (rI C fun i j => .int (g i j)) (.int i) (.int j) (.int (g i j)) := fun H u v _ ru rv Q q => ⟨i, j, ru.int_inv, rv.int_inv, c, q _ H (Same.refl H) (.int _)⟩
theorem rb_I0 {g : Int → Int → Bool} {i j : Int} : RB X (rI0 fun i j => .bl (g i j)) (.int i) (.int j) (g i j) := fun H u v _ ru rv Q q => ⟨i, j, ru.int_inv, rv.int_inv, q⟩
theorem rd_cat {xs ys : List PyData} (hl : xs.length + ys.length ≤ 1000000) : RD X rCat (.list xs) (.list ys) (.list (xs ++ ys)) := fun H u v t ru rv Q q => by
  obtain ⟨a, us, rfl, _, ha, rs⟩ := ru.lst_inv
  obtain ⟨b, ws, rfl, _, hb, rt⟩ := rv.lst_inv
  exact ⟨a, b, us, ws, rfl, rfl, ha, hb, by rw [rs.length, rt.length, sizeLine_eq]; omega, fun p hp => q _ _ (Same.upd hp) (DX.newL t (rs.append rt) hp)⟩
theorem rd_rep {xs : List PyData} {k : Int} (h1 : -(2 ^ 63) ≤ k) (h2 : k < 2 ^ 63) (hl : xs.length * k.toNat ≤ 1000000) : RD X rRep (.list xs) (.int k) (.list (List.replicate k.toNat xs).flatten) := fun H u v t ru rv Q q => by
  obtain ⟨a, us, rfl, _, ha, rs⟩ := ru.lst_inv
  exact ⟨a, k, us, rfl, rv.int_inv, ha, h1, h2, by rw [rs.length, sizeLine_eq]; omega, fun p hp => q _ _ (Same.upd hp) (DX.newL t (rs.rep k.toNat) hp)⟩
theorem rd_addS {a b : Str} (hl : a.length + b.length ≤ 1000000) : RD X (fun x y H Q => ∃ i j, x = V.str i ∧ y = V.str j ∧ i.length + j.length ≤ sizeLine ∧ Q (V.str (i ++ j)) H) (.str a) (.str b) (.str (a ++ b)) := fun H u v _ ru rv Q q => ⟨a, b, ru.str_inv, rv.str_inv, by rw [sizeLine_eq]; omega, q _ H (Same.refl H) (.str _)⟩
theorem rb_eqD (hd : noDict x = true) (he : noDict y = true) (hs : SeqAt.shaped x = true) (ht : SeqAt.shaped y = true) : RB X (rEqD K) x y (PyData.eqv x y) := fun H u v _ ru rv Q q => ⟨x, y, ru.dp hd, rv.dp he, hs, ht, q⟩
theorem rb_neD (hd : noDict x = true) (he : noDict y = true) (hs : SeqAt.shaped x = true) (ht : SeqAt.shaped y = true) : RB X (rNeD K) x y (!PyData.eqv x y) := fun H u v _ ru rv Q q => ⟨x, y, ru.dp hd, rv.dp he, hs, ht, q⟩
def isNone : PyData → Bool
  | .none => true
  | _ => false
theorem dx_none {v : V} (h : DX X H v d) : decide (v = .non) = isNone d := by cases h <;> simp [isNone]
theorem rb_isN : RB X (fun x y H Q => y = .non ∧ Q (.bl (decide (x = .non))) H) x .none (isNone x) := fun H u v _ ru rv Q q => ⟨rv.non_inv, by rw [dx_none ru]; exact q⟩
theorem rb_notN : RB X (fun x y H Q => y = .non ∧ Q (.bl (!decide (x = .non))) H) x .none (!isNone x) := fun H u v _ ru rv Q q => ⟨rv.non_inv, by rw [dx_none ru]; exact q⟩
theorem rb_isB {a b : Bool} : RB X rIsB (.bool a) (.bool b) (decide (a = b)) := fun H u v _ ru rv Q q => ⟨a, b, ru.bl_inv, rv.bl_inv, q⟩
theorem rb_notB {a b : Bool} : RB X rNotB (.bool a) (.bool b) (!decide (a = b)) := fun H u v _ ru rv Q q => ⟨a, b, ru.bl_inv, rv.bl_inv, q⟩
/-- an item -/
theorem rd_ixL {ds : List PyData} {i : Int} (h : atI ds i = some z) : RD X (rIx K) (.list ds) (.int i) z := fun H u v _ ru rv Q q => by
  obtain ⟨a, us, rfl, _, ha, rs⟩ := ru.lst_inv
  unfold atI at h
  cases hx : ixN ds.length i with
  | none => rw [hx] at h; cases h
  | some j =>
    rw [hx] at h
    obtain ⟨w, hw, rz⟩ := rs.get (i := j) (show ds[j]? = some z from h)
    exact .inl ⟨a, us, i, w, rfl, rv.int_inv, SqL.of ha, by unfold atI; rw [rs.length, hx]; exact hw, q w H (Same.refl H) rz⟩
theorem rd_ixT {ds : List PyData} {i : Int} (h : atI ds i = some z) : RD X (rIx K) (.tuple ds) (.int i) z := fun H u v _ ru rv Q q => by
  obtain ⟨a, us, rfl, _, ha, rs⟩ := ru.tup_inv
  unfold atI at h
  cases hx : ixN ds.length i with
  | none => rw [hx] at h; cases h
  | some j =>
    rw [hx] at h
    obtain ⟨w, hw, rz⟩ := rs.get (i := j) (show ds[j]? = some z from h)
    exact .inr (.inl ⟨a, us, i, w, rfl, rv.int_inv, SqT.of ha, by unfold atI; rw [rs.length, hx]; exact hw, q w H (Same.refl H) rz⟩)
/-- a slice of a list -/
def cutPD (xs : List PyData) (lo hi : Option Int) : List PyData := (xs.drop (HT.sIx xs.length 0 lo)).take (HT.sIx xs.length xs.length hi - HT.sIx xs.length 0 lo)
theorem DXs.cut {vs : List V} {ds : List PyData} (h : DXs X H vs ds) (lo hi : Option Int) : DXs X H (cutV vs lo hi) (cutPD ds lo hi) := by
  unfold cutV cutPD
  rw [h.length]
  exact (h.drop _).take _
theorem g_sl {tl th : TO} {ds : List PyData} {lo hi : Option Int} (t : Trk X H) (h : G X te σ H (.list ds)) (hl : GO tl σ H lo) (hh : GO th σ H hi) : G X (tSl (rSlL K) te tl th) σ H (.list (cutPD ds lo hi)) := fun H1 s Q q =>
  h H1 s _ fun v H2 s2 r2 => hl H2 (s.trans s2) _ fun H3 s3 => hh H3 ((s.trans s2).trans s3) _ fun H4 s4 => by
    obtain ⟨a, us, rfl, _, ha, rs⟩ := (r2.mono (Kp.of (s3.trans s4))).lst_inv
    exact ⟨a, us, rfl, SqL.of ha, fun p hp => q _ _ (((s2.trans s3).trans s4).trans (Same.upd hp)) (DX.newL (((t.mono s).mono s2).mono (s3.trans s4)) (rs.cut lo hi) hp)⟩

/-! ### functions of the language -/
def lenD : PyData → Nat
  | .str s => s.length
  | .list ds => ds.length
  | .tuple ds => ds.length
  | _ => 0
def hasLen : PyData → Bool
  | .str s => decide (s.length ≤ 1000000)
  | .list _ => true
  | .tuple _ => true
  | _ => false
theorem rf_len (h : hasLen d = true) : RF X (fun xs H Q => ∃ x n, xs = [x] ∧ LenV K x H n ∧ Q (.int n) H) [d] (.int (lenD d : Int)) := fun H us _ rs Q q => by
  cases rs with
  | cons r r2 =>
    cases r2
    cases r with
    | str s => exact ⟨_, s.length, rfl, ⟨by have := of_decide_eq_true (show decide (s.length ≤ 1000000) = true from h); rw [sizeLine_eq]; omega, rfl⟩, q _ H (Same.refl H) (.int _)⟩
    | lst n e r => exact ⟨_, _, rfl, .inl ⟨_, SqL.of e, rfl⟩, q _ H (Same.refl H) (by rw [r.length]; exact .int _)⟩
    | tup n e r => exact ⟨_, _, rfl, .inr ⟨_, SqT.of e, rfl⟩, q _ H (Same.refl H) (by rw [r.length]; exact .int _)⟩
    | _ => exact absurd h (by simp [hasLen])
/-- the items of a list or tuple -/
def itemsD : PyData → List PyData
  | .list ds => ds
  | .tuple ds => ds
  | _ => []
def isSeq : PyData → Bool
  | .list _ => true
  | .tuple _ => true
  | _ => false
theorem rf_list (h : isSeq d = true) : RF X (fun xs H Q => ∃ p ys, xs = [V.ref p] ∧ (SqL K H p ys ∨ SqT K H p ys) ∧ ∀ l, H l = none → Q (.ref l) (upd H l (.lst ys))) [d] (.list (itemsD d)) := fun H us t rs Q q => by
  cases rs with
  | cons r r2 =>
    cases r2
    cases r with
    | lst n e r => exact ⟨_, _, rfl, .inl (SqL.of e), fun l hl => q _ _ (Same.upd hl) (DX.newL t r hl)⟩
    | tup n e r => exact ⟨_, _, rfl, .inr (SqT.of e), fun l hl => q _ _ (Same.upd hl) (DX.newL t r hl)⟩
    | _ => exact absurd h (by simp [isSeq])
theorem rf_tuple (h : isSeq d = true) : RF X (fun xs H Q => ∃ p ys, xs = [V.ref p] ∧ ((SqL K H p ys ∧ ∀ l, H l = none → Q (.ref l) (upd H l (.tup ys))) ∨ (SqT K H p ys ∧ Q (.ref p) H))) [d] (.tuple (itemsD d)) := fun H us t rs Q q => by
  cases rs with
  | cons r r2 =>
    cases r2
    cases r with
    | lst n e r => exact ⟨_, _, rfl, .inl ⟨SqL.of e, fun l hl => q _ _ (Same.upd hl) (DX.newT t r hl)⟩⟩
    | tup n e r => exact ⟨_, _, rfl, .inr ⟨SqT.of e, q _ H (Same.refl H) (.tup n e r)⟩⟩
    | _ => exact absurd h (by simp [isSeq])
theorem DXs.ints : ∀ {vs : List V} {ns : List Int}, DXs X H vs (ns.map PyData.int) → vs = ns.map V.int
  | _, [], .nil => rfl
  | _, n :: ns, .cons h r => by rw [h.int_inv, DXs.ints r]; rfl
theorem DXs.bls : ∀ {vs : List V} {ns : List Bool}, DXs X H vs (ns.map PyData.bool) → vs = ns.map V.bl
  | _, [], .nil => rfl
  | _, n :: ns, .cons h r => by rw [h.bl_inv, DXs.bls r]; rfl
theorem DXs.strs : ∀ {vs : List V} {ns : List Str}, DXs X H vs (ns.map PyData.str) → vs = ns.map V.str
  | _, [], .nil => rfl
  | _, n :: ns, .cons h r => by rw [h.str_inv, DXs.strs r]; rfl
theorem DX.ofInts {p : Addr} {ns : List Int} (n : ¬ X p) (h : H p = some (.lst (ns.map V.int))) : DX X H (.ref p) (.list (ns.map PyData.int)) := by
  refine .lst n h ?_
  clear h
  induction ns with
  | nil => exact .nil
  | cons a r ih => exact .cons (.int a) ih
theorem rf_min {ns : List Int} {m : Int} (h0 : 0 < ns.length) (hm : m ∈ ns) (hl : ∀ y ∈ ns, m ≤ y) : RF X (rMin K) [.list (ns.map PyData.int)] (.int m) := fun H us _ rs Q q => by
  cases rs with
  | cons r r2 =>
    cases r2
    obtain ⟨a, vs, rfl, _, ha, rv⟩ := r.lst_inv
    refine ⟨a, ns, rfl, SqL.of (by rw [← rv.ints]; exact ha), h0, fun m' h1 h2 => ?_⟩
    have e : m' = m := Int.le_antisymm (h2 m hm) (hl m' h1)
    subst e
    exact q _ H (Same.refl H) (.int _)
theorem rf_all {bs : List Bool} : RF X (rAll K) [.list (bs.map PyData.bool)] (.bool (bs.all id)) := fun H us _ rs Q q => by
  cases rs with
  | cons r r2 =>
    cases r2
    obtain ⟨a, vs, rfl, _, ha, rv⟩ := r.lst_inv
    exact ⟨a, bs, rfl, SqL.of (by rw [← rv.bls]; exact ha), q _ H (Same.refl H) (.bl _)⟩
theorem rf_any {bs : List Bool} : RF X (rAny K) [.list (bs.map PyData.bool)] (.bool (bs.any id)) := fun H us _ rs Q q => by
  cases rs with
  | cons r r2 =>
    cases r2
    obtain ⟨a, vs, rfl, _, ha, rv⟩ := r.lst_inv
    exact ⟨a, bs, rfl, SqL.of (by rw [← rv.bls]; exact ha), q _ H (Same.refl H) (.bl _)⟩
theorem rf_int {i : Int} : RF X (fun xs H Q => (∃ i, xs = [V.int i] ∧ Q (.int i) H) ∨ ∃ k, xs = [V.bl k] ∧ Q (.int (if k = true then 1 else 0)) H) [.int i] (.int i) := fun H us _ rs Q q => by
  cases rs with
  | cons r r2 =>
    cases r2
    rw [r.int_inv]
    exact .inl ⟨i, rfl, q _ H (Same.refl H) (.int _)⟩
/-- isinstance -/
def tyD : PyData → String
  | .none => "NoneType"
  | .bool _ => "bool"
  | .int _ => "int"
  | .str _ => "str"
  | .list _ => "list"
  | .tuple _ => "tuple"
  | .dict _ => "dict"
theorem DX.ty {v : V} (h : DX X H v d) : TyX K H v (.type (tyD d)) := by
  cases h with
  | non => exact .base .non
  | bl b => exact .base (.bl b)
  | int i => exact .base (.int i)
  | str s => exact .base (.str s)
  | lst n e r => exact .base (.lst e)
  | tup n e r => exact .base (.tup e)
  | dic n e r => exact .base (.dK e)
def isD (n : String) (d : PyData) : Bool := (kitB (tyD d) n).getD false
theorem kit_d {n : String} (h : (kitB (tyD d) n).isSome = true) : PySem.W.kitOne K (.type (tyD d)) (.type n) = some (isD n d) := by
  unfold isD
  cases e : kitB (tyD d) n with
  | none => rw [e] at h; cases h
  | some b => exact kit_ty e
theorem g_isi {n : String} (h : G X te σ H d) (hk : (kitB (tyD d) n).isSome = true) : G X (tCB (rIsi K) (tCons te (tCons (tC (.ty n)) tNil))) σ H (.bool (isD n d)) := fun H1 s Q q =>
  h H1 s _ fun v H2 s2 r => ⟨v, .ty n, _, _, _, rfl, .ty n, r.ty, kit_d hk, q _ H2 s2 (.bl _)⟩
def isDs (ns : List String) (d : PyData) : Bool := ns.any fun n => isD n d
theorem kit_ds : ∀ {ns : List String}, (∀ n ∈ ns, (kitB (tyD d) n).isSome = true) → PySem.W.kitAny K (.type (tyD d)) (ns.map Value.type) = some (isDs ns d)
  | [], _ => by unfold PySem.W.kitAny; rfl
  | n :: ns, h => by
    have h1 := kit_d (K := K) (h n List.mem_cons_self)
    have h2 := kit_ds (ns := ns) fun m hm => h m (List.mem_cons_of_mem _ hm)
    refine kitAny_cons h1 (fun e => ?_) (fun e => ?_)
    · rw [h2]
      unfold isDs
      rw [List.any_cons, e, Bool.false_or]
    · unfold isDs
      rw [List.any_cons, e, Bool.true_or]
def tyArgs : List String → TA
  | [] => tNil
  | n :: ns => tCons (tC (.ty n)) (tyArgs ns)
theorem tyArgs_run : ∀ (ns : List String) (σ : St) (H : Hp) (Q : List V → Hp → Prop), Q (ns.map V.ty) H → tyArgs ns σ H Q
  | [], _, _, _, q => q
  | n :: ns, σ, H, Q, q => tyArgs_run ns σ H _ q
theorem clsV_all : ∀ ns : List String, Paired ClsV (ns.map V.ty) (ns.map Value.type)
  | [] => .nil
  | n :: ns => .cons (.ty n) (clsV_all ns)
theorem g_isiT {ns : List String} {t2 : TA} (h : G X te σ H d) (e2 : t2 = tyArgs ns) (hl : ns.length ≤ 1000) (hk : ∀ n ∈ ns, (kitB (tyD d) n).isSome = true) : G X (tCB (rIsiT K) (tCons te (tCons (tTup t2) tNil))) σ H (.bool (isDs ns d)) := fun H1 s Q q =>
  h H1 s _ fun v H2 s2 r => by
    subst e2
    refine tyArgs_run ns σ H2 _ ⟨by rw [List.length_map, sizeLine_eq]; omega, fun p hp => ?_⟩
    exact ⟨v, p, ns.map V.ty, _, ns.map Value.type, _, rfl, upd_same, clsV_all ns, (r.mono (Kp.of (Same.upd hp))).ty, kit_ds hk, q _ _ (s2.trans (Same.upd hp)) (.bl _)⟩
end
theorem kb_NoneType_int : kitB "NoneType" "int" = some false := by decide +kernel
theorem kb_bool_int : kitB "bool" "int" = some true := by decide +kernel
theorem kb_int_int : kitB "int" "int" = some true := by decide +kernel
theorem kb_str_int : kitB "str" "int" = some false := by decide +kernel
theorem kb_list_int : kitB "list" "int" = some false := by decide +kernel
theorem kb_tuple_int : kitB "tuple" "int" = some false := by decide +kernel
theorem kb_dict_int : kitB "dict" "int" = some false := by decide +kernel
theorem kb_NoneType_bool : kitB "NoneType" "bool" = some false := by decide +kernel
theorem kb_bool_bool : kitB "bool" "bool" = some true := by decide +kernel
theorem kb_int_bool : kitB "int" "bool" = some false := by decide +kernel
theorem kb_str_bool : kitB "str" "bool" = some false := by decide +kernel
theorem kb_list_bool : kitB "list" "bool" = some false := by decide +kernel
theorem kb_tuple_bool : kitB "tuple" "bool" = some false := by decide +kernel
theorem kb_dict_bool : kitB "dict" "bool" = some false := by decide +kernel
theorem kb_NoneType_str : kitB "NoneType" "str" = some false := by decide +kernel
theorem kb_bool_str : kitB "bool" "str" = some false := by decide +kernel
theorem kb_int_str : kitB "int" "str" = some false := by decide +kernel
theorem kb_str_str : kitB "str" "str" = some true := by decide +kernel
theorem kb_list_str : kitB "list" "str" = some false := by decide +kernel
theorem kb_tuple_str : kitB "tuple" "str" = some false := by decide +kernel
theorem kb_dict_str : kitB "dict" "str" = some false := by decide +kernel
theorem kb_NoneType_list : kitB "NoneType" "list" = some false := by decide +kernel
theorem kb_bool_list : kitB "bool" "list" = some false := by decide +kernel
theorem kb_int_list : kitB "int" "list" = some false := by decide +kernel
theorem kb_str_list : kitB "str" "list" = some false := by decide +kernel
theorem kb_list_list : kitB "list" "list" = some true := by decide +kernel
theorem kb_tuple_list : kitB "tuple" "list" = some false := by decide +kernel
theorem kb_dict_list : kitB "dict" "list" = some false := by decide +kernel
theorem kb_NoneType_tuple : kitB "NoneType" "tuple" = some false := by decide +kernel
theorem kb_bool_tuple : kitB "bool" "tuple" = some false := by decide +kernel
theorem kb_int_tuple : kitB "int" "tuple" = some false := by decide +kernel
theorem kb_str_tuple : kitB "str" "tuple" = some false := by decide +kernel
theorem kb_list_tuple : kitB "list" "tuple" = some false := by decide +kernel
theorem kb_tuple_tuple : kitB "tuple" "tuple" = some true := by decide +kernel
theorem kb_dict_tuple : kitB "dict" "tuple" = some false := by decide +kernel
theorem kb_NoneType_dict : kitB "NoneType" "dict" = some false := by decide +kernel
theorem kb_bool_dict : kitB "bool" "dict" = some false := by decide +kernel
theorem kb_int_dict : kitB "int" "dict" = some false := by decide +kernel
theorem kb_str_dict : kitB "str" "dict" = some false := by decide +kernel
theorem kb_list_dict : kitB "list" "dict" = some false := by decide +kernel
theorem kb_tuple_dict : kitB "tuple" "dict" = some false := by decide +kernel
theorem kb_dict_dict : kitB "dict" "dict" = some true := by decide +kernel
def isa_int : PyData → Bool
  | .bool _ => true
  | .int _ => true
  | _ => false
theorem kis_int (d : PyData) : kitB (tyD d) "int" = some (isa_int d) := by
  cases d
  · exact kb_NoneType_int
  · exact kb_bool_int
  · exact kb_int_int
  · exact kb_str_int
  · exact kb_list_int
  · exact kb_tuple_int
  · exact kb_dict_int
theorem isD_int (d : PyData) : isD "int" d = isa_int d := by unfold isD; rw [kis_int]; rfl
theorem ksm_int (d : PyData) : (kitB (tyD d) "int").isSome = true := by rw [kis_int]; rfl
def isa_bool : PyData → Bool
  | .bool _ => true
  | _ => false
theorem kis_bool (d : PyData) : kitB (tyD d) "bool" = some (isa_bool d) := by
  cases d
  · exact kb_NoneType_bool
  · exact kb_bool_bool
  · exact kb_int_bool
  · exact kb_str_bool
  · exact kb_list_bool
  · exact kb_tuple_bool
  · exact kb_dict_bool
theorem isD_bool (d : PyData) : isD "bool" d = isa_bool d := by unfold isD; rw [kis_bool]; rfl
theorem ksm_bool (d : PyData) : (kitB (tyD d) "bool").isSome = true := by rw [kis_bool]; rfl
def isa_str : PyData → Bool
  | .str _ => true
  | _ => false
theorem kis_str (d : PyData) : kitB (tyD d) "str" = some (isa_str d) := by
  cases d
  · exact kb_NoneType_str
  · exact kb_bool_str
  · exact kb_int_str
  · exact kb_str_str
  · exact kb_list_str
  · exact kb_tuple_str
  · exact kb_dict_str
theorem isD_str (d : PyData) : isD "str" d = isa_str d := by unfold isD; rw [kis_str]; rfl
theorem ksm_str (d : PyData) : (kitB (tyD d) "str").isSome = true := by rw [kis_str]; rfl
def isa_list : PyData → Bool
  | .list _ => true
  | _ => false
theorem kis_list (d : PyData) : kitB (tyD d) "list" = some (isa_list d) := by
  cases d
  · exact kb_NoneType_list
  · exact kb_bool_list
  · exact kb_int_list
  · exact kb_str_list
  · exact kb_list_list
  · exact kb_tuple_list
  · exact kb_dict_list
theorem isD_list (d : PyData) : isD "list" d = isa_list d := by unfold isD; rw [kis_list]; rfl
theorem ksm_list (d : PyData) : (kitB (tyD d) "list").isSome = true := by rw [kis_list]; rfl
def isa_tuple : PyData → Bool
  | .tuple _ => true
  | _ => false
theorem kis_tuple (d : PyData) : kitB (tyD d) "tuple" = some (isa_tuple d) := by
  cases d
  · exact kb_NoneType_tuple
  · exact kb_bool_tuple
  · exact kb_int_tuple
  · exact kb_str_tuple
  · exact kb_list_tuple
  · exact kb_tuple_tuple
  · exact kb_dict_tuple
theorem isD_tuple (d : PyData) : isD "tuple" d = isa_tuple d := by unfold isD; rw [kis_tuple]; rfl
theorem ksm_tuple (d : PyData) : (kitB (tyD d) "tuple").isSome = true := by rw [kis_tuple]; rfl
def isa_dict : PyData → Bool
  | .dict _ => true
  | _ => false
theorem kis_dict (d : PyData) : kitB (tyD d) "dict" = some (isa_dict d) := by
  cases d
  · exact kb_NoneType_dict
  · exact kb_bool_dict
  · exact kb_int_dict
  · exact kb_str_dict
  · exact kb_list_dict
  · exact kb_tuple_dict
  · exact kb_dict_dict
theorem isD_dict (d : PyData) : isD "dict" d = isa_dict d := by unfold isD; rw [kis_dict]; rfl
theorem ksm_dict (d : PyData) : (kitB (tyD d) "dict").isSome = true := by rw [kis_dict]; rfl
end KD

namespace KD
open PySem L2
/-! ### more addresses that stand apart -/
def More (X X' : Addr → Prop) (H : Hp) : Prop := (∀ a, X a → X' a) ∧ ∀ a, X' a → X a ∨ H a = none
section
variable {X X' : Addr → Prop} {H H' : Hp} {σ : St} {Γ : List Sv}
theorem More.refl : More X X H := ⟨fun _ h => h, fun _ h => .inl h⟩
theorem More.one {p : Addr} (h : H p = none) : More X (fun a => X a ∨ a = p) H := ⟨fun _ h => .inl h, fun a k => k.elim .inl fun e => .inr (by rw [e]; exact h)⟩
theorem More.back (s : Same H H') (m : More X X' H') : More X X' H := ⟨m.1, fun a h => (m.2 a h).elim .inl fun e => .inr (s.free e)⟩
mutual
theorem DX.more (m : More X X' H) : ∀ {v : V} {d : PyData}, DX X H v d → DX X' H v d
  | _, _, .non => .non
  | _, _, .bl b => .bl b
  | _, _, .int i => .int i
  | _, _, .str x => .str x
  | _, _, .lst n h r => .lst (fun k => (m.2 _ k).elim n fun e => by rw [h] at e; cases e) h (DXs.more m r)
  | _, _, .tup n h r => .tup (fun k => (m.2 _ k).elim n fun e => by rw [h] at e; cases e) h (DXs.more m r)
  | _, _, .dic n h r => .dic (fun k => (m.2 _ k).elim n fun e => by rw [h] at e; cases e) h (DXk.more m r)
theorem DXs.more (m : More X X' H) : ∀ {vs : List V} {ds : List PyData}, DXs X H vs ds → DXs X' H vs ds
  | _, _, .nil => .nil
  | _, _, .cons h r => .cons (DX.more m h) (DXs.more m r)
theorem DXk.more (m : More X X' H) : ∀ {vs : List (Key × V)} {ds : List (PyData × PyData)}, DXk X H vs ds → DXk X' H vs ds
  | _, _, .nil => .nil
  | _, _, .cons h r => .cons (DX.more m h) (DXk.more m r)
end
mutual
theorem DX.less (m : ∀ a, X a → X' a) : ∀ {v : V} {d : PyData}, DX X' H v d → DX X H v d
  | _, _, .non => .non
  | _, _, .bl b => .bl b
  | _, _, .int i => .int i
  | _, _, .str x => .str x
  | _, _, .lst n h r => .lst (fun k => n (m _ k)) h (DXs.less m r)
  | _, _, .tup n h r => .tup (fun k => n (m _ k)) h (DXs.less m r)
  | _, _, .dic n h r => .dic (fun k => n (m _ k)) h (DXk.less m r)
theorem DXs.less (m : ∀ a, X a → X' a) : ∀ {vs : List V} {ds : List PyData}, DXs X' H vs ds → DXs X H vs ds
  | _, _, .nil => .nil
  | _, _, .cons h r => .cons (DX.less m h) (DXs.less m r)
theorem DXk.less (m : ∀ a, X a → X' a) : ∀ {vs : List (Key × V)} {ds : List (PyData × PyData)}, DXk X' H vs ds → DXk X H vs ds
  | _, _, .nil => .nil
  | _, _, .cons h r => .cons (DX.less m h) (DXk.less m r)
end
theorem EnvOk.more (m : More X X' H) (E : EnvOk X H σ Γ) : EnvOk X' H σ Γ := ⟨E.len, fun i s e => by
  have h := E.get i s e
  cases s with
  | dat d =>
    obtain ⟨v, e1, r⟩ := h
    exact ⟨v, e1, r.more m⟩
  | val v => exact h
  | un => trivial⟩
theorem Trk.one {p : Addr} {o : HO} (t : Trk X H) (h : H p = none) : Trk (fun a => X a ∨ a = p) (upd H p o) := fun a k => k.elim (fun x => (t.mono (Same.upd h)) a x) fun e => by
  subst e
  exact ⟨o, upd_same⟩
theorem Trk.put {p : Addr} {o : HO} (t : Trk X H) : Trk X (upd H p o) := fun a x => by
  by_cases e : a = p
  · subst e
    exact ⟨o, upd_same⟩
  · obtain ⟨u, k⟩ := t a x
    exact ⟨u, by rw [upd_ne e]; exact k⟩
theorem Kp.put {p : Addr} {o : HO} (h : X p) : Kp X H (upd H p o) := fun a u n e => by
  rw [upd_ne (fun z => n (by rw [z]; exact h))]
  exact e
/-- a new object that was changed behind -/
theorem Same.mut {p : Addr} {o : HO} (s : Same H H') (h : H p = none) : Same H (L2.upd H' p o) := fun a u e => by
  rw [upd_ne (ne_of_none e h)]
  exact s a u e
end

/-! ### what is walked, as data -/
def WalkD (X : Addr → Prop) (J : It) (H : Hp) (ds : List PyData) : Prop := ∃ (Gd : Hp → Prop) (Y : Nat → Hp → V → Hp → Prop), Walk J ds.length Gd Y ∧
  ∀ X', (∀ a, X' a → X a ∨ H a = none) → ∀ H3, Kp X' H H3 → Trk X' H3 → Gd H3 ∧ ∀ i x H4, Y i H3 x H4 → Same H3 H4 ∧ ∃ d, ds[i]? = some d ∧ DX X' H4 x d
def GI (X : Addr → Prop) (wi : TI) (σ : St) (H : Hp) (ds : List PyData) : Prop := ∀ H1, Same H H1 → ∀ R : It → Hp → Prop, (∀ J H2, Same H1 H2 → WalkD X J H2 ds → R J H2) → wi σ H1 R
section
variable {X : Addr → Prop} {H H' : Hp} {σ : St} {Γ : List Sv} {te : TE} {K : PySem.W.Frag} {ds es : List PyData}
theorem DX.grow {X' : Addr → Prop} (m : ∀ a, X' a → X a ∨ H a = none) {v : V} {d : PyData} (h : DX X H v d) : DX X' H v d :=
  (h.more (X' := fun a => X a ∨ X' a) ⟨fun _ => .inl, fun a k => k.elim .inl (m a)⟩).less fun _ => .inr
theorem DXs.grow {X' : Addr → Prop} (m : ∀ a, X' a → X a ∨ H a = none) {vs : List V} {ds : List PyData} (h : DXs X H vs ds) : DXs X' H vs ds :=
  (h.more (X' := fun a => X a ∨ X' a) ⟨fun _ => .inl, fun a k => k.elim .inl (m a)⟩).less fun _ => .inr
theorem gi_list (h : G X te σ H (.list ds)) : GI X (iList K te) σ H ds := fun H1 s R r => h H1 s _ fun v H2 s2 rv => by
  obtain ⟨a, xs, rfl, n, e, rx⟩ := rv.lst_inv
  refine ⟨a, rfl, ⟨xs, SqL.of e⟩, r _ H2 s2 ⟨_, _, by rw [← rx.length]; exact walk_list, fun X' m H3 k t => ?_⟩⟩
  have n' : ¬ X' a := fun z => (m a z).elim n fun q => by rw [e] at q; cases q
  refine ⟨SqL.of (k a _ n' e), fun i x H4 y => ?_⟩
  obtain ⟨rfl, hx⟩ := y
  obtain ⟨d, h1, h2⟩ := rx.getV hx
  exact ⟨Same.refl _, d, h1, (h2.grow m).mono k⟩
theorem gi_tup (h : G X te σ H (.tuple ds)) : GI X (iTup K te) σ H ds := fun H1 s R r => h H1 s _ fun v H2 s2 rv => by
  obtain ⟨a, xs, rfl, n, e, rx⟩ := rv.tup_inv
  refine ⟨a, rfl, ⟨xs, SqT.of e⟩, r _ H2 s2 ⟨_, _, by rw [← rx.length]; exact walk_tup, fun X' m H3 k t => ?_⟩⟩
  have n' : ¬ X' a := fun z => (m a z).elim n fun q => by rw [e] at q; cases q
  refine ⟨SqT.of (k a _ n' e), fun i x H4 y => ?_⟩
  obtain ⟨rfl, hx⟩ := y
  obtain ⟨d, h1, h2⟩ := rx.getV hx
  exact ⟨Same.refl _, d, h1, (h2.grow m).mono k⟩
def rangeD (lo : Int) (n : Nat) : List PyData := (List.range n).map fun (i : Nat) => PyData.int (lo + (i : Int))
theorem rangeD_len {lo : Int} {n : Nat} : (rangeD lo n).length = n := by simp [rangeD]
theorem rangeD_get {lo : Int} {n i : Nat} (h : i < n) : (rangeD lo n)[i]? = some (.int (lo + (i : Int))) := by
  unfold rangeD
  rw [List.getElem?_map, List.getElem?_range h]
  rfl
theorem walkD_range {lo : Int} {n : Nat} : WalkD X (Itr lo n) H (rangeD lo n) := by
  refine ⟨fun _ => True, fun i H x H' => (YFn fun i => V.int (lo + i)) i H x H' ∧ i < n, ?_, fun X' m H3 k t => ⟨trivial, fun i x H4 y => ?_⟩⟩
  · rw [rangeD_len]
    exact ⟨fun _ _ hi _ => hi, fun _ _ => Nat.le_refl _, fun _ _ _ _ hi _ y => ⟨y, hi⟩⟩
  · obtain ⟨⟨rfl, rfl⟩, hi⟩ := y
    exact ⟨Same.refl _, _, rangeD_get hi, .int _⟩
theorem gi_range1 {n : Int} (h : G X te σ H (.int n)) (hn : n ≤ 1000000) (hm : -1000000 ≤ n) : GI X (iRng1 (tCons te tNil)) σ H (rangeD 0 n.toNat) := fun H1 s R r => h H1 s _ fun v H2 s2 rv =>
  ⟨n, by rw [rv.int_inv], by omega, by omega, r _ H2 s2 walkD_range⟩
theorem gi_range2 {tb : TE} {a n : Int} (ha : G X te σ H (.int a)) (h : G X tb σ H (.int n)) (hb : -1000000 ≤ a ∧ a ≤ 1000000 ∧ -1000000 ≤ n ∧ n ≤ 1000000) : GI X (iRng2 (tCons te (tCons tb tNil))) σ H (rangeD a (n - a).toNat) := fun H1 s R r =>
  ha H1 s _ fun v H2 s2 rv => h H2 (s.trans s2) _ fun w H3 s3 rw_ => ⟨a, n, by rw [rv.int_inv, rw_.int_inv], by omega, r _ H3 (s2.trans s3) walkD_range⟩
def enumD (ds : List PyData) : List PyData := ds.zipIdx.map fun p => .tuple [.int (p.2 : Nat), p.1]
theorem enumD_len : (enumD ds).length = ds.length := by simp [enumD]
theorem enumD_get {i : Nat} {d : PyData} (h : ds[i]? = some d) : (enumD ds)[i]? = some (.tuple [.int (i : Nat), d]) := by
  unfold enumD
  rw [List.getElem?_map, List.getElem?_zipIdx, h]
  simp
theorem gi_enum (h : G X te σ H (.list ds)) : GI X (iEnum K (tCons te tNil)) σ H (enumD ds) := fun H1 s R r => h H1 s _ fun v H2 s2 rv => by
  obtain ⟨a, xs, rfl, n, e, rx⟩ := rv.lst_inv
  refine ⟨a, xs, rfl, SqL.of e, r _ H2 s2 ⟨_, _, by rw [enumD_len, ← rx.length]; exact walk_enum, fun X' m H3 k t => ?_⟩⟩
  have n' : ¬ X' a := fun z => (m a z).elim n fun q => by rw [e] at q; cases q
  refine ⟨SqL.of (k a _ n' e), fun i x H4 y => ?_⟩
  obtain ⟨T, u, w, rfl, hT, rfl, hu, hw⟩ := y
  cases hu
  obtain ⟨d, h1, h2⟩ := rx.getV hw
  exact ⟨Same.upd hT, _, enumD_get h1, DX.newT t (.cons (.int _) (.cons ((h2.grow m).mono k) .nil)) hT⟩
def zipD (ds es : List PyData) : List PyData := List.zipWith (fun d e => .tuple [d, e]) ds es
theorem gi_zip {tb : TE} (h : G X te σ H (.list ds)) (h' : G X tb σ H (.list es)) : GI X (iZip K (tCons te (tCons tb tNil))) σ H (zipD ds es) := fun H1 s R r => h H1 s _ fun v H2 s2 rv => h' H2 (s.trans s2) _ fun w H3 s3 rw_ => by
  obtain ⟨a, xs, rfl, n, e, rx⟩ := (rv.mono (Kp.of s3)).lst_inv
  obtain ⟨b, ys, rfl, n2, e2, ry⟩ := rw_.lst_inv
  refine ⟨a, b, xs, ys, rfl, SqL.of e, SqL.of e2, r _ H3 (s2.trans s3) ⟨_, _, walk_zip (xs := xs) (ys := ys) (by simp [zipD, rx.length, ry.length]), fun X' m H4 k t => ?_⟩⟩
  have n' : ¬ X' a := fun z => (m a z).elim n fun q => by rw [e] at q; cases q
  have n2' : ¬ X' b := fun z => (m b z).elim n2 fun q => by rw [e2] at q; cases q
  refine ⟨⟨SqL.of (k a _ n' e), SqL.of (k b _ n2' e2)⟩, fun i x H5 y => ?_⟩
  obtain ⟨T, u, w, rfl, hT, rfl, hu, hw⟩ := y
  obtain ⟨d, h1, h2⟩ := rx.getV hu
  obtain ⟨d', h3, h4⟩ := ry.getV hw
  refine ⟨Same.upd hT, .tuple [d, d'], ?_, DX.newT t (.cons ((h2.grow m).mono k) (.cons ((h4.grow m).mono k) .nil)) hT⟩
  unfold zipD
  rw [List.getElem?_zipWith, h1, h3]

/-! ### comprehensions -/
/-- a target takes a datum: what the frame knows behind it -/
def Tgt (X : Addr → Prop) (g : TG) (σ : St) (Γ2 : List Sv) (vs : List Nat) (d : PyData) (H : Hp) : Prop :=
  ∀ X' H3, More X X' H → Kp X' H H3 → Trk X' H3 → ∀ v, DX X' H3 v d → ∀ Ψ : St → Hp → Prop, (∀ σ2, EnvOk X' H3 σ2 Γ2 → wipe σ2 vs = wipe σ vs → Ψ σ2 H3) → g v (wipe σ vs) H3 Ψ
theorem wipe_one {i : Nat} {x : Option V} : wipe ((wipe σ [i]).set i x) [i] = wipe σ [i] := by
  show ((σ.set i none).set i x).set i none = σ.set i none
  rw [List.set_set, List.set_set]
theorem tgt_name {i : Nat} {d : PyData} (E : EnvOk X H σ Γ) : Tgt X (gName i) σ ((Γ.set i .un).set i (.dat d)) [i] d H := fun X' H3 m k t v hd Ψ q =>
  q _ (((E.more m).mono k).wipe [i] |>.set hd) wipe_one
theorem wipe_two {i j : Nat} {x y : Option V} (h : i ≠ j) : wipe (((wipe σ [i, j]).set i x).set j y) [i, j] = wipe σ [i, j] := by
  show ((((((σ.set j none).set i none).set i x).set j y).set j none).set i none) = (σ.set j none).set i none
  apply List.ext_getElem?
  intro n
  simp only [List.getElem?_set, List.length_set]
  split <;> split <;> simp_all
theorem g_pair {i j : Nat} {K : PySem.W.Frag} {v : V} {d e : PyData} (hd : DX X H v (.tuple [d, e])) {Ψ : St → Hp → Prop} (q : ∀ u w, DX X H u d → DX X H w e → Ψ ((σ.set i (some u)).set j (some w)) H) : gTup K 2 (gCons (gName i) (gCons (gName j) gNil)) v σ H Ψ := by
  obtain ⟨a, xs, rfl, n, ea, rx⟩ := hd.tup_inv
  cases rx with
  | cons h1 r1 =>
    cases r1 with
    | cons h2 r2 =>
      cases r2
      exact ⟨a, _, rfl, SqT.of ea, rfl, _, _, rfl, _, _, rfl, rfl, q _ _ h1 h2⟩
theorem g_triple {i j l : Nat} {K : PySem.W.Frag} {v : V} {d e f : PyData} (hd : DX X H v (.tuple [d, e, f])) {Ψ : St → Hp → Prop} (q : ∀ u w z, DX X H u d → DX X H w e → DX X H z f → Ψ (((σ.set i (some u)).set j (some w)).set l (some z)) H) :
    gTup K 3 (gCons (gName i) (gCons (gName j) (gCons (gName l) gNil))) v σ H Ψ := by
  obtain ⟨a, xs, rfl, n, ea, rx⟩ := hd.tup_inv
  cases rx with
  | cons h1 r1 =>
    cases r1 with
    | cons h2 r2 =>
      cases r2 with
      | cons h3 r3 =>
        cases r3
        exact ⟨a, _, rfl, SqT.of ea, rfl, _, _, rfl, _, _, rfl, _, _, rfl, rfl, q _ _ _ h1 h2 h3⟩
theorem tgt_pair {i j : Nat} {d e : PyData} (E : EnvOk X H σ Γ) (hij : i ≠ j) : Tgt X (gTup K 2 (gCons (gName i) (gCons (gName j) gNil))) σ ((((Γ.set j .un).set i .un).set i (.dat d)).set j (.dat e)) [i, j] (.tuple [d, e]) H := fun X' H3 m k t v hd Ψ q =>
  g_pair hd fun u w h1 h2 => q _ ((((E.more m).mono k).wipe [i, j] |>.set h1).set h2) (wipe_two hij)
theorem g_lc {wi : TI} {g : TG} {tt : TT} {te : TE} {vs : List Nat} {Γ2 : PyData → List Sv} (f : PyData → Bool) (h : PyData → PyData) (t : Trk X H) (hi : GI X wi σ H ds) (hl : ds.length ≤ 1000000)
    (hg : ∀ H1, Same H H1 → ∀ d ∈ ds, Tgt X g σ (Γ2 d) vs d H1)
    (ht : ∀ X' H1 σ2 d, d ∈ ds → Trk X' H1 → EnvOk X' H1 σ2 (Γ2 d) → GT tt σ2 H1 (f d))
    (he : ∀ X' H1 σ2 d, d ∈ ds → f d = true → Trk X' H1 → EnvOk X' H1 σ2 (Γ2 d) → G X' te σ2 H1 (h d)) : G X (tLc wi g tt te vs) σ H (.list ((ds.filter f).map h)) := fun H1 s Q q =>
  hi H1 s _ fun J H2 s2 w => by
    intro D hD
    obtain ⟨Gd, Y, w1, w2⟩ := w
    have s02 : Same H H2 := s.trans s2
    have t2 : Trk X H2 := t.mono s02
    let X' : Addr → Prop := fun a => X a ∨ a = D
    have m2 : More X X' H2 := More.one hD
    have key : ∀ H3, Same H2 H3 ∧ Trk X' H3 → Gd H3 := fun H3 p => (w2 X' m2.2 H3 (Kp.of p.1) p.2).1
    refine lc_it w1 (fun i H3 => Same H2 H3 ∧ Trk X' H3 ∧ ∃ acc, H3 D = some (.lst acc) ∧ DXs X' H3 acc (((ds.take i).filter f).map h)) ?_ ?_ ?_ ?_
    · exact ⟨Same.upd hD, t2.one hD, [], upd_same, .nil⟩
    · rintro i H3 _ ⟨p1, p2, _⟩
      exact key H3 ⟨p1, p2⟩
    · rintro i x H3 H4 hi' ⟨p1, p2, acc, p3, p4⟩ y
      obtain ⟨s4, d, hd, dx⟩ := (w2 X' m2.2 H3 (Kp.of p1) p2).2 i x H4 y
      have hmem : d ∈ ds := List.mem_of_getElem? hd
      have k4 : Kp X' H2 H4 := Kp.of (p1.trans s4)
      have t4 : Trk X' H4 := p2.mono s4
      refine hg H2 s02 d hmem X' H4 m2 k4 t4 x dx _ fun σ2 E2 hw => ⟨hw, ?_⟩
      have etake : ds.take (i + 1) = ds.take i ++ [d] := by rw [List.take_succ, hd]; rfl
      refine ht X' H4 σ2 d hmem t4 E2 H4 (Same.refl _) _ fun H5 s5 => ?_
      have lacc : acc.length ≤ 1000000 := by
        rw [p4.length, List.length_map]
        exact Nat.le_trans (List.length_filter_le _ _) (Nat.le_trans (List.length_take_le _ _) (by omega))
      cases hf : f d with
      | true =>
        refine iteT ?_
        refine he X' H4 σ2 d hmem hf t4 E2 H5 s5 _ fun y H6 s6 ry => ?_
        have s36 : Same H3 H6 := (s4.trans s5).trans s6
        refine ⟨acc, s36 D _ p3, by rw [sizeLine_eq]; omega, ?_, ?_, acc ++ [y], upd_same, ?_⟩
        · exact Same.mut (p1.trans s36) hD
        · exact (p2.mono s36).put
        · rw [etake, List.filter_append, List.map_append]
          have ef : List.filter f [d] = [d] := by simp [hf]
          rw [ef]
          exact ((p4.mono (Kp.of s36)).snoc ry).mono (Kp.put (.inr rfl))
      | false =>
        refine iteF ?_
        have s35 : Same H3 H5 := s4.trans s5
        refine ⟨p1.trans s35, p2.mono s35, acc, s35 D _ p3, ?_⟩
        rw [etake, List.filter_append, List.map_append]
        have ef : List.filter f [d] = [] := by simp [hf]
        rw [ef, List.map_nil, List.append_nil]
        exact p4.mono (Kp.of s35)
    · rintro H3 ⟨p1, p2, acc, p3, p4⟩
      rw [List.take_length] at p4
      have nXD : ¬ X D := t2.new hD
      -- D itself is a datum again
      exact q (.ref D) H3 (s2.trans p1) (.lst nXD p3 (p4.less fun a => .inl))
/-- without a test -/
theorem g_lc1 {wi : TI} {g : TG} {te : TE} {vs : List Nat} {Γ2 : PyData → List Sv} (h : PyData → PyData) (t : Trk X H) (hi : GI X wi σ H ds) (hl : ds.length ≤ 1000000)
    (hg : ∀ H1, Same H H1 → ∀ d ∈ ds, Tgt X g σ (Γ2 d) vs d H1)
    (he : ∀ X' H1 σ2 d, d ∈ ds → Trk X' H1 → EnvOk X' H1 σ2 (Γ2 d) → G X' te σ2 H1 (h d)) : G X (tLc wi g tYes te vs) σ H (.list (ds.map h)) := by
  have e : ds.map h = (ds.filter fun _ => true).map h := by rw [List.filter_eq_self.mpr (fun _ _ => rfl)]
  rw [e]
  exact g_lc (fun _ => true) h t hi hl hg (fun X' H2 σ2 z _ _ _ H3 s3 Q3 q3 => q3 H3 (Same.refl _)) fun X' H1 σ2 d m _ t2 E2 => he X' H1 σ2 d m t2 E2
end
end KD

namespace KD
open PySem PySem.Spec PyProof.Rows L2
/-! ### defs of the text that are called by their names -/
structure Own (P : Program) (w : World) (K : PySem.W.Frag) (mg : Str → Option Value) (base : Heap) (CX : CXT) (k : Nat) (x : Str) (ps : List Str) (sp : Sp) : Prop where
  ex : ∃ (f : Addr) (fd : FuncData), mg x = some (.ref f) ∧ PySem.W.keepIn K (.ref f) = true ∧ Binds K fd ps [] ∧ FnOk P w K mg base CX k f fd ps sp
section
variable {X : Cx} {k j : Nat} {x : Str} {ps : List Str} {sp : Sp} {e : Expr} {es : List Expr} {p pos : Pos} {ta : TA}
theorem pe_own (O : Own X.prog X.w X.K X.mg X.base CX0 k x ps sp) (hr : Room j X.A) (hk : k ≤ j) (hg : Gl X x) (ha : PA X (e :: es) ta) (hdb : (x == ("__debug__" : Str)) = false := by decide)
    (he : starEach (e :: es) X.env = (false, eval e X.env) :: starEach es X.env := by rfl) (hpl : (backTo pos (starEach es X.env)).any (·.1) = false := by rfl) : PE X (.Call (.Name x p) (e :: es) [] pos) (tCall sp [] E0 ta) := by
  obtain ⟨f, fd, h1, h2, h3, h4⟩ := O.ex
  exact pe_call h4 (hr.mono hk) hg h1 h2 h3 .nil pass0 ha hdb he hpl
end
/-! ### promises over data -/
def sp1 (pre : PyData → Prop) (f : PyData → PyData) : Sp := fun vs H Q _ => ∃ (X : Addr → Prop) (v : V) (d : PyData), vs = [v] ∧ Trk X H ∧ DX X H v d ∧ pre d ∧ ∀ w H', Same H H' → DX X H' w (f d) → Q w H'
def sp2 (pre : PyData → PyData → Prop) (f : PyData → PyData → PyData) : Sp := fun vs H Q _ => ∃ (X : Addr → Prop) (v1 v2 : V) (d1 d2 : PyData), vs = [v1, v2] ∧ Trk X H ∧ DX X H v1 d1 ∧ DX X H v2 d2 ∧ pre d1 d2 ∧ ∀ w H', Same H H' → DX X H' w (f d1 d2) → Q w H'
def sp3 (pre : PyData → PyData → PyData → Prop) (f : PyData → PyData → PyData → PyData) : Sp := fun vs H Q _ => ∃ (X : Addr → Prop) (v1 v2 v3 : V) (d1 d2 d3 : PyData), vs = [v1, v2, v3] ∧ Trk X H ∧ DX X H v1 d1 ∧ DX X H v2 d2 ∧ DX X H v3 d3 ∧ pre d1 d2 d3 ∧ ∀ w H', Same H H' → DX X H' w (f d1 d2 d3) → Q w H'
section
variable {X : Addr → Prop} {σ : L2.St} {H : Hp} {ta tb tc : TE} {d d1 d2 d3 : PyData} {E : XK}
theorem g_call1 {pre : PyData → Prop} {f : PyData → PyData} (t : Trk X H) (h : G X ta σ H d) (hp : pre d) : G X (tCall (sp1 pre f) [] E (tCons ta tNil)) σ H (f d) :=
  g_call (ga_cons h ga_nil) fun vs H1 s rs Q q => by
    cases rs with
    | cons r1 r2 =>
      cases r2
      exact ⟨X, _, d, rfl, t.mono s, r1, hp, q⟩
theorem g_call2 {pre : PyData → PyData → Prop} {f : PyData → PyData → PyData} (t : Trk X H) (h1 : G X ta σ H d1) (h2 : G X tb σ H d2) (hp : pre d1 d2) : G X (tCall (sp2 pre f) [] E (tCons ta (tCons tb tNil))) σ H (f d1 d2) :=
  g_call (ga_cons h1 (ga_cons h2 ga_nil)) fun vs H1 s rs Q q => by
    cases rs with
    | cons r1 r2 =>
      cases r2 with
      | cons r2 r3 =>
        cases r3
        exact ⟨X, _, _, d1, d2, rfl, t.mono s, r1, r2, hp, q⟩
theorem g_call3 {pre : PyData → PyData → PyData → Prop} {f : PyData → PyData → PyData → PyData} (t : Trk X H) (h1 : G X ta σ H d1) (h2 : G X tb σ H d2) (h3 : G X tc σ H d3) (hp : pre d1 d2 d3) : G X (tCall (sp3 pre f) [] E (tCons ta (tCons tb (tCons tc tNil)))) σ H (f d1 d2 d3) :=
  g_call (ga_cons h1 (ga_cons h2 (ga_cons h3 ga_nil))) fun vs H1 s rs Q q => by
    cases rs with
    | cons r1 r2 =>
      cases r2 with
      | cons r2 r3 =>
        cases r3 with
        | cons r3 r4 =>
          cases r4
          exact ⟨X, _, _, _, d1, d2, d3, rfl, t.mono s, r1, r2, r3, hp, q⟩
end
/-! ### a def's body -/
section
variable {P : Program} {w : World} {K : PySem.W.Frag} {mg : Str → Option Value} {base : Heap} {x qual : Str} {st : Stmt} {f : Addr} {fd : FuncData} {N : List Str} {k : Nat} {a b c : Str}
def pad (N : List Str) (ss : List Sv) : List Sv := ss ++ List.replicate (N.length - ss.length) .un
theorem env1 {X : Addr → Prop} {H : Hp} {v : V} {d : PyData} (h : DX X H v d) (hN : 1 ≤ N.length) : EnvOk X H (L2.start N [v]) (pad N [.dat d]) :=
  envOk_start rfl (fun i s e u e2 => by
    match i, e, e2 with
    | 0, e, e2 => cases e; cases e2; exact ⟨_, rfl, h⟩) hN
theorem env2 {X : Addr → Prop} {H : Hp} {v1 v2 : V} {d1 d2 : PyData} (h1 : DX X H v1 d1) (h2 : DX X H v2 d2) (hN : 2 ≤ N.length) : EnvOk X H (L2.start N [v1, v2]) (pad N [.dat d1, .dat d2]) :=
  envOk_start rfl (fun i s e u e2 => by
    match i, e, e2 with
    | 0, e, e2 => cases e; cases e2; exact ⟨_, rfl, h1⟩
    | 1, e, e2 => cases e; cases e2; exact ⟨_, rfl, h2⟩) hN
theorem env3 {X : Addr → Prop} {H : Hp} {v1 v2 v3 : V} {d1 d2 d3 : PyData} (h1 : DX X H v1 d1) (h2 : DX X H v2 d2) (h3 : DX X H v3 d3) (hN : 3 ≤ N.length) : EnvOk X H (L2.start N [v1, v2, v3]) (pad N [.dat d1, .dat d2, .dat d3]) :=
  envOk_start rfl (fun i s e u e2 => by
    match i, e, e2 with
    | 0, e, e2 => cases e; cases e2; exact ⟨_, rfl, h1⟩
    | 1, e, e2 => cases e; cases e2; exact ⟨_, rfl, h2⟩
    | 2, e, e2 => cases e; cases e2; exact ⟨_, rfl, h3⟩) hN
theorem ok1 {pre : PyData → Prop} {g : PyData → PyData} (F : Fun K x qual st f fd) (S : FnScope N [a] (defScope st)) (hN : 1 ≤ N.length)
    (hbody : ∀ (cdv : Value) (A : Around) (outer : List Env) (s : Shared) (H : Hp) (E : XK) (X : Addr → Prop) (d : PyData) (Q : VK), Room k (A.deeper (envOfC qual (defScope st) s.heap.objs.size f cdv)) → Trk X H → pre d → (∀ w H', Same H H' → DX X H' w (g d) → Q w H') →
      ∃ t, PSs (cxOf CX0 P w K mg base N qual (defScope st) f cdv A outer s H E).nox (defBody st) t ∧ ∀ σ, EnvOk X H σ (pad N [.dat d]) → t { nx := fun _ H' => Q .non H', rt := Q } σ H) : FnOk P w K mg base CX0 (k + 1) f fd [a] (sp1 pre g) := by
  refine F.ok S (fun vs H Q E h => ?_) (fun cdv A outer s H vs Q E hr h => ?_)
  · obtain ⟨X, v, d, rfl, _⟩ := h
    rfl
  · obtain ⟨X, v, d, rfl, t, hd, hp, q⟩ := h
    obtain ⟨tt, h1, h2⟩ := hbody cdv A outer s H E X d Q hr t hp q
    exact ⟨tt, h1, h2 _ (env1 hd hN)⟩
theorem ok2 {pre : PyData → PyData → Prop} {g : PyData → PyData → PyData} (F : Fun K x qual st f fd) (S : FnScope N [a, b] (defScope st)) (hN : 2 ≤ N.length)
    (hbody : ∀ (cdv : Value) (A : Around) (outer : List Env) (s : Shared) (H : Hp) (E : XK) (X : Addr → Prop) (d1 d2 : PyData) (Q : VK), Room k (A.deeper (envOfC qual (defScope st) s.heap.objs.size f cdv)) → Trk X H → pre d1 d2 → (∀ w H', Same H H' → DX X H' w (g d1 d2) → Q w H') →
      ∃ t, PSs (cxOf CX0 P w K mg base N qual (defScope st) f cdv A outer s H E).nox (defBody st) t ∧ ∀ σ, EnvOk X H σ (pad N [.dat d1, .dat d2]) → t { nx := fun _ H' => Q .non H', rt := Q } σ H) : FnOk P w K mg base CX0 (k + 1) f fd [a, b] (sp2 pre g) := by
  refine F.ok S (fun vs H Q E h => ?_) (fun cdv A outer s H vs Q E hr h => ?_)
  · obtain ⟨X, v1, v2, d1, d2, rfl, _⟩ := h
    rfl
  · obtain ⟨X, v1, v2, d1, d2, rfl, t, r1, r2, hp, q⟩ := h
    obtain ⟨tt, h1, h2⟩ := hbody cdv A outer s H E X d1 d2 Q hr t hp q
    exact ⟨tt, h1, h2 _ (env2 r1 r2 hN)⟩
end
/-! ### statements -/
section
variable {X : Addr → Prop} {σ : L2.St} {H : Hp} {te : TE} {tt : TT} {tu tw tz : TS} {d : PyData} {D : Ends} {Γ : List Sv} {Q : VK}
theorem s_ret (h : G X te σ H d) (q : ∀ w H', Same H H' → DX X H' w d → D.rt w H') : tRet te D σ H := h H (Same.refl H) _ q
theorem s_if {b : Bool} (h : GT tt σ H b) (h1 : b = true → ∀ H1, Same H H1 → tu D σ H1) (h2 : b = false → ∀ H1, Same H H1 → tw D σ H1) : tIfS tt tu tw D σ H := h H (Same.refl H) _ fun H1 s => by
  cases b with
  | true => exact iteT (h1 rfl H1 s)
  | false => exact iteF (h2 rfl H1 s)
theorem q_if {b : Bool} (h : GT tt σ H b) (h1 : b = true → ∀ H1, Same H H1 → tu { D with nx := tz D } σ H1) (h2 : b = false → ∀ H1, Same H H1 → tz D σ H1) : tSeq (tIfS tt tu tNext) tz D σ H := s_if (D := { D with nx := tz D }) h h1 h2
theorem q_asg {g : TG} (h : G X te σ H d) (k : ∀ H1 v, Same H H1 → DX X H1 v d → g v σ H1 (fun σ2 H2 => tz D σ2 H2)) : tSeq (tAsg te g) tz D σ H := h H (Same.refl H) _ fun v H1 s r => k H1 v s r
theorem q_set {i : Nat} (En : EnvOk X H σ Γ) (h : G X te σ H d) (k : ∀ H1 v, Same H H1 → EnvOk X H1 (σ.set i (some v)) (Γ.set i (.dat d)) → tz D (σ.set i (some v)) H1) : tSeq (tAsg te (gName i)) tz D σ H := h H (Same.refl H) _ fun v H1 s r => k H1 v s ((En.same s).set r)
end
/-- a for over data: I by the base heap, the turn, the slots, the heap -/
theorem s_forD {X : Addr → Prop} {σ : L2.St} {H : Hp} {wi : TI} {g : TG} {tb : TS} {D : Ends} {ds : List PyData} (hi : GI X wi σ H ds) (I : Hp → Nat → L2.St → Hp → Prop) (h0 : ∀ Hb, Same H Hb → I Hb 0 σ Hb)
    (hk : ∀ Hb i σ' H', I Hb i σ' H' → Kp X Hb H' ∧ Trk X H')
    (hs : ∀ Hb i x d σ' H' H'', Same H Hb → ds[i]? = some d → I Hb i σ' H' → Same H' H'' → DX X H'' x d → g x σ' H'' fun σ2 H2 => tb { D with nx := I Hb (i + 1), ct := I Hb (i + 1), bk := D.nx } σ2 H2)
    (hd : ∀ Hb σ' H', Same H Hb → I Hb ds.length σ' H' → D.nx σ' H') : tFor wi g tb D σ H := hi H (Same.refl H) _ fun J H2 s w => by
  obtain ⟨Gd, Y, w1, w2⟩ := w
  have key : ∀ i σ' H', I H2 i σ' H' → _ := fun i σ' H' p => w2 X (fun _ => .inl) H' (hk H2 i σ' H' p).1 (hk H2 i σ' H' p).2
  refine for_it w1 (I H2) (h0 H2 s) (fun i σ' H' _ p => (key i σ' H' p).1) (fun i x σ' H' H'' _ p y => ?_) (fun σ' H' p => hd H2 σ' H' s p)
  obtain ⟨s4, d, hd1, dx⟩ := (key i σ' H' p).2 i x H'' y
  exact hs H2 i x d σ' H' H'' s hd1 p s4 dx
/-! ### the language's own names; tests of kinds -/
structure Bl (mg : Str → Option Value) : Prop where
  b_isinstance : mg "isinstance" = none
  b_len : mg "len" = none
  b_list : mg "list" = none
  b_tuple : mg "tuple" = none
  b_dict : mg "dict" = none
  b_int : mg "int" = none
  b_bool : mg "bool" = none
  b_str : mg "str" = none
  b_min : mg "min" = none
  b_all : mg "all" = none
  b_range : mg "range" = none
  b_enumerate : mg "enumerate" = none
  b_zip : mg "zip" = none
  b_repr : mg "repr" = none
section
variable {X : Cx}
abbrev rAddA : R2 := fun x y H Q => (rI0 fun i j => V.int (i + j)) x y H Q ∨ (fun x y H Q => rCat x y H Q ∨ (fun x y H Q => ∃ i j, x = V.str i ∧ y = V.str j ∧ i.length + j.length ≤ sizeLine ∧ Q (V.str (i ++ j)) H) x y H Q) x y H Q
abbrev rMulA : R2 := fun x y H Q => (rI CMul fun i j => V.int (i * j)) x y H Q ∨ rRep x y H Q
theorem op_addA : OpR X (binaryOp .Add) rAddA := op_add.or (op_cat.or op_add_str)
theorem op_mulA : OpR X (binaryOp .Mult) rMulA := op_mul.or op_rep
end
section
variable {X : Addr → Prop} {te ta tb : TE} {σ : L2.St} {H : Hp} {d : PyData} {K : PySem.W.Frag}
theorem isDs_seq (d : PyData) : isDs ["list", "tuple"] d = isSeq d := by
  unfold isDs
  rw [List.any_cons, List.any_cons, List.any_nil, isD_list, isD_tuple]
  cases d <;> rfl
theorem g_isSeq (h : G X te σ H d) : G X (tCB (rIsiT K) (tCons te (tCons (tTup (tCons (tC (.ty "list")) (tCons (tC (.ty "tuple")) tNil))) tNil))) σ H (.bool (isSeq d)) := by
  rw [← isDs_seq]
  exact g_isiT (ns := ["list", "tuple"]) h rfl (by decide) fun n hn => by
    simp at hn
    rcases hn with rfl | rfl
    · exact ksm_list d
    · exact ksm_tuple d
theorem g_isInt (h : G X te σ H d) : G X (tCB (rIsi K) (tCons te (tCons (tC (.ty "int")) tNil))) σ H (.bool (isa_int d)) := by
  rw [← isD_int]; exact g_isi h (ksm_int d)
theorem g_isBool (h : G X te σ H d) : G X (tCB (rIsi K) (tCons te (tCons (tC (.ty "bool")) tNil))) σ H (.bool (isa_bool d)) := by
  rw [← isD_bool]; exact g_isi h (ksm_bool d)
theorem g_isStr (h : G X te σ H d) : G X (tCB (rIsi K) (tCons te (tCons (tC (.ty "str")) tNil))) σ H (.bool (isa_str d)) := by
  rw [← isD_str]; exact g_isi h (ksm_str d)
theorem g_isList (h : G X te σ H d) : G X (tCB (rIsi K) (tCons te (tCons (tC (.ty "list")) tNil))) σ H (.bool (isa_list d)) := by
  rw [← isD_list]; exact g_isi h (ksm_list d)
theorem g_isTuple (h : G X te σ H d) : G X (tCB (rIsi K) (tCons te (tCons (tC (.ty "tuple")) tNil))) σ H (.bool (isa_tuple d)) := by
  rw [← isD_tuple]; exact g_isi h (ksm_tuple d)
theorem g_isDict (h : G X te σ H d) : G X (tCB (rIsi K) (tCons te (tCons (tC (.ty "dict")) tNil))) σ H (.bool (isa_dict d)) := by
  rw [← isD_dict]; exact g_isi h (ksm_dict d)
theorem g_len (t : Trk X H) (h : G X te σ H d) (hl : hasLen d = true) : G X (tCB (fun xs H Q => ∃ x n, xs = [x] ∧ LenV K x H n ∧ Q (V.int n) H) (tCons te tNil)) σ H (.int (lenD d : Int)) := g_cb t (ga_cons h ga_nil) (rf_len hl)
theorem g_listOf (t : Trk X H) (h : G X te σ H d) (hl : isSeq d = true) : G X (tCB (fun xs H Q => ∃ p ys, xs = [V.ref p] ∧ (SqL K H p ys ∨ SqT K H p ys) ∧ ∀ l, H l = none → Q (V.ref l) (upd H l (.lst ys))) (tCons te tNil)) σ H (.list (itemsD d)) := g_cb t (ga_cons h ga_nil) (rf_list hl)
theorem g_addI (t : Trk X H) {i j : Int} (ha : G X ta σ H (.int i)) (hb : G X tb σ H (.int j)) : G X (tOp rAddA ta tb) σ H (.int (i + j)) := g_op t ha hb (RD.or1 (rd_I0 (g := fun i j => i + j)))
theorem g_cat (t : Trk X H) {xs ys : List PyData} (ha : G X ta σ H (.list xs)) (hb : G X tb σ H (.list ys)) (hl : xs.length + ys.length ≤ 1000000) : G X (tOp rAddA ta tb) σ H (.list (xs ++ ys)) := g_op t ha hb (RD.or2 (RD.or1 (rd_cat hl)))
theorem g_sub (t : Trk X H) {i j : Int} (ha : G X ta σ H (.int i)) (hb : G X tb σ H (.int j)) : G X (tOp (rI0 fun i j => V.int (i - j)) ta tb) σ H (.int (i - j)) := g_op t ha hb (rd_I0 (g := fun i j => i - j))
theorem g_cmpI (t : Trk X H) {g : Int → Int → Bool} {i j : Int} (ha : G X ta σ H (.int i)) (hb : G X tb σ H (.int j)) : G X (tOp (rI0 fun i j => V.bl (g i j)) ta tb) σ H (.bool (g i j)) := g_op t ha hb rb_I0.rd
theorem gt_cmpI (t : Trk X H) {g : Int → Int → Bool} {i j : Int} (ha : G X ta σ H (.int i)) (hb : G X tb σ H (.int j)) : GT (tTest (tOp (rI0 fun i j => V.bl (g i j)) ta tb)) σ H (g i j) := gt_op t ha hb rb_I0
theorem g_ixL (t : Trk X H) {ds : List PyData} {i : Int} {z : PyData} (ha : G X ta σ H (.list ds)) (hb : G X tb σ H (.int i)) (h : atI ds i = some z) : G X (tOp (rIx K) ta tb) σ H z := g_op t ha hb (rd_ixL h)
theorem g_ixT (t : Trk X H) {ds : List PyData} {i : Int} {z : PyData} (ha : G X ta σ H (.tuple ds)) (hb : G X tb σ H (.int i)) (h : atI ds i = some z) : G X (tOp (rIx K) ta tb) σ H z := g_op t ha hb (rd_ixT h)
/-- an item of a list or tuple -/
theorem g_ix (t : Trk X H) {i : Int} {z : PyData} (ha : G X ta σ H d) (hs : isSeq d = true) (hb : G X tb σ H (.int i)) (h : atI (itemsD d) i = some z) : G X (tOp (rIx K) ta tb) σ H z := by
  cases d with
  | list ds => exact g_ixL t ha hb h
  | tuple ds => exact g_ixT t ha hb h
  | _ => cases hs
theorem g_eqD (t : Trk X H) {x y : PyData} (ha : G X ta σ H x) (hb : G X tb σ H y) (hd : noDict x = true) (he : noDict y = true) (hs : SeqAt.shaped x = true) (ht : SeqAt.shaped y = true) : G X (tOp (rEqD K) ta tb) σ H (.bool (PyData.eqv x y)) := g_op t ha hb (rb_eqD hd he hs ht).rd
theorem gt_eqD (t : Trk X H) {x y : PyData} (ha : G X ta σ H x) (hb : G X tb σ H y) (hd : noDict x = true) (he : noDict y = true) (hs : SeqAt.shaped x = true) (ht : SeqAt.shaped y = true) : GT (tTest (tOp (rEqD K) ta tb)) σ H (PyData.eqv x y) := gt_op t ha hb (rb_eqD hd he hs ht)
theorem gt_neD (t : Trk X H) {x y : PyData} (ha : G X ta σ H x) (hb : G X tb σ H y) (hd : noDict x = true) (he : noDict y = true) (hs : SeqAt.shaped x = true) (ht : SeqAt.shaped y = true) : GT (tTest (tOp (rNeD K) ta tb)) σ H (!PyData.eqv x y) := gt_op t ha hb (rb_neD hd he hs ht)
end
/-! ### a list or a tuple walked -/
def iSeq (K : PySem.W.Frag) (tl : TE) : TI := fun σ H R => tl σ H fun x H1 => ∃ c, x = V.ref c ∧ (((∃ zs, SqL K H1 c zs) ∧ R (Itl K c) H1) ∨ ((∃ zs, SqT K H1 c zs) ∧ R (Itt K c) H1))
theorem pi_seq {Y : Cx} {tg l : Expr} {tl : TE} (hl : PE Y l tl) : PI Y tg l (iSeq Y.K tl) := by
  constructor
  intro pn st sl hh RR inv rd
  refine thn (hl.run pn st sl hh _ inv rd) ?_
  rintro val st1 ⟨x, hh1, inv1, rel, c, rfl, alt⟩
  cases rel
  have fresh := inv1.hok.fresh (Nat.le_refl st1.heap.objs.size)
  have fpk : ∀ b ∈ [st1.heap.objs.size], _ := fun b hb => by
    have eb := List.mem_singleton.mp hb
    exact eb ▸ inv1.fpOk (Nat.le_refl _) fresh
  rcases alt with ⟨⟨zs, sq⟩, rest⟩ | ⟨⟨zs, sq⟩, rest⟩
  · obtain ⟨us, _, pl, _⟩ := inv1.list sq
    exact wpAny_pyIter_list pl.isList
      ⟨_, _, _, _, _, rfl, inv1.kept (t' := st1.toks) (fun _ _ z => Heap.get?_push_of_some _ z), turn_list c _,
        ⟨_, Heap.get?_push_size _ rfl, rfl, rfl⟩, fpk, rest⟩
  · obtain ⟨us, _, pl, _⟩ := inv1.tuple sq
    exact wpAny_pyIter_tuple (items := us.toArray) pl
      ⟨_, _, _, _, _, rfl, inv1.kept (t' := st1.toks) (fun _ _ z => Heap.get?_push_of_some _ z), turn_tuple c _,
        ⟨_, Heap.get?_push_size _ rfl, rfl, rfl⟩, fpk, rest⟩
theorem gi_seq {X : Addr → Prop} {σ : L2.St} {H : Hp} {te : TE} {K : PySem.W.Frag} {d : PyData} (h : G X te σ H d) (hs : isSeq d = true) : GI X (iSeq K te) σ H (itemsD d) := by
  cases d with
  | list ds =>
      intro H1 s R r
      refine h H1 s _ fun v H2 s2 rv => ?_
      obtain ⟨a, xs, rfl, n, e, rx⟩ := rv.lst_inv
      obtain ⟨a', e', _, rr⟩ := gi_list (K := K) (te := fun _ H Q => Q (.ref a) H) (σ := σ) (H := H2) (X := X) (ds := ds) (fun H5 s5 Q5 q5 => q5 _ H5 (Same.refl _) (rv.mono (Kp.of s5))) H2 (Same.refl _) R (fun J H3 s3 => r J H3 (s2.trans s3))
      cases e'
      exact ⟨a, rfl, .inl ⟨⟨xs, SqL.of e⟩, rr⟩⟩
  | tuple ds =>
      intro H1 s R r
      refine h H1 s _ fun v H2 s2 rv => ?_
      obtain ⟨a, xs, rfl, n, e, rx⟩ := rv.tup_inv
      obtain ⟨a', e', _, rr⟩ := gi_tup (K := K) (te := fun _ H Q => Q (.ref a) H) (σ := σ) (H := H2) (X := X) (ds := ds) (fun H5 s5 Q5 q5 => q5 _ H5 (Same.refl _) (rv.mono (Kp.of s5))) H2 (Same.refl _) R (fun J H3 s3 => r J H3 (s2.trans s3))
      cases e'
      exact ⟨a, rfl, .inr ⟨⟨xs, SqT.of e⟩, rr⟩⟩
  | _ => cases hs
/-! ### data that may be compared: words, ints, lists of words -/
theorem shaped_int (i : Int) : SeqAt.shaped (.int i) = true := by simp [SeqAt.shaped, PyData.canLay0, PyData.depth]
theorem shaped_str {s : Str} (h : PyData.strOk s = true) : SeqAt.shaped (.str s) = true := by simp [SeqAt.shaped, PyData.canLay0, PyData.depth, h]
theorem canLay_strs : ∀ {ws : List Str}, (∀ w ∈ ws, PyData.strOk w = true) → PyData.canLayAll0 (ws.map PyData.str) = true
  | [], _ => by simp [PyData.canLayAll0]
  | w :: ws, h => by
    have h1 := h w List.mem_cons_self
    have h2 := canLay_strs (ws := ws) fun v hv => h v (List.mem_cons_of_mem _ hv)
    simp [PyData.canLayAll0, PyData.canLay0, h1, h2]
theorem depth_strs : ∀ ws : List Str, PyData.depthAll (ws.map PyData.str) ≤ 1
  | [] => by simp [PyData.depthAll]
  | w :: ws => by
    have := depth_strs ws
    simp only [List.map_cons, PyData.depthAll, PyData.depth]
    omega
theorem shaped_strs {ws : List Str} (h : ∀ w ∈ ws, PyData.strOk w = true) : SeqAt.shaped (.list (ws.map PyData.str)) = true := by
  have := depth_strs ws
  have h2 : PyData.depth (.list (ws.map PyData.str)) ≤ 64 := by
    simp only [PyData.depth]
    omega
  show ((PyData.list (ws.map PyData.str)).canLay0 && decide ((PyData.list (ws.map PyData.str)).depth ≤ 64)) = true
  rw [Bool.and_eq_true]
  exact ⟨by simp only [PyData.canLay0]; exact canLay_strs h, decide_eq_true h2⟩
theorem noDict_strs : ∀ ws : List Str, noDicts (ws.map PyData.str) = true
  | [] => by simp [noDicts]
  | w :: ws => by simp [noDicts, noDict, noDict_strs ws]
theorem eqv_strs : ∀ ws zs : List Str, PyData.eqvAll (ws.map PyData.str) (zs.map PyData.str) = decide (ws = zs)
  | [], [] => by simp [PyData.eqvAll]
  | [], z :: zs => by simp [PyData.eqvAll]
  | w :: ws, [] => by simp [PyData.eqvAll]
  | w :: ws, z :: zs => by
    simp only [List.map_cons, PyData.eqvAll, PyData.eqv, eqv_strs ws zs]
    by_cases h : w = z
    · subst h
      simp
    · have : (w == z) = false := by simpa using h
      rw [this]
      simp [h]
/-! ### what is new -/
def Nw (H : Hp) (v : V) : Prop := ∀ a, v = .ref a → H a = none
theorem Nw.back {H H1 : Hp} {v : V} (s : Same H H1) (n : Nw H1 v) : Nw H v := fun a e => s.free (n a e)
theorem Nw.of {H : Hp} {p : Addr} (h : H p = none) : Nw H (.ref p) := fun a e => by cases e; exact h
def GN (X : Addr → Prop) (te : TE) (σ : L2.St) (H : Hp) (d : PyData) : Prop := ∀ H1, Same H H1 → ∀ Q : VK, (∀ v H2, Same H1 H2 → DX X H2 v d → Nw H1 v → Q v H2) → te σ H1 Q
def sp2N (pre : PyData → PyData → Prop) (f : PyData → PyData → PyData) : Sp := fun vs H Q _ => ∃ (X : Addr → Prop) (v1 v2 : V) (d1 d2 : PyData), vs = [v1, v2] ∧ Trk X H ∧ DX X H v1 d1 ∧ DX X H v2 d2 ∧ pre d1 d2 ∧ ∀ w H', Same H H' → DX X H' w (f d1 d2) → Nw H w → Q w H'
section
variable {X : Addr → Prop} {σ : L2.St} {H : Hp} {te ta tb tc : TE} {d d1 d2 d3 : PyData} {E : XK} {K : PySem.W.Frag} {D : Ends}
theorem GN.g (h : GN X te σ H d) : G X te σ H d := fun H1 s Q q => h H1 s Q fun v H2 s2 dv _ => q v H2 s2 dv
theorem GN.is {e : PyData} (h : GN X te σ H d) (e' : d = e) : GN X te σ H e := e' ▸ h
theorem gn_lst {ta : TA} {ds : List PyData} (t : Trk X H) (h : GA X ta σ H ds) (hl : ds.length ≤ 1000000) : GN X (tLst ta) σ H (.list ds) := fun H1 s Q q =>
  h H1 s _ fun vs H2 s2 rs => ⟨by rw [rs.length, sizeLine_eq]; omega, fun p hp => q _ _ (s2.trans (Same.upd hp)) (DX.newL ((t.mono s).mono s2) rs hp) (Nw.back s2 (Nw.of hp))⟩
theorem gn_tup {ta : TA} {ds : List PyData} (t : Trk X H) (h : GA X ta σ H ds) (hl : ds.length ≤ 1000000) : GN X (tTup ta) σ H (.tuple ds) := fun H1 s Q q =>
  h H1 s _ fun vs H2 s2 rs => ⟨by rw [rs.length, sizeLine_eq]; omega, fun p hp => q _ _ (s2.trans (Same.upd hp)) (DX.newT ((t.mono s).mono s2) rs hp) (Nw.back s2 (Nw.of hp))⟩
theorem gn_listOf (t : Trk X H) (h : G X te σ H d) (hl : isSeq d = true) : GN X (tCB (fun xs H Q => ∃ p ys, xs = [V.ref p] ∧ (SqL K H p ys ∨ SqT K H p ys) ∧ ∀ l, H l = none → Q (V.ref l) (upd H l (.lst ys))) (tCons te tNil)) σ H (.list (itemsD d)) := fun H1 s Q q =>
  h H1 s _ fun v H2 s2 r => by
    cases r with
    | lst n e r => exact ⟨_, _, rfl, .inl (SqL.of e), fun l hl => q _ _ (s2.trans (Same.upd hl)) (DX.newL ((t.mono s).mono s2) r hl) (Nw.back s2 (Nw.of hl))⟩
    | tup n e r => exact ⟨_, _, rfl, .inr (SqT.of e), fun l hl => q _ _ (s2.trans (Same.upd hl)) (DX.newL ((t.mono s).mono s2) r hl) (Nw.back s2 (Nw.of hl))⟩
    | _ => exact absurd hl (by simp [isSeq])
theorem gn_cat (t : Trk X H) {xs ys : List PyData} (ha : G X ta σ H (.list xs)) (hb : G X tb σ H (.list ys)) (hl : xs.length + ys.length ≤ 1000000) : GN X (tOp rAddA ta tb) σ H (.list (xs ++ ys)) := fun H1 s Q q =>
  ha H1 s _ fun u H2 s2 ru => hb H2 (s.trans s2) _ fun v H3 s3 rv => by
    obtain ⟨a, us, rfl, _, ea, rs⟩ := (ru.mono (Kp.of s3)).lst_inv
    obtain ⟨b, ws, rfl, _, eb, rt⟩ := rv.lst_inv
    exact .inr (.inl ⟨a, b, us, ws, rfl, rfl, ea, eb, by rw [rs.length, rt.length, sizeLine_eq]; omega, fun p hp => q _ _ ((s2.trans s3).trans (Same.upd hp)) (DX.newL (((t.mono s).mono s2).mono s3) (rs.append rt) hp) (Nw.back (s2.trans s3) (Nw.of hp))⟩)
theorem gn_call2 {pre : PyData → PyData → Prop} {f : PyData → PyData → PyData} (t : Trk X H) (h1 : G X ta σ H d1) (h2 : G X tb σ H d2) (hp : pre d1 d2) : GN X (tCall (sp2N pre f) [] E (tCons ta (tCons tb tNil))) σ H (f d1 d2) := fun H1 s Q q =>
  h1 H1 s _ fun v H2 s2 r => h2 H2 (s.trans s2) _ fun v2 H3 s3 r2 => ⟨X, v, v2, d1, d2, rfl, ((t.mono s).mono s2).mono s3, r.mono (Kp.of s3), r2, hp, fun w H' s4 dw nw => q w H' ((s2.trans s3).trans s4) dw (Nw.back (s2.trans s3) nw)⟩
theorem s_retN (h : GN X te σ H d) (q : ∀ w H', Same H H' → DX X H' w d → Nw H w → D.rt w H') : tRet te D σ H := h H (Same.refl H) _ q
end
section
variable {P : Program} {w : World} {K : PySem.W.Frag} {mg : Str → Option Value} {base : Heap} {x qual : Str} {st : Stmt} {f : Addr} {fd : FuncData} {N : List Str} {k : Nat} {a b c : Str}
theorem ok2N {pre : PyData → PyData → Prop} {g : PyData → PyData → PyData} (F : Fun K x qual st f fd) (S : FnScope N [a, b] (defScope st)) (hN : 2 ≤ N.length)
    (hbody : ∀ (cdv : Value) (A : Around) (outer : List Env) (s : Shared) (H : Hp) (E : XK) (X : Addr → Prop) (d1 d2 : PyData) (Q : VK), Room k (A.deeper (envOfC qual (defScope st) s.heap.objs.size f cdv)) → Trk X H → pre d1 d2 → (∀ w H', Same H H' → DX X H' w (g d1 d2) → Nw H w → Q w H') →
      ∃ t, PSs (cxOf CX0 P w K mg base N qual (defScope st) f cdv A outer s H E).nox (defBody st) t ∧ ∀ σ, EnvOk X H σ (pad N [.dat d1, .dat d2]) → t { nx := fun _ H' => Q .non H', rt := Q } σ H) : FnOk P w K mg base CX0 (k + 1) f fd [a, b] (sp2N pre g) := by
  refine F.ok S (fun vs H Q E h => ?_) (fun cdv A outer s H vs Q E hr h => ?_)
  · obtain ⟨X, v1, v2, d1, d2, rfl, _⟩ := h
    rfl
  · obtain ⟨X, v1, v2, d1, d2, rfl, t, r1, r2, hp, q⟩ := h
    obtain ⟨tt, h1, h2⟩ := hbody cdv A outer s H E X d1 d2 Q hr t hp q
    exact ⟨tt, h1, h2 _ (env2 r1 r2 hN)⟩
end
/-! ### a new list is no part of itself -/
mutual
theorem DX.fn {X X' : Addr → Prop} {H : Hp} : ∀ {v : V} {d d' : PyData}, DX X H v d → DX X' H v d' → d = d'
  | _, _, _, .non, k => by cases k; rfl
  | _, _, _, .bl b, k => by cases k; rfl
  | _, _, _, .int i, k => by cases k; rfl
  | _, _, _, .str x, k => by cases k; rfl
  | _, _, _, .lst n e r, k => by
    cases k with
    | lst n2 e2 r2 =>
      rw [e] at e2
      cases e2
      rw [DXs.fn r r2]
    | tup n2 e2 r2 => rw [e] at e2; cases e2
    | dic n2 e2 r2 => rw [e] at e2; cases e2
  | _, _, _, .tup n e r, k => by
    cases k with
    | tup n2 e2 r2 =>
      rw [e] at e2
      cases e2
      rw [DXs.fn r r2]
    | lst n2 e2 r2 => rw [e] at e2; cases e2
    | dic n2 e2 r2 => rw [e] at e2; cases e2
  | _, _, _, .dic n e r, k => by
    cases k with
    | dic n2 e2 r2 =>
      rw [e] at e2
      cases e2
      rw [DXk.fn r r2]
    | lst n2 e2 r2 => rw [e] at e2; cases e2
    | tup n2 e2 r2 => rw [e] at e2; cases e2
theorem DXs.fn {X X' : Addr → Prop} {H : Hp} : ∀ {v : List V} {d d' : List PyData}, DXs X H v d → DXs X' H v d' → d = d'
  | _, _, _, .nil, k => by cases k; rfl
  | _, _, _, .cons h r, k => by
    cases k with
    | cons h2 r2 => rw [DX.fn h h2, DXs.fn r r2]
theorem DXk.fn {X X' : Addr → Prop} {H : Hp} : ∀ {v : List (Key × V)} {d d' : List (PyData × PyData)}, DXk X H v d → DXk X' H v d' → d = d'
  | _, _, _, .nil, k => by cases k; rfl
  | _, _, _, .cons h r, k => by
    cases k with
    | cons h2 r2 => rw [DX.fn h h2, DXk.fn r r2]
end
mutual
theorem DX.apart {X : Addr → Prop} {H : Hp} {a : Addr} {D : PyData} (hD : DX X H (.ref a) D) : ∀ {v : V} {d : PyData}, DX X H v d → sizeOf d < sizeOf D → DX (fun b => X b ∨ b = a) H v d
  | _, _, .non, _ => .non
  | _, _, .bl b, _ => .bl b
  | _, _, .int i, _ => .int i
  | _, _, .str x, _ => .str x
  | .ref b, .list ds, .lst n e r, hs => by
    refine .lst (fun x => x.elim n fun q => ?_) e (DXs.apart hD r (by simp at hs; omega))
    subst q
    have e2 := hD.fn (X' := X) (DX.lst n e r)
    rw [e2] at hs
    omega
  | .ref b, .tuple ds, .tup n e r, hs => by
    refine .tup (fun x => x.elim n fun q => ?_) e (DXs.apart hD r (by simp at hs; omega))
    subst q
    have e2 := hD.fn (X' := X) (DX.tup n e r)
    rw [e2] at hs
    omega
  | .ref b, .dict ds, .dic n e r, hs => by
    refine .dic (fun x => x.elim n fun q => ?_) e (DXk.apart hD r (by simp at hs; omega))
    subst q
    have e2 := hD.fn (X' := X) (DX.dic n e r)
    rw [e2] at hs
    omega
theorem DXs.apart {X : Addr → Prop} {H : Hp} {a : Addr} {D : PyData} (hD : DX X H (.ref a) D) : ∀ {v : List V} {d : List PyData}, DXs X H v d → sizeOf d < sizeOf D → DXs (fun b => X b ∨ b = a) H v d
  | _, _, .nil, _ => .nil
  | _, _, .cons h r, hs => .cons (DX.apart hD h (by simp at hs; omega)) (DXs.apart hD r (by simp at hs; omega))
theorem DXk.apart {X : Addr → Prop} {H : Hp} {a : Addr} {D : PyData} (hD : DX X H (.ref a) D) : ∀ {v : List (Key × V)} {d : List (PyData × PyData)}, DXk X H v d → sizeOf d < sizeOf D → DXk (fun b => X b ∨ b = a) H v d
  | _, _, .nil, _ => .nil
  | _, _, .cons h r, hs => .cons (DX.apart hD h (by simp at hs; omega)) (DXk.apart hD r (by simp at hs; omega))
end
/-- the items of a list, apart from the list itself -/
theorem DX.inner {X : Addr → Prop} {H : Hp} {v : V} {ds : List PyData} (h : DX X H v (.list ds)) : ∃ a xs, v = .ref a ∧ ¬ X a ∧ H a = some (.lst xs) ∧ DXs (fun b => X b ∨ b = a) H xs ds := by
  cases h with
  | lst n e r => exact ⟨_, _, rfl, n, e, DXs.apart (DX.lst n e r) r (by simp)⟩
end KD

namespace KD
open PySem PySem.Spec PyProof.Rows L2
/-! ### own errors with one field -/
def spInit (C : Addr) (f : Str) : Sp := fun vs H Q _ => ∃ (a : Addr) (y : V), vs = [.ref a, y] ∧ H a = some (exo a C none) ∧ ∀ d, H d = none → d ≠ a → Q .non (upd (upd H d (exd d [(f, y)])) a (exo a C (some d)))
structure Ec (P : Program) (w : World) (K : PySem.W.Frag) (mg : Str → Option Value) (base : Heap) (x f : Str) (C : Addr) : Prop where
  gC : mg x = some (.ref C)
  T : OexC K C
  xf : XfC K C
  noF : PySem.W.findIn K (.ref C) f = some none
  ini : ∃ (fI : Addr) (fd : FuncData), PySem.W.findIn K (.ref C) "__init__" = some (some (.ref fI)) ∧ PySem.W.typeIn K (.ref fI) = some (.type "function") ∧ FnOk P w K mg base CX0 1 fI fd ["self", f] (spInit C f) ∧ Binds K fd ["self", f] []
section
variable {P : Program} {w : World} {K : PySem.W.Frag} {mg : Str → Option Value} {base : Heap} {C : Addr} {x f qual : Str} {st : Stmt} {fI : Addr} {fd : FuncData}
theorem ok_initF (F : Fun K "__init__" qual st fI fd) (S : FnScope [("self" : Str), f] [("self" : Str), f] (defScope st)) (T : OexC K C) (hno : PySem.W.findIn K (.ref C) f = some none) {p1 p2 p3 p4 : Pos}
    (hb : defBody st = [.Assign [.Attribute (.Name ("self" : Str) p1) f p2] (.Name f p3) p4]) (v0 : (defScope st).names.lookup ("self" : Str) = some .local) (v1 : (defScope st).names.lookup f = some .local) (hd : (f == ("__debug__" : Str)) = false) (hcd : (f == ("__classdict__" : Str)) = false)
    (hs : ∀ env : Env, swapsWith (.Name f p3) (some (.Attribute (.Name ("self" : Str) p1) f p2)) p4.line env = pure false) : FnOk P w K mg base CX0 1 fI fd ["self", f] (spInit C f) := by
  refine F.ok S (fun vs H Q E h => ?_) (fun cdv A outer s H vs Q E hr h => ?_)
  · obtain ⟨a, y, rfl, _⟩ := h
    rfl
  · obtain ⟨a, y, rfl, ha, k⟩ := h
    refine ⟨_, by
      rw [hb]
      exact pss_one (ps_ost (pe_var (i := 0) rfl (.inl v0) (by decide) (by decide)) (pe_var (i := 1) rfl (.inl v1) hd hcd) (hs _)), ?_⟩
    exact ⟨y, rfl, .ref a, rfl, a, C, rfl, T, hno, .inl ⟨ha, fun d hd hne => k d hd hne⟩⟩
end
inductive Out where
  | val (d : PyData) | err (C : Addr) (f : Str) (d : PyData)
def EndQ (X : Addr → Prop) (H : Hp) (o : Out) (Q : VK) (E : XK) : Prop := (∀ r, o = .val r → ∀ w H', Same H H' → DX X H' w r → Nw H w → Q w H') ∧ (∀ C fl r, o = .err C fl r → ∀ a w H', Same H H' → H' a = some (.xd [(fl, w)]) → DX X H' w r → E (.ref C) (some a) H')
theorem EndQ.mono {X : Addr → Prop} {H H1 : Hp} {o : Out} {Q : VK} {E : XK} (s : Same H H1) (h : EndQ X H o Q E) : EndQ X H1 o Q E := ⟨fun r e w H' k dw nw => h.1 r e w H' (s.trans k) dw (Nw.back s nw), fun C fl r e a w H' k => h.2 C fl r e a w H' (s.trans k)⟩
def spX1 (pre : PyData → Prop) (f : PyData → Out) : Sp := fun vs H Q E => ∃ (X : Addr → Prop) (v : V) (d : PyData), vs = [v] ∧ Trk X H ∧ DX X H v d ∧ pre d ∧ EndQ X H (f d) Q E
def spX2 (pre : PyData → PyData → Prop) (f : PyData → PyData → Out) : Sp := fun vs H Q E => ∃ (X : Addr → Prop) (v1 v2 : V) (d1 d2 : PyData), vs = [v1, v2] ∧ Trk X H ∧ DX X H v1 d1 ∧ DX X H v2 d2 ∧ pre d1 d2 ∧ EndQ X H (f d1 d2) Q E
section
variable {X : Addr → Prop} {σ : L2.St} {H : Hp} {ta tb : TE} {d d1 d2 : PyData} {E : XK} {Γ : List Sv} {D : Ends} {tz : TS}
/-- the reading of «raise C(e)» -/
theorem mk_err {C : Addr} {f : Str} (h : G X ta σ H d) (q : ∀ a w H', Same H H' → H' a = some (.xd [(f, w)]) → DX X H' w d → E (.ref C) (some a) H') : tMkO C (spInit C f) [] (tCons ta tNil) σ H E :=
  h H (Same.refl H) _ fun v H1 s r => ⟨by show 1 ≤ 1000; decide, fun a ha => ⟨a, v, rfl, upd_same, fun dd hd hne => by
    have hd1 : H1 dd = none := by rw [upd_ne hne] at hd; exact hd
    refine ⟨rfl, dd, _, upd_same, by rw [upd_ne hne, upd_same], hd1, q dd v _ (fun b o e => ?_) upd_same (r.mono (Kp.of ?_))⟩
    · have e1 := s b o e
      have hb : b ≠ a := ne_of_none e1 ha
      rw [upd_ne (ne_of_none e1 hd1)]
      show (if b = a then none else _) = some o
      rw [if_neg hb, upd_ne hb, upd_ne (ne_of_none e1 hd1), upd_ne hb]
      exact e1
    · intro b o e1
      have hb : b ≠ a := ne_of_none e1 ha
      rw [upd_ne (ne_of_none e1 hd1)]
      show (if b = a then none else _) = some o
      rw [if_neg hb, upd_ne hb, upd_ne (ne_of_none e1 hd1), upd_ne hb]
      exact e1⟩⟩
/-- a call that may raise -/
theorem c_X1 {pre : PyData → Prop} {f : PyData → Out} {Q : VK} (t : Trk X H) (h : G X ta σ H d) (hp : pre d) (q : EndQ X H (f d) Q E) : tCall (spX1 pre f) [] E (tCons ta tNil) σ H Q :=
  h H (Same.refl H) _ fun v H1 s r => ⟨X, v, d, rfl, t.mono s, r, hp, q.mono s⟩
theorem c_X2 {pre : PyData → PyData → Prop} {f : PyData → PyData → Out} {Q : VK} (t : Trk X H) (h1 : G X ta σ H d1) (h2 : G X tb σ H d2) (hp : pre d1 d2) (q : EndQ X H (f d1 d2) Q E) : tCall (spX2 pre f) [] E (tCons ta (tCons tb tNil)) σ H Q :=
  h1 H (Same.refl H) _ fun v H1 s r => h2 H1 s _ fun v2 H2 s2 r2 => ⟨X, v, v2, d1, d2, rfl, (t.mono s).mono s2, r.mono (Kp.of s2), r2, hp, q.mono (s.trans s2)⟩
theorem q_setX1 {i : Nat} {pre : PyData → Prop} {f : PyData → Out} (En : EnvOk X H σ Γ) (t : Trk X H) (h : G X ta σ H d) (hp : pre d) (k : ∀ r, f d = .val r → ∀ H1 v, Same H H1 → EnvOk X H1 (σ.set i (some v)) (Γ.set i (.dat r)) → tz D (σ.set i (some v)) H1)
    (ke : ∀ C fl r, f d = .err C fl r → ∀ a w H', Same H H' → H' a = some (.xd [(fl, w)]) → DX X H' w r → E (.ref C) (some a) H') : tSeq (tAsg (tCall (spX1 pre f) [] E (tCons ta tNil)) (gName i)) tz D σ H :=
  c_X1 t h hp ⟨fun r e v H1 s dv _ => k r e H1 v s ((En.same s).set dv), ke⟩
theorem gn_X1 {pre : PyData → Prop} {f : PyData → Out} {r : PyData} (t : Trk X H) (h : G X ta σ H d) (hp : pre d) (e : f d = .val r) : GN X (tCall (spX1 pre f) [] E (tCons ta tNil)) σ H r := fun H1 s Q q =>
  c_X1 (t.mono s) (h.mono s) hp ⟨fun r' e' w H' k dw nw => by rw [e] at e'; cases e'; exact q w H' k dw nw, fun C fl r' e' => by rw [e] at e'; cases e'⟩
theorem gn_X2 {pre : PyData → PyData → Prop} {f : PyData → PyData → Out} {r : PyData} (t : Trk X H) (h1 : G X ta σ H d1) (h2 : G X tb σ H d2) (hp : pre d1 d2) (e : f d1 d2 = .val r) : GN X (tCall (spX2 pre f) [] E (tCons ta (tCons tb tNil))) σ H r := fun H1 s Q q =>
  c_X2 (t.mono s) (h1.mono s) (h2.mono s) hp ⟨fun r' e' w H' k dw nw => by rw [e] at e'; cases e'; exact q w H' k dw nw, fun C fl r' e' => by rw [e] at e'; cases e'⟩
/-- .. of which it is known that it doesn't -/
theorem g_X1 {pre : PyData → Prop} {f : PyData → Out} {r : PyData} (t : Trk X H) (h : G X ta σ H d) (hp : pre d) (e : f d = .val r) : G X (tCall (spX1 pre f) [] E (tCons ta tNil)) σ H r := fun H1 s Q q =>
  c_X1 (t.mono s) (h.mono s) hp ⟨fun r' e' w H' k dw _ => by rw [e] at e'; cases e'; exact q w H' k dw, fun C fl r' e' => by rw [e] at e'; cases e'⟩
theorem g_X2 {pre : PyData → PyData → Prop} {f : PyData → PyData → Out} {r : PyData} (t : Trk X H) (h1 : G X ta σ H d1) (h2 : G X tb σ H d2) (hp : pre d1 d2) (e : f d1 d2 = .val r) : G X (tCall (spX2 pre f) [] E (tCons ta (tCons tb tNil))) σ H r := fun H1 s Q q =>
  c_X2 (t.mono s) (h1.mono s) (h2.mono s) hp ⟨fun r' e' w H' k dw _ => by rw [e] at e'; cases e'; exact q w H' k dw, fun C fl r' e' => by rw [e] at e'; cases e'⟩
end
section
variable {P : Program} {w : World} {K : PySem.W.Frag} {mg : Str → Option Value} {base : Heap} {x qual : Str} {st : Stmt} {f : Addr} {fd : FuncData} {N : List Str} {k : Nat} {a b c : Str}
theorem okX1 {pre : PyData → Prop} {g : PyData → Out} (F : Fun K x qual st f fd) (S : FnScope N [a] (defScope st)) (hN : 1 ≤ N.length)
    (hbody : ∀ (cdv : Value) (A : Around) (outer : List Env) (s : Shared) (H : Hp) (E : XK) (X : Addr → Prop) (d : PyData) (Q : VK), Room k (A.deeper (envOfC qual (defScope st) s.heap.objs.size f cdv)) → Trk X H → pre d → EndQ X H (g d) Q E →
      ∃ t, PSs (cxOf (L2.CX P w) P w K mg base N qual (defScope st) f cdv A outer s H E) (defBody st) t ∧ ∀ σ, EnvOk X H σ (pad N [.dat d]) → t { nx := fun _ H' => Q .non H', rt := Q } σ H) : FnOk P w K mg base (L2.CX P w) (k + 1) f fd [a] (spX1 pre g) := by
  refine F.okX S (fun vs H Q E h => ?_) (fun cdv A outer s H vs Q E hr h => ?_)
  · obtain ⟨X, v, d, rfl, _⟩ := h
    rfl
  · obtain ⟨X, v, d, rfl, t, hd, hp, q⟩ := h
    obtain ⟨tt, h1, h2⟩ := hbody cdv A outer s H E X d Q hr t hp q
    exact ⟨tt, h1, h2 _ (env1 hd hN)⟩
theorem okX2 {pre : PyData → PyData → Prop} {g : PyData → PyData → Out} (F : Fun K x qual st f fd) (S : FnScope N [a, b] (defScope st)) (hN : 2 ≤ N.length)
    (hbody : ∀ (cdv : Value) (A : Around) (outer : List Env) (s : Shared) (H : Hp) (E : XK) (X : Addr → Prop) (d1 d2 : PyData) (Q : VK), Room k (A.deeper (envOfC qual (defScope st) s.heap.objs.size f cdv)) → Trk X H → pre d1 d2 → EndQ X H (g d1 d2) Q E →
      ∃ t, PSs (cxOf (L2.CX P w) P w K mg base N qual (defScope st) f cdv A outer s H E) (defBody st) t ∧ ∀ σ, EnvOk X H σ (pad N [.dat d1, .dat d2]) → t { nx := fun _ H' => Q .non H', rt := Q } σ H) : FnOk P w K mg base (L2.CX P w) (k + 1) f fd [a, b] (spX2 pre g) := by
  refine F.okX S (fun vs H Q E h => ?_) (fun cdv A outer s H vs Q E hr h => ?_)
  · obtain ⟨X, v1, v2, d1, d2, rfl, _⟩ := h
    rfl
  · obtain ⟨X, v1, v2, d1, d2, rfl, t, r1, r2, hp, q⟩ := h
    obtain ⟨tt, h1, h2⟩ := hbody cdv A outer s H E X d1 d2 Q hr t hp q
    exact ⟨tt, h1, h2 _ (env2 r1 r2 hN)⟩
end
section
variable {X : Cx} {k j : Nat} {x f : Str} {ps : List Str} {sp : Sp} {e : Expr} {es : List Expr} {p pos pos2 : Pos} {ta : TA} {E : XK} {C : Addr}
/-- a def that may raise, called within one that lets it out -/
theorem pe_ownX (O : Own X.prog X.w X.K X.mg X.base (L2.CX X.prog X.w) k x ps sp) (hr : Room j X.A) (hk : k ≤ j) (tk : Takes X (fun cls d _ H => E cls d H)) (hg : Gl X x) (ha : PA X (e :: es) ta) (hdb : (x == ("__debug__" : Str)) = false := by decide)
    (he : starEach (e :: es) X.env = (false, eval e X.env) :: starEach es X.env := by rfl) (hpl : (backTo pos (starEach es X.env)).any (·.1) = false := by rfl) : PE X (.Call (.Name x p) (e :: es) [] pos) (tCall sp [] E ta) := by
  obtain ⟨g, fd, h1, h2, h3, h4⟩ := O.ex
  exact pe_call h4 (hr.mono hk) hg h1 h2 h3 .nil (passes_call tk fun _ _ _ _ h => h) ha hdb he hpl
/-- raise C(e) -/
theorem ps_err {W : WX} (hc : X.calm = true) (T : Ec X.prog X.w X.K X.mg X.base x f C) (hr : Room j X.A) (hk : 2 ≤ j) (tk : Takes X W) (hg : Gl X x) {ta : TE} (ha : PA X [e] (tCons ta tNil)) (hdb : (x == ("__debug__" : Str)) = false := by decide)
    (he : starEach (e :: []) X.env = (false, eval e X.env) :: starEach [] X.env := by rfl) (hpl : (backTo pos (starEach [] X.env)).any (·.1) = false := by rfl) :
    PS X (.Raise (some (.Call (.Name x p) [e] [] pos)) none pos2) (fun _ σ H => tMkO C (spInit C f) [] (tCons ta tNil) σ H fun cls d H' => W cls d σ H') := by
  obtain ⟨fI, fd, h1, h2, h3, h4⟩ := T.ini
  exact ps_raise hc tk (pmk_oex T.T h1 h2 h3 (hr.mono hk) h4 .nil (pass0) hg T.gC ha hdb he hpl)
end
end KD

/-! repr of data over the abstract heap. -/
namespace KD
open PySem PySem.Spec PyProof.Rows L2
mutual
/-- shown in short: its ints are small, its dicts are empty -/
def shw : PyData → Bool
  | .int i => decide (i.natAbs.log2 < 1920)
  | .list ds => shws ds
  | .tuple ds => shws ds
  | .dict ks => ks.isEmpty
  | _ => true
def shws : List PyData → Bool
  | [] => true
  | d :: ds => shw d && shws ds
end
section
variable {X : Cx} {pins : List (Addr × Obj)} {σ : L2.St} {H : Hp} {s : Shared} {X0 : Addr → Prop}
/-- addresses of data that are so deep at most -/
def Low (X0 : Addr → Prop) (H : Hp) (n : Nat) (bs : List Addr) : Prop := ∀ b ∈ bs, ∃ d, DX X0 H (.ref b) d ∧ d.depth ≤ n
theorem Low.mono {n m : Nat} {bs : List Addr} (h : Low X0 H n bs) (k : n ≤ m) : Low X0 H m bs := fun b hb => by
  obtain ⟨d, r, e⟩ := h b hb
  exact ⟨d, r, Nat.le_trans e k⟩
theorem Low.app {n : Nat} {bs cs : List Addr} (h : Low X0 H n bs) (k : Low X0 H n cs) : Low X0 H n (bs ++ cs) := fun b hb => (List.mem_append.mp hb).elim (h b) (k b)
theorem Low.not {n : Nat} {bs : List Addr} {a : Addr} {d : PyData} (h : Low X0 H n bs) (r : DX X0 H (.ref a) d) (k : n < d.depth) : a ∉ bs := fun hm => by
  obtain ⟨e, r2, q⟩ := h a hm
  rw [← r.fn r2] at q
  omega
theorem Low.cons {n : Nat} {bs : List Addr} {a : Addr} {d : PyData} (h : Low X0 H n bs) (r : DX X0 H (.ref a) d) (k : n ≤ d.depth) : Low X0 H d.depth (a :: bs) := fun b hb => by
  rcases List.mem_cons.mp hb with rfl | hb
  · exact ⟨d, r, Nat.le_refl _⟩
  · exact h.mono k b hb
mutual
theorem reprK_dx (I : L2.Inv X pins σ H s) : ∀ {v : V} {d : PyData} {u : Value}, DX X0 H v d → RelV v u → shw d = true → d.shown.length ≤ sizeLine → ∃ bs, Low X0 H d.depth bs ∧ ReprK X.prog X.w bs s.heap d.depth u d.shown
  | _, _, _, .non, r, _, _ => by
    cases r
    exact ⟨[], (fun _ h => by cases h), by simp only [PyData.shown]; exact .of_is ReprIs.none _ _ _⟩
  | _, _, _, .bl b, r, _, _ => by
    cases r
    exact ⟨[], (fun _ h => by cases h), by simp only [PyData.shown]; exact .of_is (ReprIs.bool b) _ _ _⟩
  | _, _, _, .int i, r, h, _ => by
    obtain ⟨t, rfl⟩ := r
    exact ⟨[], (fun _ h => by cases h), by simp only [PyData.shown]; exact .of_is (ReprIs.int t (by simpa [shw] using h)) _ _ _⟩
  | _, _, _, .str x, r, _, hz => by
    obtain ⟨t, rfl⟩ := r
    exact ⟨[], (fun _ h => by cases h), by simp only [PyData.shown]; exact .of_is (ReprIs.str x t (by simpa only [PyData.shown] using hz)) _ _ _⟩
  | _, _, _, .lst (a := a) (xs := xs) (ds := ds) n e r, ru, h, hz => by
    cases ru
    obtain ⟨its, rv, ⟨o, k, ho, hc, _, hd⟩, _⟩ := I.list (SqL.of e)
    have long : (listText (PyData.shownAll ds)).length ≤ sizeLine := by simpa only [PyData.shown] using hz
    obtain ⟨bs, low, all⟩ := reprAll_dx I r rv (by simpa [shw] using h) fun t ht => Nat.le_trans (listText_mem_le ht) long
    have whole : DX X0 H (.ref a) (.list ds) := .lst n e r
    have fresh : a ∉ bs := low.not whole (by simp only [PyData.depth]; omega)
    refine ⟨a :: bs, low.cons whole (by simp only [PyData.depth]; omega), ?_⟩
    simp only [PyData.depth, PyData.shown]
    cases its with
    | nil =>
      cases ds with
      | nil =>
        simp only [PyData.shownAll, listText_nil]
        exact ReprK.listEmpty ho hc hd
      | cons d ds => cases r; cases rv
    | cons y its => exact ReprK.list ho hc hd fresh (by simpa using all.length_eq) fun i z q => all.item i z (by simpa using q)
  | _, _, _, .tup (a := a) (xs := xs) (ds := ds) n e r, ru, h, hz => by
    cases ru
    obtain ⟨its, rv, ⟨o, ho, hc, k, hd⟩, _⟩ := I.tuple (SqT.of e)
    have long : (tupleText (PyData.shownAll ds)).length ≤ sizeLine := by simpa only [PyData.shown] using hz
    obtain ⟨bs, low, all⟩ := reprAll_dx I r rv (by simpa [shw] using h) fun t ht => Nat.le_trans (tupleText_mem_le ht) long
    have whole : DX X0 H (.ref a) (.tuple ds) := .tup n e r
    have fresh : a ∉ bs := low.not whole (by simp only [PyData.depth]; omega)
    refine ⟨a :: bs, low.cons whole (by simp only [PyData.depth]; omega), ?_⟩
    simp only [PyData.depth, PyData.shown]
    exact ReprK.tuple ho hc hd fresh all
  | _, _, _, .dic (a := a) (kvs := kvs) (ks := ks) n e r, ru, h, hz => by
    cases ru
    have e0 : ks = [] := by simpa [shw] using h
    subst e0
    cases r
    obtain ⟨_, hsys, vs, kv, o, es, ep, ho, ex, hd, _, pr, _⟩ := I.hok a _ e
    cases kv
    have whole : DX X0 H (.ref a) (.dict []) := .dic n e .nil
    refine ⟨a :: [], Low.cons (n := 0) (fun _ h => by cases h) whole (Nat.zero_le _), ?_⟩
    have he : es.toList = [] := by
      generalize es.toList = l at pr
      cases pr
      rfl
    have R : ReprEntriesK X.prog X.w [] s.heap 0 es.toList [] := by
      rw [he]
      exact .nil
    have := ReprK.dict ho ex.1 hd hsys (as := []) (by simp) R
    simpa [PyData.depth, PyData.depthKv, PyData.shown, PyData.shownKv] using this
theorem reprAll_dx (I : L2.Inv X pins σ H s) : ∀ {vs : List V} {ds : List PyData} {us : List Value}, DXs X0 H vs ds → Vals vs us → shws ds = true → (∀ t ∈ PyData.shownAll ds, t.length ≤ sizeLine) → ∃ bs, Low X0 H (PyData.depthAll ds) bs ∧ ReprAllK X.prog X.w bs s.heap (PyData.depthAll ds) us (PyData.shownAll ds)
  | _, _, _, .nil, r, _, _ => by
    cases r
    exact ⟨[], (fun _ h => by cases h), by simp only [PyData.shownAll]; exact .nil⟩
  | _, _, _, .cons (d := d) (ds := ds) h rs, r, hs, hz => by
    cases r with
    | cons r1 r2 =>
      have hs' : shw d = true ∧ shws ds = true := by simpa [shws] using hs
      obtain ⟨b1, l1, k1⟩ := reprK_dx I h r1 hs'.1 (hz _ (by simp only [PyData.shownAll]; exact List.mem_cons_self))
      obtain ⟨b2, l2, k2⟩ := reprAll_dx I rs r2 hs'.2 fun t ht => hz t (by simp only [PyData.shownAll]; exact List.mem_cons_of_mem _ ht)
      refine ⟨b1 ++ b2, ?_, ?_⟩
      · simp only [PyData.depthAll]
        exact (l1.mono (Nat.le_max_left _ _)).app (l2.mono (Nat.le_max_right _ _))
      · simp only [PyData.depthAll, PyData.shownAll]
        exact .cons ((k1.more fun b hb => List.mem_append_left _ hb).level_le (Nat.le_max_left _ _)) (k2.more_le (fun b hb => List.mem_append_right _ hb) (Nat.le_max_right _ _))
end
end
/-- repr of a list of data -/
def rReprL : List V → Hp → VK → Prop := fun xs H Q => ∃ (X0 : Addr → Prop) (v : V) (ds : List PyData), xs = [v] ∧ DX X0 H v (.list ds) ∧ ds ≠ [] ∧ shws ds = true ∧ PyData.depthAll ds ≤ 40 ∧ (PyData.shown (.list ds)).length ≤ sizeLine ∧ Q (.str (PyData.shown (.list ds))) H
theorem call_reprL {X : Cx} (hg : X.A.guards = some []) (hu : X.A.units + 64 < cLine) : CallR X (.builtin "repr") rReprL := by
  intro pins s σ H xs us Q I r h
  obtain ⟨X0, v, ds, rfl, hd, hne, hs, hdp, hz, q⟩ := h
  cases r with
  | cons ru rn =>
    cases rn
    cases hd with
    | @lst a xs _ n e rx =>
      cases ru
      obtain ⟨its, rv, ⟨o, k, ho, hc, _, hd⟩, _⟩ := I.list (SqL.of e)
      have long : (listText (PyData.shownAll ds)).length ≤ sizeLine := by simpa only [PyData.shown] using hz
      obtain ⟨bs, low, all⟩ := reprAll_dx I rx rv hs fun t ht => Nat.le_trans (listText_mem_le ht) long
      have whole : DX X0 H (.ref a) (.list ds) := .lst n e rx
      have fresh : a ∉ bs := low.not whole (by simp only [PyData.depth]; omega)
      cases its with
      | nil =>
        cases rv
        cases rx
        exact absurd rfl hne
      | cons y its =>
        refine call_repr_slot (T := "list") (idr := "list.__repr__") (by omega) ⟨o, ho, hc⟩ F.slot_list_repr.toG ?_
        refine call_list_reprK ho hc hd fresh (by simpa using all.length_eq) (fun i z q => all.item i z (by simpa using q)) hg (fun b _ => Clear.nil b) (by show X.A.units + 1 + (PyData.depthAll ds + 1) < cLine; omega) (fun _ _ z => z) (fun h' t tk hk => ?_) long
        refine ⟨_, _, rfl, .str (PyData.shown (.list ds)), H, I.kept hk, ⟨t, ?_⟩, q⟩
        simp only [PyData.shown]
end KD

/-! The end of a law whose def is known for the caller of claims alone (its guards are empty). -/
namespace KD
open PySem PySem.Spec PyProof.Rows L2 LamX
/-- a def's promise, called from A -/
def FnAt (P : Program) (w : World) (K : PySem.W.Frag) (mg : Str → Option Value) (base : Heap) (CX : CXT) (A : Around) (f : Addr) (fd : FuncData) (x : Str) (sp : Sp) : Prop :=
  ∀ (s : Shared) (H : Hp) (u : Value) (v : V) (Q : VK) (E : XK), Env0 P w K mg base A [] s H → BindsTo s fd ⟨[u], []⟩ [(x, u)] → RelV v u → sp [v] H Q E → codeAny (model P w) A (.call (.ref f) ⟨[u], []⟩) (CR CX [] P w H s Q E) s
/-- where the law begins: the script as it is passed, tables without code -/
def beginH (K : PySem.W.Frag) (T : List Addr) (a : Addr) (o : Obj) (ns : List Int) : Hp := fun b => if b ∈ T then some (.tbl #[]) else if b = a ∧ K.lookup a = none then some (.frz o (.lst (ns.map V.int))) else none
section
variable {K : PySem.W.Frag} {T : List Addr} {a b : Addr} {o : Obj} {ns : List Int}
theorem beginH_tab (h : b ∈ T) : beginH K T a o ns b = some (.tbl #[]) := if_pos h
theorem beginH_arg (h : a ∉ T) (k : K.lookup a = none) : beginH K T a o ns a = some (.frz o (.lst (ns.map V.int))) := (if_neg h).trans (if_pos ⟨rfl, k⟩)
theorem beginH_none (h : b ∉ T) (k : b = a → K.lookup a ≠ none) : beginH K T a o ns b = none := (if_neg h).trans (if_neg fun z => k z.1 z.2)
theorem beginH_some {u : HO} (h : beginH K T a o ns b = some u) : (b ∈ T ∧ u = .tbl #[]) ∨ (b ∉ T ∧ b = a ∧ K.lookup a = none ∧ u = .frz o (.lst (ns.map V.int))) := by
  unfold beginH at h
  by_cases h1 : b ∈ T
  · rw [if_pos h1] at h
    exact .inl ⟨h1, (Option.some.inj h).symm⟩
  · rw [if_neg h1] at h
    by_cases h2 : b = a ∧ K.lookup a = none
    · rw [if_pos h2] at h
      exact .inr ⟨h1, h2.1, h2.2, (Option.some.inj h).symm⟩
    · rw [if_neg h2] at h
      cases h
end
theorem law_callG {P : Program} {w : World} {K : PySem.W.Frag} {mg mb : Str → Option Value} {CX : CXT} {fa a : Addr} {cs : List (Addr × Addr)} {fd : FuncData} {x : Str} {sp : Sp} {s : Shared} {vs : List Value} {ns : List Int}
    (kin : K.In s.heap) (glob : s.heap.Ns mainGlobals mg) (blt : s.heap.Ns builtinsNs mb) (boot : ∀ y : Str, y ≠ "__name__" → mb y = bootBuiltins y) (nolim : s.heap.NoLimit) (gens : s.gens = #[])
    (tabs : ∀ p ∈ cs, s.heap.get? p.2 = some { cls := .none, data := .fields #[] }) (tabK : ∀ p ∈ cs, K.lookup p.2 = none) (codes : ∀ p ∈ cs, PySem.W.CodeHd s.heap p.1 p.2)
    (bmod : ∃ bm ob, mg "__builtins__" = some (.ref bm) ∧ bm ≠ builtinsNs ∧ s.heap.get? bm = some ob ∧ ob.cls = .type "module" ∧ ob.dict = some builtinsNs ∧ ob.data = .plain)
    (arg : s.heap.get? a = some { cls := .type "list", data := .seq vs.toArray }) (intsA : IntsAre vs ns) (few : ns.length ≤ sizeLine)
    (F : ∀ base : Heap, K.In base → base.Ns mainGlobals mg → (∀ p ∈ cs, TabB base mg p.1 p.2) → FnAt P w K mg base CX callerA fa fd x sp) (bind : ∀ (s : Shared) (u : Value), BindsTo s fd ⟨[u], []⟩ [(x, u)])
    (begin_ : ∀ H : Hp, (∀ p ∈ cs, H p.2 = some (.tbl #[])) → SqL K H a (ns.map V.int) → sp [.ref a] H (fun v _ => v = .bl true) fun _ _ _ => False) (noerr : ∀ H e s', CX [] H s (fun _ _ _ => False) e s' → False) :
    codeAny (model P w) callerA (.call (.ref fa) ⟨[.ref a], []⟩) (fun r s' => r = .ok (.ret (.bool true)) ∧ OldK s.heap s'.heap ∧ s'.os = s.os ∧ AllBare s'.gens) s := by
  have vals := vals_ints intsA
  have many := intsA.length
  let T : List Addr := cs.map (·.2)
  let ao : Obj := { cls := .type "list", data := .seq vs.toArray }
  let H : Hp := beginH K T a ao ns
  have inT : ∀ {b : Addr}, b ∈ T → ∃ p ∈ cs, p.2 = b := fun hb => List.mem_map.mp hb
  have emp : ∀ {b : Addr}, b ∈ T → s.heap.get? b = some { cls := .none, data := .fields #[] } := fun hb => by
    obtain ⟨p, hp, rfl⟩ := inT hb
    exact tabs p hp
  have toT : ∀ {p : Addr × Addr}, p ∈ cs → p.2 ∈ T := fun hp => List.mem_map.mpr ⟨_, hp, rfl⟩
  have aT : a ∉ T := fun hb => by
    have e := (emp hb).symm.trans arg
    cases e
  have HT : ∀ p ∈ cs, H p.2 = some (.tbl #[]) := fun p hp => beginH_tab (toT hp)
  have script : SqL K H a (ns.map V.int) := by
    cases k : K.lookup a with
    | none => exact .inl (.inr ⟨ao, beginH_arg aT k⟩)
    | some o =>
      have same := (kin a o k).symm.trans arg
      cases same
      exact .inr ⟨_, vs.toArray, _, k, rfl, rfl, rfl, by rw [List.size_toArray, many]; exact few, by simpa using vals⟩
  have ok : HOk P w H s.heap := fun b u e => by
    rcases beginH_some e with ⟨hb, rfl⟩ | ⟨_, rfl, _, rfl⟩
    · exact emp hb
    · exact ⟨arg, by rw [List.length_map]; exact few, vs, _, vals, arg⟩
  -- what is neither a list nor an empty table is not of H
  have other : ∀ {b : Addr} {o : Obj}, s.heap.get? b = some o → (∀ q n, o.data ≠ .seq q n) → o.data ≠ .fields #[] → H b = none := fun {b o} e h1 h2 => by
    cases q : H b with
    | none => rfl
    | some u =>
      rcases beginH_some q with ⟨hb, _⟩ | ⟨_, rfl, _, _⟩
      · rw [emp hb] at e
        cases e
        exact absurd rfl h2
      · rw [arg] at e
        cases e
        exact absurd rfl (h1 _ _)
  have hid : ∀ {b : Addr} {o : Obj}, s.heap.get? b = some o → (∀ q n, o.data ≠ .seq q n) → o.data ≠ .fields #[] → (hidT s.heap H).get? b = some o := fun e h1 h2 => hidT_get e (other e h1 h2)
  have names : ∀ {b : Addr} {m : Str → Option Value}, s.heap.Ns b m → (hidT s.heap H).Ns b m := fun {b m} z => by
    obtain ⟨o, es, ep, e, hd, r⟩ := z
    refine ⟨o, es, ep, hid e (fun _ _ q => ?_) (fun q => ?_), hd, r⟩ <;> (rw [hd] at q; cases q)
  have kin2 : K.In (hidT s.heap H) := fun b o e => hidT_get (kin b o e) (by
    cases q : H b with
    | none => rfl
    | some u =>
      rcases beginH_some q with ⟨hb, _⟩ | ⟨_, rfl, k, _⟩
      · obtain ⟨p, hp, rfl⟩ := inT hb
        rw [tabK p hp] at e
        cases e
      · rw [k] at e
        cases e)
  have glob2 := names glob
  have notGlob : ∀ {b : Addr} {o : Obj}, s.heap.get? b = some o → (∀ es ep, o.data ≠ .dict es ep) → b ≠ mainGlobals := fun {b o} e h q => by
    obtain ⟨o2, es, ep, e2, hd, _⟩ := glob
    rw [q, e2] at e
    cases e
    exact h _ _ hd
  have tabB : ∀ p ∈ cs, TabB (hidT s.heap H) mg p.1 p.2 := fun p hp => by
    refine ⟨?_, ?_, fun q => notGlob (tabs p hp) (fun _ _ z => by cases z) q.symm⟩
    · obtain ⟨o, us, file, tf, flags, tg, inF, text, tt, e1, r1, r2, r3, r4, r5, r6, r7, r8, r9⟩ := codes p hp
      refine ⟨o, us, file, tf, flags, tg, inF, text, tt, hid e1 (fun _ _ q => ?_) (fun q => ?_), r1, r2, r3, r4, r5, r6, r7, r8, r9⟩
      · rw [r2] at q
        cases q
      · rw [r2] at q
        cases q
        simp at r3
    · obtain ⟨bm, ob, b1, b2, b3, b4, b5, b6⟩ := bmod
      have n1 : bm ≠ mainGlobals := notGlob b3 fun _ _ q => by rw [b6] at q; cases q
      have n2 : bm ≠ p.2 := fun q => by
        rw [q, tabs p hp] at b3
        cases b3
        cases b6
      refine ⟨bm, ob, b1, b2, n1, n2, hid b3 (fun _ _ q => ?_) (fun q => ?_), b4, b5, b6⟩ <;> (rw [b6] at q; cases q)
  have md : L2.Mod K mg (hidT s.heap H) := by
    obtain ⟨mc, h1, h2⟩ := nolim
    exact ⟨kin2, glob2, ⟨mb, names blt, boot⟩, ⟨mc, names h1, h2⟩⟩
  have env : Env0 P w K mg (hidT s.heap H) callerA [] s H := ⟨rfl, md, fun _ _ e => of_hidT e, Nat.le_of_eq (hidT_size _ _), trivial, fun _ hb => (nomatch hb), ok, .of_eq gens⟩
  have run := F _ kin2 glob2 tabB s H (.ref a) (.ref a) _ _ env (bind s (.ref a)) rfl (begin_ H HT script)
  refine codeAny_mono run fun r s' hr => ?_
  match r, hr with
  | .error e, hr => exact (noerr H e s' hr).elim
  | .ok .next, hr => exact hr.elim
  | .ok .brk, hr => exact hr.elim
  | .ok .cont, hr => exact hr.elim
  | .ok (.ret u), hr =>
    obtain ⟨v, H2, os, bare, un, ok2, rel, hv⟩ := hr
    have hv : v = V.bl true := hv
    subst hv
    obtain rfl : u = Value.bool true := rel
    have still : ∀ {b : Addr} {o : Obj}, b ∉ T → s.heap.get? b = some o → s'.heap.get? b = some o := fun {b o} nb e => by
      cases q : H b with
      | none => exact un.keep b o e q (by intro z; exact (nomatch (show b ∈ ([] : List Addr) from z))) (by simp)
      | some u =>
        rcases beginH_some q with ⟨hb, _⟩ | ⟨_, rfl, k, rfl⟩
        · exact absurd hb nb
        · have q2 := un.frzs b _ _ q
          have e2 : s'.heap.get? b = some ao := (ok2 b _ q2).1
          rw [arg] at e
          cases e
          exact e2
    have more : ∀ {b : Addr}, b ∈ T → ∃ m : Array Value, s'.heap.get? b = some { cls := .none, data := .fields m } := fun {b} hb => by
      obtain ⟨m, z⟩ := un.tbls b #[] (beginH_tab hb)
      exact ⟨_, ok2 b _ z⟩
    refine ⟨rfl, ⟨fun b o e => ?_, fun b o e => ?_⟩, os, bare⟩
    · by_cases hb : b ∈ T
      · obtain ⟨m, hm⟩ := more hb
        obtain ⟨p, hp, rfl⟩ := inT hb
        rw [tabs p hp] at e
        cases e
        exact .inr (.inl ⟨((codes p hp).tab (tabs p hp)).isCodeTable, rfl, #[], m, rfl, by rw [Array.empty_append]; exact hm⟩)
      · exact .inl (still hb e)
    · by_cases hb : b ∈ T
      · obtain ⟨m, hm⟩ := more hb
        exact ⟨_, hm⟩
      · exact ⟨o, still hb e⟩
/-- what is known of the law at the head's heap -/
def LawG (l : PySem.W.OpenLaw) (w : World) (K : PySem.W.Frag) (CX : CXT) (n : Nat) (x : Str) (mg : Str → Option Value) (fa : Addr) (h : Heap) : Prop :=
  ∃ (fd : FuncData) (cs : List (Addr × Addr)) (sp : Sp), (∀ p ∈ cs, h.get? p.2 = some { cls := .none, data := .fields #[] }) ∧ (∀ p ∈ cs, K.lookup p.2 = none) ∧ (∀ p ∈ cs, PySem.W.CodeHd h p.1 p.2) ∧ (∀ s u, BindsTo s fd ⟨[u], []⟩ [(x, u)]) ∧
    (∀ (H : Hp) (a : Addr) (ns : List Int), ns.length ≤ n → (∀ z ∈ ns, Builtin.Int.intBits z ≤ 1048576) → (∀ p ∈ cs, H p.2 = some (.tbl #[])) → SqL K H a (ns.map V.int) → sp [.ref a] H (fun v _ => v = .bl true) fun _ _ _ => False) ∧
    ∀ base : Heap, K.In base → base.Ns mainGlobals mg → (∀ p ∈ cs, TabB base mg p.1 p.2) → FnAt l.prog w K mg base CX callerA fa fd x sp
theorem walk_ofG {l : PySem.W.OpenLaw} {n : Nat} {q : Program} {loose : List Str} {XP : (Str → Option Value) → Heap → Prop} {YP : World → Heap → Prop} {d : DefRec} {K : Params → PySem.W.Frag} {CX : World → CXT} {x : Str}
    (hn : l.most = some n) (few : n ≤ sizeLine) (nodef : d.params.defaults = []) (kin : ∀ w h, YP w h → (K w.params).In h)
    (F : ∀ w mg fa h, YP w h → (K w.params).In h → h.Ns mainGlobals mg → mg d.name = some (.ref fa) → LawG l w (K w.params) (CX w) n x mg fa h) (noerr : ∀ w H s e s', CX w [] H s (fun _ _ _ => False) e s' → False) :
    PySem.W.WalkO q loose XP YP l.row.toRowW d [] (fun f vs => PySem.call f vs) :=
  Att.attach_callB hn nodef fun w s0 s1 mg mb fa o pm cd doc a vs ns G Y _ _ _ hmg hobj hints hlen hbits hg => by
    obtain ⟨fd, cs, sp, h1, h2, h3, h4, h5, h6⟩ := F w mg fa _ Y (kin w _ Y) G.T.g hmg
    exact law_callG (kin w _ Y) G.T.g G.T.b G.T.builtins G.T.nolimit hg h1 h2 h3 G.T.bmain hobj hints (Nat.le_trans hlen few) h6 h4 (fun H a1 a2 => h5 H a ns hlen hbits a1 a2) fun H e s' => noerr w H s1 e s'
end KD

/-! sorted of a list of data that stand in one order. -/
namespace KD
open PySem PySem.Spec PyProof.Rows L2
/-- the data in order -/
def sortD (ds : List PyData) : List PyData := ds.mergeSort (PySem.W.dataLe false id)
theorem sortD_perm (ds : List PyData) : (sortD ds).Perm ds := List.mergeSort_perm _ _
def rSortD : List V → Hp → VK → Prop := fun xs H Q => ∃ (X0 : Addr → Prop) (v : V) (ds : List PyData), xs = [v] ∧ DX X0 H v (.list ds) ∧ noDicts ds = true ∧ PySem.W.AllAlike ds ∧ PySem.W.Sortable ds ∧ (∀ d ∈ ds, d.depth ≤ 40) ∧
  ∀ p ys, H p = none → DXs X0 H ys (sortD ds) → Q (.ref p) (upd H p (.lst ys))
section
variable {X0 : Addr → Prop} {H : Hp}
theorem each_dx : ∀ {xs : List V} {ds : List PyData} {us : List Value}, DXs X0 H xs ds → Vals xs us → PySem.W.EachIs (fun u d => ∃ v, RelV v u ∧ DX X0 H v d) us ds
  | _, _, _, .nil, r => by
    cases r
    exact .nil
  | _, _, _, .cons h rs, r => by
    cases r with
    | cons r1 r2 => exact .cons ⟨_, r1, h⟩ (each_dx rs r2)
theorem dx_each : ∀ {ds : List PyData} {us : List Value}, PySem.W.EachIs (fun u d => ∃ v, RelV v u ∧ DX X0 H v d) us ds → ∃ xs, Vals xs us ∧ DXs X0 H xs ds
  | _, _, .nil => ⟨[], .nil, .nil⟩
  | _, _, .cons ⟨v, r, h⟩ t => by
    obtain ⟨xs, a, b⟩ := dx_each t
    exact ⟨v :: xs, .cons r a, .cons h b⟩
end
theorem cr_sortD {X : Cx} (hu : X.A.units + 64 < cLine) : CallR X (.builtin "sorted") rSortD := by
  intro pins s σ H vs us Q I r h
  obtain ⟨X0, v, ds, rfl, hd, nd, al, sb, dp, q⟩ := h
  cases hd with
  | @lst a xs _ n e rx =>
    obtain ⟨its, rv, hl, hz⟩ := I.list (SqL.of e)
    rw [Vals.ref1 r]
    obtain ⟨as, rd⟩ := Dp.readsAll I ds xs its (rx.dp nd) rv
    have mid : ds.map id = ds := List.map_id ds
    have hlen : ds.length ≤ sizeLine := by rw [← rx.length]; exact hz
    refine PySem.W.sorted_data (enc := id) (bs := ds) (R := fun u d => ∃ v, RelV v u ∧ DX X0 H v d) hl.isList (each_dx rx rv) (PySem.W.readsAll_each id (by rw [mid]; exact rd)) (by rw [mid]; exact al) (by rw [mid]; exact sb) hlen (fun b hb => ?_) fun out h1 h2 => ?_
    · have := dp b hb
      show X.A.units + 2 + b.depth < cLine
      omega
    · obtain ⟨ys, rys, dys⟩ := dx_each h2
      obtain ⟨ep, he'⟩ := PyProof.Rows.sortedAll_at s.heap its out.toArray
      have hy : ys.length ≤ sizeLine := by
        rw [dys.length, (List.mergeSort_perm ds _).length_eq]
        exact hlen
      exact ⟨.ref _, upd H (s.heap.objs.size + 1) (.lst ys), I.laid (t' := s.toks) (fun _ _ => PyProof.Rows.sortedAll_old) (Nat.le_succ _) ⟨hy, out, ep, rys, he'⟩, rfl, q _ ys (I.hok.fresh (Nat.le_succ _)) dys⟩
/-- sorted as a datum -/
theorem g_sorted {X : Addr → Prop} {σ : L2.St} {H : Hp} {te : TE} {ds : List PyData} (t : Trk X H) (h : G X te σ H (.list ds)) (nd : noDicts ds = true) (al : PySem.W.AllAlike ds) (sb : PySem.W.Sortable ds) (dp : ∀ d ∈ ds, d.depth ≤ 40) : GN X (tCB rSortD (tCons te tNil)) σ H (.list (sortD ds)) := fun H1 s Q q =>
  h H1 s _ fun v H2 s2 r => ⟨X, v, ds, rfl, r, nd, al, sb, dp, fun p ys hp dys => q _ _ (s2.trans (Same.upd hp)) (DX.newL ((t.mono s).mono s2) dys hp) (Nw.back s2 (Nw.of hp))⟩
end KD

/-! Dicts of data: by their keys; compared. -/
namespace KD
open PySem PySem.Spec PyProof.Rows L2
/-- a dict's data by keys -/
abbrev KDs := List (Key × PyData)
def dicD (ks : KDs) : PyData := .dict (ks.map fun p => (kd p.1, p.2))
def DK (X : Addr → Prop) (H : Hp) : List (Key × V) → KDs → Prop := Paired fun (p : Key × V) (q : Key × PyData) => p.1 = q.1 ∧ DX X H p.2 q.2
theorem kd_inj {a b : Key} (h : kd a = kd b) : a = b := by
  cases a <;> cases b <;> simp [kd] at h <;> rw [h]
section
variable {X0 : Addr → Prop} {H H' : Hp}
theorem DK.of : ∀ {kvs : List (Key × V)} {ks : KDs}, DXk X0 H kvs (ks.map fun p => (kd p.1, p.2)) → DK X0 H kvs ks
  | [], [], _ => .nil
  | [], _ :: _, h => by cases h
  | _ :: _, [], h => by cases h
  | (k, v) :: kvs, (k2, d) :: ks, h => by
    have h' : DXk X0 H ((k, v) :: kvs) ((kd k2, d) :: ks.map fun p => (kd p.1, p.2)) := h
    generalize hk : kd k2 = z at h'
    cases h' with
    | cons h1 h2 => exact .cons ⟨(kd_inj hk).symm, h1⟩ (DK.of h2)
theorem DK.to {kvs : List (Key × V)} {ks : KDs} (h : DK X0 H kvs ks) : DXk X0 H kvs (ks.map fun p => (kd p.1, p.2)) := by
  unfold DK at h
  induction h with
  | nil => exact .nil
  | @cons p q ps qs h t ih =>
    obtain ⟨h1, h2⟩ := h
    obtain ⟨k, v⟩ := p
    have h1 : k = q.1 := h1
    subst h1
    exact .cons h2 ih
theorem DK.mono (k : Kp X0 H H') {kvs : List (Key × V)} {ks : KDs} (h : DK X0 H kvs ks) : DK X0 H' kvs ks := DK.of (DXk.mono k h.to)
theorem DX.dic_inv {v : V} {ks : KDs} (h : DX X0 H v (dicD ks)) : ∃ a kvs, v = .ref a ∧ ¬ X0 a ∧ H a = some (.dK kvs) ∧ DK X0 H kvs ks := by
  unfold dicD at h
  generalize hz : ks.map (fun p => (kd p.1, p.2)) = z at h
  cases h with
  | dic n e r =>
    subst hz
    exact ⟨_, _, rfl, n, e, DK.of r⟩
theorem DX.dic_mk {a : Addr} {kvs : List (Key × V)} {ks : KDs} (n : ¬ X0 a) (e : H a = some (.dK kvs)) (h : DK X0 H kvs ks) : DX X0 H (.ref a) (dicD ks) := .dic n e h.to
/-- a store -/
def putD (ks : KDs) (k : Key) (d : PyData) : KDs := if (ks.any fun q => decide (q.1 = k)) = true then ks.map (fun q => if q.1 = k then (q.1, d) else q) else ks ++ [(k, d)]
end
def valD (ks : KDs) (k : Key) : Option PyData := (ks.find? fun q => decide (q.1 = k)).map (·.2)
def hitB (bs : KDs) : KDs → Bool
  | [] => true
  | p :: r => match valD bs p.1 with
    | some e => PyData.eqv p.2 e && hitB bs r
    | none => false
/-- == of dicts of data -/
def eqK (as bs : KDs) : Bool := decide (as.length = bs.length) && hitB bs as
/-- values that may be compared -/
def cmpD (d : PyData) : Prop := noDict d = true ∧ SeqAt.shaped d = true
section
variable {X0 : Addr → Prop} {H : Hp}
theorem DK.length {kvs : List (Key × V)} {ks : KDs} (h : DK X0 H kvs ks) : kvs.length = ks.length := Paired.length h
theorem DK.val {kvs : List (Key × V)} {ks : KDs} (h : DK X0 H kvs ks) (k : Key) : (∃ v d, valV kvs k = some v ∧ valD ks k = some d ∧ DX X0 H v d ∧ ∃ p ∈ ks, p.2 = d) ∨ (valV kvs k = none ∧ valD ks k = none) := by
  unfold DK at h
  induction h with
  | nil => exact .inr ⟨rfl, rfl⟩
  | @cons p q ps qs h t ih =>
    obtain ⟨h1, h2⟩ := h
    by_cases hk : q.1 = k
    · refine .inl ⟨p.2, q.2, ?_, ?_, h2, q, List.mem_cons_self, rfl⟩
      · unfold valV
        rw [List.find?_cons_of_pos (by rw [h1]; exact decide_eq_true hk)]
        rfl
      · simp [valD, List.find?_cons, hk]
    · have e1 : valV (p :: ps) k = valV ps k := by
        unfold valV
        rw [List.find?_cons_of_neg (by rw [h1]; simpa using hk)]
      have e2 : valD (q :: qs) k = valD qs k := by
        unfold valD
        rw [List.find?_cons_of_neg (by simpa using hk)]
      rw [e1, e2]
      rcases ih with ⟨v, d, a, b, c, r, hr, e⟩ | h
      · exact .inl ⟨v, d, a, b, c, r, List.mem_cons_of_mem _ hr, e⟩
      · exact .inr h
end
section
variable {X : Cx} {pins : List (Addr × Obj)} {σ : L2.St} {H : Hp} {s : Shared} {X0 : Addr → Prop}
theorem hits_dx {A : Around} (hu : A.in1.units + 64 < cLine) (I : L2.Inv X pins σ H s) {kb : List (Key × V)} {bs : KDs} {vb : List (Key × Value)} (rb : KV kb vb) (db : DK X0 H kb bs) (cb : ∀ p ∈ bs, cmpD p.2) :
    ∀ {ka : List (Key × V)} {as : KDs} {va : List (Key × Value)}, KV ka va → DK X0 H ka as → (∀ p ∈ as, cmpD p.2) → PySem.W.KeqHits A.in1 s vb va (hitB bs as)
  | [], [], _, ra, _, _ => by
    cases ra
    exact .nil
  | [], _ :: _, _, _, d, _ => by cases d
  | _ :: _, [], _, _, d, _ => by cases d
  | p :: ps, q :: qs, va, ra, d, c => by
    cases ra with
    | @cons _ r _ rs h t =>
      cases d with
      | cons d1 d2 =>
        obtain ⟨k, u⟩ := r
        obtain ⟨h1, h2⟩ := h
        obtain ⟨e1, e2⟩ := d1
        have hk : k = q.1 := h1.symm.trans e1
        subst hk
        have rest := hits_dx hu I rb db cb t d2 fun z hz => c z (List.mem_cons_of_mem _ hz)
        have rr := rb.val q.1
        rcases db.val q.1 with ⟨v, e, a1, a2, a3, z, hz, ez⟩ | ⟨a1, a2⟩
        · rw [a1] at rr
          obtain ⟨y, hy, ry⟩ := rr.some_of
          have cq := c q List.mem_cons_self
          have ce := cb z hz
          rw [ez] at ce
          obtain ⟨as1, r1⟩ := Dp.reads I q.2 p.2 u (e2.dp cq.1) h2
          obtain ⟨as2, r2⟩ := Dp.reads I e v y (a3.dp ce.1) ry
          have := PySem.W.keq_at (A := A) r1 r2 cq.2 ce.2 hu
          show PySem.W.KeqHits A.in1 s vb ((q.1, u) :: rs) (hitB bs (q :: qs))
          unfold hitB
          rw [a2]
          exact .hit hy this rest
        · rw [a1] at rr
          have hn : valueAt vb q.1 = none := by
            cases hv : valueAt vb q.1 with
            | none => rfl
            | some y => rw [hv] at rr; exact rr.elim
          show PySem.W.KeqHits A.in1 s vb ((q.1, u) :: rs) (hitB bs (q :: qs))
          unfold hitB
          rw [a2]
          exact .miss hn
def rEqK : R2 := fun x y H Q => ∃ (X0 : Addr → Prop) (as bs : KDs), DX X0 H x (dicD as) ∧ DX X0 H y (dicD bs) ∧ (∀ p ∈ as, cmpD p.2) ∧ (∀ p ∈ bs, cmpD p.2) ∧ Q (.bl (eqK as bs)) H
def rNeK : R2 := fun x y H Q => ∃ (X0 : Addr → Prop) (as bs : KDs), DX X0 H x (dicD as) ∧ DX X0 H y (dicD bs) ∧ (∀ p ∈ as, cmpD p.2) ∧ (∀ p ∈ bs, cmpD p.2) ∧ Q (.bl (!eqK as bs)) H
theorem op_eqK (hu : X.A.units + 65 < cLine) : OpR X (compareOp .Eq) rEqK := by
  intro pins s σ H x y v u Q I rx ry h
  obtain ⟨X0, as, bs, dx, dy, ca, cb, q⟩ := h
  obtain ⟨a, ka, rfl, _, ea, da⟩ := dx.dic_inv
  obtain ⟨b, kb, rfl, _, eb, db⟩ := dy.dic_inv
  cases rx
  cases ry
  obtain ⟨_, ya, va, ra, oa⟩ := I.hok a _ ea
  obtain ⟨_, yb, vb, rb, ob⟩ := I.hok b _ eb
  have la : va.length = as.length := by rw [← ra.length]; exact da.length
  have lb : vb.length = bs.length := by rw [← rb.length]; exact db.length
  refine PySem.W.keq_eq (knd := mixKind X.prog X.w) ya yb oa ob (by omega) (fun _ => hits_dx (by show X.A.units + 1 + 64 < cLine; omega) I rb db cb ra da ca) (fin_bl I q ?_)
  rw [la, lb]
  unfold eqK
  rw [Bool.eq_iff_iff]
  simp
theorem op_neK (hu : X.A.units + 65 < cLine) : OpR X (compareOp .NotEq) rNeK := by
  intro pins s σ H x y v u Q I rx ry h
  obtain ⟨X0, as, bs, dx, dy, ca, cb, q⟩ := h
  obtain ⟨a, ka, rfl, _, ea, da⟩ := dx.dic_inv
  obtain ⟨b, kb, rfl, _, eb, db⟩ := dy.dic_inv
  cases rx
  cases ry
  obtain ⟨_, ya, va, ra, oa⟩ := I.hok a _ ea
  obtain ⟨_, yb, vb, rb, ob⟩ := I.hok b _ eb
  have la : va.length = as.length := by rw [← ra.length]; exact da.length
  have lb : vb.length = bs.length := by rw [← rb.length]; exact db.length
  refine PySem.W.keq_ne (knd := mixKind X.prog X.w) ya yb oa ob (by omega) (fun _ => hits_dx (by show X.A.units + 1 + 64 < cLine; omega) I rb db cb ra da ca) (fin_bl I q ?_)
  rw [la, lb]
  unfold eqK
  rw [Bool.eq_iff_iff]
  simp
end
/-! ### a dict of one's own -/
section
variable {X0 : Addr → Prop} {H : Hp}
theorem DK.put {kvs : List (Key × V)} {ks : KDs} {k : Key} {v : V} {d : PyData} (h : DK X0 H kvs ks) (hd : DX X0 H v d) : DK X0 H (putK kvs k v) (putD ks k d) := by
  have an : (kvs.any fun kv => decide (kv.1 = k)) = (ks.any fun q => decide (q.1 = k)) := by
    clear hd
    unfold DK at h
    induction h with
    | nil => rfl
    | @cons p q ps qs h t ih => rw [List.any_cons, List.any_cons, ih, h.1]
  unfold putK putD
  rw [an]
  cases hb : ks.any fun q => decide (q.1 = k) with
  | true =>
    rw [if_pos rfl, if_pos rfl]
    clear an hb
    unfold DK at h ⊢
    induction h with
    | nil => exact .nil
    | @cons p q ps qs h t ih =>
      rw [List.map_cons, List.map_cons]
      refine .cons ?_ ih
      obtain ⟨h1, h2⟩ := h
      by_cases e : q.1 = k
      · rw [if_pos (h1.trans e), if_pos e]
        exact ⟨h1, hd⟩
      · rw [if_neg (fun z => e (h1.symm.trans z)), if_neg e]
        exact ⟨h1, h2⟩
  | false =>
    rw [if_neg (by simp), if_neg (by simp)]
    unfold DK at h ⊢
    clear an hb
    induction h with
    | nil => exact .cons ⟨rfl, hd⟩ .nil
    | cons h t ih => exact .cons h ih
end
end KD

/-! Two changes that pass one another: the lines that they put, order and bury (lists alone). -/
namespace KP
open PySem
abbrev Ln := Str × Nat
def ownL (nm : Str) (b : Nat) : List Ln := (List.range b).map fun i => (nm, i)
def here0 (n : Nat) : List Ln := ownL "g0" (n + 2)
def stepH (nm : Str) (x a b : Nat) (l : List Ln) : List Ln := l.take (x + 1) ++ ownL nm b ++ l.drop (x + 1 + a)
def burH (x a : Nat) (l : List Ln) : List Ln := (l.drop (x + 1)).take a
def rowH (nm : Str) (x a b : Nat) (l : List Ln) : List Ln := if b = 0 then [] else l[x]?.toList ++ ownL nm b ++ l[x + 1 + a]?.toList
def prs (l : List Ln) : List (Ln × Ln) := l.zip l.tail
theorem own_get {nm : Str} {b k : Nat} : (ownL nm b)[k]? = if k < b then some (nm, k) else none := by
  unfold ownL
  rw [List.getElem?_map]
  by_cases h : k < b
  · rw [List.getElem?_range h, if_pos h]
    rfl
  · rw [if_neg h, List.getElem?_eq_none (by simp; omega)]
    rfl
theorem own_len {nm : Str} {b : Nat} : (ownL nm b).length = b := by simp [ownL]
theorem step_get {nm : Str} {x a b k : Nat} {l : List Ln} (h : x + 1 ≤ l.length) : (stepH nm x a b l)[k]? = if k ≤ x then l[k]? else if k ≤ x + b then some (nm, k - x - 1) else l[k - b + a]? := by
  unfold stepH
  have l1 : (l.take (x + 1)).length = x + 1 := by
    rw [List.length_take]
    omega
  by_cases h1 : k ≤ x
  · rw [if_pos h1, List.append_assoc, List.getElem?_append_left (by omega), List.getElem?_take_of_lt (by omega)]
  · rw [if_neg h1, List.append_assoc, List.getElem?_append_right (by omega), l1]
    by_cases h2 : k ≤ x + b
    · rw [if_pos h2, List.getElem?_append_left (by rw [own_len]; omega), own_get, if_pos (by omega)]
      congr 2
    · rw [if_neg h2, List.getElem?_append_right (by rw [own_len]; omega), own_len, List.getElem?_drop]
      congr 1
      omega
theorem bur_mem {x a : Nat} {l : List Ln} {e : Ln} : e ∈ burH x a l ↔ ∃ i, i < a ∧ l[x + 1 + i]? = some e := by
  unfold burH
  rw [List.mem_iff_getElem?]
  constructor
  · rintro ⟨i, h⟩
    by_cases hi : i < a
    · rw [List.getElem?_take_of_lt hi, List.getElem?_drop] at h
      exact ⟨i, hi, h⟩
    · rw [List.getElem?_eq_none (by rw [List.length_take]; omega)] at h
      cases h
  · rintro ⟨i, hi, h⟩
    exact ⟨i, by rw [List.getElem?_take_of_lt hi, List.getElem?_drop]; exact h⟩
theorem prs_mem {l : List Ln} {s t : Ln} : (s, t) ∈ prs l ↔ ∃ i, l[i]? = some s ∧ l[i + 1]? = some t := by
  unfold prs
  rw [List.mem_iff_getElem?]
  constructor
  · rintro ⟨i, h⟩
    rw [List.getElem?_zip_eq_some] at h
    exact ⟨i, h.1, by rw [← List.getElem?_tail]; exact h.2⟩
  · rintro ⟨i, h1, h2⟩
    exact ⟨i, by rw [List.getElem?_zip_eq_some]; exact ⟨h1, by rw [List.getElem?_tail]; exact h2⟩⟩
/-- a row's places -/
theorem row_get {nm : Str} {x a b : Nat} {l : List Ln} {u v : Ln} (hb : 0 < b) (hu : l[x]? = some u) (hv : l[x + 1 + a]? = some v) (k : Nat) : (rowH nm x a b l)[k]? = if k = 0 then some u else if k ≤ b then some (nm, k - 1) else if k = b + 1 then some v else none := by
  unfold rowH
  rw [if_neg (by omega), hu, hv]
  show (([u] ++ ownL nm b) ++ [v])[k]? = _
  by_cases h0 : k = 0
  · subst h0
    rfl
  · rw [if_neg h0, List.append_assoc, List.getElem?_append_right (by simp; omega)]
    by_cases h1 : k ≤ b
    · rw [if_pos h1, List.getElem?_append_left (by rw [own_len]; simp; omega), own_get, if_pos (by simp; omega)]
      rfl
    · rw [if_neg h1, List.getElem?_append_right (by rw [own_len]; simp; omega), own_len]
      by_cases h2 : k = b + 1
      · rw [if_pos h2]
        subst h2
        simp
      · rw [if_neg h2]
        rw [List.getElem?_eq_none (by simp; omega)]
/-- the ends of a row are told by its pairs -/
theorem row_ends {nm : Str} {x a x' a' b : Nat} {l l' : List Ln} {u v u' v' : Ln} (hb : 0 < b) (hu : l[x]? = some u) (hv : l[x + 1 + a]? = some v) (hu' : l'[x']? = some u') (hv' : l'[x' + 1 + a']? = some v')
    (n1 : u'.1 ≠ nm) (n2 : v'.1 ≠ nm) (h : ∀ e, e ∈ prs (rowH nm x a b l) → e ∈ prs (rowH nm x' a' b l')) : u = u' ∧ v = v' := by
  have r := row_get (nm := nm) hb hu hv
  have r' := row_get (nm := nm) hb hu' hv'
  constructor
  · have m : (u, (nm, 0)) ∈ prs (rowH nm x a b l) := prs_mem.mpr ⟨0, by rw [r]; rfl, by rw [r, if_neg (by omega), if_pos (by omega)]⟩
    obtain ⟨i, e1, e2⟩ := prs_mem.mp (h _ m)
    rw [r'] at e1 e2
    rw [if_neg (by omega)] at e2
    by_cases h1 : i + 1 ≤ b
    · rw [if_pos h1] at e2
      have : i = 0 := by
        have := congrArg Prod.snd (Option.some.inj e2)
        simpa using this
      subst this
      rw [if_pos rfl] at e1
      exact (Option.some.inj e1).symm
    · rw [if_neg h1] at e2
      by_cases h2 : i + 1 = b + 1
      · rw [if_pos h2] at e2
        exact absurd (congrArg Prod.fst (Option.some.inj e2)) n2
      · rw [if_neg h2] at e2
        cases e2
  · have m : ((nm, b - 1), v) ∈ prs (rowH nm x a b l) := prs_mem.mpr ⟨b, by rw [r, if_neg (by omega), if_pos (by omega)], by rw [r, if_neg (by omega), if_neg (by omega), if_pos rfl]⟩
    obtain ⟨i, e1, e2⟩ := prs_mem.mp (h _ m)
    rw [r'] at e1 e2
    by_cases h0 : i = 0
    · rw [if_pos h0] at e1
      exact absurd (congrArg Prod.fst (Option.some.inj e1)) n1
    · rw [if_neg h0] at e1
      by_cases h1 : i ≤ b
      · rw [if_pos h1] at e1
        have hi : i - 1 = b - 1 := congrArg Prod.snd (Option.some.inj e1)
        rw [if_neg (by omega), if_neg (by omega), if_pos (by omega)] at e2
        exact (Option.some.inj e2).symm
      · rw [if_neg h1] at e1
        by_cases h2 : i = b + 1
        · rw [if_pos h2] at e1
          exact absurd (congrArg Prod.fst (Option.some.inj e1)) n2
        · rw [if_neg h2] at e1
          cases e1
abbrev gr (k : Nat) : Ln := (("g0" : Str), k)
theorem here0_get {n k : Nat} : (here0 n)[k]? = if k < n + 2 then some (gr (k)) else none := own_get
theorem here0_len {n : Nat} : (here0 n).length = n + 2 := own_len
theorem st_get {n P A B i : Nat} {ot : Str} (h : P + A ≤ n) : (stepH ot P A B (here0 n))[i]? = if i ≤ P then some (gr (i)) else if i ≤ P + B then some ((ot, i - P - 1) : Ln) else if i - B + A < n + 2 then some (gr (i - B + A)) else none := by
  rw [step_get (by rw [here0_len]; omega)]
  by_cases h1 : i ≤ P
  · rw [if_pos h1, if_pos h1, here0_get, if_pos (by omega)]
  · rw [if_neg h1, if_neg h1]
    by_cases h2 : i ≤ P + B
    · rw [if_pos h2, if_pos h2]
    · rw [if_neg h2, if_neg h2, here0_get]
theorem st_g {n P A B i m : Nat} {ot : Str} (hot : ot ≠ "g0") (h : P + A ≤ n) (e : (stepH ot P A B (here0 n))[i]? = some (gr (m))) : (i ≤ P ∧ m = i) ∨ (P + B < i ∧ m = i - B + A) := by
  rw [st_get h] at e
  by_cases h1 : i ≤ P
  · rw [if_pos h1] at e
    exact .inl ⟨h1, (congrArg Prod.snd (Option.some.inj e)).symm⟩
  · rw [if_neg h1] at e
    by_cases h2 : i ≤ P + B
    · rw [if_pos h2] at e
      exact absurd (congrArg Prod.fst (Option.some.inj e)) hot
    · rw [if_neg h2] at e
      split at e
      · exact .inr ⟨by omega, (congrArg Prod.snd (Option.some.inj e)).symm⟩
      · cases e
theorem st_some {n P A B i : Nat} {ot : Str} (h : P + A ≤ n) (hi : i < n + 2 - A + B) : ∃ u, (stepH ot P A B (here0 n))[i]? = some u := by
  rw [st_get h]
  split
  · exact ⟨_, rfl⟩
  · split
    · exact ⟨_, rfl⟩
    · rw [if_pos (by omega)]
      exact ⟨_, rfl⟩
theorem side {n P A B k z a b : Nat} {nm ot : Str} (hot : ot ≠ "g0") (hnm : nm ≠ "g0") (hP : P + A ≤ n) (hk : k + a ≤ n - A + B) (hz : z + a ≤ n) (hAB : 0 < A + B)
    (hr : ∀ e, e ∈ prs (rowH nm k a b (stepH ot P A B (here0 n))) → e ∈ prs (rowH nm z a b (here0 n))) (hb : ∀ e, e ∈ burH k a (stepH ot P A B (here0 n)) → e ∈ burH z a (here0 n)) :
    (0 < b → (k + 1 + a ≤ P ∧ z = k) ∨ (P + B < k ∧ z = k - B + A)) ∧ (0 < a → (k + a ≤ P ∧ z = k) ∨ (P + B ≤ k ∧ z = k - B + A)) := by
  have gz : ∀ e, e ∈ burH z a (here0 n) → ∃ i, i < a ∧ e = (gr (z + 1 + i)) := fun e h => by
    obtain ⟨i, hi, e1⟩ := bur_mem.mp h
    rw [here0_get] at e1
    split at e1
    · exact ⟨i, hi, (Option.some.inj e1).symm⟩
    · cases e1
  -- what is buried is of the ground
  have bg : ∀ i, i < a → ∃ j, j < a ∧ (stepH ot P A B (here0 n))[k + 1 + i]? = some (gr (z + 1 + j)) := fun i hi => by
    obtain ⟨u, hu⟩ := st_some (ot := ot) hP (show k + 1 + i < n + 2 - A + B by omega)
    obtain ⟨j, hj, e⟩ := gz _ (hb _ (bur_mem.mpr ⟨i, hi, hu⟩))
    exact ⟨j, hj, by rw [hu, e]⟩
  -- no line of the other one is buried
  have noP : 0 < B → ¬ (k ≤ P ∧ P + 1 ≤ k + a) := fun hB h => by
    obtain ⟨j, _, e⟩ := bg (P - k) (by omega)
    have := st_g hot hP e
    omega
  refine ⟨fun hb0 => ?_, fun ha => ?_⟩
  · obtain ⟨u, hu⟩ := st_some (ot := ot) hP (show k < n + 2 - A + B by omega)
    obtain ⟨v, hv⟩ := st_some (ot := ot) hP (show k + 1 + a < n + 2 - A + B by omega)
    have hu' : (here0 n)[z]? = some (gr (z)) := by rw [here0_get, if_pos (by omega)]
    have hv' : (here0 n)[z + 1 + a]? = some (gr (z + 1 + a)) := by rw [here0_get, if_pos (by omega)]
    obtain ⟨eu, ev⟩ := row_ends hb0 hu hv hu' hv' (fun e => hnm e.symm) (fun e => hnm e.symm) hr
    rw [eu] at hu
    rw [ev] at hv
    have h1 := st_g hot hP hu
    have h2 := st_g hot hP hv
    by_cases hB : 0 < B
    · have := noP hB
      omega
    · omega
  · obtain ⟨j1, hj1, e1⟩ := bg 0 ha
    obtain ⟨j2, hj2, e2⟩ := bg (a - 1) (by omega)
    have h1 := st_g hot hP e1
    have h2 := st_g hot hP e2
    by_cases hB : 0 < B
    · have := noP hB
      omega
    · omega
/-- the places of the pair that puts, orders and buries the same -/
theorem places {n p a b q c d x y : Nat} (hp : p + a ≤ n) (hab : 0 < a + b) (hq : q + c ≤ n - a + b) (hcd : 0 < c + d) (hx : x + c ≤ n) (hy : y + a ≤ n - c + d)
    (h1 : ∀ e, e ∈ prs (rowH "q" q c d (stepH "p" p a b (here0 n))) → e ∈ prs (rowH "q" x c d (here0 n))) (h2 : ∀ e, e ∈ burH q c (stepH "p" p a b (here0 n)) → e ∈ burH x c (here0 n))
    (h3 : ∀ e, e ∈ prs (rowH "p" y a b (stepH "q" x c d (here0 n))) → e ∈ prs (rowH "p" p a b (here0 n))) (h4 : ∀ e, e ∈ burH y a (stepH "q" x c d (here0 n)) → e ∈ burH p a (here0 n)) :
    ((q + c < p ∨ (q + c = p ∧ b + d = 0)) ∧ x = q ∧ y + c = p + d) ∨ ((p + b < q ∨ (p + b = q ∧ b + d = 0)) ∧ x + b = q + a ∧ y = p) := by
  obtain ⟨q1, q2⟩ := side (nm := "q") (ot := "p") (by decide) (by decide) hp hq hx hab h1 h2
  obtain ⟨p1, p2⟩ := side (nm := "p") (ot := "q") (by decide) (by decide) hx hy hp hcd h3 h4
  by_cases ha : 0 < a <;> by_cases hb : 0 < b <;> by_cases hc : 0 < c <;> by_cases hd : 0 < d
  all_goals first
    | omega
    | (simp only [ha, hb, hc, hd, true_implies, false_implies] at q1 q2 p1 p2; omega)
theorem row_eq {nm : Str} {x a x' a' b : Nat} {l l' : List Ln} (h1 : 0 < b → l[x]? = l'[x']?) (h2 : 0 < b → l[x + 1 + a]? = l'[x' + 1 + a']?) : rowH nm x a b l = rowH nm x' a' b l' := by
  unfold rowH
  by_cases h : b = 0
  · rw [if_pos h, if_pos h]
  · rw [if_neg h, if_neg h, h1 (by omega), h2 (by omega)]
theorem bur_eq {x a x' : Nat} {l l' : List Ln} (h : ∀ i, i < a → l[x + 1 + i]? = l'[x' + 1 + i]?) : burH x a l = burH x' a l' := by
  unfold burH
  apply List.ext_getElem?
  intro i
  by_cases hi : i < a
  · rw [List.getElem?_take_of_lt hi, List.getElem?_take_of_lt hi, List.getElem?_drop, List.getElem?_drop]
    exact h i hi
  · rw [List.getElem?_eq_none (by rw [List.length_take]; omega), List.getElem?_eq_none (by rw [List.length_take]; omega)]
/-- a place apart from the other one's lines -/
def Apart (P A B k z a b : Nat) : Prop := ((k + a < P ∨ (k + a = P ∧ b = 0)) ∧ z = k) ∨ ((P + B < k ∨ (P + B = k ∧ b = 0)) ∧ z + B = k + A)
theorem same_of {n P A B k z a b : Nat} {nm ot : Str} (hP : P + A ≤ n) (hk : k + a ≤ n - A + B) (hz : z + a ≤ n) (ap : Apart P A B k z a b) :
    rowH nm k a b (stepH ot P A B (here0 n)) = rowH nm z a b (here0 n) ∧ burH k a (stepH ot P A B (here0 n)) = burH z a (here0 n) := by
  have at_ : ∀ i j, ((i ≤ P ∧ j = i) ∨ (P + B < i ∧ j + B = i + A)) → (stepH ot P A B (here0 n))[i]? = (here0 n)[j]? := fun i j h => by
    rw [st_get hP, here0_get]
    rcases h with ⟨h1, h2⟩ | ⟨h1, h2⟩
    · rw [if_pos h1, if_pos (by omega), h2]
    · rw [if_neg (by omega), if_neg (by omega)]
      have e : i - B + A = j := by omega
      rw [e]
  unfold Apart at ap
  refine ⟨row_eq (fun hb => at_ _ _ (by omega)) (fun hb => at_ _ _ (by omega)), bur_eq fun i hi => at_ _ _ (by omega)⟩
theorem same_all {n p a b q c d x y : Nat} (hp : p + a ≤ n) (hq : q + c ≤ n - a + b) (hx : x + c ≤ n) (hy : y + a ≤ n - c + d)
    (h : ((q + c < p ∨ (q + c = p ∧ b + d = 0)) ∧ x = q ∧ y + c = p + d) ∨ ((p + b < q ∨ (p + b = q ∧ b + d = 0)) ∧ x + b = q + a ∧ y = p)) :
    (rowH "q" q c d (stepH "p" p a b (here0 n)) = rowH "q" x c d (here0 n) ∧ burH q c (stepH "p" p a b (here0 n)) = burH x c (here0 n)) ∧
    (rowH "p" y a b (stepH "q" x c d (here0 n)) = rowH "p" p a b (here0 n) ∧ burH y a (stepH "q" x c d (here0 n)) = burH p a (here0 n)) :=
  ⟨same_of hp hq hx (by unfold Apart; omega), same_of hx hy hp (by unfold Apart; omega)⟩
end KP

/-! list(zip(xs, ys)). -/
namespace KD
open PySem PySem.Spec PyProof.Rows L2
/-- the zip at z, k pairs told -/
structure ZS (z TI TO i1 i2 a b : Addr) (xs ys : Array Value) (k : Nat) (h : Heap) : Prop where
  zip : (∃ u v, IsZip h z TI TO .none ∧ IsPair h TO u v) ∨ ∃ T f o, IsZipHeld h z TI TO T f ∧ h.get? T = some o ∧ T ≠ z
  ti : IsPair h TI (.ref i1) (.ref i2)
  it1 : h.IsListIter i1 a k
  it2 : h.IsListIter i2 b k
  la : h.IsList a xs
  lb : h.IsList b ys
theorem zip_no_len : typeLookup (.type "zip") "__len__" = pure none := am_miss_of_fast (by decide +kernel)
theorem zip_no_hint : typeLookup (.type "zip") "__length_hint__" = pure none := am_miss_of_fast (by decide +kernel)
/-- the tuples told up to now -/
def Told (Ts : List Addr) (xs ys : Array Value) (s0 : Nat) (h : Heap) : Prop :=
  (∀ (i : Nat) (T : Addr), Ts[i]? = some T → ∃ x y, xs[i]? = some x ∧ ys[i]? = some y ∧ IsPair h T x y ∧ s0 ≤ T ∧ T < h.objs.size) ∧ Ts.Pairwise (· < ·)
/-- what a turn leaves alone -/
def KpZ (z TO i1 i2 S : Addr) (h h' : Heap) : Prop := ∀ b o, b ≠ z → b ≠ TO → b ≠ i1 → b ≠ i2 → b ≠ S → h.get? b = some o → h'.get? b = some o
theorem KpZ.trans {z TO i1 i2 S : Addr} {h h1 h2 : Heap} (a : KpZ z TO i1 i2 S h h1) (b : KpZ z TO i1 i2 S h1 h2) : KpZ z TO i1 i2 S h h2 := fun c o n1 n2 n3 n4 n5 e => b c o n1 n2 n3 n4 n5 (a c o n1 n2 n3 n4 n5 e)
section
variable {P : Program} {w : World} {A : Around} {E : Value → Shared → Prop} {z TI TO i1 i2 a b S : Addr} {xs ys : Array Value} {k s0 : Nat} {s : Shared}
/-- one more pair -/
theorem next_zip {Q : Option Value → Shared → Prop} (D : ZipApart z TI TO i1 i2 a b) (st : ZS z TI TO i1 i2 a b xs ys k s.heap) (k1 : k < xs.size) (k2 : k < ys.size)
    (hQ : ∀ h', ZS z TI TO i1 i2 a b xs ys (k + 1) h' → IsPair h' s.heap.objs.size xs[k] ys[k] → h'.objs.size = s.heap.objs.size + 1 → KpZ z TO i1 i2 z s.heap h' → Q (some (.ref s.heap.objs.size)) { s with heap := h' }) :
    wpAny (model P w) A (pyNext (.ref z)) Q E s := by
  have lz : ∀ {o : Obj}, s.heap.get? z = some o → s.heap.objs.size ≠ z := fun e q => Nat.lt_irrefl _ (by have := Heap.lt_size e; rw [q] at this; exact this)
  rcases st.zip with ⟨u, v, hz, hO⟩ | ⟨T, f, o, hz, hT, hTz⟩
  · refine wpAny_pyNext_zip_item D hz st.ti hO st.it1 st.it2 st.la st.lb (x := xs[k]) (y := ys[k]) (by simp [k1]) (by simp [k2]) fun h' q1 q2 q3 q4 q5 q6 q7 => ?_
    refine hQ h' ⟨.inr ⟨s.heap.objs.size, false, _, q1, q5, lz hz⟩, q7 _ _ D.TIz D.TITO D.TIi1 D.TIi2 st.ti, q3, q4, st.la.at fun o e => q7 _ _ D.l1z D.l1TO D.l1i1 D.l1i2 e, st.lb.at fun o e => q7 _ _ D.l2z D.l2TO D.l2i1 D.l2i2 e⟩ q5 q6 fun c o n1 n2 n3 n4 _ e => q7 c o n1 n2 n3 n4 e
  · refine wpAny_pyNext_zip_item_held D hz hT st.ti st.it1 st.it2 st.la st.lb (x := xs[k]) (y := ys[k]) (by simp [k1]) (by simp [k2]) fun h' q1 q3 q4 q5 q6 q7 => ?_
    refine hQ h' ⟨.inr ⟨T, true, ?_⟩, q7 _ _ D.TIz D.TIi1 D.TIi2 st.ti, q3, q4, st.la.at fun o e => q7 _ _ D.l1z D.l1i1 D.l1i2 e, st.lb.at fun o e => q7 _ _ D.l2z D.l2i1 D.l2i2 e⟩ q5 q6 fun c o n1 n2 n3 n4 _ e => q7 c o n1 n3 n4 e
    by_cases c1 : T = i1
    · obtain ⟨o1, e1, _⟩ := q3
      exact ⟨o1, q1, c1 ▸ e1, hTz⟩
    · by_cases c2 : T = i2
      · obtain ⟨o1, e1, _⟩ := q4
        exact ⟨o1, q1, c2 ▸ e1, hTz⟩
      · exact ⟨o, q1, q7 T o hTz c1 c2 hT, hTz⟩
theorem end_zip {Q : Option Value → Shared → Prop} (hh : A.handled = none) (D : ZipApart z TI TO i1 i2 a b) (st : ZS z TI TO i1 i2 a b xs ys k s.heap) (he : xs.size ≤ k ∨ ys.size ≤ k)
    (hQ : ∀ h', KpZ z TO i1 i2 z s.heap h' → Q none { s with heap := h' }) : wpAny (model P w) A (pyNext (.ref z)) Q E s := by
  have he' : xs[k]? = none ∨ ys[k]? = none := he.elim (fun h => .inl (by simp [h])) fun h => .inr (by simp [h])
  rcases st.zip with ⟨u, v, hz, hO⟩ | ⟨T, f, o, hz, hT, hTz⟩
  · exact wpAny_pyNext_zip_end hh D hz st.ti hO st.it1 st.it2 st.la st.lb he' fun h' q => hQ h' fun c o n1 n2 n3 n4 _ e => q c o n1 n2 n3 n4 e
  · exact wpAny_pyNext_zip_end_held hh D hz hT st.ti st.it1 st.it2 st.la st.lb he' fun h' q => hQ h' fun c o n1 n2 n3 n4 _ e => q c o n1 n3 n4 e
/-- the list's loop -/
theorem loopZ {R : Result → Shared → Prop} {res : Value} (hh : A.handled = none) (D : ZipApart z TI TO i1 i2 a b) (nS : S ≠ z ∧ S ≠ TI ∧ S ≠ TO ∧ S ≠ i1 ∧ S ≠ i2 ∧ S ≠ a ∧ S ≠ b) (old : z < s0 ∧ TO < s0 ∧ i1 < s0 ∧ i2 < s0 ∧ S < s0) (big : min xs.size ys.size ≤ 1000000) (hb : Heap) (gs : Array GenState) (dr : Drawn) (tk : Nat) (os : _)
    (fin : ∀ (h : Heap) (Ts : List Addr) (c : Nat), KpZ z TO i1 i2 S hb h → h.get? S = some (lstObj (Ts.map Value.ref).toArray c) → Ts.length = min xs.size ys.size → Told Ts xs ys s0 h → R (.ok (.ret res)) ⟨h, gs, dr, tk, os⟩) :
    ∀ (m k : Nat) (h : Heap) (Ts : List Addr) (c : Nat), min xs.size ys.size - k = m → k ≤ min xs.size ys.size → KpZ z TO i1 i2 S hb h → s0 ≤ h.objs.size → ZS z TI TO i1 i2 a b xs ys k h → h.get? S = some (lstObj (Ts.map Value.ref).toArray c) → Ts.length = k → Told Ts xs ys s0 h →
      codeAny (model P w) A (.builtin "list.extend.loop" ⟨[.ref S, .ref z, res], []⟩) R ⟨h, gs, dr, tk, os⟩ := by
  obtain ⟨nS1, nS2, nS3, nS4, nS5, nS6, nS7⟩ := nS
  obtain ⟨o1, o2, o3, o4, o5⟩ := old
  -- a tuple that was told is none of the others
  have keepT : ∀ {Ts : List Addr} {h h' : Heap}, Told Ts xs ys s0 h → KpZ z TO i1 i2 S h h' → Told Ts xs ys s0 h' := fun {Ts h h'} t k => ⟨fun i T e => by
    obtain ⟨x, y, e1, e2, e3, e4, e5⟩ := t.1 i T e
    have ne : ∀ {q : Addr}, q < s0 → T ≠ q := fun hq z => Nat.lt_irrefl _ (Nat.lt_of_lt_of_le hq (z ▸ e4))
    have e6 := k T _ (ne o1) (ne o2) (ne o3) (ne o4) (ne o5) e3
    exact ⟨x, y, e1, e2, e6, e4, Heap.lt_size e6⟩, t.2⟩
  intro m
  induction m with
  | zero =>
    intro k h Ts c hm hk kp hs st hS hl told
    refine codeAny_builtin F.entry_extend_loop ?_
    rw [Around.under_plainId F.plain_extend_loop _]
    show wpAny _ A.in1 (pyNext (.ref z) >>= _) _ _ _
    refine wpAny_bind (end_zip (s := ⟨h, gs, dr, tk, os⟩) hh D st (by omega) fun h' q => wpAny_pure ?_)
    have q' : KpZ z TO i1 i2 S h h' := fun c o n1 n2 n3 n4 _ e => q c o n1 n2 n3 n4 n1 e
    exact fin h' Ts c (kp.trans q') (q S _ nS1 nS3 nS4 nS5 nS1 hS) (by omega) (keepT told q')
  | succ m ih =>
    intro k h Ts c hm hk kp hs st hS hl told
    refine codeAny_builtin F.entry_extend_loop ?_
    rw [Around.under_plainId F.plain_extend_loop _]
    show wpAny _ A.in1 (pyNext (.ref z) >>= _) _ _ _
    refine wpAny_bind (next_zip (s := ⟨h, gs, dr, tk, os⟩) D st (by omega) (by omega) fun h' st' pr sz q => ?_)
    have q' : KpZ z TO i1 i2 S h h' := fun c o n1 n2 n3 n4 _ e => q c o n1 n2 n3 n4 n1 e
    have hS' := q S _ nS1 nS3 nS4 nS5 nS1 hS
    show wpAny _ A.in1 (updateSeq S (·.push (.ref h.objs.size)) >>= _) _ _ _
    refine wpAny_bind ?_
    refine wpAny_updateSeq hS' rfl (wpAny_pure ⟨plainId_quiet F.plain_extend_loop _, ?_⟩) (by simp [hl]; rw [sizeLine_eq]; omega) (by simp [hl]; rw [sizeLine_eq]; omega)
    have oth : ∀ b o, b ≠ S → h'.get? b = some o → (h'.update S (Obj.mapSeq (·.push (Value.ref h.objs.size)))).get? b = some o := fun b o hb e => (Heap.get?_update_other _ _ (Ne.symm hb)).trans e
    have hnew : h.objs.size ≠ S := fun z => Nat.lt_irrefl _ (by rw [← z] at o5; exact Nat.lt_of_lt_of_le o5 hs)
    have pr2 := oth _ _ hnew pr
    have q2 : KpZ z TO i1 i2 S h' (h'.update S (Obj.mapSeq (·.push (Value.ref h.objs.size)))) := fun c o _ _ _ _ n5 e => oth c o n5 e
    have told2 := keepT (keepT told q') q2
    have self := Heap.get?_update_self (Obj.mapSeq (·.push (Value.ref h.objs.size))) hS' rfl
    refine ih (k + 1) _ (Ts ++ [h.objs.size]) _ (by omega) (by omega) ((kp.trans q').trans q2) (Nat.le_of_lt (Nat.lt_of_le_of_lt hs (Heap.lt_size pr2))) ⟨?_, oth _ _ (Ne.symm nS2) st'.ti, st'.it1.at fun o e => oth _ o (Ne.symm nS4) e, st'.it2.at fun o e => oth _ o (Ne.symm nS5) e, st'.la.at fun o e => oth _ o (Ne.symm nS6) e, st'.lb.at fun o e => oth _ o (Ne.symm nS7) e⟩ (by rw [self]; simp [Obj.mapSeq]; rfl) (by rw [List.length_append, hl]; rfl) ⟨fun i T e => ?_, ?_⟩
    · rcases st'.zip with ⟨u, v, hz, hO⟩ | ⟨T, f, o, hz, hT, hTz⟩
      · exact .inl ⟨u, v, oth _ _ (Ne.symm nS1) hz, oth _ _ (Ne.symm nS3) hO⟩
      · by_cases hTS : T = S
        · exact .inr ⟨S, f, _, oth _ _ (Ne.symm nS1) (hTS ▸ hz), self, nS1⟩
        · exact .inr ⟨T, f, o, oth _ _ (Ne.symm nS1) hz, oth _ _ hTS hT, hTz⟩
    · by_cases hi : i < Ts.length
      · rw [List.getElem?_append_left hi] at e
        exact told2.1 i T e
      · rw [List.getElem?_append_right (by omega)] at e
        have hik : i = k := by
          by_cases z : i - Ts.length = 0
          · omega
          · rw [List.getElem?_eq_none (by simp; omega)] at e
            cases e
        subst hik
        rw [hl, Nat.sub_self] at e
        cases e
        exact ⟨xs[i], ys[i], by simp, by simp, pr2, hs, Heap.lt_size pr2⟩
    · rw [List.pairwise_append]
      refine ⟨told.2, List.pairwise_singleton _ _, fun T hT U hU => ?_⟩
      rw [List.mem_singleton.mp hU]
      obtain ⟨i, hi⟩ := List.mem_iff_getElem?.mp hT
      obtain ⟨_, _, _, _, _, _, lt⟩ := told.1 i T hi
      exact lt
/-- list(z), z a zip that has told nothing -/
theorem call_list_zip {Q : Value → Shared → Prop} (hh : A.handled = none) (D : ZipApart z TI TO i1 i2 a b) (st : ZS z TI TO i1 i2 a b xs ys 0 s.heap) (lt : z < s.heap.objs.size ∧ TI < s.heap.objs.size ∧ TO < s.heap.objs.size ∧ i1 < s.heap.objs.size ∧ i2 < s.heap.objs.size ∧ a < s.heap.objs.size ∧ b < s.heap.objs.size)
    (zT : s.TypeIs (.ref z) "zip") (hz0 : IsZip s.heap z TI TO .none) (big : min xs.size ys.size ≤ 1000000)
    (hQ : ∀ h Ts c, KpZ z TO i1 i2 s.heap.objs.size s.heap h → h.get? s.heap.objs.size = some (lstObj (Ts.map Value.ref).toArray c) → Ts.length = min xs.size ys.size → Told Ts xs ys (s.heap.objs.size + 1) h → Q (.ref s.heap.objs.size) { s with heap := h }) :
    wpAny (model P w) A (call (.type "list") [.ref z]) Q E s := by
  obtain ⟨l1, l2, l3, l4, l5, l6, l7⟩ := lt
  let e0 : Heap := s.heap.push { cls := .type "list", data := .seq #[] }
  refine callType_codes (Q₁ := fun v t => v = .ref s.heap.objs.size ∧ t = { s with heap := e0 }) F.called_list (F.typeCall_list_1 _) F.entry_list_init (code_list_new _ ⟨rfl, rfl⟩) fun v t ht => ?_
  obtain ⟨rfl, rfl⟩ := ht
  have S0 : e0.get? s.heap.objs.size = some { cls := .type "list", data := .seq #[] } := Heap.get?_push_size _ rfl
  refine ⟨⟨_, S0, rfl⟩, F.args_list_init_2 _ _, ?_⟩
  generalize hSS : s.heap.objs.size = SS at *
  have old : ∀ b o, s.heap.get? b = some o → b ≠ SS := fun b o e q => Nat.lt_irrefl _ (by have := Heap.lt_size e; rw [hSS, q] at this; exact this)
  have k0 : ∀ b o, s.heap.get? b = some o → e0.get? b = some o := fun b o e => Heap.get?_push_of_some _ e
  have up : ∀ (h : Heap) (f : Obj → Obj), (∀ b o, s.heap.get? b = some o → h.get? b = some o) → ∀ b o, s.heap.get? b = some o → (h.update SS f).get? b = some o := fun h f q b o e => (Heap.get?_update_other _ _ (Ne.symm (old b o e))).trans (q b o e)
  show wpAny _ A.in1.in1
    (do let was ← Builtin.List.listItems (.ref SS)
        Builtin.List.listUpdate (.ref SS) (fun _ => #[])
        letGo was.toList.reverse
        Builtin.List.listExtendWith (.ref SS) (.ref z) .none) _ _ _
  refine wpAny_bind ?_
  unfold Builtin.List.listItems
  refine wpAny_bind (wpAny_seqItems S0 rfl (wpAny_pure ?_))
  refine wpAny_bind (wpAny_updateSeq S0 rfl ?_)
  have S1 := Heap.get?_update_self (Obj.mapSeq (fun _ => (#[] : Array Value))) S0 rfl
  have k1 := up _ (Obj.mapSeq (fun _ => (#[] : Array Value))) k0
  refine wpAny_bind (wpAny_letGo ?_)
  unfold Builtin.List.listExtendWith
  have zt : ∀ {h : Heap}, (∀ b o, s.heap.get? b = some o → h.get? b = some o) → ({ s with heap := h } : Shared).TypeIs (.ref z) "zip" := fun {h} k => by
    obtain ⟨o, e1, e2⟩ := zT
    exact ⟨o, k _ _ e1, e2⟩
  refine wpAny_bind (wpAny_typeOf (zt k1) ?_)
  have nz : SS ≠ z := fun q => Nat.lt_irrefl _ (by rw [← q] at l1; exact l1)
  have n1 : Builtin.List.listSameRef (.ref SS) (.ref z) = false := by simp [Builtin.List.listSameRef, nz]
  have n2 : (Value.type "zip" == Value.type "list") = false := by decide
  have n3 : (Value.type "zip" == Value.type "tuple") = false := by decide
  simp only [n1, n2, n3, Bool.or_false, Bool.false_eq_true, if_false]
  refine wpAny_bind (wpAny_pyIter_zip (s := { s with heap := _ }) (k1 _ _ hz0) ?_)
  refine wpAny_bind (wpAny_holding ?_)
  unfold Builtin.List.listLengthHint
  refine wpAny_bind (wpAny_specialOf (zt k1) zip_no_len ?_)
  show wpAny _ A.in1.in1 (specialOf (.ref z) (Str.ofString "__length_hint__") >>= _) _ _ _
  refine wpAny_bind (wpAny_specialOf (zt k1) zip_no_hint (wpAny_pure ?_))
  show wpAny _ A.in1.in1
    (rule "list.extend.makes-room" >>= fun _ => Builtin.List.listTouch (.ref SS) >>= fun _ => again (.builtin "list.extend.loop" ⟨[.ref SS, .ref z, .none], []⟩)) _ _ _
  refine wpAny_bind (wpAny_rule ?_)
  refine wpAny_bind ?_
  show wpAny _ A.in1.in1 (updateSeq SS (·.push .none) >>= fun _ => updateSeq SS (·.pop)) _ _ _
  refine wpAny_bind (wpAny_updateSeq S1 rfl ?_)
  have S2 := Heap.get?_update_self (Obj.mapSeq (·.push Value.none)) S1 rfl
  refine wpAny_updateSeq (hz := by seq_fits) S2 rfl ?_
  have S3 := Heap.get?_update_self (Obj.mapSeq (·.pop)) S2 rfl
  have k3 := up _ (Obj.mapSeq (·.pop)) (up _ (Obj.mapSeq (·.push Value.none)) k1)
  have nn : ∀ {q : Addr}, q < SS → SS ≠ q := fun hq e => Nat.lt_irrefl _ (by rw [← e] at hq; exact hq)
  refine wpAny_pure ⟨plainId_quiet F.plain_extend_loop _, ?_⟩
  refine loopZ (P := P) (w := w) (A := A.in1) (s0 := SS + 1) hh D ⟨nn l1, nn l2, nn l3, nn l4, nn l5, nn l6, nn l7⟩ ⟨Nat.lt_succ_of_lt l1, Nat.lt_succ_of_lt l3, Nat.lt_succ_of_lt l4, Nat.lt_succ_of_lt l5, Nat.lt_succ_self _⟩ big _ _ _ _ _ (fun h Ts c kp hS hl told => ⟨rfl, hQ h Ts c (fun b o c1 c2 c3 c4 c5 e => kp b o c1 c2 c3 c4 c5 (k3 b o e)) hS hl told⟩) _ 0 _ [] _ rfl (Nat.zero_le _) (fun _ _ _ _ _ _ _ e => e) (Nat.succ_le_of_lt (Heap.lt_size S3)) ⟨?_, k3 _ _ st.ti, st.it1.at fun o e => k3 _ o e, st.it2.at fun o e => k3 _ o e, st.la.at fun o e => k3 _ o e, st.lb.at fun o e => k3 _ o e⟩ S3 rfl ⟨fun i T e => by simp at e, .nil⟩
  rcases st.zip with ⟨u, v, hz, hO⟩ | ⟨T, f, o, hz, hT, hTz⟩
  · exact .inl ⟨u, v, k3 _ _ hz, k3 _ _ hO⟩
  · exact .inr ⟨T, f, o, k3 _ _ hz, k3 _ _ hT, hTz⟩
end
end KD

/-! list(zip(xs, ys)), read. -/
namespace KD
open PySem PySem.Spec PyProof.Rows L2
/-- tuples of pairs laid -/
def layT : Hp → List Addr → List V → List V → Hp
  | H, T :: Ts, x :: xs, y :: ys => layT (upd H T (.tup [x, y])) Ts xs ys
  | H, _, _, _ => H
theorem layT_nil {H : Hp} {xs ys : List V} : layT H [] xs ys = H := by unfold layT; rfl
theorem layT_nx {H : Hp} {Ts : List Addr} {ys : List V} : layT H Ts [] ys = H := by cases Ts <;> (unfold layT; rfl)
theorem layT_ny {H : Hp} {Ts : List Addr} {xs : List V} : layT H Ts xs [] = H := by cases Ts <;> cases xs <;> (unfold layT; rfl)
theorem layT_old {b : Addr} : ∀ {Ts : List Addr} {xs ys : List V} {H : Hp}, b ∉ Ts → layT H Ts xs ys b = H b
  | [], _, _, _, _ => by rw [layT_nil]
  | _ :: _, [], _, _, _ => by rw [layT_nx]
  | _ :: _, _ :: _, [], _, _ => by rw [layT_ny]
  | T :: Ts, x :: xs, y :: ys, H, h => by
    rw [layT, layT_old (fun z => h (List.mem_cons_of_mem _ z)), upd_ne (fun z => h (by rw [z]; exact List.mem_cons_self ..))]
theorem layT_ok {P : Program} {w : World} {h : Heap} : ∀ {Ts : List Addr} {xs ys : List V} {H : Hp}, HOk P w H h → Ts.Nodup → (∀ T ∈ Ts, H T = none) →
    (∀ (i : Nat) (T : Addr) (x y : V), Ts[i]? = some T → xs[i]? = some x → ys[i]? = some y → ∃ u v, RelV x u ∧ RelV y v ∧ h.get? T = some { cls := .type "tuple", data := .seq #[u, v] }) → HOk P w (layT H Ts xs ys) h
  | [], _, _, _, ok, _, _, _ => by rw [layT_nil]; exact ok
  | _ :: _, [], _, _, ok, _, _, _ => by rw [layT_nx]; exact ok
  | _ :: _, _ :: _, [], _, ok, _, _, _ => by rw [layT_ny]; exact ok
  | T :: Ts, x :: xs, y :: ys, H, ok, nd, fr, tr => by
    rw [layT]
    obtain ⟨n1, n2⟩ := List.nodup_cons.mp nd
    obtain ⟨u, v, ru, rv, pr⟩ := tr 0 T x y rfl rfl rfl
    refine layT_ok (HOk.laidN ok (fun _ _ e => e) (fr T (List.mem_cons_self ..)) (show ObjOk P w _ h T (.tup [x, y]) from ⟨by rw [sizeLine_eq]; exact (by decide : 2 ≤ 16777216), [u, v], .cons ru (.cons rv .nil), ⟨_, pr, rfl, _, rfl⟩⟩)) n2 (fun T' hT => ?_) fun i T' x' y' e1 e2 e3 => tr (i + 1) T' x' y' e1 e2 e3
    rw [upd_ne (fun z => n1 (by rw [← z]; exact hT))]
    exact fr T' (List.mem_cons_of_mem _ hT)
theorem vals_refs : ∀ (Ts : List Addr), Vals (Ts.map V.ref) (Ts.map Value.ref)
  | [] => .nil
  | _ :: Ts => .cons rfl (vals_refs Ts)
def tLz (K : PySem.W.Frag) (ta : TA) : TE := fun σ H Q => ta σ H fun vs H1 => ∃ a b xs ys, vs = [.ref a, .ref b] ∧ SqL K H1 a xs ∧ SqL K H1 b ys ∧ min xs.length ys.length ≤ 1000000 ∧
  ∀ L Ts, (L :: Ts).Nodup → (∀ c ∈ L :: Ts, H1 c = none) → Ts.length = min xs.length ys.length → Q (.ref L) (upd (layT H1 Ts xs ys) L (.lst (Ts.map V.ref)))
theorem pe_listZip {X : Cx} {e e2 : Expr} {ta : TA} {p pos p2 pos2 : Pos} (hc : X.calm = true) (hgl : Gl X "list") (hml : X.mg "list" = none) (hg : Gl X "zip") (hm : X.mg "zip" = none) (ha : PA X [e, e2] ta)
    (hs : starEach [e, e2] X.env = (false, eval e X.env) :: starEach [e2] X.env := by rfl) (hpl : (backTo pos2 (starEach [e2] X.env)).any (·.1) = false := by rfl)
    (na : starEach [.Call (.Name "zip" p2) [e, e2] [] pos2] X.env = (false, eval (.Call (.Name "zip" p2) [e, e2] [] pos2) X.env) :: starEach [] X.env := by rfl) :
    PE X (.Call (.Name "list" p) [.Call (.Name "zip" p2) [e, e2] [] pos2] [] pos) (tLz X.K ta) := by
  refine ⟨fun pins s σ H Q I h => ?_⟩
  refine Call_ (ld_blt I hgl hml boot_list (PyProof.Rows.callWith_type1 (args_cons (Call_ (ld_blt I hg hm PyProof.Rows.boot_zip (PyProof.Rows.callWith_type1 (thn (ha.run pos2 pins s σ H _ I h) fun us s1 ⟨vs, H1, I1, r1, q1⟩ => ?_) hs hpl))) na) na))
  obtain ⟨a, b, xs, ys, ex, hqx, hqy, big, q⟩ := q1
  subst ex
  cases r1 with
  | cons r rr =>
    cases rr with
    | cons r' rr =>
      cases rr
      cases r
      cases r'
      obtain ⟨its, rv, p1, z1⟩ := I1.list hqx
      obtain ⟨its2, rv2, p2, z2⟩ := I1.list hqy
      have la : a < s1.heap.objs.size := p1.lt
      have lb : b < s1.heap.objs.size := p2.lt
      have el1 := rv.length
      have el2 := rv2.length
      refine call_zip_2 p1.isList p2.isList fun h' hz hTI hTO h1 h2 hsz hk => args_nil ?_
      have fr : ∀ {c : Addr}, s1.heap.objs.size ≤ c → H1 c = none := fun hle => I1.hok.fresh hle
      refine call_list_zip (s := { s1 with heap := h' }) (xs := its.toArray) (ys := its2.toArray) (I1.ok.hd hc) (PySem.W.ktu_apart s1.heap.objs.size a b la lb) ⟨.inl ⟨_, _, hz, hTO⟩, hTI, h1, h2, p1.isList.at fun o e => hk _ o e, p2.isList.at fun o e => hk _ o e⟩ ?_ ⟨_, hz, rfl⟩ hz (by simp only [List.size_toArray]; omega) fun hh Ts c kp hL hl told => ?_
      · show _ < h'.objs.size ∧ _ < h'.objs.size ∧ _ < h'.objs.size ∧ _ < h'.objs.size ∧ _ < h'.objs.size ∧ _ < h'.objs.size ∧ _ < h'.objs.size
        rw [hsz]
        exact ⟨Nat.add_lt_add_left (by decide : 4 < 5) _, Nat.add_lt_add_left (by decide : 2 < 5) _, Nat.add_lt_add_left (by decide : 3 < 5) _, Nat.lt_add_of_pos_right (by decide), Nat.add_lt_add_left (by decide : 1 < 5) _, Nat.lt_of_lt_of_le la (Nat.le_add_right _ _), Nat.lt_of_lt_of_le lb (Nat.le_add_right _ _)⟩
      · have hL' : hh.get? h'.objs.size = some (lstObj (Ts.map Value.ref).toArray c) := hL
        have told' : Told Ts its.toArray its2.toArray (h'.objs.size + 1) hh := told
        have kp' : KpZ (s1.heap.objs.size + 4) (s1.heap.objs.size + 3) s1.heap.objs.size (s1.heap.objs.size + 1) h'.objs.size h' hh := kp
        clear kp hL told
        have hS : s1.heap.objs.size ≤ h'.objs.size := by rw [hsz]; exact Nat.le_add_right _ _
        have nw : ∀ c ∈ h'.objs.size :: Ts, s1.heap.objs.size ≤ c := fun c hc => by
          rcases List.mem_cons.mp hc with z | z
          · rw [z]; exact hS
          · obtain ⟨i, hi⟩ := List.mem_iff_getElem?.mp z
            obtain ⟨_, _, _, _, _, g, _⟩ := told'.1 i c hi
            exact Nat.le_trans hS (Nat.le_of_succ_le g)
        have nd : (h'.objs.size :: Ts).Nodup := by
          refine List.nodup_cons.mpr ⟨fun z => ?_, told'.2.imp fun h => Nat.ne_of_lt h⟩
          obtain ⟨i, hi⟩ := List.mem_iff_getElem?.mp z
          obtain ⟨_, _, _, _, _, g, _⟩ := told'.1 i _ hi
          exact Nat.lt_irrefl _ g
        have frs' : ∀ c ∈ h'.objs.size :: Ts, H1 c = none := fun c hc => fr (nw c hc)
        have k : ∀ c o, s1.heap.get? c = some o → hh.get? c = some o := fun c o e => by
          have lt := Heap.lt_size e
          have ne : ∀ {d : Addr}, s1.heap.objs.size ≤ d → c ≠ d := fun hd z => Nat.lt_irrefl _ (Nat.lt_of_lt_of_le (z ▸ lt) hd)
          exact kp' c o (ne (Nat.le_add_right _ _)) (ne (Nat.le_add_right _ _)) (ne (Nat.le_refl _)) (ne (Nat.le_add_right _ _)) (ne hS) (hk c o e)
        have old : ∀ c, c < s1.heap.objs.size → upd (layT H1 Ts xs ys) h'.objs.size (.lst (Ts.map V.ref)) c = H1 c := fun c lt => by
          have ne : ∀ d ∈ h'.objs.size :: Ts, c ≠ d := fun d hd z => Nat.lt_irrefl _ (Nat.lt_of_lt_of_le (z ▸ lt) (nw d hd))
          rw [upd_ne (ne _ (List.mem_cons_self ..)), layT_old fun z => ne c (List.mem_cons_of_mem _ z) rfl]
        have hok : HOk X.prog X.w (upd (layT H1 Ts xs ys) h'.objs.size (.lst (Ts.map V.ref))) hh := by
          obtain ⟨n1, n2⟩ := List.nodup_cons.mp nd
          refine (layT_ok (I1.hok.kept k) n2 (fun T hT => frs' T (List.mem_cons_of_mem _ hT)) fun i T x y e1 e2 e3 => ?_).laidN (fun _ _ e => e) ?_ (show ObjOk X.prog X.w _ hh _ (.lst (Ts.map V.ref)) from ⟨?_, Ts.map Value.ref, c, vals_refs Ts, hL'⟩)
          · obtain ⟨u, v, f1, f2, pr, _, _⟩ := told'.1 i T e1
            obtain ⟨u', g1, g2⟩ := rv.get e2
            obtain ⟨v', g3, g4⟩ := rv2.get e3
            have f1' : its[i]? = some u := by simpa using f1
            have f2' : its2[i]? = some v := by simpa using f2
            rw [g1] at f1'
            rw [g3] at f2'
            cases f1'
            cases f2'
            exact ⟨_, _, g2, g4, pr⟩
          · rw [layT_old n1]
            exact frs' _ (List.mem_cons_self ..)
          · rw [List.length_map, hl, sizeLine_eq]
            simp only [List.size_toArray]
            omega
        refine ⟨.ref h'.objs.size, _, I1.un (h' := hh) (t' := s1.toks) ⟨fun c o e _ _ _ => k c o e, fun c o e _ _ _ => ⟨o.slots, k c o e⟩, fun c o e n _ => ?_, fun c o e _ => ⟨o, k c o e⟩, fun c vs e => ?_, fun c o u e => ?_, fun c ps e => ⟨#[], ?_⟩⟩ hok, rfl, q _ Ts nd frs' (by rw [hl]; simp only [List.size_toArray]; omega)⟩
        · rw [old c (Heap.lt_size e)]; exact n
        · rw [old c (I1.hok.lt e)]; exact e
        · rw [old c (I1.hok.lt e)]; exact e
        · rw [old c (I1.hok.lt e), e]; simp
/-! ### as data -/
theorem layT_dx {X : Addr → Prop} : ∀ {Ts : List Addr} {xs ys : List V} {ds es : List PyData} {H : Hp}, Trk X H → DXs X H xs ds → DXs X H ys es → Ts.Nodup → (∀ T ∈ Ts, H T = none) → Ts.length = min xs.length ys.length →
    Same H (layT H Ts xs ys) ∧ DXs X (layT H Ts xs ys) (Ts.map V.ref) (List.zipWith (fun a b => .tuple [a, b]) ds es)
  | [], xs, ys, ds, es, H, t, hx, hy, nd, fr, hl => by
    rw [layT_nil]
    refine ⟨Same.refl H, ?_⟩
    cases hx with
    | nil => exact .nil
    | cons _ _ =>
      cases hy with
      | nil => exact .nil
      | cons _ _ => simp at hl
  | T :: Ts, _, _, _, _, H, t, .nil, hy, nd, fr, hl => by simp at hl
  | T :: Ts, _, _, _, _, H, t, .cons _ _, .nil, nd, fr, hl => by simp at hl
  | T :: Ts, x :: _, y :: _, _, _, H, t, .cons h1 r1, .cons h2 r2, nd, fr, hl => by
    rw [layT]
    obtain ⟨n1, n2⟩ := List.nodup_cons.mp nd
    have hT := fr T (List.mem_cons_self ..)
    have s1 : Same H (upd H T (.tup [x, y])) := Same.upd hT
    have k1 := Kp.of (X := X) s1
    obtain ⟨s2, d2⟩ := layT_dx (t.mono s1) (r1.mono k1) (r2.mono k1) n2 (fun T' hT' => by
      rw [upd_ne (fun z => n1 (by rw [← z]; exact hT'))]
      exact fr T' (List.mem_cons_of_mem _ hT')) (by simp at hl ⊢; omega)
    exact ⟨s1.trans s2, .cons ((DX.newT t (.cons h1 (.cons h2 .nil)) hT).mono (Kp.of s2)) d2⟩
theorem g_listZip {X : Addr → Prop} {σ : L2.St} {H : Hp} {K : PySem.W.Frag} {ta tb : TE} {ds es : List PyData} (t : Trk X H) (h1 : G X ta σ H (.list ds)) (h2 : G X tb σ H (.list es)) (big : min ds.length es.length ≤ 1000000) :
    GN X (tLz K (tCons ta (tCons tb tNil))) σ H (.list (List.zipWith (fun a b => .tuple [a, b]) ds es)) := fun H1 s Q q =>
  ga_cons h1 (ga_cons h2 ga_nil) H1 s _ fun vs H2 s2 rs => by
    cases rs with
    | cons r1 rs =>
      cases rs with
      | cons r2 rs =>
        cases rs
        obtain ⟨a, xs, rfl, _, ea, da⟩ := r1.lst_inv
        obtain ⟨b, ys, rfl, _, eb, db⟩ := r2.lst_inv
        refine ⟨a, b, xs, ys, rfl, .of ea, .of eb, by rw [da.length, db.length]; exact big, fun L Ts nd fr hl => ?_⟩
        obtain ⟨n1, n2⟩ := List.nodup_cons.mp nd
        have t2 := (t.mono s).mono s2
        obtain ⟨s3, d3⟩ := layT_dx t2 da db n2 (fun T hT => fr T (List.mem_cons_of_mem _ hT)) hl
        have hL : layT H2 Ts xs ys L = none := by
          rw [layT_old n1]
          exact fr L (List.mem_cons_self ..)
        have hL0 := fr L (List.mem_cons_self ..)
        exact q _ _ ((s2.trans s3).trans (Same.upd hL)) (DX.newL (t2.mono s3) d3 hL) (Nw.back s2 (Nw.of hL0))
end KD

/-! Three changes: by one way or by the other, the same. -/
namespace KP
/-- the places behind a passing, told on -/
def passK {α : Type} (p a b q c d : Int) (k : Int → Int → Option α) : Option α :=
  if q + c < p ∨ (q + c = p ∧ b + d = 0) then k q (p + d - c) else if p + b < q ∨ (p + b = q ∧ b + d = 0) then k (q - b + a) p else none
def oneZ (p a b q c d r e f : Int) : Option (Int × Int × Int) := passK p a b q c d fun x2 y1 => passK y1 a b r e f fun x3 z1 => passK x2 c d x3 e f fun u3 u2 => some (u3, u2, z1)
def othZ (p a b q c d r e f : Int) : Option (Int × Int × Int) := passK q c d r e f fun x3 y2 => passK p a b x3 e f fun u3 y1 => passK y1 a b y2 c d fun u2 u1 => some (u3, u2, u1)
theorem cube (p a b q c d r e f : Int) (a0 : 0 ≤ a) (b0 : 0 ≤ b) (c0 : 0 ≤ c) (d0 : 0 ≤ d) (e0 : 0 ≤ e) (f0 : 0 ≤ f) (ab : 0 < a + b) (cd : 0 < c + d) (ef : 0 < e + f) : oneZ p a b q c d r e f = othZ p a b q c d r e f := by
  unfold oneZ othZ passK
  repeat' ((split <;> try (exfalso; omega)) <;> try dsimp only)
  all_goals first | rfl | (refine congrArg some (Prod.ext ?_ (Prod.ext ?_ ?_)) <;> dsimp only <;> omega)
/-- side by side -/
def sideP (p a b q c d : Int) (k : Int → Int → Prop) (n : Prop) : Prop :=
  if q + c < p ∨ (q + c = p ∧ b + d = 0) then k q (p + d - c) else if p + a < q ∨ (p + a = q ∧ b + d = 0) then k (q + b - a) p else n
theorem sideP_in {p a b q c d : Int} {k : Int → Int → Prop} {n : Prop} (h1 : (q + c < p ∨ (q + c = p ∧ b + d = 0)) → k q (p + d - c)) (h2 : ¬ (q + c < p ∨ (q + c = p ∧ b + d = 0)) → (p + a < q ∨ (p + a = q ∧ b + d = 0)) → k (q + b - a) p)
    (h3 : ¬ (q + c < p ∨ (q + c = p ∧ b + d = 0)) → ¬ (p + a < q ∨ (p + a = q ∧ b + d = 0)) → n) : sideP p a b q c d k n := by
  unfold sideP
  split
  · exact h1 ‹_›
  · split
    · exact h2 ‹_› ‹_›
    · exact h3 ‹_› ‹_›
/-- three side by side: the last one behind both others, either way -/
theorem beside3 (p a b q c d r e f : Int) (a0 : 0 ≤ a) (b0 : 0 ≤ b) (c0 : 0 ≤ c) (d0 : 0 ≤ d) (e0 : 0 ≤ e) (f0 : 0 ≤ f) (ab : 0 < a + b) (cd : 0 < c + d) (ef : 0 < e + f) :
    sideP p a b q c d (fun x2 x1 => sideP p a b r e f (fun y3 _ => sideP q c d r e f (fun z3 _ => sideP x2 c d y3 e f (fun u _ => sideP x1 a b z3 e f (fun u' _ => u = u') False) False) True) True) True := by
  repeat' ((apply sideP_in <;> intros) <;> try (exfalso; omega))
  all_goals first | trivial | omega
def passZ (p a b q c d : Int) : Option (Int × Int) := passK p a b q c d fun x y => some (x, y)
def sideZ (p a b q c d : Int) : Option (Int × Int) := if q + c < p ∨ (q + c = p ∧ b + d = 0) then some (q, p + d - c) else if p + a < q ∨ (p + a = q ∧ b + d = 0) then some (q + b - a, p) else none
theorem passK_eq {α : Type} {p a b q c d : Int} {k : Int → Int → Option α} : passK p a b q c d k = (passZ p a b q c d).bind fun xy => k xy.1 xy.2 := by
  unfold passZ passK
  split
  · rfl
  · split <;> rfl
theorem sideP_some {p a b q c d x y : Int} {k : Int → Int → Prop} {n : Prop} (h : sideP p a b q c d k n) (e : sideZ p a b q c d = some (x, y)) : k x y := by
  unfold sideP at h
  unfold sideZ at e
  split at e
  · rename_i h1
    cases e
    rwa [if_pos h1] at h
  · rename_i h1
    rw [if_neg h1] at h
    split at e
    · rename_i h2
      cases e
      rwa [if_pos h2] at h
    · cases e
theorem sideP_none {p a b q c d : Int} {k : Int → Int → Prop} {n : Prop} (h : sideP p a b q c d k n) (e : sideZ p a b q c d = none) : n := by
  unfold sideP at h
  unfold sideZ at e
  split at e
  · cases e
  · rename_i h1
    rw [if_neg h1] at h
    split at e
    · cases e
    · rename_i h2
      rwa [if_neg h2] at h
end KP

namespace K18
open PySem PySem.Spec PyProof.Rows L2 KD
def topS (i : Nat) : Stmt := PySem.Challenge.pw_patchlots_k18_whole_cube.main.body.getD i (.Pass ⟨0, 0, 0, 0⟩)
variable {P : Program} {w : World} {K : PySem.W.Frag} {mg : Str → Option Value} {base : Heap}

abbrev s_is_list : Stmt := topS 7
abbrev n_is_list : List Str := ["thing"]
theorem sc_is_list : FnScope n_is_list ["thing"] (defScope s_is_list) := ⟨rfl, rfl, rfl, by decide +kernel, rfl, by decide +kernel, by decide +kernel⟩
theorem ok_is_list {f : Addr} {fd : FuncData} (F : Fun K "is_list" "is_list" s_is_list f fd) (T : Bl mg) : FnOk P w K mg base CX0 1 f fd ["thing"] (sp1 (fun _ => True) fun d => .bool (isSeq d)) := by
  refine ok1 F sc_is_list (by decide) fun cdv A outer s H E X d Q hr t _ q => ⟨_, (pss_one (ps_ret (pe_callB call_isiT (by rfl) T.b_isinstance boot_isinstance (pa_cons (pv 0) (pa_cons (pe_tup (pa_cons (pe_bltn (v := .ty "list") (by rfl) T.b_list boot_list rfl) (pa_cons (pe_bltn (v := .ty "tuple") (by rfl) T.b_tuple boot_tuple rfl) pa_nil))) pa_nil))))), fun σ En => ?_⟩
  exact s_ret (g_isSeq (g_var En rfl)) q

abbrev s_is_integer : Stmt := topS 8
abbrev n_is_integer : List Str := ["thing"]
theorem sc_is_integer : FnScope n_is_integer ["thing"] (defScope s_is_integer) := ⟨rfl, rfl, rfl, by decide +kernel, rfl, by decide +kernel, by decide +kernel⟩
def isIntD (d : PyData) : Bool := isa_int d && !isa_bool d
theorem ok_is_integer {f : Addr} {fd : FuncData} (F : Fun K "is_integer" "is_integer" s_is_integer f fd) (T : Bl mg) : FnOk P w K mg base CX0 1 f fd ["thing"] (sp1 (fun _ => True) fun d => .bool (isIntD d)) := by
  refine ok1 F sc_is_integer (by decide) fun cdv A outer s H E X d Q hr t _ q => ⟨_, (pss_one (ps_ret (pe_and (pe_callB call_isi (by rfl) T.b_isinstance boot_isinstance (pa_cons (pv 0) (pa_cons (pe_bltn (v := .ty "int") (by rfl) T.b_int boot_int rfl) pa_nil))) (pe_one (pe_not (pe_callB call_isi (by rfl) T.b_isinstance boot_isinstance (pa_cons (pv 0) (pa_cons (pe_bltn (v := .ty "bool") (by rfl) T.b_bool boot_bool rfl) pa_nil)))))))), fun σ En => ?_⟩
  exact s_ret (g_and (g_isInt (g_var En rfl)) fun _ => g_not (g_isBool (g_var En rfl))) q

abbrev s_is_number : Stmt := topS 9
abbrev n_is_number : List Str := ["thing"]
theorem sc_is_number : FnScope n_is_number ["thing"] (defScope s_is_number) := ⟨rfl, rfl, rfl, by decide +kernel, rfl, by decide +kernel, by decide +kernel⟩
def isNumD : PyData → Bool
  | .int i => decide (0 ≤ i)
  | _ => false
theorem isIntD_int {d : PyData} (h : isIntD d = true) : ∃ i, d = .int i := by
  cases d <;> simp [isIntD, isa_int, isa_bool] at h ⊢
theorem isNumD_eq (d : PyData) : (∃ i, d = .int i ∧ isIntD d = true ∧ isNumD d = decide (0 ≤ i)) ∨ (isIntD d = false ∧ isNumD d = false) := by
  cases d <;> simp [isIntD, isa_int, isa_bool, isNumD]
theorem ok_is_number {f : Addr} {fd : FuncData} (F : Fun K "is_number" "is_number" s_is_number f fd) (T : Bl mg) (O_is_integer : Own P w K mg base CX0 1 "is_integer" ["thing"] (sp1 (fun _ => True) fun d => .bool (isIntD d))) : FnOk P w K mg base CX0 2 f fd ["thing"] (sp1 (fun _ => True) fun d => .bool (isNumD d)) := by
  refine ok1 F sc_is_number (by decide) fun cdv A outer s H E X d Q hr t _ q => ⟨_, (pss_one (ps_ret (pe_and (pe_own O_is_integer hr (by decide) (by rfl) (pa_cons (pv 0) pa_nil)) (pe_one (pe_cmpR op_ge (pv 0) pe_int (nomark _)))))), fun σ En => ?_⟩
  refine s_ret ?_ q
  rcases isNumD_eq d with ⟨i, rfl, h1, h2⟩ | ⟨h1, h2⟩
  · rw [h2]
    refine g_is (g_and (a := true) (b := decide (0 ≤ i)) (g_is (g_call1 t (g_var En rfl) trivial) (by rw [h1])) fun _ => ?_) rfl
    exact g_op t (g_var En rfl) g_int rb_I0.rd
  · rw [h2]
    exact g_and (a := false) (b := false) (g_is (g_call1 t (g_var En rfl) trivial) (by rw [h1])) fun z => absurd z (by decide)

abbrev s_is_words : Stmt := topS 12
abbrev n_is_words : List Str := ["thing"]
theorem sc_is_words : FnScope n_is_words ["thing"] (defScope s_is_words) := ⟨rfl, rfl, rfl, by decide +kernel, rfl, by decide +kernel, by decide +kernel⟩
-- HINT is_words in op_notIn_sign
def hasFeed (s : Str) : Bool := decide (10 ∈ s.cps.toList)
def isWordsD : PyData → Bool
  | .str s => decide (s.length ≤ 200) && !hasFeed s
  | _ => false
theorem rb_notInSign {X : Addr → Prop} {c : Nat} {s : Str} : RB X (fun x y H Q => ∃ (c : Nat) (z : Str), x = V.str ⟨#[c]⟩ ∧ y = V.str z ∧ Q (V.bl (!decide (c ∈ z.cps.toList))) H) (.str ⟨#[c]⟩) (.str s) (!decide (c ∈ s.cps.toList)) := fun H u v _ ru rv Q q => ⟨c, s, ru.str_inv, rv.str_inv, q⟩
def wordsPre : PyData → Prop
  | .str s => s.length ≤ 1000000
  | _ => True
theorem ok_is_words {f : Addr} {fd : FuncData} (F : Fun K "is_words" "is_words" s_is_words f fd) (T : Bl mg) : FnOk P w K mg base CX0 1 f fd ["thing"] (sp1 wordsPre fun d => .bool (isWordsD d)) := by
  refine ok1 F sc_is_words (by decide) fun cdv A outer s H E X d Q hr t hp q => ⟨_, (pss_one (ps_ret (pe_and (pe_callB call_isi (by rfl) T.b_isinstance boot_isinstance (pa_cons (pv 0) (pa_cons (pe_bltn (v := .ty "str") (by rfl) T.b_str boot_str rfl) pa_nil))) (pe_and (pe_cmpR op_le (pe_callB call_len (by rfl) T.b_len boot_len (pa_cons (pv 0) pa_nil)) pe_int (nomark _)) (pe_one (pe_cmpR op_notIn_sign pe_str (pv 0) (by rfl))))))), fun σ En => ?_⟩
  refine s_ret ?_ q
  by_cases h : ∃ z, d = .str z
  · obtain ⟨z, rfl⟩ := h
    refine g_is (g_and (a := true) (b := decide (z.length ≤ 200) && !hasFeed z) (g_is (g_isStr (g_var En rfl)) rfl) fun _ => ?_) (by simp [isWordsD])
    refine g_and (a := decide (z.length ≤ 200)) ?_ fun _ => ?_
    · refine g_is (g_cmpI t (g := fun i j => decide (i ≤ j)) (g_len t (g_var En rfl) (by simpa [hasLen, wordsPre] using hp)) g_int) ?_
      show PyData.bool (decide ((z.length : Int) ≤ 200)) = _
      congr 1
      exact decide_eq_decide.mpr (by omega)
    · exact g_op t g_str (g_var En rfl) rb_notInSign.rd
  · have e1 : isa_str d = false := by cases d <;> first | rfl | exact absurd ⟨_, rfl⟩ h
    have e2 : isWordsD d = false := by cases d <;> first | rfl | exact absurd ⟨_, rfl⟩ h
    rw [e2]
    exact g_is (g_and (a := false) (b := false) (g_is (g_isStr (g_var En rfl)) (by rw [e1])) fun z => absurd z (by decide)) rfl
abbrev s_first_false : Stmt := topS 13
abbrev n_first_false : List Str := ["tests", "index", "test"]
theorem sc_first_false : FnScope n_first_false ["tests"] (defScope s_first_false) := ⟨rfl, rfl, rfl, by decide +kernel, rfl, by decide +kernel, by decide +kernel⟩
def ffD : Nat → List PyData → PyData
  | _, [] => .none
  | i, .bool false :: _ => .int (i : Nat)
  | i, _ :: r => ffD (i + 1) r
def Bools (d : PyData) : Prop := ∃ bs : List Bool, d = .list (bs.map .bool) ∧ bs.length ≤ 100000
theorem ff_true (i : Nat) (r : List PyData) : ffD i (.bool true :: r) = ffD (i + 1) r := by simp [ffD]
theorem ok_first_false {f : Addr} {fd : FuncData} (F : Fun K "first_false" "first_false" s_first_false f fd) (T : Bl mg) : FnOk P w K mg base CX0 1 f fd ["tests"] (sp1 Bools fun d => ffD 0 (itemsD d)) := by
  refine ok1 F sc_first_false (by decide) fun cdv A outer s H E X d Q hr t hp q => ⟨_, (pss_cons (ps_for PassesOwn.never rfl (pi_enum (by rfl) T.b_enumerate (pa_cons (pv 0) pa_nil)) (pg_tup (n := 2) rfl (pgs_cons (pg_name (i := 1) sc_first_false.nd rfl (by first | exact Or.inl rfl | exact Or.inr rfl)) (pgs_cons (pg_name (i := 2) sc_first_false.nd rfl (by first | exact Or.inl rfl | exact Or.inr rfl)) pgs_nil)))
    (pss_one (ps_if (pt_not (pt_val (pv 2)))
    (pss_one (ps_ret (pv 1))) pss_nil)))
    (pss_one (ps_ret pe_non))), fun σ En => ?_⟩
  obtain ⟨bs, rfl, hl⟩ := hp
  have q : ∀ w H', Same H H' → DX X H' w (ffD 0 (bs.map PyData.bool)) → Q w H' := q
  refine s_forD (gi_enum (g_var En rfl)) (fun Hb i σ' H' => Same Hb H' ∧ Trk X H' ∧ EnvOk X H' σ' [.dat (.list (bs.map .bool)), .un, .un] ∧ ffD 0 (bs.map PyData.bool) = ffD i ((bs.drop i).map PyData.bool)) (fun Hb s => ⟨Same.refl _, t.mono s, En.same s, rfl⟩) (fun Hb i σ' H' p => ⟨Kp.of p.1, p.2.1⟩) ?_ ?_
  · rintro Hb i x d σ' H' H'' sb hd ⟨p1, p2, p3, p4⟩ s2 dx
    have hi : i < bs.length := by
      have := (List.getElem?_eq_some_iff.mp hd).1
      rw [enumD_len, List.length_map] at this
      exact this
    have hb : (bs.map PyData.bool)[i]? = some (.bool bs[i]) := by rw [List.getElem?_map, List.getElem?_eq_getElem hi]; rfl
    rw [enumD_get hb] at hd
    cases hd
    have edrop : bs.drop i = bs[i] :: bs.drop (i + 1) := List.drop_eq_getElem_cons hi
    refine g_pair dx fun u w h1 h2 => ?_
    have E2 := ((p3.same s2).set (i := 1) h1).set (i := 2) h2
    refine s_if (gt_not (gt_B (g_var E2 rfl))) (fun hb H1 s3 => ?_) (fun hb H1 s3 => ?_)
    · have e : bs[i] = false := by simpa using hb
      refine s_ret (g_var (E2.same s3) rfl) fun w H2 s4 dw => q w H2 ((((sb.trans p1).trans s2).trans s3).trans s4) ?_
      rw [p4, edrop, e]
      exact dw
    · have e : bs[i] = true := by simpa using hb
      refine ⟨(p1.trans s2).trans s3, (p2.mono s2).mono s3, ?_, ?_⟩
      · have E3 := (E2.same s3)
        exact ⟨E3.len, fun j sv e => by
          match j, e with
          | 0, e => exact E3.get 0 _ e
          | 1, e => cases e; trivial
          | 2, e => cases e; trivial⟩
      · rw [p4, edrop, e]
        exact ff_true i _
  · rintro Hb σ' H' sb ⟨p1, p2, p3, p4⟩
    rw [enumD_len, List.length_map, List.drop_length] at p4
    refine s_ret (σ := σ') (X := X) (D := { nx := fun _ H' => Q .non H', rt := Q }) g_non fun w H2 s4 dw => q w H2 ((sb.trans p1).trans s4) ?_
    rw [p4]
    exact dw

-- HINT wrong_words it pi_seq
abbrev s_wrong_words : Stmt := topS 14
abbrev n_wrong_words : List Str := ["things", "thing"]
theorem sc_wrong_words : FnScope n_wrong_words ["things"] (defScope s_wrong_words) := ⟨rfl, rfl, rfl, by decide +kernel, rfl, by decide +kernel, by decide +kernel⟩
def wordsAll (d : PyData) : Prop := isSeq d = true → (itemsD d).length ≤ 100000 ∧ ∀ z ∈ itemsD d, wordsPre z
def wrongD (d : PyData) : PyData := if isSeq d then ffD 0 ((itemsD d).map fun z => .bool (isWordsD z)) else .int 0
theorem ok_wrong_words {f : Addr} {fd : FuncData} (F : Fun K "wrong_words" "wrong_words" s_wrong_words f fd) (T : Bl mg) (O_is_list : Own P w K mg base CX0 1 "is_list" ["thing"] (sp1 (fun _ => True) fun d => .bool (isSeq d)))
    (O_is_words : Own P w K mg base CX0 1 "is_words" ["thing"] (sp1 wordsPre fun d => .bool (isWordsD d))) (O_first_false : Own P w K mg base CX0 1 "first_false" ["tests"] (sp1 Bools fun d => ffD 0 (itemsD d))) :
    FnOk P w K mg base CX0 2 f fd ["things"] (sp1 wordsAll wrongD) := by
  refine ok1 F sc_wrong_words (by decide) fun cdv A outer s H E X d Q hr t hp q => ⟨_, (pss_cons (ps_if (pt_not (pt_val (pe_own O_is_list hr (by decide) (by rfl) (pa_cons (pv 0) pa_nil))))
    (pss_one (ps_ret pe_int)) pss_nil)
    (pss_one (ps_ret (pe_own O_first_false hr (by decide) (by rfl) (pa_cons (pe_lc (own := [("thing", 1)]) (g := (gName 1)) (tt := tYes) rfl sc_wrong_words.nd (pi_seq (pv 0)) (blkOk_by (N := n_wrong_words) (sc := defScope s_wrong_words) (by decide +kernel)) (fun _ _ _ _ _ => (pg_name (i := 1) sc_wrong_words.nd rfl (by first | exact Or.inl rfl | exact Or.inr rfl))) (fun _ _ _ _ _ => pts_nil) (fun _ _ _ _ _ => (pe_own O_is_words hr (by decide) (by rfl) (pa_cons (pv 1) pa_nil)))) pa_nil))))), fun σ En => ?_⟩
  refine q_if (gt_not (gt_B (g_call1 t (g_var En rfl) trivial))) (fun hb H1 s1 => ?_) (fun hb H1 s1 => ?_)
  · have e : isSeq d = false := by simpa using hb
    refine s_ret (X := X) g_int fun w H2 s2 dw => q w H2 (s1.trans s2) ?_
    unfold wrongD
    rw [e]
    exact dw
  · have e : isSeq d = true := by simpa using hb
    obtain ⟨hl, hw⟩ := hp e
    have t1 := t.mono s1
    have q' : ∀ w H', Same H1 H' → DX X H' w (ffD 0 ((itemsD d).map fun z => .bool (isWordsD z))) → Q w H' := fun w H2 s2 dw => q w H2 (s1.trans s2) (by unfold wrongD; rw [e]; exact dw)
    refine s_ret (X := X) (g_is (g_call1 t1 (d := .list ((itemsD d).map fun z => .bool (isWordsD z))) (g_lc1 (Γ2 := fun z => [.dat d, .dat z]) (fun z => .bool (isWordsD z)) t1 (gi_seq (g_var (En.same s1) rfl) e) (by omega) (fun H2 s2 z _ => tgt_name ((En.same s1).same s2)) (fun X' H2 σ2 z hz t2 E2 => g_call1 t2 (g_var E2 rfl) (hw z hz))) ⟨(itemsD d).map isWordsD, by simp [List.map_map], by simpa using hl⟩) rfl) q'

abbrev s_is_change : Stmt := topS 16
abbrev n_is_change : List Str := ["thing"]
theorem sc_is_change : FnScope n_is_change ["thing"] (defScope s_is_change) := ⟨rfl, rfl, rfl, by decide +kernel, rfl, by decide +kernel, by decide +kernel⟩
def it (d : PyData) (i : Nat) : PyData := (itemsD d).getD i .none
def ch3 (d : PyData) : Bool := isSeq d && (decide ((itemsD d).length = 3) && isNumD (it d 0))
def isChangeD (d : PyData) : Bool := ch3 d && (isNone (wrongD (it d 1)) && isNone (wrongD (it d 2))) && decide (0 < lenD (it d 1) + lenD (it d 2))
def chPre (d : PyData) : Prop := isSeq d = true → (itemsD d).length ≤ 100000 ∧ ∀ z ∈ itemsD d, wordsAll z
theorem lenD_seq {d : PyData} (h : isSeq d = true) : lenD d = (itemsD d).length := by cases d <;> first | rfl | cases h
theorem hasLen_seq {d : PyData} (h : isSeq d = true) : hasLen d = true := by cases d <;> first | rfl | cases h
theorem wrong_seq {d : PyData} (h : isNone (wrongD d) = true) : isSeq d = true := by
  cases e : isSeq d with
  | true => rfl
  | false =>
    unfold wrongD at h
    rw [e] at h
    simp [isNone] at h
theorem it_at {d : PyData} {i : Nat} {k : Int} (hk : k = (i : Int)) (h : i < (itemsD d).length) : atI (itemsD d) k = some (it d i) := by
  subst hk
  refine atI_nat ?_
  unfold it
  rw [List.getElem?_eq_getElem h, List.getD_eq_getElem?_getD, List.getElem?_eq_getElem h]
  rfl
theorem it_mem {d : PyData} {i : Nat} (h : i < (itemsD d).length) : it d i ∈ itemsD d := by
  unfold it
  rw [List.getD_eq_getElem?_getD, List.getElem?_eq_getElem h]
  exact List.getElem_mem h
theorem eqv_int (i j : Int) : PyData.eqv (.int i) (.int j) = decide (i = j) := by
  simp only [PyData.eqv]
  by_cases h : i = j
  · subst h; simp
  · rw [decide_eq_false h]; simpa using h
theorem gt_neI {X : Addr → Prop} {ta tb : TE} {σ : L2.St} {H : Hp} {K : PySem.W.Frag} {i j : Int} (t : Trk X H) (ha : G X ta σ H (.int i)) (hb : G X tb σ H (.int j)) : GT (tTest (tOp (rNeD K) ta tb)) σ H (!decide (i = j)) := by
  rw [← eqv_int]
  exact gt_neD t ha hb rfl rfl (shaped_int i) (shaped_int j)
theorem gt_eqI {X : Addr → Prop} {ta tb : TE} {σ : L2.St} {H : Hp} {K : PySem.W.Frag} {i j : Int} (t : Trk X H) (ha : G X ta σ H (.int i)) (hb : G X tb σ H (.int j)) : GT (tTest (tOp (rEqD K) ta tb)) σ H (decide (i = j)) := by
  rw [← eqv_int]
  exact gt_eqD t ha hb rfl rfl (shaped_int i) (shaped_int j)
theorem ok_is_change {f : Addr} {fd : FuncData} (F : Fun K "is_change" "is_change" s_is_change f fd) (T : Bl mg) (O_is_list : Own P w K mg base CX0 1 "is_list" ["thing"] (sp1 (fun _ => True) fun d => .bool (isSeq d)))
    (O_is_number : Own P w K mg base CX0 2 "is_number" ["thing"] (sp1 (fun _ => True) fun d => .bool (isNumD d))) (O_wrong_words : Own P w K mg base CX0 2 "wrong_words" ["things"] (sp1 wordsAll wrongD)) :
    FnOk P w K mg base CX0 3 f fd ["thing"] (sp1 chPre fun d => .bool (isChangeD d)) := by
  refine ok1 F sc_is_change (by decide) fun cdv A outer s H E X d Q hr t hp q => ⟨_, (pss_cons (ps_if (PW.pt (pw_or (pt_not (pt_val (pe_own O_is_list hr (by decide) (by rfl) (pa_cons (pv 0) pa_nil)))) (pw_or (pt_cmpR (op_neD hr.units) (pe_callB call_len (by rfl) T.b_len boot_len (pa_cons (pv 0) pa_nil)) pe_int (nomark _)) (pw_or1 (pt_not (pt_val (pe_own O_is_number hr (by decide) (by rfl) (pa_cons (pe_ix ix_seq (pv 0) pe_int (fun _ _ => rfl)) pa_nil))))))))
    (pss_one (ps_ret pe_bl)) pss_nil)
    (pss_cons (ps_if (PW.pt (pw_or (pt_cmpR op_notN (pe_own O_wrong_words hr (by decide) (by rfl) (pa_cons (pe_ix ix_seq (pv 0) pe_int (fun _ _ => rfl)) pa_nil)) pe_non (nomark _)) (pw_or1 (pt_cmpR op_notN (pe_own O_wrong_words hr (by decide) (by rfl) (pa_cons (pe_ix ix_seq (pv 0) pe_int (fun _ _ => rfl)) pa_nil)) pe_non (nomark _)))))
    (pss_one (ps_ret pe_bl)) pss_nil)
    (pss_one (ps_ret (pe_cmpR op_gt (pe_op op_addA (pe_callB call_len (by rfl) T.b_len boot_len (pa_cons (pe_ix ix_seq (pv 0) pe_int (fun _ _ => rfl)) pa_nil)) (pe_callB call_len (by rfl) T.b_len boot_len (pa_cons (pe_ix ix_seq (pv 0) pe_int (fun _ _ => rfl)) pa_nil))) pe_int (nomark _)))))), fun σ En => ?_⟩
  have v0 : ∀ {H1}, Same H H1 → G X (tVar 0) σ H1 d := fun s => g_var (En.same s) rfl
  refine q_if (b := !isSeq d || !(decide ((itemsD d).length = 3) && isNumD (it d 0))) (gt_or (gt_not (gt_B (g_call1 t (v0 (Same.refl H)) trivial))) (fun ha => ?_)) (fun hb H1 s1 => ?_) (fun hb H1 s1 => ?_)
  · have e : isSeq d = true := by simpa using ha
    refine gt_is (gt_or (a := !decide ((itemsD d).length = 3)) (b := !isNumD (it d 0)) (gt_is (gt_neI t (g_len t (v0 (Same.refl H)) (hasLen_seq e)) g_int) ?_) fun hl => gt_not (gt_B (g_call1 t (g_ix t (v0 (Same.refl H)) e g_int (it_at (i := 0) rfl ?_)) trivial))) ?_
    · rw [lenD_seq e]
      congr 1
      exact decide_eq_decide.mpr (by omega)
    · have : (itemsD d).length = 3 := by simpa using hl
      omega
    · simp
  · refine s_ret (X := X) g_bl fun w H2 s2 dw => q w H2 (s1.trans s2) ?_
    have e : ch3 d = false := by
      unfold ch3
      cases h : isSeq d <;> simp [h] at hb ⊢
      exact fun h3 => hb.resolve_left fun n => n h3
    unfold isChangeD
    rw [e]
    exact dw
  · have hb' : isSeq d = true ∧ (itemsD d).length = 3 ∧ isNumD (it d 0) = true := by simpa using hb
    obtain ⟨e, hl, hn⟩ := hb'
    have hc : ch3 d = true := by simp [ch3, e, hl, hn]
    obtain ⟨_, hw⟩ := hp e
    have t1 := t.mono s1
    have w1 : wordsAll (it d 1) := hw _ (it_mem (by omega))
    have w2 : wordsAll (it d 2) := hw _ (it_mem (by omega))
    have i1 : ∀ {H2}, Same H1 H2 → G X (tOp (rIx K) (tVar 0) (tC (.int 1))) σ H2 (it d 1) := fun s2 => g_ix (t1.mono s2) (v0 (s1.trans s2)) e g_int (it_at (i := 1) rfl (by omega))
    have i2 : ∀ {H2}, Same H1 H2 → G X (tOp (rIx K) (tVar 0) (tC (.int 2))) σ H2 (it d 2) := fun s2 => g_ix (t1.mono s2) (v0 (s1.trans s2)) e g_int (it_at (i := 2) rfl (by omega))
    have r1 := Same.refl H1
    refine q_if (gt_or (a := !isNone (wrongD (it d 1))) (b := !isNone (wrongD (it d 2))) (gt_op t1 (g_call1 t1 (i1 r1) w1) g_non rb_notN) fun _ => gt_op t1 (g_call1 t1 (i2 r1) w2) g_non rb_notN) (fun hb H2 s2 => ?_) (fun hb H2 s2 => ?_)
    · refine s_ret (X := X) g_bl fun w H3 s3 dw => q w H3 ((s1.trans s2).trans s3) ?_
      have e2 : (isNone (wrongD (it d 1)) && isNone (wrongD (it d 2))) = false := by
        cases h1 : isNone (wrongD (it d 1)) <;> cases h2 : isNone (wrongD (it d 2)) <;> simp [h1, h2] at hb ⊢
      unfold isChangeD
      rw [e2, Bool.and_false]
      exact dw
    · have hb' : isNone (wrongD (it d 1)) = true ∧ isNone (wrongD (it d 2)) = true := by simpa using hb
      obtain ⟨n1, n2⟩ := hb'
      have t2 := t1.mono s2
      refine s_ret (X := X) (d := .bool (isChangeD d)) (g_is (g_cmpI t2 (g := fun i j => decide (j < i)) (g_addI t2 (g_len t2 (i1 s2) (hasLen_seq (wrong_seq n1))) (g_len t2 (i2 s2) (hasLen_seq (wrong_seq n2)))) g_int) ?_) fun w H3 s3 dw => q w H3 ((s1.trans s2).trans s3) dw
      unfold isChangeD
      rw [hc, n1, n2, Bool.true_and, Bool.true_and, Bool.true_and]
      congr 1
      exact decide_eq_decide.mpr (by omega)
/-! ### texts and told changes -/
def wsD (ws : List Str) : PyData := .list (ws.map .str)
def chD (p : Int) (os ns : List Str) : PyData := .tuple [.int p, wsD os, wsD ns]
def WsOk (ws : List Str) : Prop := ws.length ≤ 1000 ∧ ∀ z ∈ ws, PyData.strOk z = true
theorem sIx_nn {n d : Nat} {p : Int} (h : 0 ≤ p) : HT.sIx n d (some p) = min p.toNat n := by
  show (if p < 0 then (p + (n : Int)).toNat else min p.toNat n) = min p.toNat n
  rw [if_neg (by omega)]
theorem cutD_map (ws : List Str) (lo hi : Option Int) : cutPD (ws.map PyData.str) lo hi = ((ws.drop (HT.sIx ws.length 0 lo)).take (HT.sIx ws.length ws.length hi - HT.sIx ws.length 0 lo)).map PyData.str := by
  unfold cutPD
  rw [List.length_map, List.map_take, List.map_drop]
theorem cut_lo (ws : List Str) {p q : Int} (hp : 0 ≤ p) (hq : p ≤ q) : cutPD (ws.map PyData.str) (some p) (some q) = ((ws.drop p.toNat).take (q.toNat - p.toNat)).map PyData.str := by
  rw [cutD_map, sIx_nn hp, sIx_nn (by omega)]
  congr 1
  by_cases h : p.toNat ≤ ws.length
  · rw [Nat.min_eq_left h]
    apply List.ext_getElem?
    intro n
    simp only [List.getElem?_take, List.getElem?_drop]
    by_cases hn : n < q.toNat - p.toNat
    · rw [if_pos hn]
      split
      · rfl
      · exact (List.getElem?_eq_none (by omega)).symm
    · rw [if_neg hn, if_neg (by omega)]
  · rw [List.drop_eq_nil_of_le (by omega), List.drop_eq_nil_of_le (by omega), List.take_nil, List.take_nil]
theorem cut_hi (ws : List Str) {q : Int} (hq : 0 ≤ q) : cutPD (ws.map PyData.str) none (some q) = (ws.take q.toNat).map PyData.str := by
  rw [cutD_map, sIx_nn hq, HT.sIx_none, List.drop_zero, Nat.sub_zero]
  congr 1
  by_cases h : q.toNat ≤ ws.length
  · rw [Nat.min_eq_left h]
  · rw [Nat.min_eq_right (by omega), List.take_of_length_le (Nat.le_refl _), List.take_of_length_le (by omega)]
theorem cut_from (ws : List Str) {p : Int} (hp : 0 ≤ p) : cutPD (ws.map PyData.str) (some p) none = (ws.drop p.toNat).map PyData.str := by
  rw [cutD_map, sIx_nn hp, HT.sIx_none]
  congr 1
  by_cases h : p.toNat ≤ ws.length
  · rw [Nat.min_eq_left h, List.take_of_length_le (by rw [List.length_drop]; omega)]
  · rw [Nat.min_eq_right (by omega), List.drop_eq_nil_of_le (Nat.le_refl _), List.drop_eq_nil_of_le (by omega), List.take_nil]
theorem sl_from {X : Addr → Prop} {te ta : TE} {σ : L2.St} {H : Hp} {ws : List Str} {p : Int} (t : Trk X H) (h : G X te σ H (wsD ws)) (ha : G X ta σ H (.int p)) (hp : 0 ≤ p) : G X (tSl (rSlL K) te (tPart ta) tNoPart) σ H (wsD (ws.drop p.toNat)) := by
  refine g_is (g_sl t h (go_some ha) go_none) ?_
  rw [cut_from _ hp]
  rfl
theorem sl_to {X : Addr → Prop} {te ta : TE} {σ : L2.St} {H : Hp} {ws : List Str} {p : Int} (t : Trk X H) (h : G X te σ H (wsD ws)) (ha : G X ta σ H (.int p)) (hp : 0 ≤ p) : G X (tSl (rSlL K) te tNoPart (tPart ta)) σ H (wsD (ws.take p.toNat)) := by
  refine g_is (g_sl t h go_none (go_some ha)) ?_
  rw [cut_hi _ hp]
  rfl
theorem sl_mid {X : Addr → Prop} {te ta tb : TE} {σ : L2.St} {H : Hp} {ws : List Str} {p q : Int} (t : Trk X H) (h : G X te σ H (wsD ws)) (ha : G X ta σ H (.int p)) (hb : G X tb σ H (.int q)) (hp : 0 ≤ p) (hq : p ≤ q) : G X (tSl (rSlL K) te (tPart ta) (tPart tb)) σ H (wsD ((ws.drop p.toNat).take (q.toNat - p.toNat))) := by
  refine g_is (g_sl t h (go_some ha) (go_some hb)) ?_
  rw [cut_lo _ hp hq]
  rfl
theorem len_ws {X : Addr → Prop} {te : TE} {σ : L2.St} {H : Hp} {ws : List Str} (t : Trk X H) (h : G X te σ H (wsD ws)) : G X (tCB (fun xs H Q => ∃ x n, xs = [x] ∧ LenV K x H n ∧ Q (V.int n) H) (tCons te tNil)) σ H (.int (ws.length : Int)) := by
  refine g_is (g_len t h rfl) ?_
  show PyData.int (((ws.map PyData.str).length : Nat) : Int) = _
  rw [List.length_map]
theorem cat_ws {X : Addr → Prop} {ta tb : TE} {σ : L2.St} {H : Hp} {ws zs : List Str} (t : Trk X H) (ha : G X ta σ H (wsD ws)) (hb : G X tb σ H (wsD zs)) (hl : ws.length + zs.length ≤ 1000000) : G X (tOp rAddA ta tb) σ H (wsD (ws ++ zs)) := by
  refine g_is (g_cat t ha hb (by rw [List.length_map, List.length_map]; exact hl)) ?_
  rw [← List.map_append]
  rfl
theorem catn_ws {X : Addr → Prop} {ta tb : TE} {σ : L2.St} {H : Hp} {ws zs : List Str} (t : Trk X H) (ha : G X ta σ H (wsD ws)) (hb : G X tb σ H (wsD zs)) (hl : ws.length + zs.length ≤ 1000000) : GN X (tOp rAddA ta tb) σ H (wsD (ws ++ zs)) := by
  refine GN.is (gn_cat t ha hb (by rw [List.length_map, List.length_map]; exact hl)) ?_
  rw [← List.map_append]
  rfl
theorem WsOk.take {ws : List Str} (h : WsOk ws) (n : Nat) : WsOk (ws.take n) := ⟨by rw [List.length_take]; have := h.1; omega, fun z hz => h.2 z (List.mem_of_mem_take hz)⟩
theorem WsOk.drop {ws : List Str} (h : WsOk ws) (n : Nat) : WsOk (ws.drop n) := ⟨by rw [List.length_drop]; have := h.1; omega, fun z hz => h.2 z (List.mem_of_mem_drop hz)⟩

abbrev s_fits : Stmt := topS 19
abbrev n_fits : List Str := ["text", "change", "place", "old", "_"]
theorem sc_fits : FnScope n_fits ["text", "change"] (defScope s_fits) := ⟨rfl, rfl, rfl, by decide +kernel, rfl, by decide +kernel, by decide +kernel⟩
def fitsB (ws : List Str) (p : Int) (os : List Str) : Bool := decide (p ≤ ws.length) && decide ((ws.drop p.toNat).take os.length = os)
/-- a text and a told change -/
def TC (a b : PyData) : Prop := ∃ ws p os ns, a = wsD ws ∧ b = chD p os ns ∧ WsOk ws ∧ WsOk os ∧ WsOk ns ∧ 0 ≤ p
def wsOf (d : PyData) : List Str := (itemsD d).map fun z => match z with | .str s => s | _ => default
theorem wsOf_wsD (ws : List Str) : wsOf (wsD ws) = ws := by
  show (ws.map PyData.str).map _ = ws
  rw [List.map_map]
  exact (List.map_congr_left fun _ _ => rfl).trans (List.map_id ws)
def intOf : PyData → Int
  | .int i => i
  | _ => 0
theorem ok_fits {f : Addr} {fd : FuncData} (F : Fun K "fits" "fits" s_fits f fd) (T : Bl mg) : FnOk P w K mg base CX0 1 f fd ["text", "change"] (sp2 TC fun a b => .bool (fitsB (wsOf a) (intOf (it b 0)) (wsOf (it b 1)))) := by
  refine ok2 F sc_fits (by decide) fun cdv A outer s H E X d1 d2 Q hr t hp q => ⟨_, (pss_cons (ps_asg (pv 1) (pg_tup (n := 3) rfl (pgs_cons (pg_name (i := 2) sc_fits.nd rfl (by first | exact Or.inl rfl | exact Or.inr rfl)) (pgs_cons (pg_name (i := 3) sc_fits.nd rfl (by first | exact Or.inl rfl | exact Or.inr rfl)) (pgs_cons (pg_name (i := 4) sc_fits.nd rfl (by first | exact Or.inl rfl | exact Or.inr rfl)) pgs_nil)))))
    (pss_one (ps_ret (pe_and (pe_cmpR op_le (pv 2) (pe_callB call_len (by rfl) T.b_len boot_len (pa_cons (pv 0) pa_nil)) (nomark _)) (pe_one (pe_cmpR (op_eqD hr.units) (pe_slice sl_list (pv 0) (po_some (pv 2)) (po_some (pe_op op_addA (pv 2) (pe_callB call_len (by rfl) T.b_len boot_len (pa_cons (pv 3) pa_nil))))) (pv 3) (nomark _))))))), fun σ En => ?_⟩
  obtain ⟨ws, p, os, ns, rfl, rfl, h1, h2, h3, h0⟩ := hp
  have q' : ∀ w H', Same H H' → DX X H' w (.bool (fitsB ws p os)) → Q w H' := fun w H' s dw => q w H' s (by
    rw [wsOf_wsD]
    show DX X H' w (.bool (fitsB ws p (wsOf (wsD os))))
    rw [wsOf_wsD]
    exact dw)
  refine q_asg (g_var (d := chD p os ns) En rfl) fun H1 v s1 dv => ?_
  refine g_triple dv fun u1 u2 u3 r1 r2 r3 => ?_
  have E2 := (((En.same s1).set (i := 2) r1).set (i := 3) r2).set (i := 4) r3
  have t1 := t.mono s1
  refine s_ret (g_and (a := decide (p ≤ ws.length)) (b := decide ((ws.drop p.toNat).take os.length = os)) (g_cmpI t1 (g := fun i j => decide (i ≤ j)) (g_var E2 rfl) (len_ws t1 (g_var E2 rfl))) fun _ => ?_) fun w H2 s2 dw => q' w H2 (s1.trans s2) dw
  have e : (p + (os.length : Int)).toNat - p.toNat = os.length := by omega
  refine g_is (g_eqD t1 (sl_mid t1 (g_var E2 rfl) (g_var E2 rfl) (g_addI t1 (g_var E2 rfl) (len_ws t1 (g_var E2 rfl))) h0 (by omega)) (g_var E2 rfl) (noDict_strs _) (noDict_strs _) (shaped_strs ((h1.drop _).take _).2) (shaped_strs h2.2)) ?_
  show PyData.bool (PyData.eqv (.list _) (.list _)) = _
  simp only [PyData.eqv, eqv_strs]
  rw [e]

abbrev s_put_in : Stmt := topS 20
abbrev n_put_in : List Str := ["text", "change", "place", "old", "new"]
theorem sc_put_in : FnScope n_put_in ["text", "change"] (defScope s_put_in) := ⟨rfl, rfl, rfl, by decide +kernel, rfl, by decide +kernel, by decide +kernel⟩
def putB (ws : List Str) (p : Int) (os ns : List Str) : List Str := ws.take p.toNat ++ ns ++ ws.drop (p.toNat + os.length)
theorem ok_put_in {f : Addr} {fd : FuncData} (F : Fun K "put_in" "put_in" s_put_in f fd) (T : Bl mg) : FnOk P w K mg base CX0 1 f fd ["text", "change"] (sp2N TC fun a b => wsD (putB (wsOf a) (intOf (it b 0)) (wsOf (it b 1)) (wsOf (it b 2)))) := by
  refine ok2N F sc_put_in (by decide) fun cdv A outer s H E X d1 d2 Q hr t hp q => ⟨_, (pss_cons (ps_asg (pv 1) (pg_tup (n := 3) rfl (pgs_cons (pg_name (i := 2) sc_put_in.nd rfl (by first | exact Or.inl rfl | exact Or.inr rfl)) (pgs_cons (pg_name (i := 3) sc_put_in.nd rfl (by first | exact Or.inl rfl | exact Or.inr rfl)) (pgs_cons (pg_name (i := 4) sc_put_in.nd rfl (by first | exact Or.inl rfl | exact Or.inr rfl)) pgs_nil)))))
    (pss_one (ps_ret (pe_op op_addA (pe_op op_addA (pe_slice sl_list (pv 0) po_none (po_some (pv 2))) (pv 4)) (pe_slice sl_list (pv 0) (po_some (pe_op op_addA (pv 2) (pe_callB call_len (by rfl) T.b_len boot_len (pa_cons (pv 3) pa_nil)))) po_none))))), fun σ En => ?_⟩
  obtain ⟨ws, p, os, ns, rfl, rfl, h1, h2, h3, h0⟩ := hp
  have q' : ∀ w H', Same H H' → DX X H' w (wsD (putB ws p os ns)) → Nw H w → Q w H' := fun w H' s dw nw => q w H' s (by
    rw [wsOf_wsD]
    show DX X H' w (wsD (putB ws p (wsOf (wsD os)) (wsOf (wsD ns))))
    rw [wsOf_wsD, wsOf_wsD]
    exact dw) nw
  refine q_asg (g_var (d := chD p os ns) En rfl) fun H1 v s1 dv => ?_
  refine g_triple dv fun u1 u2 u3 r1 r2 r3 => ?_
  have E2 := (((En.same s1).set (i := 2) r1).set (i := 3) r2).set (i := 4) r3
  have t1 := t.mono s1
  have l1 := h1.1
  have l2 := h2.1
  have l3 := h3.1
  refine s_retN (GN.is (catn_ws t1 (cat_ws t1 (sl_to t1 (g_var E2 rfl) (g_var E2 rfl) h0) (g_var E2 rfl) ?_) (sl_from t1 (g_var E2 rfl) (g_addI t1 (g_var E2 rfl) (len_ws t1 (g_var E2 rfl))) (by omega)) ?_) ?_) fun w H2 s2 dw nw => q' w H2 (s1.trans s2) dw (Nw.back s1 nw)
  · rw [List.length_take]
    omega
  · rw [List.length_append, List.length_take, List.length_drop]
    omega
  · unfold putB
    rw [show (p + (os.length : Int)).toNat = p.toNat + os.length from by omega]
end K18

namespace K18
open PySem PySem.Spec PyProof.Rows L2 KD
-- RAISES change_of checked_text made_by turned_back
variable {P : Program} {w : World} {K : PySem.W.Frag} {mg : Str → Option Value} {base : Heap}
theorem ffD_none : ∀ {ds : List PyData} {i : Nat}, isNone (ffD i (ds.map fun z => .bool (isWordsD z))) = true → ∀ z ∈ ds, isWordsD z = true
  | [], _, _, z, hz => by cases hz
  | d :: ds, i, h, z, hz => by
    cases e : isWordsD d with
    | false =>
      rw [List.map_cons, e] at h
      simp [ffD, isNone] at h
    | true =>
      rw [List.map_cons, e, ff_true] at h
      rcases List.mem_cons.mp hz with rfl | hm
      · exact e
      · exact ffD_none h z hm
theorem words_str {d : PyData} (h : isWordsD d = true) : ∃ s, d = .str s := by
  cases d <;> first | exact ⟨_, rfl⟩ | cases h
theorem ws_map : ∀ {ds : List PyData}, (∀ z ∈ ds, isWordsD z = true) → ds = (ds.map fun z => match z with | .str s => s | _ => default).map PyData.str
  | [], _ => rfl
  | d :: ds, h => by
    obtain ⟨s, rfl⟩ := words_str (h d List.mem_cons_self)
    rw [List.map_cons, List.map_cons, ← ws_map fun z hz => h z (List.mem_cons_of_mem _ hz)]
theorem ws_of {d : PyData} (h : isNone (wrongD d) = true) : PyData.list (itemsD d) = wsD (wsOf d) := by
  have hs := wrong_seq h
  unfold wrongD at h
  rw [hs] at h
  show PyData.list (itemsD d) = PyData.list ((wsOf d).map PyData.str)
  congr 1
  exact ws_map (ffD_none h)

abbrev s_change_of : Stmt := topS 17
abbrev n_change_of : List Str := ["thing"]
theorem sc_change_of : FnScope n_change_of ["thing"] (defScope s_change_of) := ⟨rfl, rfl, rfl, by decide +kernel, rfl, by decide +kernel, by decide +kernel⟩
def toldD (d : PyData) : PyData := .tuple [it d 0, .list (itemsD (it d 1)), .list (itemsD (it d 2))]
def changeOut (C : Addr) (d : PyData) : Out := if isChangeD d then .val (toldD d) else .err C "thing" d
theorem isChange_parts {d : PyData} (h : isChangeD d = true) : isSeq d = true ∧ (itemsD d).length = 3 ∧ isNumD (it d 0) = true ∧ isNone (wrongD (it d 1)) = true ∧ isNone (wrongD (it d 2)) = true ∧ 0 < lenD (it d 1) + lenD (it d 2) := by
  simp only [isChangeD, ch3, Bool.and_eq_true, decide_eq_true_eq] at h
  obtain ⟨⟨⟨h1, h2, h3⟩, h4, h5⟩, h6⟩ := h
  exact ⟨h1, h2, h3, h4, h5, h6⟩
theorem ok_change_of {f C : Addr} {fd : FuncData} (F : Fun K "change_of" "change_of" s_change_of f fd) (T : Bl mg) (O_is_change : Own P w K mg base CX0 3 "is_change" ["thing"] (sp1 chPre fun d => .bool (isChangeD d))) (E_BadChange : Ec P w K mg base "BadChange" "thing" C) :
    FnOk P w K mg base (L2.CX P w) 4 f fd ["thing"] (spX1 chPre (changeOut C)) := by
  refine okX1 F sc_change_of (by decide) fun cdv A outer s H E X d Q hr t hp q => ⟨_, (pss_cons (ps_if (pt_not (pt_val (pe_own O_is_change hr (by decide) (by rfl) (pa_cons (pv 0) pa_nil))))
    (pss_one (ps_err rfl E_BadChange hr (by decide) (takes_of rfl rfl rfl rfl) (by rfl) (pa_cons (pv 0) pa_nil))) pss_nil)
    (pss_one (ps_ret (pe_tup (pa_cons (pe_ix ix_seq (pv 0) pe_int (fun _ _ => rfl)) (pa_cons (pe_callTy call_list_of (by rfl) T.b_list boot_list (pa_cons (pe_ix ix_seq (pv 0) pe_int (fun _ _ => rfl)) pa_nil)) (pa_cons (pe_callTy call_list_of (by rfl) T.b_list boot_list (pa_cons (pe_ix ix_seq (pv 0) pe_int (fun _ _ => rfl)) pa_nil)) pa_nil))))))), fun σ En => ?_⟩
  refine q_if (gt_not (gt_B (g_call1 t (g_var En rfl) hp))) (fun hb H1 s1 => ?_) (fun hb H1 s1 => ?_)
  · have e : isChangeD d = false := by simpa using hb
    refine mk_err (X := X) (g_var (En.same s1) rfl) fun a v H2 s2 e2 dv => q.2 C "thing" d (by simp [changeOut, e]) a v H2 (s1.trans s2) e2 dv
  · have e : isChangeD d = true := by simpa using hb
    obtain ⟨h1, h2, h3, h4, h5, h6⟩ := isChange_parts e
    have t1 := t.mono s1
    have v0 : G X (tVar 0) σ H1 d := g_var (En.same s1) rfl
    refine s_retN (X := X) (d := toldD d) (gn_tup t1 (ga_cons (g_ix t1 v0 h1 g_int (it_at (i := 0) rfl (by omega))) (ga_cons (g_listOf t1 (g_ix t1 v0 h1 g_int (it_at (i := 1) rfl (by omega))) (wrong_seq h4)) (ga_cons (g_listOf t1 (g_ix t1 v0 h1 g_int (it_at (i := 2) rfl (by omega))) (wrong_seq h5)) ga_nil))) (by simp)) fun w H2 s2 dw nw => q.1 _ (by simp [changeOut, e]) w H2 (s1.trans s2) dw (Nw.back s1 nw)

abbrev s_checked_text : Stmt := topS 18
abbrev n_checked_text : List Str := ["text", "index"]
theorem sc_checked_text : FnScope n_checked_text ["text"] (defScope s_checked_text) := ⟨rfl, rfl, rfl, by decide +kernel, rfl, by decide +kernel, by decide +kernel⟩
def textOut (C : Addr) (d : PyData) : Out := if isNone (wrongD d) then .val (wsD (wsOf d)) else .err C "index" (wrongD d)
theorem ok_checked_text {f C : Addr} {fd : FuncData} (F : Fun K "checked_text" "checked_text" s_checked_text f fd) (T : Bl mg) (O_wrong_words : Own P w K mg base CX0 2 "wrong_words" ["things"] (sp1 wordsAll wrongD)) (E_BadWords : Ec P w K mg base "BadWords" "index" C) :
    FnOk P w K mg base (L2.CX P w) 3 f fd ["text"] (spX1 wordsAll (textOut C)) := by
  refine okX1 F sc_checked_text (by decide) fun cdv A outer s H E X d Q hr t hp q => ⟨_, (pss_cons (ps_set (i := 1) sc_checked_text.nd rfl (by first | exact Or.inl rfl | exact Or.inr rfl) (pe_own O_wrong_words hr (by decide) (by rfl) (pa_cons (pv 0) pa_nil)))
    (pss_cons (ps_if (pt_cmpR op_notN (pv 1) pe_non (nomark _))
    (pss_one (ps_err rfl E_BadWords hr (by decide) (takes_of rfl rfl rfl rfl) (by rfl) (pa_cons (pv 1) pa_nil))) pss_nil)
    (pss_one (ps_ret (pe_callTy call_list_of (by rfl) T.b_list boot_list (pa_cons (pv 0) pa_nil)))))), fun σ En => ?_⟩
  refine q_set En (g_call1 t (g_var En rfl) hp) fun H0 v s0 E0 => ?_
  have t0 := t.mono s0
  refine q_if (gt_op t0 (g_var E0 rfl) g_non rb_notN) (fun hb H1 s1 => ?_) (fun hb H1 s1 => ?_)
  · have e : isNone (wrongD d) = false := by simpa using hb
    refine mk_err (X := X) (g_var (E0.same s1) rfl) fun a v H2 s2 e2 dv => q.2 C "index" _ (by simp [textOut, e]) a v H2 ((s0.trans s1).trans s2) e2 dv
  · have e : isNone (wrongD d) = true := by simpa using hb
    refine s_retN (X := X) (gn_listOf (t0.mono s1) (g_var (E0.same s1) rfl) (wrong_seq e)) fun w H2 s2 dw nw => q.1 (wsD (wsOf d)) (by simp [textOut, e]) w H2 ((s0.trans s1).trans s2) (by rw [← ws_of e]; exact dw) (Nw.back (s0.trans s1) nw)
theorem itemsD_wsD {ws : List Str} : itemsD (wsD ws) = ws.map PyData.str := rfl
theorem toldD_ch {d : PyData} (h : isChangeD d = true) : ∃ p os ns, toldD d = chD p os ns ∧ 0 ≤ p ∧ it d 0 = .int p ∧ os = wsOf (it d 1) ∧ ns = wsOf (it d 2) := by
  obtain ⟨h1, h2, h3, h4, h5, h6⟩ := isChange_parts h
  cases e : it d 0 with
  | int p =>
    rw [e] at h3
    refine ⟨p, _, _, ?_, of_decide_eq_true h3, rfl, rfl, rfl⟩
    unfold toldD chD
    rw [e, ws_of h4, ws_of h5]
  | _ => rw [e] at h3; cases h3
end K18

/-! The spring of draws. -/
namespace K18
open PySem PySem.Spec PyProof.Rows L2 KD
variable {P : Program} {w : World} {K : PySem.W.Frag} {mg : Str → Option Value} {base : Heap}
/-- the spring at st, its cells at cl: b draws done -/
structure SpAt (st cl : Addr) (ms : List Int) (a b c : Int) (H : Hp) : Prop where
  hs : H st = some (.lst [.ref cl, .int a, .int b, .int c])
  hc : H cl = some (.lst (ms.map V.int))
  ne : st ≠ cl
  a0 : 0 ≤ a
  b0 : 0 ≤ b
  c0 : 0 ≤ c
  c1 : c < 2147483647
  ml : ms.length ≤ 100000
def SpOk (st cl : Addr) (n : Nat) (H : Hp) : Prop := ∃ ms a b c, SpAt st cl ms a b c H ∧ b ≤ (n : Int)
/-- all but the spring stays -/
def KpS (st cl : Addr) (H H' : Hp) : Prop := ∀ a o, a ≠ st → a ≠ cl → H a = some o → H' a = some o
theorem KpS.refl {st cl : Addr} {H : Hp} : KpS st cl H H := fun _ _ _ _ e => e
theorem KpS.trans {st cl : Addr} {H H1 H2 : Hp} (h : KpS st cl H H1) (k : KpS st cl H1 H2) : KpS st cl H H2 := fun a o n m e => k a o n m (h a o n m e)
theorem KpS.of {st cl : Addr} {H H' : Hp} (h : Same H H') : KpS st cl H H' := fun a o _ _ e => h a o e
theorem KpS.kp {X : Addr → Prop} {st cl : Addr} {H H' : Hp} (h : KpS st cl H H') (x1 : X st) (x2 : X cl) : Kp X H H' := fun a o n e => h a o (fun z => n (z ▸ x1)) (fun z => n (z ▸ x2)) e
theorem SpOk.trk {X : Addr → Prop} {st cl : Addr} {n : Nat} {H H' : Hp} (h : SpOk st cl n H') (k : KpS st cl H H') (t : Trk X H) : Trk X H' := fun a x => by
  obtain ⟨ms, a', b, c, S, _⟩ := h
  by_cases h1 : a = st
  · subst h1
    exact ⟨_, S.hs⟩
  · by_cases h2 : a = cl
    · subst h2
      exact ⟨_, S.hc⟩
    · obtain ⟨o, e⟩ := t a x
      exact ⟨o, k a o h1 h2 e⟩
theorem SpAt.same {st cl : Addr} {ms : List Int} {a b c : Int} {H H' : Hp} (S : SpAt st cl ms a b c H) (s : Same H H') : SpAt st cl ms a b c H' := ⟨s _ _ S.hs, s _ _ S.hc, S.ne, S.a0, S.b0, S.c0, S.c1, S.ml⟩
theorem SpOk.same {st cl : Addr} {n : Nat} {H H' : Hp} (h : SpOk st cl n H) (s : Same H H') : SpOk st cl n H' := by
  obtain ⟨ms, a, b, c, S, hb⟩ := h
  exact ⟨ms, a, b, c, S.same s, hb⟩
theorem SpOk.le {st cl : Addr} {n m : Nat} {H : Hp} (h : SpOk st cl n H) (hm : n ≤ m) : SpOk st cl m H := by
  obtain ⟨ms, a, b, c, S, hb⟩ := h
  exact ⟨ms, a, b, c, S, by omega⟩
theorem KpS.put {st cl p : Addr} {H : Hp} {o : HO} (h : p = st ∨ p = cl) : KpS st cl H (upd H p o) := fun a u n m e => by
  rw [upd_ne (fun z => by rcases h with h | h; exact n (z.trans h); exact m (z.trans h))]
  exact e
section
variable {σ : L2.St} {H : Hp} {i : Nat} {p st cl : Addr} {xs : List V} {v : V} {k : Int} {Q : VK} {ms : List Int} {a b c : Int}
theorem ix_at (hv : σ[i]? = some (some (.ref p))) (hp : H p = some (.lst xs)) (hx : atI xs k = some v) (q : Q v H) : tOp (rIx K) (tVar i) (tC (.int k)) σ H Q := ⟨_, hv, .inl ⟨p, xs, k, v, rfl, rfl, SqL.of hp, hx, q⟩⟩
theorem set_at {R : L2.St → Hp → Prop} {j : Nat} (hv : σ[i]? = some (some (.ref p))) (hp : H p = some (.lst xs)) (hx : ixN xs.length k = some j) (q : R σ (upd H p (.lst (xs.set j v)))) : gSub (tVar i) (tC (.int k)) rSetL v σ H R := ⟨_, hv, p, xs, k, j, rfl, rfl, hp, hx, q⟩
theorem op2 {r : R2} {ta tb : TE} (h : ta σ H fun x H1 => tb σ H1 fun y H2 => r x y H2 Q) : tOp r ta tb σ H Q := h
theorem SpAt.put1 (S : SpAt st cl ms a b c H) {z : Int} (h : 0 ≤ z) : SpAt st cl ms z b c (upd H st (.lst [.ref cl, .int z, .int b, .int c])) := ⟨upd_same, by rw [upd_ne (Ne.symm S.ne)]; exact S.hc, S.ne, h, S.b0, S.c0, S.c1, S.ml⟩
theorem SpAt.put2 (S : SpAt st cl ms a b c H) {z : Int} (h : 0 ≤ z) : SpAt st cl ms a z c (upd H st (.lst [.ref cl, .int a, .int z, .int c])) := ⟨upd_same, by rw [upd_ne (Ne.symm S.ne)]; exact S.hc, S.ne, S.a0, h, S.c0, S.c1, S.ml⟩
theorem SpAt.put3 (S : SpAt st cl ms a b c H) {z : Int} (h : 0 ≤ z) (h2 : z < 2147483647) : SpAt st cl ms a b z (upd H st (.lst [.ref cl, .int a, .int b, .int z])) := ⟨upd_same, by rw [upd_ne (Ne.symm S.ne)]; exact S.hc, S.ne, S.a0, S.b0, h, h2, S.ml⟩
theorem SpAt.pop (S : SpAt st cl ms a b c H) {m : Int} {r : List Int} (e : ms = m :: r) : SpAt st cl r a b c (upd H cl (.lst (r.map V.int))) := ⟨by rw [upd_ne S.ne]; exact S.hs, upd_same, S.ne, S.a0, S.b0, S.c0, S.c1, by have := S.ml; rw [e, List.length_cons] at this; omega⟩
end
theorem dp_ints {H : Hp} : ∀ ms : List Int, DpAll K H (ms.map V.int) (ms.map PyData.int)
  | [] => .nil
  | m :: r => .cons (.int m) (dp_ints r)
theorem canLay_ints : ∀ ms : List Int, PyData.canLayAll0 (ms.map PyData.int) = true
  | [] => by simp [PyData.canLayAll0]
  | m :: r => by simp [PyData.canLayAll0, PyData.canLay0, canLay_ints r]
theorem depth_ints : ∀ ms : List Int, PyData.depthAll (ms.map PyData.int) ≤ 1
  | [] => by simp [PyData.depthAll]
  | m :: r => by
    have := depth_ints r
    simp only [List.map_cons, PyData.depthAll, PyData.depth]
    omega
theorem shaped_ints (ms : List Int) : SeqAt.shaped (.list (ms.map PyData.int)) = true := by
  have := depth_ints ms
  have h2 : PyData.depth (.list (ms.map PyData.int)) ≤ 64 := by
    simp only [PyData.depth]
    omega
  show ((PyData.list (ms.map PyData.int)).canLay0 && decide ((PyData.list (ms.map PyData.int)).depth ≤ 64)) = true
  rw [Bool.and_eq_true]
  exact ⟨by simp only [PyData.canLay0]; exact canLay_ints ms, decide_eq_true h2⟩

abbrev s__law_start : Stmt := topS 36
abbrev n__law_start : List Str := ["_law_script"]
theorem sc__law_start : FnScope n__law_start ["_law_script"] (defScope s__law_start) := ⟨rfl, rfl, rfl, by decide +kernel, rfl, by decide +kernel, by decide +kernel⟩
def spStart (K : PySem.W.Frag) : Sp := fun vs H Q _ => ∃ (a : Addr) (ns : List Int), vs = [.ref a] ∧ SqL K H a (ns.map V.int) ∧ ns.length ≤ 63 ∧ ∀ st cl H', Same H H' → H st = none → H cl = none → SpOk st cl 0 H' → Q (.ref st) H'
theorem ok_start {f : Addr} {fd : FuncData} (F : Fun K "_law_start" "_law_start" s__law_start f fd) (T : Bl mg) : FnOk P w K mg base CX0 1 f fd ["_law_script"] (spStart K) := by
  refine F.ok sc__law_start (fun vs H Q E h => ?_) (fun cdv A outer s H vs Q E hr h => ?_)
  · obtain ⟨a, ns, rfl, _⟩ := h
    rfl
  · obtain ⟨a, ns, rfl, hS, hl, k⟩ := h
    refine ⟨_, (pss_one (ps_ret (pe_lst (pa_cons (pe_callTy call_list_of (by rfl) T.b_list boot_list (pa_cons (pv 0) pa_nil)) (pa_cons pe_int (pa_cons pe_int (pa_cons pe_int pa_nil))))))), ?_⟩
    refine ⟨_, rfl, a, _, rfl, .inl hS, fun cl hcl => ⟨by show 4 ≤ sizeLine; decide, fun st hst => ?_⟩⟩
    have hst0 : H st = none := (Same.upd hcl).free hst
    have ne : st ≠ cl := fun e => by
      rw [e, upd_same] at hst
      cases hst
    refine k st cl _ ((Same.upd hcl).trans (Same.upd hst)) hst0 hcl ⟨ns, 0, 0, 11, ⟨upd_same, by rw [upd_ne (Ne.symm ne)]; exact upd_same, ne, by omega, by omega, by omega, by omega, by omega⟩, by omega⟩

abbrev s__law_draw : Stmt := topS 37
abbrev n__law_draw : List Str := ["_law_stream", "_law_many", "_law_cell", "_law_digit", "_law_mixed_here"]
theorem sc__law_draw : FnScope n__law_draw ["_law_stream", "_law_many"] (defScope s__law_draw) := ⟨rfl, rfl, rfl, by decide +kernel, rfl, by decide +kernel, by decide +kernel⟩
def spDraw : Sp := fun vs H Q _ => ∃ (st cl : Addr) (n : Nat) (m : Int), vs = [.ref st, .int m] ∧ SpOk st cl n H ∧ n ≤ 1000000000 ∧ 0 < m ∧ m < 1000000 ∧ ∀ i H', 0 ≤ i → i < m → KpS st cl H H' → SpOk st cl (n + 1) H' → Q (.int i) H'
def lenAt (cl : Addr) (H : Hp) : Nat := match H cl with
  | some (.lst xs) => xs.length
  | _ => 0
theorem ok_draw {f : Addr} {fd : FuncData} (F : Fun K "_law_draw" "_law_draw" s__law_draw f fd) (T : Bl mg) : FnOk P w K mg base CX0 1 f fd ["_law_stream", "_law_many"] spDraw := by
  refine F.ok sc__law_draw (fun vs H Q E h => ?_) (fun cdv A outer s H vs Q E hr h => ?_)
  · obtain ⟨st, cl, n, m, rfl, _⟩ := h
    rfl
  · obtain ⟨st, cl, n, m, rfl, ⟨ms, a, b, c, S, hbn⟩, hn, hm, hm2, k⟩ := h
    refine ⟨_, (pss_cons (ps_asg (pe_op op_addA (pe_ix ix_seq (pv 0) pe_int (fun _ _ => rfl)) pe_int) (pg_sub (pv 0) pe_int set_list))
    (Evl.pss_cut (ps_while PassesOwn.never (PW.pt (pw_and (pt_cmpR (op_eqD hr.units) (pe_ix ix_seq (pv 0) pe_int (fun _ _ => rfl)) pe_int (nomark _)) (pw_and1 (pt_cmpR (op_neD hr.units) (pe_ix ix_seq (pv 0) pe_int (fun _ _ => rfl)) (pe_lst pa_nil) (nomark _)))))
    (pss_cons (ps_set (i := 2) sc__law_draw.nd rfl (by first | exact Or.inl rfl | exact Or.inr rfl) (pe_bm PySem.F.plainAttrs_list PySem.F.slot_list_pop PySem.F.type_list_pop mt_popAt (pe_ix ix_seq (pv 0) pe_int (fun _ _ => rfl)) (pa_cons pe_int pa_nil)))
    (pss_cons (ps_asg (pe_op op_mod (pe_callTy call_int1 (by rfl) T.b_int boot_int (pa_cons (pe_op op_addA (pe_op op_addA (pe_op op_mulA (pe_ix ix_seq (pv 0) pe_int (fun _ _ => rfl)) pe_int) (pv 2)) pe_int) pa_nil)) pe_int) (pg_sub (pv 0) pe_int set_list))
    (pss_one (ps_asg (pe_ifExp (pt_cmpR op_ge (pv 2) (pe_op op_pow pe_int pe_int) (nomark _)) (pv 2) pe_int) (pg_sub (pv 0) pe_int set_list))))))
    (pss_cons (ps_if (pt_cmpR op_gt (pe_ix ix_seq (pv 0) pe_int (fun _ _ => rfl)) pe_int (nomark _))
    (pss_cons (ps_set (i := 3) sc__law_draw.nd rfl (by first | exact Or.inl rfl | exact Or.inr rfl) (pe_op op_mod (pe_callTy call_int1 (by rfl) T.b_int boot_int (pa_cons (pe_ix ix_seq (pv 0) pe_int (fun _ _ => rfl)) pa_nil)) (pv 1)))
    (pss_cons (ps_asg (pe_op op_fdiv (pe_ix ix_seq (pv 0) pe_int (fun _ _ => rfl)) (pv 1)) (pg_sub (pv 0) pe_int set_list))
    (pss_one (ps_ret (pv 3))))) pss_nil)
    (pss_cons (ps_set (i := 4) sc__law_draw.nd rfl (by first | exact Or.inl rfl | exact Or.inr rfl) (pe_op op_mod (pe_callTy call_int1 (by rfl) T.b_int boot_int (pa_cons (pe_op op_pow (pe_op op_addA (pe_op op_addA (pe_ix ix_seq (pv 0) pe_int (fun _ _ => rfl)) (pe_op op_mulA pe_int (pe_ix ix_seq (pv 0) pe_int (fun _ _ => rfl)))) pe_int) pe_int) pa_nil)) pe_int))
    (pss_one (ps_ret (pe_op op_mod (pe_op op_mod (pe_callTy call_int1 (by rfl) T.b_int boot_int (pa_cons (pe_op op_pow (pe_op op_addA (pe_op op_addA (pe_op op_mulA (pv 4) pe_int) (pe_op op_mulA pe_int (pe_ix ix_seq (pv 0) pe_int (fun _ _ => rfl)))) pe_int) pe_int) pa_nil)) pe_int) (pv 1)))))))), ?_⟩
    -- stream[2] = stream[2] + 1
    refine ix_at (i := 0) rfl S.hs (v := .int b) rfl ?_
    refine .inl ⟨b, 1, rfl, rfl, ?_⟩
    refine set_at (i := 0) (j := 2) rfl S.hs rfl ?_
    have S1 : SpAt st cl ms a (b + 1) c (upd H st (.lst [.ref cl, .int a, .int (b + 1), .int c])) := S.put2 (by have := S.b0; omega)
    have k1 : KpS st cl H (upd H st (.lst [.ref cl, .int a, .int (b + 1), .int c])) := KpS.put (.inl rfl)
    -- the loop
    refine ⟨fun σ H' => ∃ ms' a' c' x, σ = [some (.ref st), some (.int m), x, none, none] ∧ SpAt st cl ms' a' (b + 1) c' H' ∧ KpS st cl H H',
      ⟨fun l σ H' => ∃ ms' a' c' x, l = ms'.length ∧ σ = [some (.ref st), some (.int m), x, none, none] ∧ SpAt st cl ms' a' (b + 1) c' H' ∧ KpS st cl H H', ⟨ms.length, ms, a, c, none, rfl, rfl, S1, k1⟩, ?_⟩, ?_⟩
    · rintro l σ H1 ⟨ms1, a1, c1, x1, rfl, rfl, S2, k2⟩
      refine ix_at (i := 0) rfl S2.hs (v := .int a1) rfl ?_
      refine ⟨.int a1, .int 0, .int _, .int _, shaped_int _, shaped_int _, _, rfl, ?_⟩
      rw [eqv_int]
      by_cases ha : a1 = 0
      · rw [decide_eq_true ha]
        refine iteT ?_
        refine ix_at (i := 0) rfl S2.hs (v := .ref cl) rfl ?_
        refine ⟨by show 0 ≤ sizeLine; decide, fun p hp => ?_⟩
        have S3 := S2.same (Same.upd (o := .lst []) hp)
        refine ⟨.list (ms1.map .int), .list [], .lst (SqL.of S3.hc) (dp_ints ms1), .lst (SqL.of upd_same) .nil, shaped_ints ms1, shaped_ints [], _, rfl, ?_⟩
        have k3 : KpS st cl H (upd H1 p (.lst [])) := k2.trans (KpS.of (Same.upd hp))
        cases ms1 with
        | nil =>
          refine iteF ?_
          exact ⟨[], a1, c1, x1, rfl, S3, k3⟩
        | cons m1 r1 =>
          refine iteT ?_
          refine ⟨fun σ H' => ∃ a' c' x, σ = [some (.ref st), some (.int m), x, none, none] ∧ SpAt st cl r1 a' (b + 1) c' H' ∧ KpS st cl H H', fun σ' H' ⟨a', c', x, e, S', k'⟩ => ⟨r1.length, Nat.lt_succ_self _, r1, a', c', x, rfl, e, S', k'⟩, ?_⟩
          -- cell = stream[0].pop(0)
          refine ix_at (i := 0) rfl S3.hs (v := .ref cl) rfl ?_
          refine ⟨.inl ⟨rfl, _, SqL.of S3.hc⟩, cl, _, 0, 0, .int m1, rfl, rfl, S3.hc, by decide, by decide, (by simp [seqIndex?]), rfl, ?_⟩
          have S4 := S3.pop rfl
          have k4 := k3.trans (KpS.put (H := upd H1 p (.lst [])) (o := .lst (r1.map V.int)) (st := st) (.inr rfl))
          -- stream[3] = int(stream[3] * 8191 + cell + 3) % 2147483647
          refine ix_at (i := 0) rfl S4.hs (v := .int c1) rfl ?_
          refine .inl ⟨c1, 8191, rfl, rfl, .inr ⟨by decide, by decide⟩, ?_⟩
          refine ⟨.int m1, rfl, .inl ⟨_, _, rfl, rfl, ?_⟩⟩
          refine .inl ⟨_, _, rfl, rfl, ?_⟩
          refine .inl ⟨_, rfl, ?_⟩
          refine ⟨_, _, rfl, rfl, (by decide : (0 : Int) < 2147483647), ?_⟩
          refine set_at (i := 0) (j := 3) rfl S4.hs rfl ?_
          have S5 := S4.put3 (z := (c1 * 8191 + m1 + 3) % 2147483647) (Int.emod_nonneg _ (by decide)) (Int.emod_lt_of_pos _ (by decide))
          have k5 := k4.trans (KpS.put (H := upd (upd H1 p (.lst [])) cl (.lst (r1.map V.int))) (o := .lst [.ref cl, .int a1, .int (b + 1), .int ((c1 * 8191 + m1 + 3) % 2147483647)]) (st := st) (cl := cl) (.inl rfl))
          -- stream[1] = cell if cell >= 10 ** 18 else 0
          refine ⟨.int m1, rfl, ?_⟩
          refine ⟨10, 18, rfl, rfl, ⟨by decide, by decide, by decide⟩, ?_⟩
          refine ⟨_, _, rfl, rfl, _, rfl, ?_⟩
          by_cases hg : (10 : Int) ^ (18 : Int).toNat ≤ m1
          · rw [decide_eq_true hg]
            refine iteT ?_
            refine ⟨.int m1, rfl, ?_⟩
            refine set_at (i := 0) (j := 1) rfl S5.hs rfl ?_
            exact ⟨m1, _, _, rfl, S5.put1 (Int.le_trans (by decide) hg), k5.trans (KpS.put (.inl rfl))⟩
          · rw [decide_eq_false hg]
            refine iteF ?_
            refine set_at (i := 0) (j := 1) rfl S5.hs rfl ?_
            exact ⟨0, _, _, rfl, S5.put1 (by decide), k5.trans (KpS.put (.inl rfl))⟩
      · rw [decide_eq_false ha]
        refine iteF ?_
        refine iteF ?_
        exact ⟨ms1, a1, c1, x1, rfl, S2, k2⟩
    · rintro σ H1 ⟨ms1, a1, c1, x1, rfl, S2, k2⟩
      -- if stream[1] > 0
      refine ix_at (i := 0) rfl S2.hs (v := .int a1) rfl ?_
      refine ⟨a1, 0, rfl, rfl, _, rfl, ?_⟩
      by_cases ha : 0 < a1
      · rw [decide_eq_true ha]
        refine iteT ?_
        refine ix_at (i := 0) rfl S2.hs (v := .int a1) rfl ?_
        refine .inl ⟨a1, rfl, ?_⟩
        refine ⟨.int m, rfl, a1, m, rfl, rfl, hm, ?_⟩
        refine ix_at (i := 0) rfl S2.hs (v := .int a1) rfl ?_
        refine ⟨.int m, rfl, a1, m, rfl, rfl, ⟨hm, by omega⟩, ?_⟩
        refine set_at (i := 0) (j := 1) rfl S2.hs rfl ?_
        refine ⟨.int (a1 % m), rfl, ?_⟩
        exact k _ _ (Int.emod_nonneg _ (by omega)) (Int.emod_lt_of_pos _ hm) (k2.trans (KpS.put (.inl rfl))) ⟨ms1, _, _, _, S2.put1 (Int.ediv_nonneg (by omega) (by omega)), by omega⟩
      · rw [decide_eq_false ha]
        refine iteF ?_
        -- mixed
        refine ix_at (i := 0) rfl S2.hs (v := .int c1) rfl ?_
        refine ix_at (i := 0) rfl S2.hs (v := .int (b + 1)) rfl ?_
        refine .inl ⟨7919, b + 1, rfl, rfl, .inl ⟨by decide, by decide⟩, ?_⟩
        refine .inl ⟨_, _, rfl, rfl, ?_⟩
        refine .inl ⟨_, _, rfl, rfl, ?_⟩
        have c0 := S2.c0
        have c1' := S2.c1
        have b0 := S.b0
        refine ⟨_, 5, rfl, rfl, ⟨by decide, by decide, by omega⟩, ?_⟩
        refine .inl ⟨_, rfl, ?_⟩
        refine ⟨_, _, rfl, rfl, (by decide : (0 : Int) < 2147483629), ?_⟩
        show gName 4 (V.int ((c1 + 7919 * (b + 1) + 104729) ^ (5 : Int).toNat % 2147483629)) _ _ _
        generalize hx : (c1 + 7919 * (b + 1) + 104729) ^ (5 : Int).toNat % 2147483629 = x
        have x0 : 0 ≤ x := by rw [← hx]; exact Int.emod_nonneg _ (by decide)
        have x1' : x < 2147483629 := by rw [← hx]; exact Int.emod_lt_of_pos _ (by decide)
        refine ⟨.int x, rfl, .inl ⟨x, 48271, rfl, rfl, .inr ⟨by decide, by decide⟩, ?_⟩⟩
        refine ix_at (i := 0) rfl S2.hs (v := .int (b + 1)) rfl ?_
        refine .inl ⟨30011, b + 1, rfl, rfl, .inl ⟨by decide, by decide⟩, ?_⟩
        refine .inl ⟨_, _, rfl, rfl, ?_⟩
        refine .inl ⟨_, _, rfl, rfl, ?_⟩
        refine ⟨_, 3, rfl, rfl, ⟨by decide, by decide, by omega⟩, ?_⟩
        refine .inl ⟨_, rfl, ?_⟩
        refine ⟨_, _, rfl, rfl, (by decide : (0 : Int) < 1000000007), ?_⟩
        refine ⟨.int m, rfl, _, m, rfl, rfl, hm, ?_⟩
        exact k _ _ (Int.emod_nonneg _ (by omega)) (Int.emod_lt_of_pos _ hm) k2 ⟨ms1, _, _, _, S2, by omega⟩
end K18

/-! Draws over data. -/
namespace K18
-- HINT _law_mixed lcte tBM K "list" rPopAt (tVar 2) (tCons (tCall spDraw [] E0 (tCons (tVar 0) (tCons (tCB (fun xs H Q => ∃ x n, xs = [x] ∧ LenV K x H n ∧ Q (V.int n) H) (tCons (tVar 2) tNil)) tNil))) tNil)
open PySem PySem.Spec PyProof.Rows L2 KD
variable {P : Program} {w : World} {K : PySem.W.Frag} {mg : Str → Option Value} {base : Heap}
/-- the spring stands apart from the data -/
structure Sg (X : Addr → Prop) (st cl : Addr) (n : Nat) (H : Hp) : Prop where
  ok : SpOk st cl n H
  x1 : X st
  x2 : X cl
  t : Trk X H
section
variable {X X' : Addr → Prop} {st cl p : Addr} {n m : Nat} {H H' : Hp} {σ : L2.St} {Γ : List Sv}
theorem Sg.same (S : Sg X st cl n H) (s : Same H H') : Sg X st cl n H' := ⟨S.ok.same s, S.x1, S.x2, S.t.mono s⟩
theorem Sg.step (S : Sg X st cl n H) (k : KpS st cl H H') (o : SpOk st cl m H') : Sg X st cl m H' := ⟨o, S.x1, S.x2, o.trk k S.t⟩
theorem Sg.le (S : Sg X st cl n H) (h : n ≤ m) : Sg X st cl m H := ⟨S.ok.le h, S.x1, S.x2, S.t⟩
theorem Sg.kp (S : Sg X st cl n H) (k : KpS st cl H H') : Kp X H H' := k.kp S.x1 S.x2
theorem Sg.more (S : Sg X st cl n H) (m : More X X' H) (t : Trk X' H) : Sg X' st cl n H := ⟨S.ok, m.1 _ S.x1, m.1 _ S.x2, t⟩
theorem Sg.ne1 (S : Sg X st cl n H) (h : H p = none) : p ≠ st := fun e => S.t.new h (e ▸ S.x1)
theorem Sg.ne2 (S : Sg X st cl n H) (h : H p = none) : p ≠ cl := fun e => S.t.new h (e ▸ S.x2)
theorem SpOk.put {o : HO} (h : SpOk st cl n H) (h1 : p ≠ st) (h2 : p ≠ cl) : SpOk st cl n (upd H p o) := by
  obtain ⟨ms, a, b, c, S, hb⟩ := h
  exact ⟨ms, a, b, c, ⟨by rw [upd_ne (Ne.symm h1)]; exact S.hs, by rw [upd_ne (Ne.symm h2)]; exact S.hc, S.ne, S.a0, S.b0, S.c0, S.c1, S.ml⟩, hb⟩
theorem Sg.put {o : HO} (S : Sg X st cl n H) (h1 : p ≠ st) (h2 : p ≠ cl) : Sg X st cl n (upd H p o) := ⟨S.ok.put h1 h2, S.x1, S.x2, S.t.put⟩
theorem _root_.KD.EnvOk.kps (E : EnvOk X H σ Γ) (S : Sg X st cl n H) (k : KpS st cl H H') : EnvOk X H' σ Γ := E.mono (S.kp k)
end
section
variable {σ : L2.St} {H : Hp} {te ta tb : TE} {D : Ends} {r : R2} {Q : VK} {g : TG} {tz : TS} {tt : TT} {tl : TA}
theorem k_ret (h : te σ H D.rt) : tRet te D σ H := h
theorem k_op (h : ta σ H fun x H1 => tb σ H1 fun y H2 => r x y H2 Q) : tOp r ta tb σ H Q := h
theorem k_set {i : Nat} (h : te σ H fun v H1 => tz D (σ.set i (some v)) H1) : tSeq (tAsg te (gName i)) tz D σ H := h
theorem k_asg (h : te σ H fun v H1 => g v σ H1 fun σ2 H2 => tz D σ2 H2) : tSeq (tAsg te g) tz D σ H := h
theorem k_yes {A B : Hp → Prop} (h : A H) : tYes σ H fun b H3 => if b = true then A H3 else B H3 := by
  show (if true = true then A H else B H)
  rw [if_pos rfl]
  exact h
theorem k_lcR {ta : TA} {us : List Nat} (h : ta σ H fun vs H1 => ∃ j : Int, vs = [.int j] ∧ -(2 ^ 62) ≤ j ∧ j < 2 ^ 62 ∧ tLc (fun _ H2 R => R (Itr 0 j.toNat) H2) g tt te us σ H1 Q) : tLc (iRng1 ta) g tt te us σ H Q := h
theorem k_cb {rr : List V → Hp → VK → Prop} (h : tl σ H fun vs H1 => rr vs H1 Q) : tCB rr tl σ H Q := h
theorem k_cons {Qa : List V → Hp → Prop} (h : te σ H fun v H1 => tl σ H1 fun vs H2 => Qa (v :: vs) H2) : tCons te tl σ H Qa := h
theorem k_par {i j : Nat} (h : ta σ H fun x H1 => tb σ H1 fun y H2 => ∃ v w, [x, y] = [v, w] ∧ tz D ((σ.set i (some v)).set j (some w)) H2) : tSeq (tPar i j (tCons ta (tCons tb tNil))) tz D σ H := h
end
theorem at_nat {ds : List PyData} {i : Int} (h0 : 0 ≤ i) (hj : i.toNat < ds.length) : atI ds i = some ds[i.toNat] := by
  unfold atI
  have e : ixN ds.length i = some i.toNat := by
    have h := Evl.ixN_nat hj
    rw [show ((i.toNat : Nat) : Int) = i from by omega] at h
    exact h
  rw [e]
  show ds[i.toNat]? = some _
  rw [List.getElem?_eq_getElem hj]
theorem seqIx_nat {i : Int} {n : Nat} (h0 : 0 ≤ i) (h1 : i.toNat < n) : seqIndex? i n = some i.toNat := by
  unfold seqIndex?
  have h : ¬ i < 0 := by omega
  have h2 : (decide (0 ≤ i) && decide (i < (n : Int))) = true := by
    rw [Bool.and_eq_true]
    exact ⟨decide_eq_true h0, decide_eq_true (by omega)⟩
  simp only [if_neg h]
  rw [if_pos h2]
theorem erase_perm {α : Type} : ∀ (l : List α) (i : Nat) (h : i < l.length), (l[i] :: l.eraseIdx i).Perm l
  | a :: l, 0, _ => List.Perm.refl _
  | a :: l, i + 1, h => (List.Perm.swap _ _ _).trans ((erase_perm l i (by simpa using h)).cons a)
/-- a draw -/
theorem c_draw {X : Addr → Prop} {st cl : Addr} {n : Nat} {H : Hp} {σ : L2.St} {ts tm : TE} {E : XK} {m : Int} {Q : VK} (S : Sg X st cl n H) (hv : GV ts σ H (.ref st)) (hm : G X tm σ H (.int m)) (hn : n ≤ 1000000000) (h0 : 0 < m) (h1 : m < 1000000)
    (k : ∀ i H', 0 ≤ i → i < m → Sg X st cl (n + 1) H' → KpS st cl H H' → Q (.int i) H') : tCall spDraw [] E (tCons ts (tCons tm tNil)) σ H Q :=
  hv H (Same.refl H) _ (hm H (Same.refl H) _ fun v H1 s1 r => ⟨st, cl, n, m, by rw [r.int_inv]; rfl, S.ok.same s1, hn, h0, h1, fun i H' i0 i1 kk so => k i H' i0 i1 ((S.same s1).step kk so) ((KpS.of s1).trans kk)⟩)
abbrev s__law_pick : Stmt := topS 38
abbrev n__law_pick : List Str := ["_law_stream", "_law_some"]
theorem sc__law_pick : FnScope n__law_pick ["_law_stream", "_law_some"] (defScope s__law_pick) := ⟨rfl, rfl, rfl, by decide +kernel, rfl, by decide +kernel, by decide +kernel⟩
def spPick : Sp := fun vs H Q _ => ∃ (X : Addr → Prop) (st cl : Addr) (n : Nat) (v : V) (ds : List PyData), vs = [.ref st, v] ∧ Sg X st cl n H ∧ n ≤ 1000000000 ∧ DX X H v (.list ds) ∧ 0 < ds.length ∧ ds.length < 1000000 ∧
  ∀ w d H', d ∈ ds → Sg X st cl (n + 1) H' → KpS st cl H H' → DX X H' w d → Q w H'
theorem ok_pick {f : Addr} {fd : FuncData} (F : Fun K "_law_pick" "_law_pick" s__law_pick f fd) (T : Bl mg) (O__law_draw : Own P w K mg base CX0 1 "_law_draw" ["_law_stream", "_law_many"] spDraw) : FnOk P w K mg base CX0 2 f fd ["_law_stream", "_law_some"] spPick := by
  refine F.ok sc__law_pick (fun vs H Q E h => ?_) (fun cdv A outer s H vs Q E hr h => ?_)
  · obtain ⟨X, st, cl, n, v, ds, rfl, _⟩ := h
    rfl
  · obtain ⟨X, st, cl, n, v, ds, rfl, S, hn, hd, h0, h1, k⟩ := h
    refine ⟨_, (pss_one (ps_ret (pe_ix ix_seq (pv 1) (pe_own O__law_draw hr (by decide) (by rfl) (pa_cons (pv 0) (pa_cons (pe_callB call_len (by rfl) T.b_len boot_len (pa_cons (pv 1) pa_nil)) pa_nil))) (fun _ _ => rfl)))), ?_⟩
    have En : EnvOk X H (L2.start n__law_pick [.ref st, v]) [.val (.ref st), .dat (.list ds)] := ⟨rfl, fun i s e => by
      match i, e with
      | 0, e => cases e; rfl
      | 1, e => cases e; exact ⟨_, rfl, hd⟩⟩
    refine k_ret (k_op (g_var (i := 1) En rfl H (Same.refl H) _ fun v1 H1 s1 r1 => ?_))
    refine c_draw (S.same s1) (gv_var (En.same s1) rfl) (g_len (S.t.mono s1) (g_var (En.same s1) rfl) rfl) hn (by show 0 < (ds.length : Int); omega) (by show (ds.length : Int) < 1000000; omega) fun i H' i0 i1 S2 k2 => ?_
    have i1 : i < (ds.length : Int) := i1
    have hj : i.toNat < ds.length := by omega
    refine rd_ixL (z := ds[i.toNat]) (at_nat (by omega) hj) H' v1 (.int i) S2.t (r1.mono ((S.same s1).kp k2)) (.int i) _ fun w2 H2 s2 dw => ?_
    exact k w2 _ H2 (List.getElem_mem _) (S2.same s2) (((KpS.of s1).trans k2).trans (KpS.of s2)) dw
theorem c_pick {X : Addr → Prop} {st cl : Addr} {n : Nat} {H : Hp} {σ : L2.St} {ts tm : TE} {E : XK} {ds : List PyData} {Q : VK} (S : Sg X st cl n H) (hv : GV ts σ H (.ref st)) (hm : G X tm σ H (.list ds)) (hn : n ≤ 1000000000) (h0 : 0 < ds.length) (h1 : ds.length < 1000000)
    (k : ∀ w d H', d ∈ ds → Sg X st cl (n + 1) H' → KpS st cl H H' → DX X H' w d → Q w H') : tCall spPick [] E (tCons ts (tCons tm tNil)) σ H Q :=
  hv H (Same.refl H) _ (hm H (Same.refl H) _ fun v H1 s1 r => ⟨X, st, cl, n, v, ds, rfl, S.same s1, hn, r, h0, h1, fun w d H' hd S2 kk dw => k w d H' hd S2 ((KpS.of s1).trans kk) dw⟩)
/-- some things drawn one after the other into a new list -/
theorem lc_draws {X : Addr → Prop} {st cl : Addr} {n : Nat} {H : Hp} {σ : L2.St} {Γ : List Sv} {te : TE} {i m : Nat} {Q : VK} (pr : PyData → Prop) (S : Sg X st cl n H) (En : EnvOk X H σ Γ) (hm : m ≤ 100000)
    (he : ∀ X' H1 σ2 k Q1, k < m → EnvOk X' H1 σ2 ((Γ.set i .un).set i (.dat (.int (k : Nat)))) → Sg X' st cl (n + k) H1 → (∀ w d H', pr d → Sg X' st cl (n + k + 1) H' → KpS st cl H1 H' → DX X' H' w d → Q1 w H') → te σ2 H1 Q1)
    (q : ∀ w ds H', ds.length = m → (∀ d ∈ ds, pr d) → Sg X st cl (n + m) H' → KpS st cl H H' → DX X H' w (.list ds) → Nw H w → Q w H') : tLc (fun σ H R => R (Itr 0 m) H) (gName i) tYes te [i] σ H Q := by
  intro D hD
  have m2 : More X (fun a => X a ∨ a = D) H := More.one hD
  have d1 := S.ne1 hD
  have d2 := S.ne2 hD
  obtain ⟨Gd, Y, w1, w2⟩ := walkD_range (X := X) (H := H) (lo := 0) (n := m)
  rw [rangeD_len] at w1
  have key : ∀ H3, Kp (fun a => X a ∨ a = D) H H3 ∧ Trk (fun a => X a ∨ a = D) H3 → Gd H3 := fun H3 p => (w2 _ m2.2 H3 p.1 p.2).1
  let I : Nat → Hp → Prop := fun k H3 => KpS st cl H H3 ∧ Sg (fun a => X a ∨ a = D) st cl (n + k) H3 ∧ ∃ acc ds, H3 D = some (.lst acc) ∧ DXs (fun a => X a ∨ a = D) H3 acc ds ∧ ds.length = k ∧ ∀ d ∈ ds, pr d
  have ik : ∀ {k H3}, I k H3 → Kp (fun a => X a ∨ a = D) H H3 ∧ Trk (fun a => X a ∨ a = D) H3 := fun {k H3} p => ⟨p.1.kp (.inl S.x1) (.inl S.x2), p.2.1.t⟩
  refine lc_it w1 I ?_ (fun i H3 _ p => key H3 (ik p)) ?_ ?_
  · exact ⟨KpS.of (Same.upd hD), ⟨(S.ok).same (Same.upd hD), .inl S.x1, .inl S.x2, S.t.one hD⟩, [], [], upd_same, .nil, rfl, fun d h => by cases h⟩
  · rintro k x H3 H4 hk p y
    obtain ⟨s4, d, hd, dx⟩ := (w2 _ m2.2 H3 (ik p).1 (ik p).2).2 k x H4 y
    obtain ⟨p1, p2, acc, ds, p3, p4, p5, p6⟩ := p
    rw [rangeD_get hk] at hd
    cases hd
    have S4 := p2.same s4
    have k4 : Kp (fun a => X a ∨ a = D) H H4 := (p1.kp (.inl S.x1) (.inl S.x2)).trans (Kp.of s4)
    refine tgt_name (X := X) (i := i) En _ H4 m2 k4 S4.t x dx _ fun σ2 E2 hw => ⟨hw, ?_⟩
    refine k_yes ?_
    rw [show (0 : Int) + (k : Int) = (k : Nat) from by omega] at E2
    refine he _ H4 σ2 k _ hk E2 S4 fun w d H5 hp S5 k5 dw => ?_
    refine ⟨acc, k5 D _ d1 d2 (s4 D _ p3), by rw [p4.length, p5, sizeLine_eq]; omega, ?_, ?_, acc ++ [w], ds ++ [d], upd_same, ?_, by rw [List.length_append, p5]; rfl, fun z hz => ?_⟩
    · exact fun a o n1 n2 e => by
        have := k5 a o n1 n2 (s4 a _ (p1 a o n1 n2 e))
        rw [upd_ne (ne_of_none e hD)]
        exact this
    · exact S5.put d1 d2
    · exact (((p4.mono (Kp.of s4)).mono (S4.kp k5)).snoc dw).mono (Kp.put (.inr rfl))
    · rcases List.mem_append.mp hz with h | h
      · exact p6 z h
      · rw [List.mem_singleton.mp h]
        exact hp
  · rintro H3 ⟨p1, p2, acc, ds, p3, p4, p5, p6⟩
    have nXD : ¬ X D := S.t.new hD
    exact q (.ref D) ds H3 p5 p6 ⟨p2.ok, S.x1, S.x2, fun a h => p2.t a (.inl h)⟩ p1 (.lst nXD p3 (p4.less fun a => .inl)) (Nw.of hD)
abbrev s__law_mixed : Stmt := topS 39
abbrev n__law_mixed : List Str := ["_law_stream", "_law_some", "_law_left", "_law_k"]
theorem sc__law_mixed : FnScope n__law_mixed ["_law_stream", "_law_some"] (defScope s__law_mixed) := ⟨rfl, rfl, rfl, by decide +kernel, rfl, by decide +kernel, by decide +kernel⟩
def spMixed : Sp := fun vs H Q _ => ∃ (X : Addr → Prop) (st cl : Addr) (n : Nat) (v : V) (ds : List PyData), vs = [.ref st, v] ∧ Sg X st cl n H ∧ n + ds.length ≤ 1000000000 ∧ DX X H v (.list ds) ∧ ds.length < 1000000 ∧
  ∀ w es H', es.Perm ds → Sg X st cl (n + ds.length) H' → KpS st cl H H' → DX X H' w (.list es) → Nw H w → Q w H'
theorem ok_mixed {f : Addr} {fd : FuncData} (F : Fun K "_law_mixed" "_law_mixed" s__law_mixed f fd) (T : Bl mg) (O__law_draw : Own P w K mg base CX0 1 "_law_draw" ["_law_stream", "_law_many"] spDraw) : FnOk P w K mg base CX0 2 f fd ["_law_stream", "_law_some"] spMixed := by
  refine F.ok sc__law_mixed (fun vs H Q E h => ?_) (fun cdv A outer s H vs Q E hr h => ?_)
  · obtain ⟨X, st, cl, n, v, ds, rfl, _⟩ := h
    rfl
  · obtain ⟨X, st, cl, n, v, ds, rfl, S, hn, hd, h1, k⟩ := h
    refine ⟨_, (pss_cons (ps_set (i := 2) sc__law_mixed.nd rfl (by first | exact Or.inl rfl | exact Or.inr rfl) (pe_callTy call_list_of (by rfl) T.b_list boot_list (pa_cons (pv 1) pa_nil)))
    (pss_one (ps_ret (pe_lc (own := [("_law_k", 3)]) (g := (gName 3)) (tt := tYes) (te := tBM K "list" rPopAt (tVar 2) (tCons (tCall spDraw [] E0 (tCons (tVar 0) (tCons (tCB (fun xs H Q => ∃ x n, xs = [x] ∧ LenV K x H n ∧ Q (V.int n) H) (tCons (tVar 2) tNil)) tNil))) tNil)) rfl sc__law_mixed.nd (pi_range1 (by rfl) T.b_range (pa_cons (pe_callB call_len (by rfl) T.b_len boot_len (pa_cons (pv 2) pa_nil)) pa_nil)) (blkOk_by (N := n__law_mixed) (sc := defScope s__law_mixed) (by decide +kernel)) (fun _ _ _ _ _ => (pg_name (i := 3) sc__law_mixed.nd rfl (by first | exact Or.inl rfl | exact Or.inr rfl))) (fun _ _ _ _ _ => pts_nil) (fun _ _ _ _ _ => (pe_bm PySem.F.plainAttrs_list PySem.F.slot_list_pop PySem.F.type_list_pop mt_popAt (pv 2) (pa_cons (pe_own O__law_draw hr (by decide) (by rfl) (pa_cons (pv 0) (pa_cons (pe_callB call_len (by rfl) T.b_len boot_len (pa_cons (pv 2) pa_nil)) pa_nil))) pa_nil))))))), ?_⟩
    have En : EnvOk X H (L2.start n__law_mixed [.ref st, v]) [.val (.ref st), .dat (.list ds), .un, .un] := ⟨rfl, fun i s e => by
      match i, e with
      | 0, e => cases e; rfl
      | 1, e => cases e; exact ⟨_, rfl, hd⟩
      | 2, e => cases e; trivial
      | 3, e => cases e; trivial⟩
    -- left = list(some)
    refine k_set (gn_listOf (d := .list ds) S.t (g_var (i := 1) En rfl) rfl H (Same.refl H) _ fun v1 H1 s1 d1 nw1 => ?_)
    obtain ⟨L, us, rfl, nL, eL, rL⟩ := d1.inner
    have hL : H L = none := nw1 L rfl
    have E1 := (((En.more (More.one hL)).same s1).setV (i := 2) (v := .ref L))
    have t1 : Trk (fun b => X b ∨ b = L) H1 := fun a h => h.elim (fun x => S.t.mono s1 a x) fun e => ⟨_, e ▸ eL⟩
    have S1 : Sg (fun b => X b ∨ b = L) st cl n H1 := ⟨S.ok.same s1, .inl S.x1, .inl S.x2, t1⟩
    have n1 := S.ne1 hL
    have n2 := S.ne2 hL
    -- range(len(left))
    refine k_ret ?_
    refine ⟨_, E1.get 2 _ rfl, ?_⟩
    have xl1 : us.length = ds.length := rL.length
    refine ⟨.ref L, us.length, rfl, .inl ⟨us, SqL.of eL, rfl⟩, ?_⟩
    refine ⟨_, rfl, by omega, by omega, ?_⟩
    rw [show (us.length : Int).toNat = ds.length from by omega]
    intro D hD
    have dL : D ≠ L := fun e => by rw [e, eL] at hD; cases hD
    let X1 : Addr → Prop := fun b => X b ∨ b = L
    let X2 : Addr → Prop := fun a => X1 a ∨ a = D
    have m2 : More X1 X2 H1 := More.one hD
    have d1 := S1.ne1 hD
    have d2 := S1.ne2 hD
    obtain ⟨Gd, Y, w1, w2⟩ := walkD_range (X := X1) (H := H1) (lo := 0) (n := ds.length)
    rw [rangeD_len] at w1
    let I : Nat → Hp → Prop := fun k H3 => (∀ a o, a ≠ st → a ≠ cl → a ≠ L → H1 a = some o → H3 a = some o) ∧ Sg X2 st cl (n + k) H3 ∧ ∃ acc es left xs, H3 D = some (.lst acc) ∧ DXs X2 H3 acc es ∧ H3 L = some (.lst xs) ∧ DXs X2 H3 xs left ∧ es.length = k ∧ (es ++ left).Perm ds
    have ik : ∀ {k H3}, I k H3 → Kp X2 H1 H3 ∧ Trk X2 H3 := fun {k H3} p => ⟨fun a o n e => p.1 a o (fun z => n (z ▸ .inl (.inl S.x1))) (fun z => n (z ▸ .inl (.inl S.x2))) (fun z => n (z ▸ .inl (.inr rfl))) e, p.2.1.t⟩
    refine lc_it w1 I ?_ (fun i H3 _ p => (w2 _ m2.2 H3 (ik p).1 (ik p).2).1) ?_ ?_
    · have sD : Same H1 (upd H1 D (.lst [])) := Same.upd hD
      exact ⟨fun a o _ _ _ e => sD a o e, ⟨S1.ok.same sD, .inl (.inl S.x1), .inl (.inl S.x2), t1.one hD⟩, [], [], ds, us, upd_same, .nil, sD _ _ eL, (rL.more m2).mono (Kp.of sD), rfl, List.Perm.refl _⟩
    · rintro j x H3 H4 hj p y
      obtain ⟨s4, d, hd4, dx⟩ := (w2 _ m2.2 H3 (ik p).1 (ik p).2).2 j x H4 y
      obtain ⟨p1, p2, acc, es, left, xs, p3, p4, p5, p6, p7, p8⟩ := p
      have S4 := p2.same s4
      refine tgt_name (X := X1) (i := 3) E1 _ H4 m2 ((ik ⟨p1, p2, acc, es, left, xs, p3, p4, p5, p6, p7, p8⟩).1.trans (Kp.of s4)) S4.t x dx _ fun σ2 E2 hw => ⟨hw, ?_⟩
      refine k_yes ?_
      have hL4 : H4 L = some (.lst xs) := s4 _ _ p5
      have r4 := p6.mono (Kp.of s4)
      have q4 := p4.mono (Kp.of s4)
      have lt0 : 0 < left.length := by
        have := p8.length_eq
        rw [List.length_append] at this
        omega
      have lt1 : left.length ≤ ds.length := by
        have := p8.length_eq
        rw [List.length_append] at this
        omega
      have lx : xs.length = left.length := r4.length
      refine ⟨_, E2.get 2 _ rfl, .inl ⟨rfl, _, SqL.of hL4⟩, ?_⟩
      refine k_cons (c_draw (m := (left.length : Nat)) S4 (gv_var (i := 0) E2 rfl) ?_ (by omega) (by omega) (by omega) fun i H5 i0 i1 S5 k5 => ?_)
      · intro H5 s5 Q5 q5
        refine ⟨_, E2.get 2 _ rfl, ?_⟩
        refine ⟨.ref L, xs.length, rfl, .inl ⟨xs, SqL.of (s5 _ _ hL4), rfl⟩, ?_⟩
        rw [lx]
        exact q5 _ H5 (Same.refl _) (.int _)
      · have hL5 : H5 L = some (.lst xs) := k5 L _ n1 n2 hL4
        have r5 := r4.mono (S4.kp k5)
        have q5 := q4.mono (S4.kp k5)
        have hi : i.toNat < left.length := by omega
        have hx : i.toNat < xs.length := by omega
        obtain ⟨y, hy, ry⟩ := r5.get (i := i.toNat) (d := left[i.toNat]) (List.getElem?_eq_getElem hi)
        refine ⟨L, xs, i, i.toNat, y, rfl, rfl, hL5, by omega, by omega, ?_, hy, ?_⟩
        · exact seqIx_nat i0 hx
        · have kL : Kp X2 H5 (upd H5 L (.lst (xs.eraseIdx i.toNat))) := Kp.put (.inl (.inr rfl))
          have nD : H5 D = some (.lst acc) := k5 D _ d1 d2 (s4 D _ p3)
          refine ⟨acc, by rw [upd_ne dL]; exact nD, by rw [p4.length, p7, sizeLine_eq]; omega, ?_, ?_, acc ++ [y], es ++ [left[i.toNat]], left.eraseIdx i.toNat, xs.eraseIdx i.toNat, upd_same, ?_, by rw [upd_ne (Ne.symm dL)]; exact upd_same, ?_, by rw [List.length_append, p7]; rfl, ?_⟩
          · intro a o a1 a2 a3 e
            rw [upd_ne (ne_of_none e hD), upd_ne a3]
            exact k5 a o a1 a2 (s4 a _ (p1 a o a1 a2 a3 e))
          · exact (S5.put n1 n2).put d1 d2
          · exact ((q5.snoc ry).mono kL).mono (Kp.put (.inr rfl))
          · exact ((r5.erase i.toNat).mono kL).mono (Kp.put (.inr rfl))
          · rw [List.append_assoc]
            refine List.Perm.trans (List.Perm.append_left es ?_) p8
            exact erase_perm left i.toNat hi
    · rintro H3 ⟨p1, p2, acc, es, left, xs, p3, p4, p5, p6, p7, p8⟩
      have nXD : ¬ X D := t1.new hD ∘ .inl
      have le : left = [] := by
        have := p8.length_eq
        rw [List.length_append] at this
        exact List.eq_nil_of_length_eq_zero (by omega)
      subst le
      rw [List.append_nil] at p8
      exact k (.ref D) es H3 p8 ⟨p2.ok, S.x1, S.x2, fun a h => p2.t a (.inl (.inl h))⟩ (fun a o n3 n4 e => p1 a o n3 n4 (ne_of_none e hL) (s1 a o e)) (.lst nXD p3 (p4.less fun a h => .inl (.inl h))) (fun a e => by cases e; exact s1.free hD)
end K18

namespace K18
open PySem PySem.Spec PyProof.Rows L2 KD
variable {P : Program} {w : World} {K : PySem.W.Frag} {mg : Str → Option Value} {base : Heap}
/-! ### leaves -/
def leaf : PyData → Bool
  | .none => true
  | .bool _ => true
  | .int _ => true
  | .str s => PyData.strOk s
  | _ => false
theorem canLay_leaf : ∀ {ds : List PyData}, (∀ d ∈ ds, leaf d = true) → PyData.canLayAll0 ds = true
  | [], _ => by simp [PyData.canLayAll0]
  | d :: ds, h => by
    have h1 := h d List.mem_cons_self
    have h2 := canLay_leaf fun z hz => h z (List.mem_cons_of_mem _ hz)
    cases d <;> simp_all [PyData.canLayAll0, PyData.canLay0, leaf]
theorem depth_leaf : ∀ {ds : List PyData}, (∀ d ∈ ds, leaf d = true) → PyData.depthAll ds ≤ 1
  | [], _ => by simp [PyData.depthAll]
  | d :: ds, h => by
    have h1 := h d List.mem_cons_self
    have h2 := depth_leaf fun z hz => h z (List.mem_cons_of_mem _ hz)
    cases d <;> simp_all [PyData.depthAll, PyData.depth, leaf]
theorem shaped_leaf {d : PyData} (h : leaf d = true) : SeqAt.shaped d = true := by
  cases d <;> simp_all [SeqAt.shaped, PyData.canLay0, PyData.depth, leaf]
theorem shaped_leafs {ds : List PyData} (h : ∀ d ∈ ds, leaf d = true) : SeqAt.shaped (.list ds) = true := by
  have := depth_leaf h
  have h2 : PyData.depth (.list ds) ≤ 64 := by
    simp only [PyData.depth]
    omega
  show ((PyData.list ds).canLay0 && decide ((PyData.list ds).depth ≤ 64)) = true
  rw [Bool.and_eq_true]
  exact ⟨by simp only [PyData.canLay0]; exact canLay_leaf h, decide_eq_true h2⟩
theorem noDict_leaf {d : PyData} (h : leaf d = true) : noDict d = true := by cases d <;> first | rfl | cases h
theorem noDicts_leaf : ∀ {ds : List PyData}, (∀ d ∈ ds, leaf d = true) → noDicts ds = true
  | [], _ => by simp [noDicts]
  | d :: ds, h => by
    have h1 := noDict_leaf (h d List.mem_cons_self)
    have h2 := noDicts_leaf fun z hz => h z (List.mem_cons_of_mem _ hz)
    simp [noDicts, h1, h2]
theorem rb_inD {X : Addr → Prop} {d : PyData} {ds : List PyData} (h : leaf d = true) (hs : ∀ z ∈ ds, leaf z = true) : RB X (rInD K) d (.list ds) (ds.any fun z => PyData.eqv z d) := fun H u v _ ru rv Q q => ⟨d, ds, ru.dp (noDict_leaf h), rv.dp (by show noDicts ds = true; exact noDicts_leaf hs), shaped_leaf h, shaped_leafs hs, q⟩
abbrev s__law_p_text : Stmt := topS 30
abbrev n__law_p_text : List Str := ["_law_stream", "_law_many", "_law_k"]
theorem sc__law_p_text : FnScope n__law_p_text ["_law_stream", "_law_many"] (defScope s__law_p_text) := ⟨rfl, rfl, rfl, by decide +kernel, rfl, by decide +kernel, by decide +kernel⟩
def letters : List Str := ["a", "b", "c", "d e", "", "a"]
def spText : Sp := fun vs H Q _ => ∃ (X : Addr → Prop) (st cl : Addr) (n m : Nat), vs = [.ref st, .int m] ∧ Sg X st cl n H ∧ n + m ≤ 1000000000 ∧ m ≤ 1000 ∧
  ∀ w ws H', ws.length = m → (∀ z ∈ ws, z ∈ letters) → Sg X st cl (n + m) H' → KpS st cl H H' → DX X H' w (wsD ws) → Nw H w → Q w H'
theorem strs_of {L : List Str} : ∀ {ds : List PyData}, (∀ d ∈ ds, d ∈ L.map PyData.str) → ∃ ws : List Str, ds = ws.map PyData.str ∧ ∀ z ∈ ws, z ∈ L
  | [], _ => ⟨[], rfl, fun z h => by cases h⟩
  | d :: ds, h => by
    obtain ⟨s, hs, rfl⟩ := List.mem_map.mp (h d List.mem_cons_self)
    obtain ⟨ws, rfl, hw⟩ := strs_of fun z hz => h z (List.mem_cons_of_mem _ hz)
    exact ⟨s :: ws, rfl, fun z hz => (List.mem_cons.mp hz).elim (fun e => e ▸ hs) (hw z)⟩
theorem env_sv {X : Addr → Prop} {H : Hp} {N : List Str} {vs : List V} {ss : List Sv} (hl : vs.length = ss.length) (hs : ∀ (i : Nat) (s : Sv), ss[i]? = some s → ∀ v, vs[i]? = some v → SvOk X H s (some (some v))) (hN : vs.length ≤ N.length) : EnvOk X H (L2.start N vs) (pad N ss) := by
  unfold pad
  rw [← hl]
  exact envOk_start hl hs hN
theorem env_s1 {X : Addr → Prop} {H : Hp} {N : List Str} {st : Addr} {v : V} {s : Sv} (h : SvOk X H s (some (some v))) (hN : 2 ≤ N.length) : EnvOk X H (L2.start N [.ref st, v]) (pad N [.val (.ref st), s]) :=
  env_sv rfl (fun i s e u e2 => by
    match i, e, e2 with
    | 0, e, e2 => cases e; cases e2; rfl
    | 1, e, e2 => cases e; cases e2; exact h) hN
theorem env_s2 {X : Addr → Prop} {H : Hp} {N : List Str} {st : Addr} {v v2 : V} {s s2 : Sv} (h : SvOk X H s (some (some v))) (h2 : SvOk X H s2 (some (some v2))) (hN : 3 ≤ N.length) : EnvOk X H (L2.start N [.ref st, v, v2]) (pad N [.val (.ref st), s, s2]) :=
  env_sv rfl (fun i s e u e2 => by
    match i, e, e2 with
    | 0, e, e2 => cases e; cases e2; rfl
    | 1, e, e2 => cases e; cases e2; exact h
    | 2, e, e2 => cases e; cases e2; exact h2) hN
theorem ga_strs {X : Addr → Prop} {σ : L2.St} {H : Hp} : ∀ L : List Str, GA X (L.foldr (fun s t => tCons (tC (.str s)) t) tNil) σ H (L.map PyData.str)
  | [] => ga_nil
  | s :: L => ga_cons g_str (ga_strs L)
theorem ok_p_text {f : Addr} {fd : FuncData} (F : Fun K "_law_p_text" "_law_p_text" s__law_p_text f fd) (T : Bl mg) (O__law_pick : Own P w K mg base CX0 2 "_law_pick" ["_law_stream", "_law_some"] spPick) : FnOk P w K mg base CX0 3 f fd ["_law_stream", "_law_many"] spText := by
  refine F.ok sc__law_p_text (fun vs H Q E h => ?_) (fun cdv A outer s H vs Q E hr h => ?_)
  · obtain ⟨X, st, cl, n, m, rfl, _⟩ := h
    rfl
  · obtain ⟨X, st, cl, n, m, rfl, S, hn, hm, k⟩ := h
    refine ⟨_, (pss_one (ps_ret (pe_lc (own := [("_law_k", 2)]) (g := (gName 2)) (tt := tYes) rfl sc__law_p_text.nd (pi_range1 (by rfl) T.b_range (pa_cons (pv 1) pa_nil)) (blkOk_by (N := n__law_p_text) (sc := defScope s__law_p_text) (by decide +kernel)) (fun _ _ _ _ _ => (pg_name (i := 2) sc__law_p_text.nd rfl (by first | exact Or.inl rfl | exact Or.inr rfl))) (fun _ _ _ _ _ => pts_nil) (fun _ _ _ _ _ => (pe_own O__law_pick hr (by decide) (by rfl) (pa_cons (pv 0) (pa_cons (pe_lst (pa_cons pe_str (pa_cons pe_str (pa_cons pe_str (pa_cons pe_str (pa_cons pe_str (pa_cons pe_str pa_nil))))))) pa_nil))))))), ?_⟩
    have En : EnvOk X H (L2.start n__law_p_text [.ref st, .int m]) (pad n__law_p_text [.val (.ref st), .dat (.int m)]) := env_s1 ⟨_, rfl, .int _⟩ (by decide)
    refine k_ret ?_
    refine ⟨.int m, rfl, _, rfl, by omega, by omega, ?_⟩
    rw [show (m : Int).toNat = m from by omega]
    refine lc_draws (X := X) (cl := cl) (n := n) (i := 2) (m := m) (fun d => d ∈ letters.map PyData.str) S En (by omega) (fun X' H1 σ2 j Q1 hj E1 S1 q1 => ?_) fun w ds H' hl hd S' k' dw nw => ?_
    · refine c_pick (ds := letters.map PyData.str) S1 (gv_var (i := 0) E1 rfl) (g_lst S1.t (ga_strs letters) (by decide)) (by omega) (by decide) (by decide) fun w d H' hd S' k' dw => q1 w d H' hd S' k' dw
    · obtain ⟨ws, rfl, hw⟩ := strs_of hd
      exact k w ws H' (by rw [← hl, List.length_map]) hw S' k' dw nw
abbrev s__law_p_made : Stmt := topS 31
abbrev n__law_p_made : List Str := ["_law_words", "_law_change", "_law_place", "_law_old", "_law_new"]
theorem sc__law_p_made : FnScope n__law_p_made ["_law_words", "_law_change"] (defScope s__law_p_made) := ⟨rfl, rfl, rfl, by decide +kernel, rfl, by decide +kernel, by decide +kernel⟩
theorem ok_p_made {f : Addr} {fd : FuncData} (F : Fun K "_law_p_made" "_law_p_made" s__law_p_made f fd) (T : Bl mg) : FnOk P w K mg base CX0 1 f fd ["_law_words", "_law_change"] (sp2N TC fun a b => wsD (putB (wsOf a) (intOf (it b 0)) (wsOf (it b 1)) (wsOf (it b 2)))) := by
  refine ok2N F sc__law_p_made (by decide) fun cdv A outer s H E X d1 d2 Q hr t hp q => ⟨_, (pss_cons (ps_asg (pv 1) (pg_tup (n := 3) rfl (pgs_cons (pg_name (i := 2) sc__law_p_made.nd rfl (by first | exact Or.inl rfl | exact Or.inr rfl)) (pgs_cons (pg_name (i := 3) sc__law_p_made.nd rfl (by first | exact Or.inl rfl | exact Or.inr rfl)) (pgs_cons (pg_name (i := 4) sc__law_p_made.nd rfl (by first | exact Or.inl rfl | exact Or.inr rfl)) pgs_nil)))))
    (pss_one (ps_ret (pe_op op_addA (pe_op op_addA (pe_slice sl_list (pv 0) po_none (po_some (pv 2))) (pv 4)) (pe_slice sl_list (pv 0) (po_some (pe_op op_addA (pv 2) (pe_callB call_len (by rfl) T.b_len boot_len (pa_cons (pv 3) pa_nil)))) po_none))))), fun σ En => ?_⟩
  obtain ⟨ws, p, os, ns, rfl, rfl, h1, h2, h3, h0⟩ := hp
  have q' : ∀ w H', Same H H' → DX X H' w (wsD (putB ws p os ns)) → Nw H w → Q w H' := fun w H' s dw nw => q w H' s (by
    rw [wsOf_wsD]
    show DX X H' w (wsD (putB ws p (wsOf (wsD os)) (wsOf (wsD ns))))
    rw [wsOf_wsD, wsOf_wsD]
    exact dw) nw
  refine q_asg (g_var (d := chD p os ns) En rfl) fun H1 v s1 dv => ?_
  refine g_triple dv fun u1 u2 u3 r1 r2 r3 => ?_
  have E2 := (((En.same s1).set (i := 2) r1).set (i := 3) r2).set (i := 4) r3
  have t1 := t.mono s1
  have l1 := h1.1
  have l2 := h2.1
  have l3 := h3.1
  refine s_retN (GN.is (catn_ws t1 (cat_ws t1 (sl_to t1 (g_var E2 rfl) (g_var E2 rfl) h0) (g_var E2 rfl) ?_) (sl_from t1 (g_var E2 rfl) (g_addI t1 (g_var E2 rfl) (len_ws t1 (g_var E2 rfl))) (by omega)) ?_) ?_) fun w H2 s2 dw nw => q' w H2 (s1.trans s2) dw (Nw.back s1 nw)
  · rw [List.length_take]
    omega
  · rw [List.length_append, List.length_take, List.length_drop]
    omega
  · unfold putB
    rw [show (p + (os.length : Int)).toNat = p.toNat + os.length from by omega]

-- HINT _law_p_change in op_in_seq
-- HINT _law_p_change lctt#1 tTest (tOp (rIn K false) (tC (.bl true)) (tSl (rSlL K) (tVar 2) (tPart (tVar 3)) (tPart (tOp rAddA (tVar 7) (tC (.int 1))))))
abbrev s__law_p_change : Stmt := topS 32
abbrev n__law_p_change : List Str := ["_law_stream", "_law_words", "_law_marks", "_law_place", "_law_many", "_law_free", "_law_new", "_law_at", "_law_k"]
theorem sc__law_p_change : FnScope n__law_p_change ["_law_stream", "_law_words", "_law_marks"] (defScope s__law_p_change) := ⟨rfl, rfl, rfl, by decide +kernel, rfl, by decide +kernel, by decide +kernel⟩
def letters2 : List Str := ["x", "y", "a", "", "z"]
def spChange : Sp := fun vs H Q _ => ∃ (X : Addr → Prop) (st cl : Addr) (n : Nat) (v1 v2 : V) (ws : List Str) (ms : List PyData), vs = [.ref st, v1, v2] ∧ Sg X st cl n H ∧ n + 10 ≤ 1000000000 ∧ DX X H v1 (wsD ws) ∧ DX X H v2 (.list ms) ∧ WsOk ws ∧ (∀ z ∈ ms, z = .bool false) ∧
  ∀ w p os ns H', 0 ≤ p → p ≤ (ws.length : Int) → os = (ws.drop p.toNat).take os.length → (∀ z ∈ ns, z ∈ letters2) → ns.length ≤ 2 → 0 < os.length + ns.length → Sg X st cl (n + 5) H' → KpS st cl H H' → DX X H' w (chD p os ns) → Q w H'
theorem inV_ff : ∀ {X : Addr → Prop} {H : Hp} {xs : List V} {ds : List PyData}, DXs X H xs ds → (∀ z ∈ ds, z = .bool false) → xs.all flatV = true ∧ inV (.bl true) xs = false
  | _, _, _, _, .nil, _ => ⟨rfl, rfl⟩
  | _, _, _, _, .cons h r, hz => by
    have e := hz _ List.mem_cons_self
    subst e
    obtain ⟨i1, i2⟩ := inV_ff r fun z h => hz z (List.mem_cons_of_mem _ h)
    rw [h.bl_inv]
    refine ⟨by rw [List.all_cons, i1]; rfl, ?_⟩
    unfold inV at i2 ⊢
    rw [List.any_cons, i2]
    rfl
theorem rb_inF {X : Addr → Prop} {ds : List PyData} (hs : ∀ z ∈ ds, z = .bool false) : RB X (rIn K false) (.bool true) (.list ds) false := fun H u v _ ru rv Q q => by
  obtain ⟨a, xs, rfl, _, ha, rs⟩ := rv.lst_inv
  obtain ⟨i1, i2⟩ := inV_ff rs hs
  refine ⟨a, xs, rfl, .inl (SqL.of ha), by rw [ru.bl_inv]; rfl, i1, ?_⟩
  rw [ru.bl_inv, i2]
  exact q
theorem cut_mem {ds : List PyData} {lo hi : Option Int} {z : PyData} (h : z ∈ cutPD ds lo hi) : z ∈ ds := List.mem_of_mem_drop (List.mem_of_mem_take h)
theorem ok_p_change {f : Addr} {fd : FuncData} (F : Fun K "_law_p_change" "_law_p_change" s__law_p_change f fd) (T : Bl mg) (O__law_draw : Own P w K mg base CX0 1 "_law_draw" ["_law_stream", "_law_many"] spDraw) (O__law_pick : Own P w K mg base CX0 2 "_law_pick" ["_law_stream", "_law_some"] spPick) : FnOk P w K mg base CX0 3 f fd ["_law_stream", "_law_words", "_law_marks"] spChange := by
  refine F.ok sc__law_p_change (fun vs H Q E h => ?_) (fun cdv A outer s H vs Q E hr h => ?_)
  · obtain ⟨X, st, cl, n, v1, v2, ws, ms, rfl, _⟩ := h
    rfl
  · obtain ⟨X, st, cl, n, v1, v2, ws, ms, rfl, S, hn, hd1, hd2, hw, hms, k⟩ := h
    refine ⟨_, (pss_cons (ps_asg (pe_tup (pa_cons (pe_own O__law_draw hr (by decide) (by rfl) (pa_cons (pv 0) (pa_cons (pe_op op_addA (pe_callB call_len (by rfl) T.b_len boot_len (pa_cons (pv 1) pa_nil)) pe_int) pa_nil))) (pa_cons (pe_own O__law_pick hr (by decide) (by rfl) (pa_cons (pv 0) (pa_cons (pe_lst (pa_cons pe_int (pa_cons pe_int (pa_cons pe_int (pa_cons pe_int (pa_cons pe_int pa_nil)))))) pa_nil))) pa_nil))) (pg_tup (n := 2) rfl (pgs_cons (pg_name (i := 3) sc__law_p_change.nd rfl (by first | exact Or.inl rfl | exact Or.inr rfl)) (pgs_cons (pg_name (i := 4) sc__law_p_change.nd rfl (by first | exact Or.inl rfl | exact Or.inr rfl)) pgs_nil))))
    (pss_cons (ps_setLc (i := 5) (own := [("_law_at", 7)]) (g := (gName 7)) (tt := tTest (tOp (rIn K false) (tC (.bl true)) (tSl (rSlL K) (tVar 2) (tPart (tVar 3)) (tPart (tOp rAddA (tVar 7) (tC (.int 1))))))) rfl sc__law_p_change.nd rfl rfl (sw_true rfl rfl rfl (by decide +kernel)) (pi_range2 (by rfl) T.b_range (pa_cons (pv 3) (pa_cons (pe_callB call_len (by rfl) T.b_len boot_len (pa_cons (pv 1) pa_nil)) pa_nil))) (blkOk_by (N := n__law_p_change) (sc := defScope s__law_p_change) (by decide +kernel)) (fun _ _ _ _ _ => (pg_name (i := 7) sc__law_p_change.nd rfl (by first | exact Or.inl rfl | exact Or.inr rfl))) (fun _ _ _ _ _ => (pts_one (pt_cmpR op_in_seq pe_bl (pe_slice sl_list (pv 2) (po_some (pv 3)) (po_some (pe_op op_addA (pv 7) pe_int))) (by rfl)))) (fun _ _ _ _ _ => (pv 7)))
    (pss_cons (ps_set (i := 4) sc__law_p_change.nd rfl (by first | exact Or.inl rfl | exact Or.inr rfl) (pe_callB (cr_min rfl) (by rfl) T.b_min boot_min (pa_cons (pe_op op_addA (pe_lst (pa_cons (pv 4) (pa_cons (pe_op op_sub (pe_callB call_len (by rfl) T.b_len boot_len (pa_cons (pv 1) pa_nil)) (pv 3)) pa_nil))) (pe_lc (own := [("_law_at", 7)]) (g := (gName 7)) (tt := tYes) rfl sc__law_p_change.nd (pi_list (pe_slice sl_list (pv 5) po_none (po_some pe_int))) (blkOk_by (N := n__law_p_change) (sc := defScope s__law_p_change) (by decide +kernel)) (fun _ _ _ _ _ => (pg_name (i := 7) sc__law_p_change.nd rfl (by first | exact Or.inl rfl | exact Or.inr rfl))) (fun _ _ _ _ _ => pts_nil) (fun _ _ _ _ _ => (pe_op op_sub (pe_callTy call_int1 (by rfl) T.b_int boot_int (pa_cons (pv 7) pa_nil)) (pv 3))))) pa_nil)))
    (pss_cons (ps_setLc (i := 6) (own := [("_law_k", 8)]) (g := (gName 8)) (tt := tYes) rfl sc__law_p_change.nd rfl rfl (sw_true rfl rfl rfl (by decide +kernel)) (pi_range1 (by rfl) T.b_range (pa_cons (pe_own O__law_pick hr (by decide) (by rfl) (pa_cons (pv 0) (pa_cons (pe_lst (pa_cons pe_int (pa_cons pe_int (pa_cons pe_int (pa_cons pe_int pa_nil))))) pa_nil))) pa_nil)) (blkOk_by (N := n__law_p_change) (sc := defScope s__law_p_change) (by decide +kernel)) (fun _ _ _ _ _ => (pg_name (i := 8) sc__law_p_change.nd rfl (by first | exact Or.inl rfl | exact Or.inr rfl))) (fun _ _ _ _ _ => pts_nil) (fun _ _ _ _ _ => (pe_own O__law_pick hr (by decide) (by rfl) (pa_cons (pv 0) (pa_cons (pe_lst (pa_cons pe_str (pa_cons pe_str (pa_cons pe_str (pa_cons pe_str pa_nil))))) pa_nil)))))
    (pss_one (ps_ret (pe_tup (pa_cons (pv 3) (pa_cons (pe_slice sl_list (pv 1) (po_some (pv 3)) (po_some (pe_op op_addA (pv 3) (pv 4)))) (pa_cons (pe_ifExp (pt_cmpR op_gt (pe_op op_addA (pv 4) (pe_callB call_len (by rfl) T.b_len boot_len (pa_cons (pv 6) pa_nil))) pe_int (nomark _)) (pv 6) (pe_lst (pa_cons pe_str pa_nil))) pa_nil)))))))))), ?_⟩
    have En : EnvOk X H (L2.start n__law_p_change [.ref st, v1, v2]) (pad n__law_p_change [.val (.ref st), .dat (wsD ws), .dat (.list ms)]) := env_s2 ⟨_, rfl, hd1⟩ ⟨_, rfl, hd2⟩ (by decide)
    have wl := hw.1
    refine k_asg (k_cons (c_draw (m := (ws.length : Int) + 1) S (gv_var (i := 0) En rfl) (g_addI S.t (len_ws S.t (g_var (i := 1) En rfl)) g_int) (by omega) (by omega) (by omega) fun p H1 p0 p1 S1 k1 => ?_))
    have E1 := En.kps S k1
    refine k_cons (c_pick (ds := [.int 0, .int 0, .int 1, .int 1, .int 2]) S1 (gv_var (i := 0) E1 rfl) (g_lst S1.t (ga_cons g_int (ga_cons g_int (ga_cons g_int (ga_cons g_int (ga_cons g_int ga_nil))))) (by decide)) (by omega) (by decide) (by decide) fun x d H2 hd S2 k2 dx => ?_)
    have E2 := E1.kps S1 k2
    have hmany : ∃ m : Int, d = .int m ∧ 0 ≤ m ∧ m ≤ 2 := by
      simp at hd
      rcases hd with rfl | rfl | rfl
      · exact ⟨_, rfl, by omega, by omega⟩
      · exact ⟨_, rfl, by omega, by omega⟩
      · exact ⟨_, rfl, by omega, by omega⟩
    obtain ⟨m, rfl, m0, m2⟩ := hmany
    refine ⟨by show 2 ≤ sizeLine; decide, fun a ha => ?_⟩
    have s3 : Same H2 (upd H2 a (.tup [.int p, x])) := Same.upd ha
    refine g_pair (d := .int p) (e := .int m) (DX.newT S2.t (.cons (.int p) (.cons dx .nil)) ha) fun u1 u2 r1 r2 => ?_
    have E3 := ((E2.same s3).set (i := 3) r1).set (i := 4) r2
    have S3 := S2.same s3
    have t3 := S3.t
    -- free
    refine q_set (i := 5) (d := .list []) E3 ?_ fun H4 v4 s4 E4 => ?_
    · refine g_is (g_lc (Γ2 := fun d => ((pad n__law_p_change [.val (.ref st), .dat (wsD ws), .dat (.list ms), .dat (.int p), .dat (.int m)]).set 7 .un).set 7 (.dat d)) (fun _ => false) (fun d => d) t3 (gi_range2 (g_var (i := 3) E3 rfl) (len_ws t3 (g_var (i := 1) E3 rfl)) (by omega)) (by rw [rangeD_len]; omega) (fun H1 s d hd => tgt_name (E3.same s)) (fun X' H1 σ2 d hd t E => ?_) (fun X' H1 σ2 d hd hf => by cases hf)) ?_
      · obtain ⟨j, hj, rfl⟩ := List.mem_map.mp hd
        refine gt_op t g_bl (g_sl t (g_var (i := 2) E rfl) (go_some (g_var (i := 3) E rfl)) (go_some (g_addI t (g_var (i := 7) E rfl) g_int))) (rb_inF fun z hz => hms z (cut_mem hz))
      · rw [List.filter_eq_nil_iff.mpr (fun _ _ => by simp)]
        rfl
    have t4 := t3.mono s4
    have S4 := S3.same s4
    -- many
    have hmin : ∃ q : Int, q = min m ((ws.length : Int) - p) ∧ 0 ≤ q ∧ q ≤ (ws.length : Int) - p := ⟨_, rfl, by omega, by omega⟩
    obtain ⟨q, hq, q0, q1⟩ := hmin
    refine q_set (i := 4) (d := .int q) E4 ?_ fun H5 v5 s5 E5 => ?_
    · refine g_cb (ds := [.list (([m, (ws.length : Int) - p] : List Int).map PyData.int)]) t4 (ga_cons (g_is (g_cat (xs := [.int m, .int ((ws.length : Int) - p)]) (ys := []) t4 (g_lst t4 (ga_cons (g_var (i := 4) E4 rfl) (ga_cons (g_sub t4 (len_ws t4 (g_var (i := 1) E4 rfl)) (g_var (i := 3) E4 rfl)) ga_nil)) (by simp)) ?_ (by simp)) rfl) ga_nil) (rf_min (by simp) ?_ ?_)
      · refine g_is (g_lc1 (ds := cutPD [] none (some 1)) (Γ2 := fun d => pad n__law_p_change []) (fun d => d) t4 (gi_list (g_sl t4 (g_var (i := 5) E4 rfl) go_none (go_some (X := X) g_int))) (by decide) (fun H1 s d hd => ?_) (fun X' H1 σ2 d hd => ?_)) rfl
        · exact absurd (cut_mem hd) (by simp)
        · exact absurd (cut_mem hd) (by simp)
      · rw [hq]
        simp
        omega
      · intro y hy
        simp at hy
        omega
    have t5 := t4.mono s5
    have S5 := S4.same s5
    -- new
    refine k_set (k_lcR ?_)
    refine k_cons (c_pick (ds := [.int 0, .int 1, .int 1, .int 2]) S5 (gv_var (i := 0) E5 rfl) (g_lst S5.t (ga_cons g_int (ga_cons g_int (ga_cons g_int (ga_cons g_int ga_nil)))) (by decide)) (by omega) (by decide) (by decide) fun x2 d2 H6 hd2 S6 k6 dx2 => ?_)
    have E6 := E5.kps S5 k6
    have hcnt : ∃ c : Nat, d2 = .int (c : Nat) ∧ c ≤ 2 := by
      simp at hd2
      rcases hd2 with rfl | rfl | rfl
      · exact ⟨0, rfl, by omega⟩
      · exact ⟨1, rfl, by omega⟩
      · exact ⟨2, rfl, by omega⟩
    obtain ⟨c, rfl, c2⟩ := hcnt
    refine ⟨_, by rw [dx2.int_inv], by omega, by omega, ?_⟩
    rw [show (c : Int).toNat = c from by omega]
    refine lc_draws (X := X) (cl := cl) (n := n + 1 + 1 + 1) (i := 8) (m := c) (fun d => d ∈ letters2.map PyData.str) S6 E6 (by omega) (fun X' H1 σ2 j Q1 hj E1 S1 q1 => ?_) fun w6 ds H7 hl hd S7 k7 dw nw => ?_
    · refine c_pick (ds := (["x", "y", "a", ""] : List Str).map PyData.str) S1 (gv_var (i := 0) E1 rfl) (g_lst S1.t (ga_strs ["x", "y", "a", ""]) (by decide)) (by omega) (by decide) (by decide) fun w d H' hd S' k' dw => q1 w d H' ?_ S' k' dw
      simp at hd
      rcases hd with rfl | rfl | rfl | rfl <;> exact List.mem_map.mpr ⟨_, by decide, rfl⟩
    · obtain ⟨ns, rfl, hns⟩ := strs_of hd
      rw [List.length_map] at hl
      have E7 := (E6.kps S6 k7).set (i := 6) dw
      have t7 := S7.t
      have S8 : Sg X st cl (n + 5) H7 := S7.le (by omega)
      have hos : ((ws.drop p.toNat).take (q.toNat)).length = q.toNat := by
        rw [List.length_take, List.length_drop]
        omega
      have key : ∀ H8, Same H7 H8 → KpS st cl H H8 := fun H8 s8 => ((((((k1.trans k2).trans (KpS.of s3)).trans (KpS.of s4)).trans (KpS.of s5)).trans k6).trans k7).trans (KpS.of s8)
      by_cases hz : 0 < q + (ns.length : Int)
      · refine s_ret (X := X) (d := chD p ((ws.drop p.toNat).take q.toNat) ns) (g_tup t7 (ga_cons (g_var (i := 3) E7 rfl) (ga_cons (g_is (sl_mid t7 (g_var (i := 1) E7 rfl) (g_var (i := 3) E7 rfl) (g_addI t7 (g_var (i := 3) E7 rfl) (g_var (i := 4) E7 rfl)) p0 (by omega)) (by rw [show (p + q).toNat - p.toNat = q.toNat from by omega])) (ga_cons ?_ ga_nil))) (by simp)) fun w8 H8 s8 dw8 => k w8 p _ ns H8 p0 (by omega) (by rw [hos]) hns (by omega) (by rw [hos]; omega) (S8.same s8) (key H8 s8) dw8
        refine g_if (b := true) ?_ (fun _ => g_var (i := 6) E7 rfl) (fun h => by cases h)
        refine gt_is (gt_cmpI t7 (g := fun i j => decide (j < i)) (g_addI t7 (g_var (i := 4) E7 rfl) (len_ws t7 (g_var (i := 6) E7 rfl))) g_int) (decide_eq_true hz)
      · refine s_ret (X := X) (d := chD p ((ws.drop p.toNat).take q.toNat) ["z"]) (g_tup t7 (ga_cons (g_var (i := 3) E7 rfl) (ga_cons (g_is (sl_mid t7 (g_var (i := 1) E7 rfl) (g_var (i := 3) E7 rfl) (g_addI t7 (g_var (i := 3) E7 rfl) (g_var (i := 4) E7 rfl)) p0 (by omega)) (by rw [show (p + q).toNat - p.toNat = q.toNat from by omega])) (ga_cons ?_ ga_nil))) (by simp)) fun w8 H8 s8 dw8 => k w8 p _ ["z"] H8 p0 (by omega) (by rw [hos]) (by decide) (by decide) (by simp) (S8.same s8) (key H8 s8) dw8
        refine g_if (b := false) ?_ (fun h => by cases h) (fun _ => g_lst t7 (ga_cons g_str ga_nil) (by decide))
        refine gt_is (gt_cmpI t7 (g := fun i j => decide (j < i)) (g_addI t7 (g_var (i := 4) E7 rfl) (len_ws t7 (g_var (i := 6) E7 rfl))) g_int) (decide_eq_false hz)
end K18

/-! Whether two things are the same. -/
namespace K18
open PySem PySem.Spec PyProof.Rows L2 KD
variable {P : Program} {w : World} {K : PySem.W.Frag} {mg : Str → Option Value} {base : Heap}
theorem walk_zipT {a b : Addr} {xs ys : List V} {n : Nat} (hn : n = min xs.length ys.length) : Walk (RZ.ItzT K a b) n (fun H => SqT K H a xs ∧ SqT K H b ys) (YPair (fun i => xs[i]?) (fun i => ys[i]?)) := by
  subst hn
  refine ⟨fun i _ hi q => ?_, fun _ q => ⟨xs, ys, q.1, q.2, by omega⟩, fun i H v H' _ q y => ?_⟩
  · have h1 : i < xs.length := by omega
    have h2 : i < ys.length := by omega
    exact ⟨xs, ys, xs[i], ys[i], q.1, q.2, by simp [h1], by simp [h2]⟩
  · obtain ⟨T, x, z, h1, h2, h3, h4, h5⟩ := y
    exact ⟨T, x, z, h1, h2, h3, h4 xs q.1, h5 ys q.2⟩
theorem gi_zipT {X : Addr → Prop} {H : Hp} {σ : L2.St} {te tb : TE} {ds es : List PyData} (h : G X te σ H (.tuple ds)) (h' : G X tb σ H (.tuple es)) : GI X (RZ.iZipA K (tCons te (tCons tb tNil))) σ H (zipD ds es) := fun H1 s R r => h H1 s _ fun v H2 s2 rv => h' H2 (s.trans s2) _ fun w H3 s3 rw_ => by
  obtain ⟨a, xs, rfl, n, e, rx⟩ := (rv.mono (Kp.of s3)).tup_inv
  obtain ⟨b, ys, rfl, n2, e2, ry⟩ := rw_.tup_inv
  refine ⟨a, b, xs, ys, rfl, .inr ⟨SqT.of e, SqT.of e2, r _ H3 (s2.trans s3) ⟨_, _, walk_zipT (xs := xs) (ys := ys) (by simp [zipD, rx.length, ry.length]), fun X' m H4 k t => ?_⟩⟩⟩
  have n' : ¬ X' a := fun z => (m a z).elim n fun q => by rw [e] at q; cases q
  have n2' : ¬ X' b := fun z => (m b z).elim n2 fun q => by rw [e2] at q; cases q
  refine ⟨⟨SqT.of (k a _ n' e), SqT.of (k b _ n2' e2)⟩, fun i x H5 y => ?_⟩
  obtain ⟨T, u, w, rfl, hT, rfl, hu, hw⟩ := y
  obtain ⟨d, h1, h2⟩ := rx.getV hu
  obtain ⟨d', h3, h4⟩ := ry.getV hw
  refine ⟨Same.upd hT, .tuple [d, d'], ?_, DX.newT t (.cons ((h2.grow m).mono k) (.cons ((h4.grow m).mono k) .nil)) hT⟩
  unfold zipD
  rw [List.getElem?_zipWith, h1, h3]
theorem gi_zipL {X : Addr → Prop} {H : Hp} {σ : L2.St} {te tb : TE} {ds es : List PyData} (h : G X te σ H (.list ds)) (h' : G X tb σ H (.list es)) : GI X (RZ.iZipA K (tCons te (tCons tb tNil))) σ H (zipD ds es) := fun H1 s R r => h H1 s _ fun v H2 s2 rv => h' H2 (s.trans s2) _ fun w H3 s3 rw_ => by
  obtain ⟨a, xs, rfl, n, e, rx⟩ := (rv.mono (Kp.of s3)).lst_inv
  obtain ⟨b, ys, rfl, n2, e2, ry⟩ := rw_.lst_inv
  refine ⟨a, b, xs, ys, rfl, .inl ⟨SqL.of e, SqL.of e2, r _ H3 (s2.trans s3) ⟨_, _, walk_zip (xs := xs) (ys := ys) (by simp [zipD, rx.length, ry.length]), fun X' m H4 k t => ?_⟩⟩⟩
  have n' : ¬ X' a := fun z => (m a z).elim n fun q => by rw [e] at q; cases q
  have n2' : ¬ X' b := fun z => (m b z).elim n2 fun q => by rw [e2] at q; cases q
  refine ⟨⟨SqL.of (k a _ n' e), SqL.of (k b _ n2' e2)⟩, fun i x H5 y => ?_⟩
  obtain ⟨T, u, w, rfl, hT, rfl, hu, hw⟩ := y
  obtain ⟨d, h1, h2⟩ := rx.getV hu
  obtain ⟨d', h3, h4⟩ := ry.getV hw
  refine ⟨Same.upd hT, .tuple [d, d'], ?_, DX.newT t (.cons ((h2.grow m).mono k) (.cons ((h4.grow m).mono k) .nil)) hT⟩
  unfold zipD
  rw [List.getElem?_zipWith, h1, h3]
/-- so deep at most, leaves below -/
def sm : Nat → PyData → Prop
  | 0, d => leaf d = true
  | n + 1, .list ds => ds.length ≤ 100000 ∧ ∀ z ∈ ds, sm n z
  | n + 1, .tuple ds => ds.length ≤ 100000 ∧ ∀ z ∈ ds, sm n z
  | _ + 1, d => leaf d = true
def spSame (n : Nat) : Sp := fun vs H Q _ => ∃ (X : Addr → Prop) (v1 v2 : V) (d : PyData), vs = [v1, v2] ∧ Trk X H ∧ DX X H v1 d ∧ DX X H v2 d ∧ sm n d ∧ ∀ H', Same H H' → Q (.bl true) H'
def spPrev : Nat → Sp
  | 0 => fun _ _ _ _ => False
  | n + 1 => spSame n
theorem eqv_leaf {d : PyData} (h : leaf d = true) : PyData.eqv d d = true := by
  cases d <;> simp_all [PyData.eqv, leaf]
-- HINT _law_same never return isinstance(_law_found, dict)
-- HINT _law_same le (Nat.le_refl _)
-- HINT _law_same zip RZ.pi_zipA
abbrev s__law_same : Stmt := topS 40
abbrev n__law_same : List Str := ["_law_found", "_law_due", "_law_x", "_law_y"]
theorem sc__law_same : FnScope n__law_same ["_law_found", "_law_due"] (defScope s__law_same) := ⟨rfl, rfl, rfl, by decide +kernel, rfl, by decide +kernel, by decide +kernel⟩
theorem ok_same_body {f : Addr} {fd : FuncData} {n : Nat} (F : Fun K "_law_same" "_law_same" s__law_same f fd) (T : Bl mg) (O__law_same : Own P w K mg base CX0 (n + 1) "_law_same" ["_law_found", "_law_due"] (spPrev n)) : FnOk P w K mg base CX0 (n + 2) f fd ["_law_found", "_law_due"] (spSame n) := by
  refine F.ok sc__law_same (fun vs H Q E h => ?_) (fun cdv A outer s H vs Q E hr h => ?_)
  · obtain ⟨X, v1, v2, d, rfl, _⟩ := h
    rfl
  · obtain ⟨X, v1, v2, d, rfl, t, d1, d2, hs, k⟩ := h
    refine ⟨_, (pss_cons (ps_if (pt_val (pe_callB call_isiT (by rfl) T.b_isinstance boot_isinstance (pa_cons (pv 1) (pa_cons (pe_tup (pa_cons (pe_bltn (v := .ty "list") (by rfl) T.b_list boot_list rfl) (pa_cons (pe_bltn (v := .ty "tuple") (by rfl) T.b_tuple boot_tuple rfl) pa_nil))) pa_nil))))
    (pss_cons (ps_if (PW.pt (pw_or (pt_cmpR (op_neD hr.units) (pe_callB call_isi (by rfl) T.b_isinstance boot_isinstance (pa_cons (pv 0) (pa_cons (pe_bltn (v := .ty "list") (by rfl) T.b_list boot_list rfl) pa_nil))) (pe_callB call_isi (by rfl) T.b_isinstance boot_isinstance (pa_cons (pv 1) (pa_cons (pe_bltn (v := .ty "list") (by rfl) T.b_list boot_list rfl) pa_nil))) (nomark _)) (pw_or1 (pt_cmpR (op_neD hr.units) (pe_callB call_isi (by rfl) T.b_isinstance boot_isinstance (pa_cons (pv 0) (pa_cons (pe_bltn (v := .ty "tuple") (by rfl) T.b_tuple boot_tuple rfl) pa_nil))) (pe_callB call_isi (by rfl) T.b_isinstance boot_isinstance (pa_cons (pv 1) (pa_cons (pe_bltn (v := .ty "tuple") (by rfl) T.b_tuple boot_tuple rfl) pa_nil))) (nomark _)))))
    (pss_one (ps_ret pe_bl)) pss_nil)
    (pss_one (ps_ret (pe_and (pe_cmpR (op_eqD hr.units) (pe_callB call_len (by rfl) T.b_len boot_len (pa_cons (pv 0) pa_nil)) (pe_callB call_len (by rfl) T.b_len boot_len (pa_cons (pv 1) pa_nil)) (nomark _)) (pe_one (pe_callB (cr_all rfl) (by rfl) T.b_all boot_all (pa_cons (pe_lc (own := [("_law_x", 2), ("_law_y", 3)]) (g := (gTup K 2 (gCons (gName 2) (gCons (gName 3) gNil)))) (tt := tYes) rfl sc__law_same.nd (RZ.pi_zipA (by rfl) T.b_zip (pa_cons (pv 0) (pa_cons (pv 1) pa_nil))) (blkOk_by (N := n__law_same) (sc := defScope s__law_same) (by decide +kernel)) (fun _ _ _ _ _ => (pg_tup (n := 2) rfl (pgs_cons (pg_name (i := 2) sc__law_same.nd rfl (by first | exact Or.inl rfl | exact Or.inr rfl)) (pgs_cons (pg_name (i := 3) sc__law_same.nd rfl (by first | exact Or.inl rfl | exact Or.inr rfl)) pgs_nil)))) (fun _ _ _ _ _ => pts_nil) (fun _ _ _ _ _ => (pe_own O__law_same hr (Nat.le_refl _) (by rfl) (pa_cons (pv 2) (pa_cons (pv 3) pa_nil))))) pa_nil))))))) pss_nil)
    (pss_cons (ps_if (pt_val (pe_callB call_isi (by rfl) T.b_isinstance boot_isinstance (pa_cons (pv 1) (pa_cons (pe_bltn (v := .ty "dict") (by rfl) T.b_dict boot_dict rfl) pa_nil))))
    (pss_one ps_never) pss_nil)
    (pss_cons (ps_if (pt_val (pe_callB call_isi (by rfl) T.b_isinstance boot_isinstance (pa_cons (pv 1) (pa_cons (pe_bltn (v := .ty "int") (by rfl) T.b_int boot_int rfl) pa_nil))))
    (pss_one (ps_ret (pe_and (pe_callB call_isi (by rfl) T.b_isinstance boot_isinstance (pa_cons (pv 0) (pa_cons (pe_bltn (v := .ty "int") (by rfl) T.b_int boot_int rfl) pa_nil))) (pe_and (pe_cmpR (op_eqD hr.units) (pe_callB call_isi (by rfl) T.b_isinstance boot_isinstance (pa_cons (pv 0) (pa_cons (pe_bltn (v := .ty "bool") (by rfl) T.b_bool boot_bool rfl) pa_nil))) (pe_callB call_isi (by rfl) T.b_isinstance boot_isinstance (pa_cons (pv 1) (pa_cons (pe_bltn (v := .ty "bool") (by rfl) T.b_bool boot_bool rfl) pa_nil))) (nomark _)) (pe_one (pe_cmpR (op_eqD hr.units) (pv 0) (pv 1) (nomark _))))))) pss_nil)
    (pss_one (ps_ret (pe_and (pe_not (pe_callB call_isiT (by rfl) T.b_isinstance boot_isinstance (pa_cons (pv 0) (pa_cons (pe_tup (pa_cons (pe_bltn (v := .ty "int") (by rfl) T.b_int boot_int rfl) (pa_cons (pe_bltn (v := .ty "list") (by rfl) T.b_list boot_list rfl) (pa_cons (pe_bltn (v := .ty "tuple") (by rfl) T.b_tuple boot_tuple rfl) (pa_cons (pe_bltn (v := .ty "dict") (by rfl) T.b_dict boot_dict rfl) pa_nil))))) pa_nil)))) (pe_one (pe_cmpR (op_eqD hr.units) (pv 0) (pv 1) (nomark _))))))))), ?_⟩
    have En : EnvOk X H (L2.start n__law_same [v1, v2]) (pad n__law_same [.dat d, .dat d]) := env2 d1 d2 (by decide)
    have b1 : PyData.eqv (.bool true) (.bool true) = true := by simp [PyData.eqv]
    have eqb : ∀ b : Bool, PyData.eqv (.bool b) (.bool b) = true := fun b => by simp [PyData.eqv]
    have shb : ∀ b : Bool, SeqAt.shaped (.bool b) = true := fun b => shaped_leaf rfl
    have ndb : ∀ b : Bool, noDict (.bool b) = true := fun b => by simp [noDict]
    refine q_if (gt_B (g_isSeq (g_var (i := 1) En rfl))) (fun hb H1 s1 => ?_) (fun hb H1 s1 => ?_)
    · -- a list or a tuple
      have E1 := En.same s1
      have t1 := t.mono s1
      refine q_if (b := false) (gt_is (gt_or (b := !PyData.eqv (.bool (isa_tuple d)) (.bool (isa_tuple d))) (gt_neD t1 (g_isList (g_var (i := 0) E1 rfl)) (g_isList (g_var (i := 1) E1 rfl)) (ndb _) (ndb _) (shb _) (shb _)) fun _ => gt_neD t1 (g_isTuple (g_var (i := 0) E1 rfl)) (g_isTuple (g_var (i := 1) E1 rfl)) (ndb _) (ndb _) (shb _) (shb _)) (by rw [eqb, eqb]; rfl)) (fun h => by cases h) fun _ H2 s2 => ?_
      have E2 := E1.same s2
      have t2 := t1.mono s2
      have hln : ∀ i : Int, PyData.eqv (.int i) (.int i) = true := fun i => by rw [eqv_int]; simp
      have core : ∀ (m : Nat) (te : TE) (wi : TI) (ds : List PyData), ds.length ≤ 100000 → (∀ z ∈ ds, sm m z) → GI X wi (L2.start n__law_same [v1, v2]) H2 (zipD ds ds) → te = tCall (spSame m) [] E0 (tCons (tVar 2) (tCons (tVar 3) tNil)) → G X (tCB (rAll K) (tCons (tLc wi (gTup K 2 (gCons (gName 2) (gCons (gName 3) gNil))) tYes te [2, 3]) tNil)) (L2.start n__law_same [v1, v2]) H2 (.bool true) := fun m te wi ds hl hz hi hte => by
        subst hte
        have hzip : ∀ p ∈ zipD ds ds, ∃ z ∈ ds, p = .tuple [z, z] := fun p hp => by
          obtain ⟨i, hi, he⟩ := List.mem_iff_getElem.mp hp
          unfold zipD at he hi
          rw [List.length_zipWith] at hi
          rw [List.getElem_zipWith] at he
          exact ⟨_, List.getElem_mem (by omega), he.symm⟩
        refine g_is (g_cb (ds := [.list (((zipD ds ds).map fun _ => true).map PyData.bool)]) t2 (ga_cons (g_is (g_lc1 (ds := zipD ds ds) (Γ2 := fun p => ((((pad n__law_same [.dat d, .dat d]).set 3 .un).set 2 .un).set 2 (.dat (it p 0))).set 3 (.dat (it p 1))) (fun _ => .bool true) t2 hi (by unfold zipD; rw [List.length_zipWith]; omega) (fun H3 s3 p hp => ?_) (fun X' H3 σ2 p hp t3 E3 => ?_)) (by rw [List.map_map]; rfl)) ga_nil) rf_all) (by rw [List.all_map]; simp)
        · obtain ⟨z, hzm, rfl⟩ := hzip p hp
          exact tgt_pair (E2.same s3) (by decide)
        · obtain ⟨z, hzm, rfl⟩ := hzip p hp
          intro H4 s4 Q4 q4
          refine g_var (i := 2) E3 rfl H4 s4 _ fun u H5 s5 r5 => g_var (i := 3) (E3.same (s4.trans s5)) rfl H5 (Same.refl _) _ fun u2 H6 s6 r6 => ?_
          exact ⟨X', u, u2, z, rfl, t3.mono ((s4.trans s5).trans s6), r5.mono (Kp.of s6), r6, hz z hzm, fun H7 s7 => q4 _ H7 ((s5.trans s6).trans s7) (.bl true)⟩
      cases n with
      | zero => cases d with
        | list ds => exact absurd hs (by simp [sm, leaf])
        | tuple ds => exact absurd hs (by simp [sm, leaf])
        | _ => cases hb
      | succ m =>
        cases d with
        | list ds =>
          obtain ⟨hl, hz⟩ := hs
          exact s_ret (X := X) (d := .bool true) (g_is (g_and (b := true) (g_eqD t2 (g_len t2 (g_var (i := 0) E2 rfl) rfl) (g_len t2 (g_var (i := 1) E2 rfl) rfl) rfl rfl (shaped_int _) (shaped_int _)) fun _ => core m _ _ ds hl hz (gi_zipL (g_var (i := 0) E2 rfl) (g_var (i := 1) E2 rfl)) rfl) (by rw [hln]; rfl)) fun w H' s' dw => by rw [dw.bl_inv]; exact k H' ((s1.trans s2).trans s')
        | tuple ds =>
          obtain ⟨hl, hz⟩ := hs
          exact s_ret (X := X) (d := .bool true) (g_is (g_and (b := true) (g_eqD t2 (g_len t2 (g_var (i := 0) E2 rfl) rfl) (g_len t2 (g_var (i := 1) E2 rfl) rfl) rfl rfl (shaped_int _) (shaped_int _)) fun _ => core m _ _ ds hl hz (gi_zipT (g_var (i := 0) E2 rfl) (g_var (i := 1) E2 rfl)) rfl) (by rw [hln]; rfl)) fun w H' s' dw => by rw [dw.bl_inv]; exact k H' ((s1.trans s2).trans s')
        | _ => cases hb
    · -- a leaf
      have hlf : leaf d = true := by
        cases n with
        | zero => exact hs
        | succ m => cases d <;> first | exact hs | cases hb
      have E1 := En.same s1
      have t1 := t.mono s1
      refine q_if (b := false) (gt_is (gt_B (g_isDict (g_var (i := 1) E1 rfl))) (by cases d <;> first | rfl | cases hlf)) (fun h => by cases h) fun _ H2 s2 => ?_
      have E2 := E1.same s2
      have t2 := t1.mono s2
      refine q_if (gt_B (g_isInt (g_var (i := 1) E2 rfl))) (fun hi H3 s3 => ?_) (fun hi H3 s3 => ?_)
      · have E3 := E2.same s3
        have t3 := t2.mono s3
        refine s_ret (X := X) (d := .bool true) (g_is (g_and (b := PyData.eqv (.bool (isa_bool d)) (.bool (isa_bool d)) && PyData.eqv d d) (g_isInt (g_var (i := 0) E3 rfl)) fun _ => g_and (g_eqD t3 (g_isBool (g_var (i := 0) E3 rfl)) (g_isBool (g_var (i := 1) E3 rfl)) (ndb _) (ndb _) (shb _) (shb _)) fun _ => g_eqD t3 (g_var (i := 0) E3 rfl) (g_var (i := 1) E3 rfl) (noDict_leaf hlf) (noDict_leaf hlf) (shaped_leaf hlf) (shaped_leaf hlf)) (by rw [hi, eqb, eqv_leaf hlf]; rfl)) fun w H' s' dw => by rw [dw.bl_inv]; exact k H' (((s1.trans s2).trans s3).trans s')
      · have E3 := E2.same s3
        have t3 := t2.mono s3
        refine s_ret (X := X) (d := .bool true) (g_is (g_and (b := PyData.eqv d d) (g_not (g_isiT (ns := ["int", "list", "tuple", "dict"]) (g_var (i := 0) E3 rfl) rfl (by decide) ?_)) fun _ => g_eqD t3 (g_var (i := 0) E3 rfl) (g_var (i := 1) E3 rfl) (noDict_leaf hlf) (noDict_leaf hlf) (shaped_leaf hlf) (shaped_leaf hlf)) ?_) fun w H' s' dw => by rw [dw.bl_inv]; exact k H' (((s1.trans s2).trans s3).trans s')
        · intro n hn
          simp at hn
          rcases hn with rfl | rfl | rfl | rfl
          · exact ksm_int d
          · exact ksm_list d
          · exact ksm_tuple d
          · exact ksm_dict d
        · have e : isDs ["int", "list", "tuple", "dict"] d = false := by
            unfold isDs
            rw [List.any_cons, List.any_cons, List.any_cons, List.any_cons, List.any_nil, isD_int, isD_list, isD_tuple, isD_dict, hi]
            cases d <;> first | rfl | cases hlf
          rw [e, eqv_leaf hlf]
          rfl
theorem ok_same {f : Addr} {fd : FuncData} (F : Fun K "_law_same" "_law_same" s__law_same f fd) (T : Bl mg) (h1 : mg "_law_same" = some (.ref f)) (h2 : PySem.W.keepIn K (.ref f) = true) (h3 : Binds K fd ["_law_found", "_law_due"] []) : ∀ n : Nat, FnOk P w K mg base CX0 (n + 2) f fd ["_law_found", "_law_due"] (spSame n)
  | 0 => ok_same_body F T ⟨f, fd, h1, h2, h3, F.ok (k := 0) sc__law_same (fun _ _ _ _ h => h.elim) (fun _ _ _ _ _ _ _ _ _ h => h.elim)⟩
  | n + 1 => ok_same_body F T ⟨f, fd, h1, h2, h3, ok_same F T h1 h2 h3 n⟩
end K18

/-! Passing. -/
namespace K18
open PySem PySem.Spec PyProof.Rows L2 KD
-- RAISES change_of checked_text made_by turned_back passed side_by_side
variable {P : Program} {w : World} {K : PySem.W.Frag} {mg : Str → Option Value} {base : Heap}
abbrev s_moved : Stmt := topS 21
abbrev n_moved : List Str := ["change", "by", "place", "old", "new"]
theorem sc_moved : FnScope n_moved ["change", "by"] (defScope s_moved) := ⟨rfl, rfl, rfl, by decide +kernel, rfl, by decide +kernel, by decide +kernel⟩
/-- two told changes -/
def CC (a b : PyData) : Prop := ∃ p os ns q us vs, a = chD p os ns ∧ b = chD q us vs ∧ WsOk os ∧ WsOk ns ∧ WsOk us ∧ WsOk vs
theorem len_it {X : Addr → Prop} {te : TE} {σ : L2.St} {H : Hp} {p : Int} {os ns ws : List Str} {i : Int} (t : Trk X H) (h : G X te σ H (chD p os ns)) (e : atI [PyData.int p, wsD os, wsD ns] i = some (wsD ws)) : G X (tCB (fun xs H Q => ∃ x n, xs = [x] ∧ LenV K x H n ∧ Q (V.int n) H) (tCons (tOp (rIx K) te (tC (.int i))) tNil)) σ H (.int (ws.length : Int)) :=
  len_ws t (g_ixT t h g_int e)
theorem ok_moved {f : Addr} {fd : FuncData} (F : Fun K "moved" "moved" s_moved f fd) (T : Bl mg) : FnOk P w K mg base CX0 1 f fd ["change", "by"] (sp2 CC fun a b => chD (intOf (it a 0) + ((wsOf (it b 2)).length : Int) - ((wsOf (it b 1)).length : Int)) (wsOf (it a 1)) (wsOf (it a 2))) := by
  refine ok2 F sc_moved (by decide) fun cdv A outer s H E X d1 d2 Q hr t hp q => ⟨_, (pss_cons (ps_asg (pv 0) (pg_tup (n := 3) rfl (pgs_cons (pg_name (i := 2) sc_moved.nd rfl (by first | exact Or.inl rfl | exact Or.inr rfl)) (pgs_cons (pg_name (i := 3) sc_moved.nd rfl (by first | exact Or.inl rfl | exact Or.inr rfl)) (pgs_cons (pg_name (i := 4) sc_moved.nd rfl (by first | exact Or.inl rfl | exact Or.inr rfl)) pgs_nil)))))
    (pss_one (ps_ret (pe_tup (pa_cons (pe_op op_sub (pe_op op_addA (pv 2) (pe_callB call_len (by rfl) T.b_len boot_len (pa_cons (pe_ix ix_seq (pv 1) pe_int (fun _ _ => rfl)) pa_nil))) (pe_callB call_len (by rfl) T.b_len boot_len (pa_cons (pe_ix ix_seq (pv 1) pe_int (fun _ _ => rfl)) pa_nil))) (pa_cons (pv 3) (pa_cons (pv 4) pa_nil))))))), fun σ En => ?_⟩
  obtain ⟨p, os, ns, q1, us, vs, rfl, rfl, h1, h2, h3, h4⟩ := hp
  have q' : ∀ w H', Same H H' → DX X H' w (chD (p + (vs.length : Int) - (us.length : Int)) os ns) → Q w H' := fun w H' s dw => q w H' s (by
    show DX X H' w (chD (p + ((wsOf (wsD vs)).length : Int) - ((wsOf (wsD us)).length : Int)) (wsOf (wsD os)) (wsOf (wsD ns)))
    rw [wsOf_wsD, wsOf_wsD, wsOf_wsD, wsOf_wsD]
    exact dw)
  refine q_asg (g_var (i := 0) (d := chD p os ns) En rfl) fun H1 v s1 dv => ?_
  refine g_triple dv fun u1 u2 u3 r1 r2 r3 => ?_
  have E2 := (((En.same s1).set (i := 2) r1).set (i := 3) r2).set (i := 4) r3
  have t1 := t.mono s1
  refine s_ret (X := X) (d := chD (p + (vs.length : Int) - (us.length : Int)) os ns) (g_tup t1 (ga_cons (g_sub t1 (g_addI t1 (g_var (i := 2) E2 rfl) (len_it t1 (g_var (i := 1) E2 rfl) rfl)) (len_it t1 (g_var (i := 1) E2 rfl) rfl)) (ga_cons (g_var (i := 3) E2 rfl) (ga_cons (g_var (i := 4) E2 rfl) ga_nil))) (by simp)) fun w H2 s2 dw => q' w H2 (s1.trans s2) dw
abbrev s_moved_back : Stmt := topS 22
abbrev n_moved_back : List Str := ["change", "by", "place", "old", "new"]
theorem sc_moved_back : FnScope n_moved_back ["change", "by"] (defScope s_moved_back) := ⟨rfl, rfl, rfl, by decide +kernel, rfl, by decide +kernel, by decide +kernel⟩
theorem ok_moved_back {f : Addr} {fd : FuncData} (F : Fun K "moved_back" "moved_back" s_moved_back f fd) (T : Bl mg) : FnOk P w K mg base CX0 1 f fd ["change", "by"] (sp2 CC fun a b => chD (intOf (it a 0) - ((wsOf (it b 2)).length : Int) + ((wsOf (it b 1)).length : Int)) (wsOf (it a 1)) (wsOf (it a 2))) := by
  refine ok2 F sc_moved_back (by decide) fun cdv A outer s H E X d1 d2 Q hr t hp q => ⟨_, (pss_cons (ps_asg (pv 0) (pg_tup (n := 3) rfl (pgs_cons (pg_name (i := 2) sc_moved_back.nd rfl (by first | exact Or.inl rfl | exact Or.inr rfl)) (pgs_cons (pg_name (i := 3) sc_moved_back.nd rfl (by first | exact Or.inl rfl | exact Or.inr rfl)) (pgs_cons (pg_name (i := 4) sc_moved_back.nd rfl (by first | exact Or.inl rfl | exact Or.inr rfl)) pgs_nil)))))
    (pss_one (ps_ret (pe_tup (pa_cons (pe_op op_addA (pe_op op_sub (pv 2) (pe_callB call_len (by rfl) T.b_len boot_len (pa_cons (pe_ix ix_seq (pv 1) pe_int (fun _ _ => rfl)) pa_nil))) (pe_callB call_len (by rfl) T.b_len boot_len (pa_cons (pe_ix ix_seq (pv 1) pe_int (fun _ _ => rfl)) pa_nil))) (pa_cons (pv 3) (pa_cons (pv 4) pa_nil))))))), fun σ En => ?_⟩
  obtain ⟨p, os, ns, q1, us, vs, rfl, rfl, h1, h2, h3, h4⟩ := hp
  have q' : ∀ w H', Same H H' → DX X H' w (chD (p - (vs.length : Int) + (us.length : Int)) os ns) → Q w H' := fun w H' s dw => q w H' s (by
    show DX X H' w (chD (p - ((wsOf (wsD vs)).length : Int) + ((wsOf (wsD us)).length : Int)) (wsOf (wsD os)) (wsOf (wsD ns)))
    rw [wsOf_wsD, wsOf_wsD, wsOf_wsD, wsOf_wsD]
    exact dw)
  refine q_asg (g_var (i := 0) (d := chD p os ns) En rfl) fun H1 v s1 dv => ?_
  refine g_triple dv fun u1 u2 u3 r1 r2 r3 => ?_
  have E2 := (((En.same s1).set (i := 2) r1).set (i := 3) r2).set (i := 4) r3
  have t1 := t.mono s1
  refine s_ret (X := X) (d := chD (p - (vs.length : Int) + (us.length : Int)) os ns) (g_tup t1 (ga_cons (g_addI t1 (g_sub t1 (g_var (i := 2) E2 rfl) (len_it t1 (g_var (i := 1) E2 rfl) rfl)) (len_it t1 (g_var (i := 1) E2 rfl) rfl)) (ga_cons (g_var (i := 3) E2 rfl) (ga_cons (g_var (i := 4) E2 rfl) ga_nil))) (by simp)) fun w H2 s2 dw => q' w H2 (s1.trans s2) dw
abbrev s_apart : Stmt := topS 23
abbrev n_apart : List Str := ["one", "two", "room"]
theorem sc_apart : FnScope n_apart ["one", "two", "room"] (defScope s_apart) := ⟨rfl, rfl, rfl, by decide +kernel, rfl, by decide +kernel, by decide +kernel⟩
def apartB (ns vs : List Str) (r : Int) : Bool := decide (0 < r) || (decide (r = 0) && decide ((ns.length : Int) + (vs.length : Int) = 0))
def sp3A : Sp := fun vs H Q _ => ∃ (X : Addr → Prop) (v1 v2 : V) (p : Int) (os ns : List Str) (q : Int) (us ws : List Str) (r : Int), vs = [v1, v2, .int r] ∧ Trk X H ∧ DX X H v1 (chD p os ns) ∧ DX X H v2 (chD q us ws) ∧ ∀ w H', Same H H' → DX X H' w (.bool (apartB ns ws r)) → Q w H'
theorem ok_apart {f : Addr} {fd : FuncData} (F : Fun K "apart" "apart" s_apart f fd) (T : Bl mg) : FnOk P w K mg base CX0 1 f fd ["one", "two", "room"] sp3A := by
  refine F.ok sc_apart (fun vs H Q E h => ?_) (fun cdv A outer s H vs Q E hr h => ?_)
  · obtain ⟨X, v1, v2, p, os, ns, q, us, ws, r, rfl, _⟩ := h
    rfl
  · obtain ⟨X, v1, v2, p, os, ns, q, us, ws, r, rfl, t, d1, d2, k⟩ := h
    refine ⟨_, (pss_one (ps_ret (pe_or (pe_cmpR op_gt (pv 2) pe_int (nomark _)) (pe_one (pe_and (pe_cmpR (op_eqD hr.units) (pv 2) pe_int (nomark _)) (pe_one (pe_cmpR (op_eqD hr.units) (pe_op op_addA (pe_callB call_len (by rfl) T.b_len boot_len (pa_cons (pe_ix ix_seq (pv 0) pe_int (fun _ _ => rfl)) pa_nil)) (pe_callB call_len (by rfl) T.b_len boot_len (pa_cons (pe_ix ix_seq (pv 1) pe_int (fun _ _ => rfl)) pa_nil))) pe_int (nomark _)))))))), ?_⟩
    have En : EnvOk X H (L2.start n_apart [v1, v2, .int r]) (pad n_apart [.dat (chD p os ns), .dat (chD q us ws), .dat (.int r)]) := env3 d1 d2 (.int r) (by decide)
    refine s_ret (X := X) (g_or (a := decide (0 < r)) (b := decide (r = 0) && decide ((ns.length : Int) + (ws.length : Int) = 0)) (g_cmpI t (g := fun i j => decide (j < i)) (g_var (i := 2) En rfl) g_int) fun _ => g_and (a := decide (r = 0)) (g_is (g_eqD t (g_var (i := 2) En rfl) g_int rfl rfl (shaped_int _) (shaped_int _)) (by rw [eqv_int])) fun _ => g_is (g_eqD t (g_addI t (len_it t (g_var (i := 0) En rfl) rfl) (len_it t (g_var (i := 1) En rfl) rfl)) g_int rfl rfl (shaped_int _) (shaped_int _)) (by rw [eqv_int])) k
theorem g_apart {X : Addr → Prop} {σ : L2.St} {H : Hp} {ta tb tc : TE} {E : XK} {p q r : Int} {os ns us ws : List Str} (t : Trk X H) (h1 : G X ta σ H (chD p os ns)) (h2 : G X tb σ H (chD q us ws)) (h3 : G X tc σ H (.int r)) : G X (tCall sp3A [] E (tCons ta (tCons tb (tCons tc tNil)))) σ H (.bool (apartB ns ws r)) :=
  g_call (ga_cons h1 (ga_cons h2 (ga_cons h3 ga_nil))) fun vs H1 s rs Q k => by
    cases rs with
    | cons r1 r2 =>
      cases r2 with
      | cons r2 r3 =>
        cases r3 with
        | cons r3 r4 =>
          cases r4
          cases r3
          exact ⟨X, _, _, p, os, ns, q, us, ws, r, rfl, t.mono s, r1, r2, k⟩
/-! ### what two changes become -/
def twoPre (a b : PyData) : Prop := chPre a ∧ chPre b ∧ (isChangeD a = true → WsOk (wsOf (it a 1)) ∧ WsOk (wsOf (it a 2))) ∧ (isChangeD b = true → WsOk (wsOf (it b 1)) ∧ WsOk (wsOf (it b 2)))
def passB (p : Int) (os ns : List Str) (q : Int) (us vs : List Str) : PyData :=
  if apartB ns vs (p - q - us.length) then .tuple [chD q us vs, chD (p + vs.length - us.length) os ns] else if apartB ns vs (q - p - ns.length) then .tuple [chD (q - ns.length + os.length) us vs, chD p os ns] else .none
def besideB (p : Int) (os ns : List Str) (q : Int) (us vs : List Str) : PyData :=
  if apartB ns vs (p - q - us.length) then .tuple [chD q us vs, chD (p + vs.length - us.length) os ns] else if apartB ns vs (q - p - os.length) then .tuple [chD (q + ns.length - os.length) us vs, chD p os ns] else .none
def twoOut (g : Int → List Str → List Str → Int → List Str → List Str → PyData) (C : Addr) (a b : PyData) : Out :=
  if isChangeD a then (if isChangeD b then .val (g (intOf (it a 0)) (wsOf (it a 1)) (wsOf (it a 2)) (intOf (it b 0)) (wsOf (it b 1)) (wsOf (it b 2))) else .err C "thing" b) else .err C "thing" a
theorem gn_non {X : Addr → Prop} {σ : L2.St} {H : Hp} : GN X (tC .non) σ H .none := fun H1 _ Q q => q _ H1 (Same.refl H1) .non fun a e => by cases e
theorem told_is {d : PyData} (h : isChangeD d = true) : toldD d = chD (intOf (it d 0)) (wsOf (it d 1)) (wsOf (it d 2)) := by
  obtain ⟨p, os, ns, ht, h0, hi, ho, hnn⟩ := toldD_ch h
  rw [ht, hi, ← ho, ← hnn]
  rfl
/-- the names as moved gives them -/
theorem moved_is (p : Int) (os ns : List Str) (q : Int) (us vs : List Str) : chD (intOf (it (chD p os ns) 0) + ((wsOf (it (chD q us vs) 2)).length : Int) - ((wsOf (it (chD q us vs) 1)).length : Int)) (wsOf (it (chD p os ns) 1)) (wsOf (it (chD p os ns) 2)) = chD (p + vs.length - us.length) os ns := by
  show chD (p + ((wsOf (wsD vs)).length : Int) - ((wsOf (wsD us)).length : Int)) (wsOf (wsD os)) (wsOf (wsD ns)) = _
  rw [wsOf_wsD, wsOf_wsD, wsOf_wsD, wsOf_wsD]
theorem back_is (p : Int) (os ns : List Str) (q : Int) (us vs : List Str) : chD (intOf (it (chD p os ns) 0) - ((wsOf (it (chD q us vs) 2)).length : Int) + ((wsOf (it (chD q us vs) 1)).length : Int)) (wsOf (it (chD p os ns) 1)) (wsOf (it (chD p os ns) 2)) = chD (p - vs.length + us.length) os ns := by
  show chD (p - ((wsOf (wsD vs)).length : Int) + ((wsOf (wsD us)).length : Int)) (wsOf (wsD os)) (wsOf (wsD ns)) = _
  rw [wsOf_wsD, wsOf_wsD, wsOf_wsD, wsOf_wsD]
abbrev s_passed : Stmt := topS 24
abbrev n_passed : List Str := ["one", "two", "first", "second"]
theorem sc_passed : FnScope n_passed ["one", "two"] (defScope s_passed) := ⟨rfl, rfl, rfl, by decide +kernel, rfl, by decide +kernel, by decide +kernel⟩
theorem ok_passed {f Cc : Addr} {fd : FuncData} (F : Fun K "passed" "passed" s_passed f fd) (T : Bl mg) (O_change_of : Own P w K mg base (L2.CX P w) 4 "change_of" ["thing"] (spX1 chPre (changeOut Cc))) (O_apart : Own P w K mg base CX0 1 "apart" ["one", "two", "room"] sp3A)
    (O_moved : Own P w K mg base CX0 1 "moved" ["change", "by"] (sp2 CC fun a b => chD (intOf (it a 0) + ((wsOf (it b 2)).length : Int) - ((wsOf (it b 1)).length : Int)) (wsOf (it a 1)) (wsOf (it a 2))))
    (O_moved_back : Own P w K mg base CX0 1 "moved_back" ["change", "by"] (sp2 CC fun a b => chD (intOf (it a 0) - ((wsOf (it b 2)).length : Int) + ((wsOf (it b 1)).length : Int)) (wsOf (it a 1)) (wsOf (it a 2)))) : FnOk P w K mg base (L2.CX P w) 5 f fd ["one", "two"] (spX2 twoPre (twoOut passB Cc)) := by
  refine okX2 F sc_passed (by decide) fun cdv A outer s H E X d1 d2 Q hr t hp q => ⟨_, (pss_cons (ps_set (i := 2) sc_passed.nd rfl (by first | exact Or.inl rfl | exact Or.inr rfl) (pe_ownX O_change_of hr (by decide) (takes_of rfl rfl rfl rfl) (by rfl) (pa_cons (pv 0) pa_nil)))
    (pss_cons (ps_set (i := 3) sc_passed.nd rfl (by first | exact Or.inl rfl | exact Or.inr rfl) (pe_ownX O_change_of hr (by decide) (takes_of rfl rfl rfl rfl) (by rfl) (pa_cons (pv 1) pa_nil)))
    (pss_cons (ps_if (pt_val (pe_own O_apart hr (by decide) (by rfl) (pa_cons (pv 2) (pa_cons (pv 3) (pa_cons (pe_op op_sub (pe_op op_sub (pe_ix ix_seq (pv 2) pe_int (fun _ _ => rfl)) (pe_ix ix_seq (pv 3) pe_int (fun _ _ => rfl))) (pe_callB call_len (by rfl) T.b_len boot_len (pa_cons (pe_ix ix_seq (pv 3) pe_int (fun _ _ => rfl)) pa_nil))) pa_nil)))))
    (pss_one (ps_ret (pe_tup (pa_cons (pv 3) (pa_cons (pe_own O_moved hr (by decide) (by rfl) (pa_cons (pv 2) (pa_cons (pv 3) pa_nil))) pa_nil))))) pss_nil)
    (pss_cons (ps_if (pt_val (pe_own O_apart hr (by decide) (by rfl) (pa_cons (pv 2) (pa_cons (pv 3) (pa_cons (pe_op op_sub (pe_op op_sub (pe_ix ix_seq (pv 3) pe_int (fun _ _ => rfl)) (pe_ix ix_seq (pv 2) pe_int (fun _ _ => rfl))) (pe_callB call_len (by rfl) T.b_len boot_len (pa_cons (pe_ix ix_seq (pv 2) pe_int (fun _ _ => rfl)) pa_nil))) pa_nil)))))
    (pss_one (ps_ret (pe_tup (pa_cons (pe_own O_moved_back hr (by decide) (by rfl) (pa_cons (pv 3) (pa_cons (pv 2) pa_nil))) (pa_cons (pv 2) pa_nil))))) pss_nil)
    (pss_one (ps_ret pe_non)))))), fun σ En => ?_⟩
  obtain ⟨p1, p2, p3, p4⟩ := hp
  refine q_setX1 (i := 2) En t (g_var (i := 0) En rfl) p1 (fun r e H1 v s1 E1 => ?_) fun C fl r e a v H1 s1 e1 dv => ?_
  · have h1 : isChangeD d1 = true := by
      cases h : isChangeD d1 with
      | true => rfl
      | false => simp [changeOut, h] at e
    have er : r = toldD d1 := by simp [changeOut, h1] at e; exact e.symm
    subst er
    have t1 := t.mono s1
    refine q_setX1 (i := 3) E1 t1 (g_var (i := 1) E1 rfl) p2 (fun r e H2 v2 s2 E2 => ?_) fun C fl r e a v2 H2 s2 e2 dv2 => ?_
    · have h2 : isChangeD d2 = true := by
        cases h : isChangeD d2 with
        | true => rfl
        | false => simp [changeOut, h] at e
      have er : r = toldD d2 := by simp [changeOut, h2] at e; exact e.symm
      subst er
      obtain ⟨a1, a2⟩ := p3 h1
      obtain ⟨b1, b2⟩ := p4 h2
      rw [told_is h1, told_is h2] at E2
      have kv : ∀ w H', Same H2 H' → DX X H' w (passB (intOf (it d1 0)) (wsOf (it d1 1)) (wsOf (it d1 2)) (intOf (it d2 0)) (wsOf (it d2 1)) (wsOf (it d2 2))) → Nw H2 w → Q w H' := fun w H' s' dw nw => q.1 _ (by simp [twoOut, h1, h2]) w H' ((s1.trans s2).trans s') dw (Nw.back (s1.trans s2) nw)
      generalize intOf (it d1 0) = p at E2 kv
      generalize wsOf (it d1 1) = os at E2 kv a1
      generalize wsOf (it d1 2) = ns at E2 kv a2
      generalize intOf (it d2 0) = q1 at E2 kv
      generalize wsOf (it d2 1) = us at E2 kv b1
      generalize wsOf (it d2 2) = vs at E2 kv b2
      have t2 := t1.mono s2
      have c12 : CC (chD p os ns) (chD q1 us vs) := ⟨p, os, ns, q1, us, vs, rfl, rfl, a1, a2, b1, b2⟩
      have c21 : CC (chD q1 us vs) (chD p os ns) := ⟨q1, us, vs, p, os, ns, rfl, rfl, b1, b2, a1, a2⟩
      refine q_if (b := apartB ns vs (p - q1 - us.length)) (gt_B (g_apart t2 (g_var (i := 2) E2 rfl) (g_var (i := 3) E2 rfl) (g_sub t2 (g_sub t2 (g_ixT (ds := [PyData.int p, wsD os, wsD ns]) t2 (g_var (i := 2) E2 rfl) g_int rfl) (g_ixT (ds := [PyData.int q1, wsD us, wsD vs]) t2 (g_var (i := 3) E2 rfl) g_int rfl)) (len_it t2 (g_var (i := 3) E2 rfl) rfl)))) (fun hb H3 s3 => ?_) fun hb H3 s3 => ?_
      · have E3 := E2.same s3
        have t3 := t2.mono s3
        refine s_retN (X := X) (gn_tup t3 (ga_cons (g_var (i := 3) E3 rfl) (ga_cons (g_is (g_call2 t3 (g_var (i := 2) E3 rfl) (g_var (i := 3) E3 rfl) c12) (moved_is p os ns q1 us vs)) ga_nil)) (by simp)) fun w H4 s4 dw nw => kv w H4 (s3.trans s4) (by unfold passB; rw [hb]; exact dw) (Nw.back s3 nw)
      · have E3 := E2.same s3
        have t3 := t2.mono s3
        refine q_if (b := apartB ns vs (q1 - p - ns.length)) (gt_B (g_apart t3 (g_var (i := 2) E3 rfl) (g_var (i := 3) E3 rfl) (g_sub t3 (g_sub t3 (g_ixT (ds := [PyData.int q1, wsD us, wsD vs]) t3 (g_var (i := 3) E3 rfl) g_int rfl) (g_ixT (ds := [PyData.int p, wsD os, wsD ns]) t3 (g_var (i := 2) E3 rfl) g_int rfl)) (len_it t3 (g_var (i := 2) E3 rfl) rfl)))) (fun hb2 H4 s4 => ?_) fun hb2 H4 s4 => ?_
        · have E4 := E3.same s4
          have t4 := t3.mono s4
          refine s_retN (X := X) (gn_tup t4 (ga_cons (g_is (g_call2 t4 (g_var (i := 3) E4 rfl) (g_var (i := 2) E4 rfl) c21) (back_is q1 us vs p os ns)) (ga_cons (g_var (i := 2) E4 rfl) ga_nil)) (by simp)) fun w H5 s5 dw nw => kv w H5 ((s3.trans s4).trans s5) (by unfold passB; rw [hb, hb2]; exact dw) (Nw.back (s3.trans s4) nw)
        · refine s_retN (X := X) gn_non fun w H5 s5 dw nw => kv w H5 ((s3.trans s4).trans s5) (by unfold passB; rw [hb, hb2]; exact dw) (Nw.back (s3.trans s4) nw)
    · have h2 : isChangeD d2 = false := by
        cases h : isChangeD d2 with
        | false => rfl
        | true => simp [changeOut, h] at e
      simp [changeOut, h2] at e
      obtain ⟨rfl, rfl, rfl⟩ := e
      exact q.2 _ _ _ (by simp [twoOut, h1, h2]) a v2 H2 (s1.trans s2) e2 dv2
  · have h1 : isChangeD d1 = false := by
      cases h : isChangeD d1 with
      | false => rfl
      | true => simp [changeOut, h] at e
    simp [changeOut, h1] at e
    obtain ⟨rfl, rfl, rfl⟩ := e
    exact q.2 _ _ _ (by simp [twoOut, h1]) a v H1 s1 e1 dv
end K18

/-! Side by side. -/
namespace K18
open PySem PySem.Spec PyProof.Rows L2 KD
-- RAISES change_of checked_text made_by turned_back passed side_by_side
variable {P : Program} {w : World} {K : PySem.W.Frag} {mg : Str → Option Value} {base : Heap}
abbrev s_side_by_side : Stmt := topS 25
abbrev n_side_by_side : List Str := ["one", "two", "first", "second"]
theorem sc_side_by_side : FnScope n_side_by_side ["one", "two"] (defScope s_side_by_side) := ⟨rfl, rfl, rfl, by decide +kernel, rfl, by decide +kernel, by decide +kernel⟩
theorem ok_side_by_side {f Cc : Addr} {fd : FuncData} (F : Fun K "side_by_side" "side_by_side" s_side_by_side f fd) (T : Bl mg) (O_change_of : Own P w K mg base (L2.CX P w) 4 "change_of" ["thing"] (spX1 chPre (changeOut Cc))) (O_apart : Own P w K mg base CX0 1 "apart" ["one", "two", "room"] sp3A)
    (O_moved : Own P w K mg base CX0 1 "moved" ["change", "by"] (sp2 CC fun a b => chD (intOf (it a 0) + ((wsOf (it b 2)).length : Int) - ((wsOf (it b 1)).length : Int)) (wsOf (it a 1)) (wsOf (it a 2)))) : FnOk P w K mg base (L2.CX P w) 5 f fd ["one", "two"] (spX2 twoPre (twoOut besideB Cc)) := by
  refine okX2 F sc_side_by_side (by decide) fun cdv A outer s H E X d1 d2 Q hr t hp q => ⟨_, (pss_cons (ps_set (i := 2) sc_side_by_side.nd rfl (by first | exact Or.inl rfl | exact Or.inr rfl) (pe_ownX O_change_of hr (by decide) (takes_of rfl rfl rfl rfl) (by rfl) (pa_cons (pv 0) pa_nil)))
    (pss_cons (ps_set (i := 3) sc_side_by_side.nd rfl (by first | exact Or.inl rfl | exact Or.inr rfl) (pe_ownX O_change_of hr (by decide) (takes_of rfl rfl rfl rfl) (by rfl) (pa_cons (pv 1) pa_nil)))
    (pss_cons (ps_if (pt_val (pe_own O_apart hr (by decide) (by rfl) (pa_cons (pv 2) (pa_cons (pv 3) (pa_cons (pe_op op_sub (pe_op op_sub (pe_ix ix_seq (pv 2) pe_int (fun _ _ => rfl)) (pe_ix ix_seq (pv 3) pe_int (fun _ _ => rfl))) (pe_callB call_len (by rfl) T.b_len boot_len (pa_cons (pe_ix ix_seq (pv 3) pe_int (fun _ _ => rfl)) pa_nil))) pa_nil)))))
    (pss_one (ps_ret (pe_tup (pa_cons (pv 3) (pa_cons (pe_own O_moved hr (by decide) (by rfl) (pa_cons (pv 2) (pa_cons (pv 3) pa_nil))) pa_nil))))) pss_nil)
    (pss_cons (ps_if (pt_val (pe_own O_apart hr (by decide) (by rfl) (pa_cons (pv 2) (pa_cons (pv 3) (pa_cons (pe_op op_sub (pe_op op_sub (pe_ix ix_seq (pv 3) pe_int (fun _ _ => rfl)) (pe_ix ix_seq (pv 2) pe_int (fun _ _ => rfl))) (pe_callB call_len (by rfl) T.b_len boot_len (pa_cons (pe_ix ix_seq (pv 2) pe_int (fun _ _ => rfl)) pa_nil))) pa_nil)))))
    (pss_one (ps_ret (pe_tup (pa_cons (pe_own O_moved hr (by decide) (by rfl) (pa_cons (pv 3) (pa_cons (pv 2) pa_nil))) (pa_cons (pv 2) pa_nil))))) pss_nil)
    (pss_one (ps_ret pe_non)))))), fun σ En => ?_⟩
  obtain ⟨p1, p2, p3, p4⟩ := hp
  refine q_setX1 (i := 2) En t (g_var (i := 0) En rfl) p1 (fun r e H1 v s1 E1 => ?_) fun C fl r e a v H1 s1 e1 dv => ?_
  · have h1 : isChangeD d1 = true := by
      cases h : isChangeD d1 with
      | true => rfl
      | false => simp [changeOut, h] at e
    have er : r = toldD d1 := by simp [changeOut, h1] at e; exact e.symm
    subst er
    have t1 := t.mono s1
    refine q_setX1 (i := 3) E1 t1 (g_var (i := 1) E1 rfl) p2 (fun r e H2 v2 s2 E2 => ?_) fun C fl r e a v2 H2 s2 e2 dv2 => ?_
    · have h2 : isChangeD d2 = true := by
        cases h : isChangeD d2 with
        | true => rfl
        | false => simp [changeOut, h] at e
      have er : r = toldD d2 := by simp [changeOut, h2] at e; exact e.symm
      subst er
      obtain ⟨a1, a2⟩ := p3 h1
      obtain ⟨b1, b2⟩ := p4 h2
      rw [told_is h1, told_is h2] at E2
      have kv : ∀ w H', Same H2 H' → DX X H' w (besideB (intOf (it d1 0)) (wsOf (it d1 1)) (wsOf (it d1 2)) (intOf (it d2 0)) (wsOf (it d2 1)) (wsOf (it d2 2))) → Nw H2 w → Q w H' := fun w H' s' dw nw => q.1 _ (by simp [twoOut, h1, h2]) w H' ((s1.trans s2).trans s') dw (Nw.back (s1.trans s2) nw)
      generalize intOf (it d1 0) = p at E2 kv
      generalize wsOf (it d1 1) = os at E2 kv a1
      generalize wsOf (it d1 2) = ns at E2 kv a2
      generalize intOf (it d2 0) = q1 at E2 kv
      generalize wsOf (it d2 1) = us at E2 kv b1
      generalize wsOf (it d2 2) = vs at E2 kv b2
      have t2 := t1.mono s2
      have c12 : CC (chD p os ns) (chD q1 us vs) := ⟨p, os, ns, q1, us, vs, rfl, rfl, a1, a2, b1, b2⟩
      have c21 : CC (chD q1 us vs) (chD p os ns) := ⟨q1, us, vs, p, os, ns, rfl, rfl, b1, b2, a1, a2⟩
      refine q_if (b := apartB ns vs (p - q1 - us.length)) (gt_B (g_apart t2 (g_var (i := 2) E2 rfl) (g_var (i := 3) E2 rfl) (g_sub t2 (g_sub t2 (g_ixT (ds := [PyData.int p, wsD os, wsD ns]) t2 (g_var (i := 2) E2 rfl) g_int rfl) (g_ixT (ds := [PyData.int q1, wsD us, wsD vs]) t2 (g_var (i := 3) E2 rfl) g_int rfl)) (len_it t2 (g_var (i := 3) E2 rfl) rfl)))) (fun hb H3 s3 => ?_) fun hb H3 s3 => ?_
      · have E3 := E2.same s3
        have t3 := t2.mono s3
        refine s_retN (X := X) (gn_tup t3 (ga_cons (g_var (i := 3) E3 rfl) (ga_cons (g_is (g_call2 t3 (g_var (i := 2) E3 rfl) (g_var (i := 3) E3 rfl) c12) (moved_is p os ns q1 us vs)) ga_nil)) (by simp)) fun w H4 s4 dw nw => kv w H4 (s3.trans s4) (by unfold besideB; rw [hb]; exact dw) (Nw.back s3 nw)
      · have E3 := E2.same s3
        have t3 := t2.mono s3
        refine q_if (b := apartB ns vs (q1 - p - os.length)) (gt_B (g_apart t3 (g_var (i := 2) E3 rfl) (g_var (i := 3) E3 rfl) (g_sub t3 (g_sub t3 (g_ixT (ds := [PyData.int q1, wsD us, wsD vs]) t3 (g_var (i := 3) E3 rfl) g_int rfl) (g_ixT (ds := [PyData.int p, wsD os, wsD ns]) t3 (g_var (i := 2) E3 rfl) g_int rfl)) (len_it t3 (g_var (i := 2) E3 rfl) rfl)))) (fun hb2 H4 s4 => ?_) fun hb2 H4 s4 => ?_
        · have E4 := E3.same s4
          have t4 := t3.mono s4
          refine s_retN (X := X) (gn_tup t4 (ga_cons (g_is (g_call2 t4 (g_var (i := 3) E4 rfl) (g_var (i := 2) E4 rfl) c21) (moved_is q1 us vs p os ns)) (ga_cons (g_var (i := 2) E4 rfl) ga_nil)) (by simp)) fun w H5 s5 dw nw => kv w H5 ((s3.trans s4).trans s5) (by unfold besideB; rw [hb, hb2]; exact dw) (Nw.back (s3.trans s4) nw)
        · refine s_retN (X := X) gn_non fun w H5 s5 dw nw => kv w H5 ((s3.trans s4).trans s5) (by unfold besideB; rw [hb, hb2]; exact dw) (Nw.back (s3.trans s4) nw)
    · have h2 : isChangeD d2 = false := by
        cases h : isChangeD d2 with
        | false => rfl
        | true => simp [changeOut, h] at e
      simp [changeOut, h2] at e
      obtain ⟨rfl, rfl, rfl⟩ := e
      exact q.2 _ _ _ (by simp [twoOut, h1, h2]) a v2 H2 (s1.trans s2) e2 dv2
  · have h1 : isChangeD d1 = false := by
      cases h : isChangeD d1 with
      | false => rfl
      | true => simp [changeOut, h] at e
    simp [changeOut, h1] at e
    obtain ⟨rfl, rfl, rfl⟩ := e
    exact q.2 _ _ _ (by simp [twoOut, h1]) a v H1 s1 e1 dv
end K18

/-! A step's record. -/
namespace K18
open PySem PySem.Spec PyProof.Rows L2 KD KP
variable {P : Program} {w : World} {K : PySem.W.Frag} {mg : Str → Option Value} {base : Heap}
def lnD (x : Ln) : PyData := .tuple [.str x.1, .int (x.2 : Int)]
def lsD (l : List Ln) : PyData := .list (l.map lnD)
def prD (x : Ln × Ln) : PyData := .tuple [lnD x.1, lnD x.2]
def recD (name : Str) (p : Int) (os ns : List Str) (l : List Ln) : PyData := .tuple [wsD ns, .list (sortD ((prs (rowH name p.toNat os.length ns.length l)).map prD)), .list (sortD ((burH p.toNat os.length l).map lnD))]
def stepD (name : Str) (p : Int) (os ns : List Str) (l : List Ln) : PyData := .tuple [recD name p os ns l, lsD (stepH name p.toNat os.length ns.length l)]
/-! ### slices of any list -/
theorem cutP_to (ds : List PyData) {q : Int} (hq : 0 ≤ q) : cutPD ds none (some q) = ds.take q.toNat := by
  unfold cutPD
  rw [sIx_nn hq, HT.sIx_none, List.drop_zero, Nat.sub_zero]
  by_cases h : q.toNat ≤ ds.length
  · rw [Nat.min_eq_left h]
  · rw [Nat.min_eq_right (by omega), List.take_of_length_le (Nat.le_refl _), List.take_of_length_le (by omega)]
theorem cutP_from (ds : List PyData) {p : Int} (hp : 0 ≤ p) : cutPD ds (some p) none = ds.drop p.toNat := by
  unfold cutPD
  rw [sIx_nn hp, HT.sIx_none]
  by_cases h : p.toNat ≤ ds.length
  · rw [Nat.min_eq_left h, List.take_of_length_le (by rw [List.length_drop]; omega)]
  · rw [Nat.min_eq_right (by omega), List.drop_eq_nil_of_le (Nat.le_refl _), List.drop_eq_nil_of_le (by omega), List.take_nil]
theorem cutP_mid (ds : List PyData) {p q : Int} (hp : 0 ≤ p) (hq : q.toNat ≤ ds.length) (hpq : p ≤ q) : cutPD ds (some p) (some q) = (ds.drop p.toNat).take (q.toNat - p.toNat) := by
  unfold cutPD
  rw [sIx_nn hp, sIx_nn (by omega), Nat.min_eq_left hq, Nat.min_eq_left (by omega)]
theorem cutP_last (ds : List PyData) : cutPD ds (some (-1)) none = ds.drop (ds.length - 1) := by
  unfold cutPD
  have e : HT.sIx ds.length 0 (some (-1)) = ds.length - 1 := by
    show (if (-1 : Int) < 0 then ((-1 : Int) + (ds.length : Int)).toNat else min (-1 : Int).toNat ds.length) = _
    rw [if_pos (by decide)]
    omega
  rw [e, HT.sIx_none, List.take_of_length_le (by rw [List.length_drop]; omega)]
theorem g_m1 {X : Addr → Prop} {σ : L2.St} {H : Hp} : G X (tUn (rU fun i => .int (-i)) (tC (.int 1))) σ H (.int (-1)) := fun H1 s Q q => ⟨1, rfl, q _ H1 (Same.refl H1) (.int _)⟩
theorem q_par3 {X : Addr → Prop} {H : Hp} {σ : L2.St} {Γ : List Sv} {ta : TA} {tz : TS} {D : Ends} {i j l : Nat} {d1 d2 d3 : PyData} (En : EnvOk X H σ Γ) (h : GA X ta σ H [d1, d2, d3])
    (k : ∀ H1 v1 v2 v3, Same H H1 → EnvOk X H1 (((σ.set i (some v1)).set j (some v2)).set l (some v3)) (((Γ.set i (.dat d1)).set j (.dat d2)).set l (.dat d3)) → tz D (((σ.set i (some v1)).set j (some v2)).set l (some v3)) H1) : tSeq (tPar3 i j l ta) tz D σ H :=
  h H (Same.refl H) _ fun vs H1 s rs => by
    cases rs with
    | cons r1 rs =>
      cases rs with
      | cons r2 rs =>
        cases rs with
        | cons r3 rs =>
          cases rs
          exact ⟨_, _, _, rfl, k H1 _ _ _ s ((((En.same s).set r1).set r2).set r3)⟩
theorem alike_ln (a b : Ln) : PySem.W.alike (lnD a) (lnD b) = true := by
  simp [lnD, PySem.W.alike, PySem.W.alikeAll]
theorem alike_pr (a b : Ln × Ln) : PySem.W.alike (prD a) (prD b) = true := by
  simp [prD, PySem.W.alike, PySem.W.alikeAll, alike_ln]
theorem noDict_ln (a : Ln) : noDict (lnD a) = true := by simp [lnD, noDict, noDicts]
theorem noDict_pr (a : Ln × Ln) : noDict (prD a) = true := by simp [prD, noDict, noDicts, noDict_ln]
theorem noDicts_map {α : Type} {f : α → PyData} (h : ∀ x, noDict (f x) = true) : ∀ l : List α, noDicts (l.map f) = true
  | [] => rfl
  | x :: l => by simp [noDicts, h x, noDicts_map h l]
theorem zip_prs (l : List Ln) : List.zipWith (fun a b => PyData.tuple [a, b]) (l.map lnD) ((l.map lnD).drop 1) = (prs l).map prD := by
  unfold prs
  rw [List.drop_one, ← List.map_tail, List.zip, List.zipWith_map, List.map_zipWith]
  rfl
theorem row_is {nm : Str} {x a b : Nat} {l : List Ln} (hb : 0 < b) (h : x + 1 + a < l.length) : (l.take (x + 1)).drop ((l.take (x + 1)).length - 1) ++ ownL nm b ++ (l.drop (x + 1 + a)).take 1 = rowH nm x a b l := by
  unfold rowH
  rw [if_neg (by omega)]
  have e1 : (l.take (x + 1)).drop ((l.take (x + 1)).length - 1) = l[x]?.toList := by
    apply List.ext_getElem?
    intro i
    rw [List.getElem?_drop, List.length_take, List.getElem?_take, Nat.min_eq_left (by omega)]
    have hx : l[x]? = some l[x] := by simp
    cases i with
    | zero =>
      rw [if_pos (by omega), hx]
      simp
    | succ i =>
      rw [if_neg (by omega), hx]
      simp
  have e2 : (l.drop (x + 1 + a)).take 1 = l[x + 1 + a]?.toList := by
    apply List.ext_getElem?
    intro i
    rw [List.getElem?_take, List.getElem?_drop]
    have hx : l[x + 1 + a]? = some l[x + 1 + a] := by simp
    cases i with
    | zero =>
      rw [if_pos (by omega), Nat.add_zero, hx]
      rfl
    | succ i =>
      rw [if_neg (by omega), hx]
      simp
  rw [e1, e2]
theorem canLay_lns : ∀ {l : List Ln}, (∀ z ∈ l, PyData.strOk z.1 = true) → PyData.canLayAll0 (l.map lnD) = true
  | [], _ => by simp [PyData.canLayAll0]
  | x :: l, h => by
    simp only [List.map_cons, PyData.canLayAll0, Bool.and_eq_true]
    exact ⟨by simp [lnD, PyData.canLay0, PyData.canLayAll0, h x List.mem_cons_self], canLay_lns fun z hz => h z (List.mem_cons_of_mem _ hz)⟩
theorem depth_lns : ∀ l : List Ln, PyData.depthAll (l.map lnD) ≤ 2
  | [] => by simp [PyData.depthAll]
  | x :: l => by
    have := depth_lns l
    simp only [List.map_cons, PyData.depthAll, PyData.depth, lnD]
    omega
theorem shaped_lns {l : List Ln} (h : ∀ z ∈ l, PyData.strOk z.1 = true) : SeqAt.shaped (lsD l) = true := by
  have h1 := depth_lns l
  have h2 : PyData.depth (lsD l) ≤ 64 := by
    simp only [lsD, PyData.depth]
    omega
  show ((lsD l).canLay0 && decide ((lsD l).depth ≤ 64)) = true
  rw [Bool.and_eq_true]
  exact ⟨by simp only [lsD, PyData.canLay0]; exact canLay_lns h, decide_eq_true h2⟩
abbrev s__law_p_step : Stmt := topS 34
abbrev n__law_p_step : List Str := ["_law_name", "_law_change", "_law_here", "_law_place", "_law_old", "_law_new", "_law_ahead", "_law_buried", "_law_behind", "_law_own", "_law_row", "_law_number"]
theorem sc__law_p_step : FnScope n__law_p_step ["_law_name", "_law_change", "_law_here"] (defScope s__law_p_step) := ⟨rfl, rfl, rfl, by decide +kernel, rfl, by decide +kernel, by decide +kernel⟩
def spStep : Sp := fun vs H Q _ => ∃ (X : Addr → Prop) (v1 v2 v3 : V) (name : Str) (p : Int) (os ns : List Str) (l : List Ln), vs = [v1, v2, v3] ∧ Trk X H ∧ DX X H v1 (.str name) ∧ DX X H v2 (chD p os ns) ∧ DX X H v3 (lsD l) ∧ PyData.strOk name = true ∧ 0 ≤ p ∧ WsOk os ∧ WsOk ns ∧ p.toNat + 1 + os.length < l.length ∧ l.length ≤ 100000 ∧
  ∀ w H', Same H H' → DX X H' w (stepD name p os ns l) → Q w H'
theorem ok_p_step {f : Addr} {fd : FuncData} (F : Fun K "_law_p_step" "_law_p_step" s__law_p_step f fd) (T : Bl mg) (b_sorted : mg "sorted" = none) : FnOk P w K mg base CX0 1 f fd ["_law_name", "_law_change", "_law_here"] spStep := by
  refine F.ok sc__law_p_step (fun vs H Q E h => ?_) (fun cdv A outer s H vs Q E hr h => ?_)
  · obtain ⟨X, v1, v2, v3, name, p, os, ns, l, rfl, _⟩ := h
    rfl
  · obtain ⟨X, v1, v2, v3, name, p, os, ns, l, rfl, t, d1, d2, d3, hname, hp, ho, hn, hf, hl, k⟩ := h
    refine ⟨_, (pss_cons (ps_asg (pv 1) (pg_tup (n := 3) rfl (pgs_cons (pg_name (i := 3) sc__law_p_step.nd rfl (by first | exact Or.inl rfl | exact Or.inr rfl)) (pgs_cons (pg_name (i := 4) sc__law_p_step.nd rfl (by first | exact Or.inl rfl | exact Or.inr rfl)) (pgs_cons (pg_name (i := 5) sc__law_p_step.nd rfl (by first | exact Or.inl rfl | exact Or.inr rfl)) pgs_nil)))))
    (pss_cons (ps_par3 (i := 6) (j := 7) (l := 8) (by rfl) sc__law_p_step.nd rfl rfl rfl (by decide) (by decide) (by decide) rfl rfl rfl (pa_cons (pe_slice sl_list (pv 2) po_none (po_some (pe_op op_addA (pv 3) pe_int))) (pa_cons (pe_slice sl_list (pv 2) (po_some (pe_op op_addA (pv 3) pe_int)) (po_some (pe_op op_addA (pe_op op_addA (pv 3) pe_int) (pe_callB call_len (by rfl) T.b_len boot_len (pa_cons (pv 4) pa_nil))))) (pa_cons (pe_slice sl_list (pv 2) (po_some (pe_op op_addA (pe_op op_addA (pv 3) pe_int) (pe_callB call_len (by rfl) T.b_len boot_len (pa_cons (pv 4) pa_nil)))) po_none) pa_nil))) (by rfl))
    (pss_cons (ps_setLc (i := 9) (own := [("_law_number", 11)]) (g := (gName 11)) (tt := tYes) rfl sc__law_p_step.nd rfl rfl (sw_true rfl rfl rfl (by decide +kernel)) (pi_range1 (by rfl) T.b_range (pa_cons (pe_callB call_len (by rfl) T.b_len boot_len (pa_cons (pv 5) pa_nil)) pa_nil)) (blkOk_by (N := n__law_p_step) (sc := defScope s__law_p_step) (by decide +kernel)) (fun _ _ _ _ _ => (pg_name (i := 11) sc__law_p_step.nd rfl (by first | exact Or.inl rfl | exact Or.inr rfl))) (fun _ _ _ _ _ => pts_nil) (fun _ _ _ _ _ => (pe_tup (pa_cons (pv 0) (pa_cons (pv 11) pa_nil)))))
    (pss_cons (ps_set (i := 10) sc__law_p_step.nd rfl (by first | exact Or.inl rfl | exact Or.inr rfl) (pe_ifExp (pt_cmpR (op_neD hr.units) (pv 9) (pe_lst pa_nil) (nomark _)) (pe_op op_addA (pe_op op_addA (pe_slice sl_list (pv 6) (po_some (pe_un un_neg pe_int)) po_none) (pv 9)) (pe_slice sl_list (pv 8) po_none (po_some pe_int))) (pe_lst pa_nil)))
    (pss_one (ps_ret (pe_tup (pa_cons (pe_tup (pa_cons (pe_callTy call_list_of (by rfl) T.b_list boot_list (pa_cons (pv 5) pa_nil)) (pa_cons (pe_callB (cr_sortD hr.units) (by rfl) b_sorted boot_sorted (pa_cons (pe_listZip rfl (by rfl) T.b_list (by rfl) T.b_zip (pa_cons (pv 10) (pa_cons (pe_slice sl_list (pv 10) (po_some pe_int) po_none) pa_nil))) pa_nil)) (pa_cons (pe_callB (cr_sortD hr.units) (by rfl) b_sorted boot_sorted (pa_cons (pv 7) pa_nil)) pa_nil)))) (pa_cons (pe_op op_addA (pe_op op_addA (pv 6) (pv 9)) (pv 8)) pa_nil))))))))), ?_⟩
    have En : EnvOk X H (L2.start n__law_p_step [v1, v2, v3]) (pad n__law_p_step [.dat (.str name), .dat (chD p os ns), .dat (lsD l)]) := env3 d1 d2 d3 (by decide)
    have ho1 := ho.1
    have hn1 := hn.1
    refine q_asg (g_var (i := 1) (d := chD p os ns) En rfl) fun H1 v s1 dv => ?_
    refine g_triple dv fun u1 u2 u3 r1 r2 r3 => ?_
    have E2 := (((En.same s1).set (i := 3) r1).set (i := 4) r2).set (i := 5) r3
    have t1 := t.mono s1
    have a1 : G X (tOp rAddA (tVar 3) (tC (.int 1))) _ H1 (.int (p + 1)) := g_addI t1 (g_var (i := 3) E2 rfl) g_int
    have a2 := g_addI t1 a1 (len_ws (K := K) t1 (g_var (i := 4) E2 rfl))
    refine q_par3 (i := 6) (j := 7) (l := 8) (d1 := lsD (l.take (p.toNat + 1))) (d2 := lsD (burH p.toNat os.length l)) (d3 := lsD (l.drop (p.toNat + 1 + os.length))) E2 (ga_cons (g_is (g_sl t1 (g_var (i := 2) (d := lsD l) E2 rfl) go_none (go_some a1)) ?_) (ga_cons (g_is (g_sl t1 (g_var (i := 2) (d := lsD l) E2 rfl) (go_some a1) (go_some a2)) ?_) (ga_cons (g_is (g_sl t1 (g_var (i := 2) (d := lsD l) E2 rfl) (go_some a2) go_none) ?_) ga_nil))) fun H2 w1 w2 w3 s2 E3 => ?_
    · rw [cutP_to _ (by omega), show (p + 1).toNat = p.toNat + 1 from by omega, ← List.map_take]
      rfl
    · rw [cutP_mid _ (by omega) (by rw [List.length_map]; omega) (by omega), show (p + 1).toNat = p.toNat + 1 from by omega, ← List.map_drop, ← List.map_take, show (p + 1 + (os.length : Int)).toNat - (p.toNat + 1) = os.length from by omega]
      rfl
    · rw [cutP_from _ (by omega), show (p + 1 + (os.length : Int)).toNat = p.toNat + 1 + os.length from by omega, ← List.map_drop]
      rfl
    have t2 := t1.mono s2
    refine q_set (i := 9) (d := lsD (ownL name ns.length)) E3 (g_is (g_lc1 (fun d => .tuple [.str name, d]) t2 (gi_range1 (len_ws t2 (g_var (i := 5) E3 rfl)) (by omega) (by omega)) (by rw [rangeD_len]; omega) (fun H1 s d hd => tgt_name (E3.same s)) (fun X' H1 σ2 d hd t E => g_tup t (ga_cons (g_var (i := 0) E rfl) (ga_cons (g_var (i := 11) E rfl) ga_nil)) (by simp))) ?_) fun H3 w4 s3 E4 => ?_
    · unfold lsD rangeD ownL
      rw [List.map_map, List.map_map, Int.toNat_natCast]
      congr 1
      apply List.map_congr_left
      intro i _
      simp [lnD]
    have t3 := t2.mono s3
    have hown : (ownL name ns.length).length = ns.length := own_len
    have nd1 : noDicts ((ownL name ns.length).map lnD) = true := noDicts_map noDict_ln _
    refine q_set (i := 10) (d := lsD (rowH name p.toNat os.length ns.length l)) E4 (g_if (b := decide (0 < ns.length)) ?_ (fun hb => ?_) fun hb => ?_) fun H4 w5 s4 E5 => ?_
    · refine gt_is (gt_neD t3 (x := lsD (ownL name ns.length)) (y := .list []) (g_var (i := 9) E4 rfl) (g_lst t3 ga_nil (by simp)) nd1 rfl ?_ ?_) ?_
      · exact shaped_lns fun z hz => by
          obtain ⟨i, _, rfl⟩ := List.mem_map.mp hz
          exact hname
      · rfl
      · cases hz : ns.length with
        | zero => rfl
        | succ m =>
          have e : lsD (ownL name (m + 1)) = .list (lnD (name, 0) :: (((List.range m).map fun i => (name, i + 1)).map lnD)) := by
            unfold lsD ownL
            rw [List.range_succ_eq_map, List.map_cons, List.map_map]
            simp [Function.comp_def]
          rw [e]
          rfl
    · have hb' : 0 < ns.length := of_decide_eq_true hb
      refine g_is (g_cat t3 (g_cat t3 (g_sl t3 (g_var (i := 6) (d := lsD (l.take (p.toNat + 1))) E4 rfl) (go_some (X := X) g_m1) go_none) (g_var (i := 9) (d := lsD (ownL name ns.length)) E4 rfl) ?_) (g_sl t3 (g_var (i := 8) (d := lsD (l.drop (p.toNat + 1 + os.length))) E4 rfl) go_none (go_some (X := X) g_int)) ?_) ?_
      · rw [cutP_last, List.length_drop, List.length_map, List.length_map, hown]
        omega
      · rw [cutP_last, cutP_to _ (by decide), List.length_append, List.length_drop, List.length_take, List.length_map, List.length_map, hown, List.length_map]
        omega
      · rw [cutP_last, cutP_to _ (by decide), ← row_is hb' hf, List.length_map, ← List.map_drop, ← List.map_take, ← List.map_append, ← List.map_append]
        rfl
    · have hb' : ns.length = 0 := by have := of_decide_eq_false hb; omega
      refine g_is (g_lst t3 ga_nil (by simp)) ?_
      unfold rowH
      rw [if_pos hb']
      rfl
    · have t4 := t3.mono s4
      have hrow : (rowH name p.toNat os.length ns.length l).length ≤ 1000000 := by
        unfold rowH
        split
        · simp
        · rw [List.length_append, List.length_append, hown]
          have h1 : ∀ o : Option Ln, o.toList.length ≤ 1 := fun o => by cases o <;> simp
          have := h1 l[p.toNat]?
          have := h1 l[p.toNat + 1 + os.length]?
          omega
      have gz := g_is (GN.g (g_listZip (K := K) t4 (g_var (i := 10) (d := lsD (rowH name p.toNat os.length ns.length l)) E5 rfl) (g_sl (K := K) t4 (g_var (i := 10) (d := lsD (rowH name p.toNat os.length ns.length l)) E5 rfl) (go_some (X := X) (i := 1) g_int) go_none) (by rw [List.length_map]; exact Nat.le_trans (Nat.min_le_left _ _) hrow))) (e := .list ((prs (rowH name p.toNat os.length ns.length l)).map prD)) (by
        rw [cutP_from _ (by decide), ← zip_prs]
        rfl)
      have gs := GN.g (g_sorted t4 gz (noDicts_map noDict_pr _) (PySem.W.AllAlike.of alike_pr) (PySem.W.Sortable.tuples fun b => ⟨_, _, rfl⟩) (fun d hd => by
        obtain ⟨z, _, rfl⟩ := List.mem_map.mp hd
        simp [prD, lnD, PyData.depth, PyData.depthAll]))
      have gb := GN.g (g_sorted t4 (g_var (i := 7) (d := lsD (burH p.toNat os.length l)) E5 rfl) (noDicts_map noDict_ln _) (PySem.W.AllAlike.of alike_ln) (PySem.W.Sortable.tuples fun b => ⟨_, _, rfl⟩) (fun d hd => by
        obtain ⟨z, _, rfl⟩ := List.mem_map.mp hd
        simp [lnD, PyData.depth, PyData.depthAll]))
      refine s_ret (X := X) (d := stepD name p os ns l) (g_tup t4 (ga_cons (g_tup t4 (ga_cons (g_is (g_listOf t4 (g_var (i := 5) (d := wsD ns) E5 rfl) rfl) rfl) (ga_cons gs (ga_cons gb ga_nil))) (by simp)) (ga_cons (g_is (g_cat t4 (g_cat t4 (g_var (i := 6) (d := lsD (l.take (p.toNat + 1))) E5 rfl) (g_var (i := 9) (d := lsD (ownL name ns.length)) E5 rfl) ?_) (g_var (i := 8) (d := lsD (l.drop (p.toNat + 1 + os.length))) E5 rfl) ?_) ?_) ga_nil)) (by simp)) fun w H5 s5 dw => k w H5 ((((s1.trans s2).trans s3).trans s4).trans s5) dw
      · rw [List.length_map, List.length_map, List.length_take, hown]
        omega
      · rw [List.length_append, List.length_map, List.length_map, List.length_map, List.length_take, List.length_drop, hown]
        omega
      · rw [← List.map_append, ← List.map_append]
        rfl
end K18

/-! A run's records. -/
namespace K18
open PySem PySem.Spec PyProof.Rows L2 KD KP
variable {P : Program} {w : World} {K : PySem.W.Frag} {mg : Str → Option Value} {base : Heap}
structure Stp where
  name : Str
  p : Int
  os : List Str
  ns : List Str
def stpD (r : Stp) : PyData := .tuple [.str r.name, chD r.p r.os r.ns]
def goRec (s : KDs × List Ln) (r : Stp) : KDs × List Ln := (putD s.1 (.inr r.name) (recD r.name r.p r.os r.ns s.2), stepH r.name r.p.toNat r.os.length r.ns.length s.2)
def recs (n : Nat) (rs : List Stp) : KDs × List Ln := rs.foldl goRec ([], here0 n)
def fitAt (r : Stp) (l : List Ln) : Prop := PyData.strOk r.name = true ∧ 0 ≤ r.p ∧ WsOk r.os ∧ WsOk r.ns ∧ r.p.toNat + 1 + r.os.length < l.length ∧ l.length ≤ 100000
theorem recs_len (n : Nat) (rs : List Stp) : (recs n rs).1.length ≤ rs.length := by
  have key : ∀ (rs : List Stp) (s : KDs × List Ln), (rs.foldl goRec s).1.length ≤ s.1.length + rs.length := by
    intro rs
    induction rs with
    | nil => intro s; exact Nat.le_refl _
    | cons r rs ih =>
      intro s
      have h := ih (goRec s r)
      have h2 : (goRec s r).1.length ≤ s.1.length + 1 := by
        show (putD _ _ _).length ≤ _
        unfold putD
        split
        · rw [List.length_map]
          omega
        · rw [List.length_append]
          exact Nat.le_refl _
      rw [List.foldl_cons, List.length_cons]
      omega
  have := key rs ([], here0 n)
  simpa [recs] using this
theorem envUn {X : Addr → Prop} {H : Hp} {σ : L2.St} {Γ : List Sv} (E : EnvOk X H σ Γ) (i : Nat) : EnvOk X H σ (Γ.set i .un) := ⟨by rw [List.length_set]; exact E.len, fun j s e => by
  rw [List.getElem?_set] at e
  split at e
  · split at e
    · cases e
      trivial
    · cases e
  · exact E.get j s e⟩
theorem g_step {X : Addr → Prop} {σ : L2.St} {H : Hp} {ta tb tc : TE} {E : XK} {name : Str} {p : Int} {os ns : List Str} {l : List Ln} (t : Trk X H) (h1 : G X ta σ H (.str name)) (h2 : G X tb σ H (chD p os ns)) (h3 : G X tc σ H (lsD l)) (hf : fitAt ⟨name, p, os, ns⟩ l) : G X (tCall spStep [] E (tCons ta (tCons tb (tCons tc tNil)))) σ H (stepD name p os ns l) :=
  g_call (ga_cons h1 (ga_cons h2 (ga_cons h3 ga_nil))) fun vs H1 s rs Q k => by
    cases rs with
    | cons r1 r2 =>
      cases r2 with
      | cons r2 r3 =>
        cases r3 with
        | cons r3 r4 =>
          cases r4
          obtain ⟨f1, f2, f3, f4, f5, f6⟩ := hf
          exact ⟨X, _, _, _, name, p, os, ns, l, rfl, t.mono s, r1, r2, r3, f1, f2, f3, f4, f5, f6, k⟩
-- HINT _law_p_records set (set_dict (Nat.lt_of_le_of_lt (Nat.add_le_add_left (by decide) _) hr.units))
abbrev s__law_p_records : Stmt := topS 35
abbrev n__law_p_records : List Str := ["_law_words", "_law_run", "_law_here", "_law_found", "_law_name", "_law_change", "_law_number"]
theorem sc__law_p_records : FnScope n__law_p_records ["_law_words", "_law_run"] (defScope s__law_p_records) := ⟨rfl, rfl, rfl, by decide +kernel, rfl, by decide +kernel, by decide +kernel⟩
def spRecs : Sp := fun vs H Q _ => ∃ (X : Addr → Prop) (v1 v2 : V) (ws : List Str) (rs : List Stp), vs = [v1, v2] ∧ Trk X H ∧ DX X H v1 (wsD ws) ∧ DX X H v2 (.list (rs.map stpD)) ∧ WsOk ws ∧ rs.length ≤ 100 ∧ (∀ (i : Nat) (r : Stp), rs[i]? = some r → fitAt r (recs ws.length (rs.take i)).2) ∧
  ∀ w H', Same H H' → DX X H' w (dicD (recs ws.length rs).1) → Q w H'
theorem ok_p_records {f : Addr} {fd : FuncData} (F : Fun K "_law_p_records" "_law_p_records" s__law_p_records f fd) (T : Bl mg) (O__law_p_step : Own P w K mg base CX0 1 "_law_p_step" ["_law_name", "_law_change", "_law_here"] spStep) : FnOk P w K mg base CX0 2 f fd ["_law_words", "_law_run"] spRecs := by
  refine F.ok sc__law_p_records (fun vs H Q E h => ?_) (fun cdv A outer s H vs Q E hr h => ?_)
  · obtain ⟨X, v1, v2, ws, rs, rfl, _⟩ := h
    rfl
  · obtain ⟨X, v1, v2, ws, rs, rfl, t, d1, d2, hw, hrs, hf, k⟩ := h
    refine ⟨_, (pss_cons (ps_par (i := 2) (j := 3) (by rfl) sc__law_p_records.nd rfl rfl (by decide) rfl rfl (pa_cons (pe_lc (own := [("_law_number", 6)]) (g := (gName 6)) (tt := tYes) rfl sc__law_p_records.nd (pi_range1 (by rfl) T.b_range (pa_cons (pe_op op_addA (pe_callB call_len (by rfl) T.b_len boot_len (pa_cons (pv 0) pa_nil)) pe_int) pa_nil)) (blkOk_by (N := n__law_p_records) (sc := defScope s__law_p_records) (by decide +kernel)) (fun _ _ _ _ _ => (pg_name (i := 6) sc__law_p_records.nd rfl (by first | exact Or.inl rfl | exact Or.inr rfl))) (fun _ _ _ _ _ => pts_nil) (fun _ _ _ _ _ => (pe_tup (pa_cons pe_str (pa_cons (pv 6) pa_nil))))) (pa_cons pe_dnewK pa_nil)) (by rfl))
    (pss_cons (ps_for PassesOwn.never rfl (pi_list (pv 1)) (pg_tup (n := 2) rfl (pgs_cons (pg_name (i := 4) sc__law_p_records.nd rfl (by first | exact Or.inl rfl | exact Or.inr rfl)) (pgs_cons (pg_name (i := 5) sc__law_p_records.nd rfl (by first | exact Or.inl rfl | exact Or.inr rfl)) pgs_nil)))
    (pss_one (ps_asg (pe_own O__law_p_step hr (by decide) (by rfl) (pa_cons (pv 4) (pa_cons (pv 5) (pa_cons (pv 2) pa_nil)))) (pg_tup (n := 2) rfl (pgs_cons (pg_sub (pv 3) (pv 4) (set_dict (Nat.lt_of_le_of_lt (Nat.add_le_add_left (by decide) _) hr.units))) (pgs_cons (pg_name (i := 2) sc__law_p_records.nd rfl (by first | exact Or.inl rfl | exact Or.inr rfl)) pgs_nil))))))
    (pss_one (ps_ret (pv 3))))), ?_⟩
    have En : EnvOk X H (L2.start n__law_p_records [v1, v2]) (pad n__law_p_records [.dat (wsD ws), .dat (.list (rs.map stpD))]) := env2 d1 d2 (by decide)
    have wl := hw.1
    refine k_par ?_
    refine g_is (g_lc1 (fun d => .tuple [.str "g0", d]) t (gi_range1 (g_addI t (len_ws (K := K) t (g_var (i := 0) En rfl)) g_int) (by omega) (by omega)) (by rw [rangeD_len]; omega) (fun H1 s d hd => tgt_name (En.same s)) (fun X' H1 σ2 d hd t E => g_tup t (ga_cons g_str (ga_cons (g_var (i := 6) E rfl) ga_nil)) (by simp))) (e := lsD (here0 ws.length)) ?_ H (Same.refl H) _ fun v H1 s1 dv => ?_
    · unfold lsD here0 ownL rangeD
      rw [List.map_map, List.map_map, show ((ws.length : Int) + 2).toNat = ws.length + 2 from by omega]
      congr 1
      apply List.map_congr_left
      intro i _
      simp [lnD]
    intro D hD
    refine ⟨_, _, rfl, ?_⟩
    let X' : Addr → Prop := fun a => X a ∨ a = D
    let Γ (st : KDs × List Ln) : List Sv := [.dat (wsD ws), .dat (.list (rs.map stpD)), .dat (lsD st.2), .val (.ref D), .un, .un, .un]
    let H2 := upd H1 D (.dK [])
    have s2 : Same H1 H2 := Same.upd hD
    have E2 : EnvOk X' H2 _ (Γ (recs ws.length [])) := (((En.same s1).set (i := 2) dv).more (More.one hD)).same s2 |>.setV (i := 3)
    have t2 : Trk X' H2 := (t.mono s1).one hD
    have nX : ¬ X D := (t.mono s1).new hD
    refine s_forD (X := X') (gi_list (g_var (i := 1) (d := .list (rs.map stpD)) E2 rfl)) (fun Hb i σ' H' => Kp X' Hb H' ∧ Trk X' H' ∧ Same H1 H' ∧ (∃ kvs, H' D = some (.dK kvs) ∧ DK X' H' kvs (recs ws.length (rs.take i)).1) ∧ EnvOk X' H' σ' (Γ (recs ws.length (rs.take i)))) ?_ ?_ ?_ ?_
    · intro Hb sb
      exact ⟨Kp.refl, t2.mono sb, s2.trans sb, ⟨[], sb D _ upd_same, .nil⟩, E2.same sb⟩
    · rintro Hb i σ' H' ⟨p1, p2, _⟩
      exact ⟨p1, p2⟩
    · rintro Hb i x d σ' H' H'' sb hd ⟨p1, p2, p3, ⟨kvs, p4, p5⟩, E⟩ s4 dx
      rw [List.getElem?_map, Option.map_eq_some_iff] at hd
      obtain ⟨r, hr2, rfl⟩ := hd
      have fit := hf i r hr2
      have etake : recs ws.length (rs.take (i + 1)) = goRec (recs ws.length (rs.take i)) r := by
        rw [List.take_succ, hr2]
        show ((rs.take i) ++ [r]).foldl goRec _ = _
        rw [List.foldl_append]
        rfl
      have hlen : kvs.length ≤ 100 := by
        rw [p5.length]
        refine Nat.le_trans (recs_len _ _) ?_
        exact Nat.le_trans (List.length_take_le' _ _) hrs
      generalize hst : recs ws.length (rs.take i) = st at *
      refine g_pair (d := .str r.name) (e := chD r.p r.os r.ns) dx fun u w h1 h2 => ?_
      have E4 := ((E.same s4).set (i := 4) h1).set (i := 5) h2
      refine g_step (name := r.name) (p := r.p) (os := r.os) (ns := r.ns) (l := st.2) (p2.mono s4) (g_var (i := 4) E4 rfl) (g_var (i := 5) E4 rfl) (g_var (i := 2) (d := lsD st.2) E4 rfl) fit H'' (Same.refl H'') _ fun v3 H3 s5 dv3 => ?_
      obtain ⟨a, xs, rfl, n, ea, rx⟩ := dv3.tup_inv
      cases rx with
      | cons g1 rx =>
        cases rx with
        | cons g2 rx =>
          cases rx
          have E5 := E4.same s5
          obtain ⟨z, e4, dz⟩ := E5.get 4 (.dat (.str r.name)) rfl
          have ez := dz.str_inv
          subst ez
          have s45 := s4.trans s5
          have eD := s45 D _ p4
          have kD : ∀ y, Kp X' H3 (upd H3 D (.dK (putK kvs (.inr r.name) y))) := fun y => Kp.put (.inr rfl)
          refine ⟨a, _, rfl, SqT.of ea, rfl, _, _, rfl, .ref D, E5.get 3 (.val (.ref D)) rfl, .str r.name, e4, D, _, rfl, DPut.k (k := .inr r.name) eD (by rw [sizeLine_eq]; omega), _, _, rfl, rfl, ?_⟩
          refine ⟨(p1.trans (Kp.of s45)).trans (kD _), (p2.mono s45).put, Same.mut (p3.trans s45) hD, ⟨_, upd_same, ?_⟩, ?_⟩
          · rw [etake]
            exact ((p5.mono (Kp.of s45)).put g1).mono (kD _)
          · rw [etake]
            exact envUn (envUn ((E5.set (i := 2) g2).mono (kD _)) 4) 5
    · rintro Hb σ' H' sb ⟨p1, p2, p3, ⟨kvs, p4, p5⟩, E⟩
      rw [List.length_map, List.take_length] at p5
      exact ⟨.ref D, E.get 3 (.val (.ref D)) rfl, k _ H' (s1.trans p3) (.dic nX p4 (DXk.less (fun a => .inl) p5.to))⟩
end K18

/-! Equal records are the passed pair's. -/
namespace K18
open PySem PySem.Spec PyProof.Rows L2 KD KP
theorem pre_map {α : Type} {f : α → PyData} : ∀ {ds : List PyData}, (∀ d ∈ ds, ∃ x, d = f x) → ∃ l : List α, ds = l.map f
  | [], _ => ⟨[], rfl⟩
  | d :: ds, h => by
    obtain ⟨x, rfl⟩ := h d List.mem_cons_self
    obtain ⟨l, rfl⟩ := pre_map (f := f) fun d hd => h d (List.mem_cons_of_mem _ hd)
    exact ⟨x :: l, rfl⟩
theorem sort_map {α : Type} {f : α → PyData} (inj : ∀ x y, f x = f y → x = y) (l : List α) : ∃ l' : List α, sortD (l.map f) = l'.map f ∧ ∀ e, e ∈ l' ↔ e ∈ l := by
  have pm := sortD_perm (l.map f)
  obtain ⟨l', h⟩ := pre_map (f := f) (ds := sortD (l.map f)) fun d hd => by
    obtain ⟨x, _, rfl⟩ := List.mem_map.mp (pm.mem_iff.mp hd)
    exact ⟨x, rfl⟩
  have key : ∀ (e : α) (m : List α), f e ∈ m.map f ↔ e ∈ m := fun e m => ⟨fun h => by
    obtain ⟨x, hx, e1⟩ := List.mem_map.mp h
    rw [← inj _ _ e1]
    exact hx, fun h => List.mem_map.mpr ⟨e, h, rfl⟩⟩
  refine ⟨l', h, fun e => ?_⟩
  rw [← key e l', ← h, pm.mem_iff, key]
theorem eqv_sort {α : Type} [DecidableEq α] {f : α → PyData} (inj : ∀ x y, f x = f y → x = y) (ev : ∀ a b : List α, PyData.eqvAll (a.map f) (b.map f) = decide (a = b)) (l m : List α) :
    (l = m → PyData.eqv (.list (sortD (l.map f))) (.list (sortD (m.map f))) = true) ∧ (PyData.eqv (.list (sortD (l.map f))) (.list (sortD (m.map f))) = true → ∀ e, e ∈ l ↔ e ∈ m) := by
  obtain ⟨l', h1, h2⟩ := sort_map inj l
  obtain ⟨m', h3, h4⟩ := sort_map inj m
  constructor
  · rintro rfl
    rw [h1, PyData.eqv, ev]
    exact decide_eq_true rfl
  · intro h e
    rw [h1, h3, PyData.eqv, ev] at h
    have := of_decide_eq_true h
    rw [← h2, ← h4, this]
theorem lnD_inj (x y : Ln) (h : lnD x = lnD y) : x = y := by
  obtain ⟨a, i⟩ := x
  obtain ⟨b, j⟩ := y
  simp [lnD] at h
  obtain ⟨rfl, h2⟩ := h
  have : i = j := by omega
  rw [this]
theorem prD_inj (x y : Ln × Ln) (h : prD x = prD y) : x = y := by
  obtain ⟨a, b⟩ := x
  obtain ⟨c, d⟩ := y
  simp only [prD, PyData.tuple.injEq, List.cons.injEq, and_true] at h
  rw [lnD_inj _ _ h.1, lnD_inj _ _ h.2]
theorem eqv_ln (x y : Ln) : PyData.eqv (lnD x) (lnD y) = decide (x = y) := by
  obtain ⟨a, i⟩ := x
  obtain ⟨b, j⟩ := y
  show PyData.eqv (.tuple [.str a, .int (i : Int)]) (.tuple [.str b, .int (j : Int)]) = _
  rw [PyData.eqv, PyData.eqvAll, PyData.eqvAll, PyData.eqvAll, eqv_int, Bool.and_true, PyData.eqv, Bool.eq_iff_iff]
  simp
  omega
theorem eqv_pr (x y : Ln × Ln) : PyData.eqv (prD x) (prD y) = decide (x = y) := by
  obtain ⟨a, b⟩ := x
  obtain ⟨c, d⟩ := y
  show PyData.eqv (.tuple [lnD a, lnD b]) (.tuple [lnD c, lnD d]) = _
  rw [PyData.eqv, PyData.eqvAll, PyData.eqvAll, PyData.eqvAll, eqv_ln, eqv_ln, Bool.and_true, Bool.eq_iff_iff]
  simp
theorem eqvAll_map {α : Type} [DecidableEq α] {f : α → PyData} (h : ∀ x y, PyData.eqv (f x) (f y) = decide (x = y)) : ∀ a b : List α, PyData.eqvAll (a.map f) (b.map f) = decide (a = b)
  | [], [] => rfl
  | [], _ :: _ => rfl
  | _ :: _, [] => rfl
  | x :: a, y :: b => by
    rw [List.map_cons, List.map_cons, PyData.eqvAll, h, eqvAll_map h a b, Bool.eq_iff_iff]
    simp
/-- two records of one change -/
theorem eqv_rec {name : Str} {p q : Int} {os ns : List Str} {l m : List Ln} :
    ((prs (rowH name p.toNat os.length ns.length l) = prs (rowH name q.toNat os.length ns.length m) ∧ burH p.toNat os.length l = burH q.toNat os.length m) → PyData.eqv (recD name p os ns l) (recD name q os ns m) = true) ∧
    (PyData.eqv (recD name p os ns l) (recD name q os ns m) = true → (∀ e, e ∈ prs (rowH name p.toNat os.length ns.length l) ↔ e ∈ prs (rowH name q.toNat os.length ns.length m)) ∧ ∀ e, e ∈ burH p.toNat os.length l ↔ e ∈ burH q.toNat os.length m) := by
  have s1 := eqv_sort prD_inj (eqvAll_map eqv_pr) (prs (rowH name p.toNat os.length ns.length l)) (prs (rowH name q.toNat os.length ns.length m))
  have s2 := eqv_sort lnD_inj (eqvAll_map eqv_ln) (burH p.toNat os.length l) (burH q.toNat os.length m)
  have e : PyData.eqv (recD name p os ns l) (recD name q os ns m) = (PyData.eqv (wsD ns) (wsD ns) && (PyData.eqv (.list (sortD ((prs (rowH name p.toNat os.length ns.length l)).map prD))) (.list (sortD ((prs (rowH name q.toNat os.length ns.length m)).map prD))) && (PyData.eqv (.list (sortD ((burH p.toNat os.length l).map lnD))) (.list (sortD ((burH q.toNat os.length m).map lnD))) && true))) := by
    unfold recD
    simp only [PyData.eqv, PyData.eqvAll]
  have ew : PyData.eqv (wsD ns) (wsD ns) = true := by
    show PyData.eqv (.list _) (.list _) = true
    rw [PyData.eqv, eqv_strs]
    exact decide_eq_true rfl
  rw [e, ew]
  constructor
  · rintro ⟨h1, h2⟩
    rw [s1.1 h1, s2.1 h2]
    rfl
  · intro h
    simp only [Bool.true_and, Bool.and_true, Bool.and_eq_true] at h
    exact ⟨s1.2 h.1, s2.2 h.2⟩
theorem recs_two {n : Nat} {r s : Stp} (h : r.name ≠ s.name) : (recs n [r, s]).1 = [(.inr r.name, recD r.name r.p r.os r.ns (here0 n)), (.inr s.name, recD s.name s.p s.os s.ns (stepH r.name r.p.toNat r.os.length r.ns.length (here0 n)))] := by
  show putD (putD [] _ _) _ _ = _
  simp [putD, h]
  rfl
/-- the pair of places that passing leads to -/
def PassAt (p a b q c d x y : Nat) : Prop := ((q + c < p ∨ (q + c = p ∧ b + d = 0)) ∧ x = q ∧ y + c = p + d) ∨ ((p + b < q ∨ (p + b = q ∧ b + d = 0)) ∧ x + b = q + a ∧ y = p)
theorem eqK_pass {n p q x y : Nat} {os ns us vs : List Str} (hp : p + os.length ≤ n) (hab : 0 < os.length + ns.length) (hq : q + us.length ≤ n - os.length + ns.length) (hcd : 0 < us.length + vs.length) (hx : x + us.length ≤ n) (hy : y + os.length ≤ n - us.length + vs.length) :
    eqK (recs n [⟨"q", x, us, vs⟩, ⟨"p", y, os, ns⟩]).1 (recs n [⟨"p", p, os, ns⟩, ⟨"q", q, us, vs⟩]).1 = true ↔ PassAt p os.length ns.length q us.length vs.length x y := by
  have npq : ("p" : Str) ≠ "q" := by decide
  rw [recs_two (r := ⟨"q", x, us, vs⟩) (s := ⟨"p", y, os, ns⟩) (Ne.symm npq), recs_two (r := ⟨"p", p, os, ns⟩) (s := ⟨"q", q, us, vs⟩) npq]
  have ek : ∀ A B C D : PyData, eqK [(.inr "q", A), (.inr "p", B)] [(.inr "p", C), (.inr "q", D)] = (PyData.eqv A D && PyData.eqv B C) := fun A B C D => by
    have n1 : (Sum.inr ("p" : Str) : Key) ≠ Sum.inr ("q" : Str) := by decide
    have n2 : (Sum.inr ("q" : Str) : Key) ≠ Sum.inr ("p" : Str) := by decide
    simp [eqK, hitB, valD, List.find?_cons, n1, n2]
  rw [ek, Bool.and_eq_true]
  have r1 := eqv_rec (name := "q") (p := (x : Int)) (q := (q : Int)) (os := us) (ns := vs) (l := here0 n) (m := stepH "p" p os.length ns.length (here0 n))
  have r2 := eqv_rec (name := "p") (p := (y : Int)) (q := (p : Int)) (os := os) (ns := ns) (l := stepH "q" x us.length vs.length (here0 n)) (m := here0 n)
  simp only [Int.toNat_natCast] at r1 r2 ⊢
  constructor
  · rintro ⟨e1, e2⟩
    obtain ⟨a1, a2⟩ := r1.2 e1
    obtain ⟨b1, b2⟩ := r2.2 e2
    exact places hp hab hq hcd hx hy (fun e h => (a1 e).mpr h) (fun e h => (a2 e).mpr h) (fun e h => (b1 e).mp h) (fun e h => (b2 e).mp h)
  · intro h
    obtain ⟨⟨a1, a2⟩, b1, b2⟩ := same_all (n := n) hp hq hx hy h
    exact ⟨r1.1 ⟨by rw [a1], a2.symm⟩, r2.1 ⟨by rw [b1], b2⟩⟩
end K18

/-! The pairs found are the passed pair. -/
namespace K18
open PySem PySem.Spec PyProof.Rows L2 KD KP
theorem fit_iff {ws us : List Str} {x : Nat} : (ws.drop x).take us.length = us ↔ ∀ i, i < us.length → ws[x + i]? = us[i]? := by
  constructor
  · intro h i hi
    have := congrArg (fun l => l[i]?) h
    simp only [List.getElem?_take, List.getElem?_drop, hi, if_true] at this
    exact this
  · intro h
    apply List.ext_getElem?
    intro i
    rw [List.getElem?_take, List.getElem?_drop]
    split
    · exact h i ‹_›
    · exact (List.getElem?_eq_none (by omega)).symm
theorem put_get {ws os ns : List Str} {p i : Nat} (h : p + os.length ≤ ws.length) : (putB ws p os ns)[i]? = if i < p then ws[i]? else if i < p + ns.length then ns[i - p]? else ws[i - ns.length + os.length]? := by
  unfold putB
  simp only [Int.toNat_natCast]
  by_cases h1 : i < p
  · rw [if_pos h1, List.getElem?_append_left (by rw [List.length_append, List.length_take]; omega), List.getElem?_append_left (by rw [List.length_take]; omega), List.getElem?_take, if_pos h1]
  · rw [if_neg h1]
    by_cases h2 : i < p + ns.length
    · rw [if_pos h2, List.getElem?_append_left (by rw [List.length_append, List.length_take]; omega), List.getElem?_append_right (by rw [List.length_take]; omega), List.length_take, Nat.min_eq_left (by omega)]
    · rw [if_neg h2, List.getElem?_append_right (by rw [List.length_append, List.length_take]; omega), List.length_append, List.length_take, Nat.min_eq_left (by omega), List.getElem?_drop]
      congr 1
      omega
theorem put_len {ws os ns : List Str} {p : Nat} (h : p + os.length ≤ ws.length) : (putB ws p os ns).length = ws.length - os.length + ns.length := by
  unfold putB
  simp only [Int.toNat_natCast, List.length_append, List.length_take, List.length_drop]
  omega
theorem fit_le {ws us : List Str} {x : Nat} (hx : x ≤ ws.length) (h : (ws.drop x).take us.length = us) : x + us.length ≤ ws.length := by
  have := congrArg List.length h
  rw [List.length_take, List.length_drop] at this
  omega
theorem pass_fits {ws os ns us vs : List Str} {p q x y : Nat} (hp : p + os.length ≤ ws.length) (fp : (ws.drop p).take os.length = os) (hq : q + us.length ≤ ws.length - os.length + ns.length) (fq : ((putB ws p os ns).drop q).take us.length = us)
    (h : PassAt p os.length ns.length q us.length vs.length x y) : x + us.length ≤ ws.length ∧ (ws.drop x).take us.length = us ∧ y + os.length ≤ ws.length - us.length + vs.length ∧ ((putB ws x us vs).drop y).take os.length = os := by
  rw [fit_iff] at fp fq ⊢
  unfold PassAt at h
  have hx : x + us.length ≤ ws.length := by omega
  refine ⟨hx, fun i hi => ?_, by omega, ?_⟩
  · rw [← fq i hi, put_get hp]
    rcases h with ⟨h1, rfl, h3⟩ | ⟨h1, h2, rfl⟩
    · rw [if_pos (by omega)]
    · rw [if_neg (by omega), if_neg (by omega)]
      congr 1
      omega
  · rw [fit_iff]
    intro i hi
    rw [← fp i hi, put_get hx]
    rcases h with ⟨h1, rfl, h3⟩ | ⟨h1, h2, rfl⟩
    · rw [if_neg (by omega), if_neg (by omega)]
      congr 1
      omega
    · rw [if_pos (by omega)]
theorem flat_one {α : Type} {F : Nat → List α} {x0 : Nat} (h : ∀ x, x ≠ x0 → F x = []) : ∀ N, (List.range N).flatMap F = if x0 < N then F x0 else []
  | 0 => rfl
  | N + 1 => by
    rw [List.range_succ, List.flatMap_append, flat_one h N, List.flatMap_singleton]
    by_cases e : N = x0
    · subst e
      rw [if_neg (Nat.lt_irrefl _), if_pos (Nat.lt_succ_self _)]
      rfl
    · rw [h N e, List.append_nil]
      by_cases h2 : x0 < N
      · rw [if_pos h2, if_pos (by omega)]
      · rw [if_neg h2, if_neg (by omega)]
theorem flat_none {α : Type} {F : Nat → List α} (h : ∀ x, F x = []) (N : Nat) : (List.range N).flatMap F = [] := by
  rw [flat_one (x0 := 0) fun x _ => h x, h 0]
  split <;> rfl
/-- the pairs as the law finds them -/
def inB (ws : List Str) (p : Nat) (os ns : List Str) (q : Nat) (us vs : List Str) (x y : Nat) : List PyData :=
  if (fitsB (putB ws x us vs) y os && eqK (recs ws.length [⟨"q", x, us, vs⟩, ⟨"p", y, os, ns⟩]).1 (recs ws.length [⟨"p", p, os, ns⟩, ⟨"q", q, us, vs⟩]).1) = true then [.tuple [chD x us vs, chD y os ns]] else []
def outB (ws : List Str) (p : Nat) (os ns : List Str) (q : Nat) (us vs : List Str) (x : Nat) : List PyData :=
  if fitsB ws x us = true then (List.range ((putB ws x us vs).length + 1)).flatMap (inB ws p os ns q us vs x) else []
def pairsB (ws : List Str) (p : Nat) (os ns : List Str) (q : Nat) (us vs : List Str) : List PyData := (List.range (ws.length + 1)).flatMap (outB ws p os ns q us vs)
section
variable {ws os ns us vs : List Str} {p q : Nat} (hp : p ≤ ws.length) (fp : (ws.drop p).take os.length = os) (hab : 0 < os.length + ns.length) (hq : q ≤ (putB ws p os ns).length) (fq : ((putB ws p os ns).drop q).take us.length = us) (hcd : 0 < us.length + vs.length)
include hp fp hab hq fq hcd
theorem in_pass {x y : Nat} (hx : fitsB ws x us = true) : (PassAt p os.length ns.length q us.length vs.length x y → inB ws p os ns q us vs x y = [PyData.tuple [chD x us vs, chD y os ns]]) ∧ (¬ PassAt p os.length ns.length q us.length vs.length x y → inB ws p os ns q us vs x y = []) := by
  have p1 := fit_le hp fp
  have q1 := fit_le hq fq
  rw [put_len p1] at q1
  simp only [fitsB, Bool.and_eq_true, decide_eq_true_eq, Int.toNat_natCast] at hx
  have x1 : x + us.length ≤ ws.length := fit_le (by omega) hx.2
  constructor
  · intro h
    obtain ⟨g1, g2, g3, g4⟩ := pass_fits p1 fp q1 fq h
    have ek := (eqK_pass p1 hab q1 hcd g1 g3).mpr h
    have ef : fitsB (putB ws x us vs) y os = true := by
      simp only [fitsB, Bool.and_eq_true, decide_eq_true_eq, Int.toNat_natCast]
      rw [put_len x1]
      exact ⟨by omega, g4⟩
    unfold inB
    rw [ef, ek]
    rfl
  · intro h
    unfold inB
    rw [if_neg]
    intro hh
    rw [Bool.and_eq_true] at hh
    obtain ⟨ef, ek⟩ := hh
    simp only [fitsB, Bool.and_eq_true, decide_eq_true_eq, Int.toNat_natCast] at ef
    have y1 := fit_le (by omega) ef.2
    rw [put_len x1] at y1
    exact h ((eqK_pass p1 hab q1 hcd x1 y1).mp ek)
theorem pairs_none (h : ∀ x y, ¬ PassAt p os.length ns.length q us.length vs.length x y) : pairsB ws p os ns q us vs = [] := by
  refine flat_none (fun x => ?_) _
  unfold outB
  split
  · exact flat_none (fun y => (in_pass hp fp hab hq fq hcd ‹_›).2 (h x y)) _
  · rfl
theorem pairs_one {x0 y0 : Nat} (h : PassAt p os.length ns.length q us.length vs.length x0 y0) : pairsB ws p os ns q us vs = [PyData.tuple [chD x0 us vs, chD y0 os ns]] := by
  have p1 := fit_le hp fp
  have q1 := fit_le hq fq
  rw [put_len p1] at q1
  obtain ⟨g1, g2, g3, g4⟩ := pass_fits p1 fp q1 fq h
  have uniq : ∀ x y, PassAt p os.length ns.length q us.length vs.length x y → x = x0 ∧ y = y0 := fun x y h' => by
    unfold PassAt at h h'
    omega
  have ef : fitsB ws x0 us = true := by
    simp only [fitsB, Bool.and_eq_true, decide_eq_true_eq, Int.toNat_natCast]
    exact ⟨by omega, g2⟩
  unfold pairsB
  rw [flat_one (x0 := x0), if_pos (by omega)]
  · unfold outB
    rw [if_pos ef, flat_one (x0 := y0), if_pos (by rw [put_len g1]; omega)]
    · exact (in_pass hp fp hab hq fq hcd ef).1 h
    · intro y hy
      exact (in_pass hp fp hab hq fq hcd ef).2 fun z => hy (uniq _ _ z).2
  · intro x hx
    unfold outB
    split
    · exact flat_none (fun y => (in_pass hp fp hab hq fq hcd ‹_›).2 fun z => hx (uniq _ _ z).1) _
    · rfl
/-- the pairs are what passing tells -/
theorem pairs_pass : pairsB ws p os ns q us vs = (match passB p os ns q us vs with
    | .none => []
    | d => [d]) := by
  have p1 := fit_le hp fp
  have q1 := fit_le hq fq
  rw [put_len p1] at q1
  unfold passB
  have e1 : apartB ns vs ((p : Int) - q - us.length) = true ↔ (q + us.length < p ∨ (q + us.length = p ∧ ns.length + vs.length = 0)) := by
    unfold apartB
    simp only [Bool.or_eq_true, Bool.and_eq_true, decide_eq_true_eq]
    omega
  have e2 : apartB ns vs ((q : Int) - p - ns.length) = true ↔ (p + ns.length < q ∨ (p + ns.length = q ∧ ns.length + vs.length = 0)) := by
    unfold apartB
    simp only [Bool.or_eq_true, Bool.and_eq_true, decide_eq_true_eq]
    omega
  by_cases h1 : apartB ns vs ((p : Int) - q - us.length) = true
  · have h1' := e1.mp h1
    rw [if_pos h1, pairs_one hp fp hab hq fq hcd (x0 := q) (y0 := p + vs.length - us.length) (by unfold PassAt; omega)]
    show [PyData.tuple [_, chD ((p + vs.length - us.length : Nat) : Int) os ns]] = [PyData.tuple [_, _]]
    rw [show ((p + vs.length - us.length : Nat) : Int) = (p : Int) + vs.length - us.length from by omega]
  · rw [if_neg h1]
    by_cases h2 : apartB ns vs ((q : Int) - p - ns.length) = true
    · have h2' := e2.mp h2
      rw [if_pos h2, pairs_one hp fp hab hq fq hcd (x0 := q + os.length - ns.length) (y0 := p) (by unfold PassAt; omega)]
      show [PyData.tuple [chD ((q + os.length - ns.length : Nat) : Int) us vs, _]] = [PyData.tuple [_, _]]
      rw [show ((q + os.length - ns.length : Nat) : Int) = (q : Int) - ns.length + os.length from by omega]
    · rw [if_neg h2]
      refine pairs_none hp fp hab hq fq hcd fun x y z => ?_
      unfold PassAt at z
      rcases z with z | z
      · exact h1 (e1.mpr z.1)
      · exact h2 (e2.mpr z.1)
end
end K18

/-! Records may be compared. -/
namespace K18
open PySem PySem.Spec PyProof.Rows L2 KD KP
theorem depth_map {α : Type} {f : α → PyData} {k : Nat} (h : ∀ x, (f x).depth ≤ k) : ∀ l : List α, PyData.depthAll (l.map f) ≤ k
  | [] => by simp [PyData.depthAll]
  | x :: l => by
    have := depth_map h l
    have := h x
    simp only [List.map_cons, PyData.depthAll]
    omega
theorem lay_map {α : Type} {f : α → PyData} : ∀ {l : List α}, (∀ x ∈ l, (f x).canLay0 = true) → PyData.canLayAll0 (l.map f) = true
  | [], _ => by simp [PyData.canLayAll0]
  | x :: l, h => by
    simp only [List.map_cons, PyData.canLayAll0, Bool.and_eq_true]
    exact ⟨h x List.mem_cons_self, lay_map fun z hz => h z (List.mem_cons_of_mem _ hz)⟩
theorem depth_ln (x : Ln) : (lnD x).depth ≤ 2 := by simp [lnD, PyData.depth, PyData.depthAll]
theorem depth_pr (x : Ln × Ln) : (prD x).depth ≤ 3 := by
  have h1 := depth_ln x.1
  have h2 := depth_ln x.2
  simp only [prD, PyData.depth, PyData.depthAll]
  omega
theorem lay_ln {x : Ln} (h : PyData.strOk x.1 = true) : (lnD x).canLay0 = true := by simp [lnD, PyData.canLay0, PyData.canLayAll0, h]
def okL (l : List Ln) : Prop := ∀ z ∈ l, PyData.strOk z.1 = true
theorem okL_own {nm : Str} {b : Nat} (h : PyData.strOk nm = true) : okL (ownL nm b) := fun z hz => by
  obtain ⟨i, _, rfl⟩ := List.mem_map.mp hz
  exact h
theorem okL_step {nm : Str} {x a b : Nat} {l : List Ln} (h : PyData.strOk nm = true) (hl : okL l) : okL (stepH nm x a b l) := fun z hz => by
  rcases List.mem_append.mp hz with hz | hz
  · rcases List.mem_append.mp hz with hz | hz
    · exact hl z (List.mem_of_mem_take hz)
    · exact okL_own h z hz
  · exact hl z (List.mem_of_mem_drop hz)
theorem okL_row {nm : Str} {x a b : Nat} {l : List Ln} (h : PyData.strOk nm = true) (hl : okL l) : okL (rowH nm x a b l) := fun z hz => by
  unfold rowH at hz
  split at hz
  · cases hz
  · have key : ∀ i, z ∈ l[i]?.toList → PyData.strOk z.1 = true := fun i hi => by
      rw [Option.mem_toList] at hi
      exact hl z (List.mem_of_getElem? hi)
    rcases List.mem_append.mp hz with hz | hz
    · rcases List.mem_append.mp hz with hz | hz
      · exact key _ hz
      · exact okL_own h z hz
    · exact key _ hz
theorem cmp_rec {name : Str} {p : Int} {os ns : List Str} {l : List Ln} (hn : PyData.strOk name = true) (hl : okL l) (hw : ∀ z ∈ ns, PyData.strOk z = true) : cmpD (recD name p os ns l) := by
  obtain ⟨A, a1, a2⟩ := sort_map prD_inj (prs (rowH name p.toNat os.length ns.length l))
  obtain ⟨B, b1, b2⟩ := sort_map lnD_inj (burH p.toNat os.length l)
  unfold recD
  rw [a1, b1]
  have hrow := okL_row (x := p.toNat) (a := os.length) (b := ns.length) hn hl
  have hA : ∀ z ∈ A, (prD z).canLay0 = true := fun z hz => by
    obtain ⟨u, v⟩ := z
    have hz' := (a2 _).mp hz
    have m := List.of_mem_zip hz'
    simp [prD, PyData.canLay0, PyData.canLayAll0, lay_ln (hrow u m.1), lay_ln (hrow v (List.mem_of_mem_tail m.2))]
  have hB : ∀ z ∈ B, (lnD z).canLay0 = true := fun z hz => lay_ln (hl z (List.mem_of_mem_drop (List.mem_of_mem_take ((b2 _).mp hz))))
  have hW : ∀ z ∈ ns, (PyData.str z).canLay0 = true := fun z hz => by simp [PyData.canLay0, hw z hz]
  constructor
  · have h1 : noDicts (ns.map PyData.str) = true := noDicts_map (fun z => by simp [noDict]) _
    have h2 : noDicts (A.map prD) = true := noDicts_map noDict_pr _
    have h3 : noDicts (B.map lnD) = true := noDicts_map noDict_ln _
    simp [noDict, noDicts, wsD, h1, h2, h3]
  · have d1 := depth_map (f := PyData.str) (k := 1) (fun z => by simp [PyData.depth]) ns
    have d2 := depth_map depth_pr A
    have d3 := depth_map depth_ln B
    show (PyData.canLay0 _ && decide (PyData.depth _ ≤ 64)) = true
    rw [Bool.and_eq_true]
    refine ⟨?_, decide_eq_true ?_⟩
    · simp only [wsD, PyData.canLay0, PyData.canLayAll0, lay_map hW, lay_map hA, lay_map hB]
      rfl
    · simp only [wsD, PyData.depth, PyData.depthAll]
      omega
theorem okL_here0 (n : Nat) : okL (here0 n) := okL_own (by decide +kernel)
theorem cmp_recs {n : Nat} : ∀ {rs : List Stp}, (∀ r ∈ rs, PyData.strOk r.name = true ∧ ∀ z ∈ r.ns, PyData.strOk z = true) → ∀ p ∈ (recs n rs).1, cmpD p.2 := by
  have key : ∀ (rs : List Stp) (s : KDs × List Ln), (∀ r ∈ rs, PyData.strOk r.name = true ∧ ∀ z ∈ r.ns, PyData.strOk z = true) → okL s.2 → (∀ p ∈ s.1, cmpD p.2) → ∀ p ∈ (rs.foldl goRec s).1, cmpD p.2 := by
    intro rs
    induction rs with
    | nil => exact fun s _ _ h => h
    | cons r rs ih =>
      intro s hr hl hs
      obtain ⟨r1, r2⟩ := hr r List.mem_cons_self
      refine ih (goRec s r) (fun z hz => hr z (List.mem_cons_of_mem _ hz)) (okL_step r1 hl) fun p hp => ?_
      have hp' : p ∈ putD s.1 (.inr r.name) (recD r.name r.p r.os r.ns s.2) := hp
      have hc := cmp_rec (p := r.p) (os := r.os) r1 hl r2
      unfold putD at hp'
      split at hp'
      · obtain ⟨q, hq, rfl⟩ := List.mem_map.mp hp'
        split
        · exact hc
        · exact hs q hq
      · rcases List.mem_append.mp hp' with h | h
        · exact hs p h
        · rw [List.mem_singleton.mp h]
          exact hc
  intro rs h
  exact key rs ([], here0 n) h (okL_here0 n) fun p hp => by cases hp
end K18

/-! The pairs. -/
namespace K18
open PySem PySem.Spec PyProof.Rows L2 KD KP
variable {P : Program} {w : World} {K : PySem.W.Frag} {mg : Str → Option Value} {base : Heap}
theorem fits_of {ws us : List Str} {x : Int} : (Bool.and (decide (x ≤ ws.length)) (decide ((ws.drop x.toNat).take us.length = us))) = fitsB ws x us := rfl
theorem g_recs {X : Addr → Prop} {σ : L2.St} {H : Hp} {ta tb : TE} {E : XK} {ws : List Str} {rs : List Stp} (t : Trk X H) (h1 : G X ta σ H (wsD ws)) (h2 : G X tb σ H (.list (rs.map stpD))) (hw : WsOk ws) (hl : rs.length ≤ 100) (hf : ∀ (i : Nat) (r : Stp), rs[i]? = some r → fitAt r (recs ws.length (rs.take i)).2) : G X (tCall spRecs [] E (tCons ta (tCons tb tNil))) σ H (dicD (recs ws.length rs).1) :=
  g_call (ga_cons h1 (ga_cons h2 ga_nil)) fun vs H1 s rs' Q k => by
    cases rs' with
    | cons r1 r2 =>
      cases r2 with
      | cons r2 r3 =>
        cases r3
        exact ⟨X, _, _, ws, rs, rfl, t.mono s, r1, r2, hw, hl, hf, k⟩
theorem gt_eqK {X : Addr → Prop} {σ : L2.St} {H : Hp} {ta tb : TE} {as bs : KDs} (h1 : G X ta σ H (dicD as)) (h2 : G X tb σ H (dicD bs)) (c1 : ∀ p ∈ as, cmpD p.2) (c2 : ∀ p ∈ bs, cmpD p.2) : GT (tTest (tOp rEqK ta tb)) σ H (eqK as bs) := fun H1 s Q q =>
  h1 H1 s _ fun v H2 s2 r1 => h2 H2 (s.trans s2) _ fun u H3 s3 r2 => ⟨X, as, bs, r1.mono (Kp.of s3), r2, c1, c2, _, rfl, q H3 (s2.trans s3)⟩
theorem s_append {X : Addr → Prop} {σ : L2.St} {Γ : List Sv} {H : Hp} {te : TE} {D : Ends} {i : Nat} {L : Addr} {xs : List V} {ds : List PyData} {d : PyData} (En : EnvOk X H σ Γ) (hi : Γ[i]? = some (.val (.ref L))) (x : X L) (t : Trk X H) (hL : H L = some (.lst xs)) (hx : DXs X H xs ds) (h : G X te σ H d) (hl : ds.length < 1000000)
    (k : ∀ H1 H2 ys, Same H H1 → (∃ o, H2 = upd H1 L o) → H2 L = some (.lst ys) → DXs X H2 ys (ds ++ [d]) → EnvOk X H2 σ Γ → Trk X H2 → Kp X H H2 → D.nx σ H2) : tDrop (tBM K "list" rAppend (tVar i) (tCons te tNil)) D σ H := by
  refine ⟨.ref L, En.get i _ hi, .inl ⟨rfl, _, SqL.of hL⟩, ?_⟩
  refine h H (Same.refl H) _ fun v H1 s1 dv => ?_
  have hL1 := s1 _ _ hL
  have e1 : xs.length = ds.length := hx.length
  refine ⟨L, xs, v, rfl, rfl, hL1, by rw [sizeLine_eq]; omega, ?_⟩
  have kp : Kp X H1 (upd H1 L (.lst (xs ++ [v]))) := Kp.put x
  exact k _ _ _ s1 ⟨_, rfl⟩ upd_same (((hx.mono (Kp.of s1)).snoc dv).mono kp) ((En.same s1).mono kp) ((t.mono s1).put) ((Kp.of s1).trans kp)
theorem fit_two {n : Nat} {r s : Stp} (h1 : PyData.strOk r.name = true) (h2 : PyData.strOk s.name = true) (a1 : 0 ≤ r.p) (b1 : 0 ≤ s.p) (w1 : WsOk r.os) (w2 : WsOk r.ns) (w3 : WsOk s.os) (w4 : WsOk s.ns) (f1 : r.p.toNat + r.os.length ≤ n) (f2 : s.p.toNat + s.os.length ≤ n - r.os.length + r.ns.length) (hn : n ≤ 1000) :
    ∀ (i : Nat) (z : Stp), [r, s][i]? = some z → fitAt z (recs n ([r, s].take i)).2 := by
  intro i z h
  have l0 : (here0 n).length = n + 2 := here0_len
  have e1 := w1.1
  have e2 := w2.1
  match i, h with
  | 0, h =>
    cases h
    show fitAt r (here0 n)
    exact ⟨h1, a1, w1, w2, by rw [l0]; omega, by rw [l0]; omega⟩
  | 1, h =>
    cases h
    have l1 : (stepH r.name r.p.toNat r.os.length r.ns.length (here0 n)).length = n + 2 - r.os.length + r.ns.length := by
      unfold stepH
      rw [List.length_append, List.length_append, List.length_take, List.length_drop, own_len, l0]
      omega
    show fitAt s (stepH r.name r.p.toNat r.os.length r.ns.length (here0 n))
    exact ⟨h2, b1, w3, w4, by rw [l1]; omega, by rw [l1]; omega⟩
  | i + 2, h => cases h
-- HINT _law_pairs eq _law_due (op_eqK (Nat.lt_of_le_of_lt (Nat.add_le_add_left (by decide : 65 ≤ 16 * 2 + 200) _) (Nat.add_assoc _ _ _ ▸ hr.un)))
theorem k_name {i : Nat} {v : V} {σ : L2.St} {H : Hp} {Ψ : L2.St → Hp → Prop} (h : Ψ (σ.set i (some v)) H) : gName i v σ H Ψ := h
theorem flat_len {F : Nat → List PyData} {k : Nat} (h : ∀ x, (F x).length ≤ k) : ∀ N, ((List.range N).flatMap F).length ≤ N * k
  | 0 => by simp
  | N + 1 => by
    have := flat_len h N
    have := h N
    rw [List.range_succ, List.flatMap_append, List.length_append, List.flatMap_singleton, Nat.succ_mul]
    omega
theorem flat_next {F : Nat → List PyData} (N : Nat) : (List.range (N + 1)).flatMap F = (List.range N).flatMap F ++ F N := by
  rw [List.range_succ, List.flatMap_append, List.flatMap_singleton]
theorem inB_len {ws os ns us vs : List Str} {p q x y : Nat} : (inB ws p os ns q us vs x y).length ≤ 1 := by
  unfold inB
  split <;> simp
theorem outB_len {ws os ns us vs : List Str} {p q x : Nat} (h1 : ws.length ≤ 100) (h2 : vs.length ≤ 100) : (outB ws p os ns q us vs x).length ≤ 201 := by
  unfold outB
  split
  · have := flat_len (F := inB ws p os ns q us vs x) (k := 1) (fun y => inB_len) ((putB ws x us vs).length + 1)
    have e : (putB ws x us vs).length ≤ 200 := by
      unfold putB
      rw [List.length_append, List.length_append, List.length_take, List.length_drop]
      omega
    omega
  · simp
theorem put_ok {ws us vs : List Str} {x : Nat} (h : WsOk ws) (h2 : WsOk vs) (h3 : x + us.length ≤ ws.length) (l1 : ws.length ≤ 100) (l2 : vs.length ≤ 100) : WsOk (putB ws x us vs) := ⟨by rw [put_len h3]; omega, fun z hz => by
  unfold putB at hz
  rcases List.mem_append.mp hz with hz | hz
  · rcases List.mem_append.mp hz with hz | hz
    · exact h.2 z (List.mem_of_mem_take hz)
    · exact h2.2 z hz
  · exact h.2 z (List.mem_of_mem_drop hz)⟩
theorem g_fits {X : Addr → Prop} {σ : L2.St} {H : Hp} {ta tb : TE} {E : XK} {ws us vs : List Str} {x : Nat} (t : Trk X H) (h1 : G X ta σ H (wsD ws)) (h2 : G X tb σ H (chD x us vs)) (hw : WsOk ws) (hu : WsOk us) (hv : WsOk vs) : G X (tCall (sp2 TC fun a b => .bool (fitsB (wsOf a) (intOf (it b 0)) (wsOf (it b 1)))) [] E (tCons ta (tCons tb tNil))) σ H (.bool (fitsB ws x us)) :=
  g_is (g_call2 t h1 h2 ⟨ws, x, us, vs, rfl, rfl, hw, hu, hv, by omega⟩) (by
    show PyData.bool (fitsB (wsOf (wsD ws)) (x : Int) (wsOf (wsD us))) = _
    rw [wsOf_wsD, wsOf_wsD])
theorem g_made {X : Addr → Prop} {σ : L2.St} {H : Hp} {ta tb : TE} {E : XK} {ws us vs : List Str} {x : Nat} (t : Trk X H) (h1 : G X ta σ H (wsD ws)) (h2 : G X tb σ H (chD x us vs)) (hw : WsOk ws) (hu : WsOk us) (hv : WsOk vs) : G X (tCall (sp2N TC fun a b => wsD (putB (wsOf a) (intOf (it b 0)) (wsOf (it b 1)) (wsOf (it b 2)))) [] E (tCons ta (tCons tb tNil))) σ H (wsD (putB ws x us vs)) :=
  g_is (GN.g (gn_call2 t h1 h2 ⟨ws, x, us, vs, rfl, rfl, hw, hu, hv, by omega⟩)) (by
    show wsD (putB (wsOf (wsD ws)) (x : Int) (wsOf (wsD us)) (wsOf (wsD vs))) = _
    rw [wsOf_wsD, wsOf_wsD, wsOf_wsD])
end K18

/-! A run is drawn. -/
namespace K18
open PySem PySem.Spec PyProof.Rows L2 KD KP
variable {P : Program} {w : World} {K : PySem.W.Frag} {mg : Str → Option Value} {base : Heap}
def fitR (ws : List Str) (r : Stp) : Prop := 0 ≤ r.p ∧ r.p ≤ (ws.length : Int) ∧ r.os = (ws.drop r.p.toNat).take r.os.length ∧ (∀ z ∈ r.ns, z ∈ letters2) ∧ r.ns.length ≤ 2 ∧ 0 < r.os.length + r.ns.length
def okRun : List Str → List Stp → Prop
  | _, [] => True
  | ws, r :: rs => fitR ws r ∧ okRun (putB ws r.p r.os r.ns) rs
def hereOf : List Str → List Stp → List Str
  | ws, [] => ws
  | ws, r :: rs => hereOf (putB ws r.p r.os r.ns) rs
theorem okRun_snoc : ∀ {ws : List Str} {rs : List Stp} {r : Stp}, okRun ws rs → fitR (hereOf ws rs) r → okRun ws (rs ++ [r])
  | _, [], _, _, h => ⟨h, trivial⟩
  | _, _ :: _, _, ⟨h1, h2⟩, h => ⟨h1, okRun_snoc h2 h⟩
theorem hereOf_snoc : ∀ {ws : List Str} {rs : List Stp} {r : Stp}, hereOf ws (rs ++ [r]) = putB (hereOf ws rs) r.p r.os r.ns
  | _, [], _ => rfl
  | _, _ :: rs, _ => hereOf_snoc (rs := rs)
theorem k_forL {wi : TE} {g : TG} {tb : TS} {D : Ends} {σ : L2.St} {H : Hp} (h : wi σ H fun v H1 => tFor (iList K (tC v)) g tb D σ H1) : tFor (iList K wi) g tb D σ H := h
theorem k_sl {r : V → Option Int → Option Int → Hp → VK → Prop} {te : TE} {σ : L2.St} {H : Hp} {Q : VK} {tl th : TO} (h : te σ H fun v H1 => tSl r (tC v) tl th σ H1 Q) : tSl r te tl th σ H Q := h
theorem g_val {X : Addr → Prop} {σ : L2.St} {H : Hp} {v : V} {d : PyData} (h : DX X H v d) : G X (tC v) σ H d := fun H1 s Q q => q v H1 (Same.refl H1) (h.mono (Kp.of s))
theorem letters_ok {z : Str} (h : z ∈ letters2) : PyData.strOk z = true := by
  have : ∀ z ∈ letters2, PyData.strOk z = true := by decide +kernel
  exact this z h
theorem k_par3 {i j l : Nat} {ta tb tc : TE} {tz : TS} {D : Ends} {σ : L2.St} {H : Hp} (h : ta σ H fun x H1 => tb σ H1 fun y H2 => tc σ H2 fun z H3 => ∃ u v w, [x, y, z] = [u, v, w] ∧ tz D (((σ.set i (some u)).set j (some v)).set l (some w)) H3) : tSeq (tPar3 i j l (tCons ta (tCons tb (tCons tc tNil)))) tz D σ H := h
theorem k_forS {r : V → Option Int → Option Int → Hp → VK → Prop} {te : TE} {g : TG} {tb : TS} {D : Ends} {σ : L2.St} {H : Hp} {tl th : TO} (h : te σ H fun v H1 => tFor (iList K (tSl r (tC v) tl th)) g tb D σ H1) : tFor (iList K (tSl r te tl th)) g tb D σ H := h
theorem c_mixed {X : Addr → Prop} {st cl : Addr} {n : Nat} {H : Hp} {σ : L2.St} {ts tm : TE} {E : XK} {ds : List PyData} {Q : VK} (S : Sg X st cl n H) (hv : GV ts σ H (.ref st)) (hm : G X tm σ H (.list ds)) (hn : n + ds.length ≤ 1000000000) (h1 : ds.length < 1000000)
    (k : ∀ w es H', es.Perm ds → Sg X st cl (n + ds.length) H' → KpS st cl H H' → DX X H' w (.list es) → Q w H') : tCall spMixed [] E (tCons ts (tCons tm tNil)) σ H Q :=
  hv H (Same.refl H) _ (hm H (Same.refl H) _ fun v H1 s1 r => ⟨X, st, cl, n, v, ds, rfl, S.same s1, hn, r, h1, fun w es H' hp S2 kk dw _ => k w es H' hp S2 ((KpS.of s1).trans kk) dw⟩)
theorem c_change {X : Addr → Prop} {st cl : Addr} {n : Nat} {H : Hp} {σ : L2.St} {ta tb tc : TE} {E : XK} {ws : List Str} {ms : List PyData} {Q : VK} (S : Sg X st cl n H) (hv : GV ta σ H (.ref st)) (h1 : G X tb σ H (wsD ws)) (h2 : G X tc σ H (.list ms)) (hn : n + 10 ≤ 1000000000) (hw : WsOk ws) (hm : ∀ z ∈ ms, z = .bool false)
    (k : ∀ w (p : Nat) os ns H', (p : Int) ≤ (ws.length : Int) → os = (ws.drop p).take os.length → (∀ z ∈ ns, z ∈ letters2) → ns.length ≤ 2 → 0 < os.length + ns.length → Sg X st cl (n + 5) H' → KpS st cl H H' → DX X H' w (chD p os ns) → Q w H') : tCall spChange [] E (tCons ta (tCons tb (tCons tc tNil))) σ H Q :=
  hv H (Same.refl H) _ (h1 H (Same.refl H) _ fun v H1 s1 r1 => h2 H1 s1 _ fun u H2 s2 r2 => ⟨X, st, cl, n, v, u, ws, ms, rfl, (S.same s1).same s2, hn, r1.mono (Kp.of s2), r2, hw, hm, fun w p os ns H' p0 p1 p2 p3 p4 p5 S2 kk dw => by
    obtain ⟨p, rfl⟩ : ∃ q : Nat, p = (q : Int) := ⟨p.toNat, by omega⟩
    exact k w p os ns H' p1 p2 p3 p4 p5 S2 ((KpS.of (s1.trans s2)).trans kk) dw⟩)
abbrev s__law_p_run : Stmt := topS 33
abbrev n__law_p_run : List Str := ["_law_stream", "_law_words", "_law_many", "_law_is_plain", "_law_here", "_law_marks", "_law_found", "_law_name", "_law_change", "_law_place", "_law_old", "_law_new", "_law_one"]
theorem sc__law_p_run : FnScope n__law_p_run ["_law_stream", "_law_words", "_law_many", "_law_is_plain"] (defScope s__law_p_run) := ⟨rfl, rfl, rfl, by decide +kernel, rfl, by decide +kernel, by decide +kernel⟩
def runNames : List Str := ["p", "q1", "r", "s", "t", "u7"]
def spRun : Sp := fun vs H Q _ => ∃ (X : Addr → Prop) (st cl : Addr) (n m : Nat) (v1 : V) (ws : List Str), vs = [.ref st, v1, .int (m : Int), .bl false] ∧ m ≤ 6 ∧ Sg X st cl n H ∧ n + 100 ≤ 1000000000 ∧ DX X H v1 (wsD ws) ∧ WsOk ws ∧ ws.length ≤ 50 ∧
  ∀ w rs H', rs.length = m → okRun ws rs → (∀ r ∈ rs, r.name ∈ runNames) → (rs.map Stp.name).Nodup → Sg X st cl (n + 50) H' → KpS st cl H H' → DX X H' w (.list (rs.map stpD)) → Q w H'
theorem ok_p_run {f : Addr} {fd : FuncData} (F : Fun K "_law_p_run" "_law_p_run" s__law_p_run f fd) (T : Bl mg) (O__law_mixed : Own P w K mg base CX0 2 "_law_mixed" ["_law_stream", "_law_some"] spMixed) (O__law_p_change : Own P w K mg base CX0 3 "_law_p_change" ["_law_stream", "_law_words", "_law_marks"] spChange)
    (O__law_p_made : Own P w K mg base CX0 1 "_law_p_made" ["_law_words", "_law_change"] (sp2N TC fun a b => wsD (putB (wsOf a) (intOf (it b 0)) (wsOf (it b 1)) (wsOf (it b 2))))) : FnOk P w K mg base CX0 4 f fd ["_law_stream", "_law_words", "_law_many", "_law_is_plain"] spRun := by
  refine F.ok sc__law_p_run (fun vs H Q E h => ?_) (fun cdv A outer s H vs Q E hr h => ?_)
  · obtain ⟨X, st, cl, n, m, v1, ws, rfl, _⟩ := h
    rfl
  · obtain ⟨X, st, cl, n, m, v1, ws, rfl, hm6, S, hn, hd, hw, hl, k⟩ := h
    refine ⟨_, (pss_cons (ps_par3 (i := 4) (j := 5) (l := 6) (by rfl) sc__law_p_run.nd rfl rfl rfl (by decide) (by decide) (by decide) rfl rfl rfl (pa_cons (pe_callTy call_list_of (by rfl) T.b_list boot_list (pa_cons (pv 1) pa_nil)) (pa_cons (pe_lc (own := [("_law_one", 12)]) (g := (gName 12)) (tt := tYes) rfl sc__law_p_run.nd (pi_list (pv 1)) (blkOk_by (N := n__law_p_run) (sc := defScope s__law_p_run) (by decide +kernel)) (fun _ _ _ _ _ => (pg_name (i := 12) sc__law_p_run.nd rfl (by first | exact Or.inl rfl | exact Or.inr rfl))) (fun _ _ _ _ _ => pts_nil) (fun _ _ _ _ _ => pe_bl)) (pa_cons (pe_lst pa_nil) pa_nil))) (by rfl))
    (pss_cons (ps_for PassesOwn.never rfl (pi_list (pe_slice sl_list (pe_own O__law_mixed hr (by decide) (by rfl) (pa_cons (pv 0) (pa_cons (pe_lst (pa_cons pe_str (pa_cons pe_str (pa_cons pe_str (pa_cons pe_str (pa_cons pe_str (pa_cons pe_str pa_nil))))))) pa_nil))) po_none (po_some (pv 2)))) (pg_name (i := 7) sc__law_p_run.nd rfl (by first | exact Or.inl rfl | exact Or.inr rfl))
    (pss_cons (ps_set (i := 8) sc__law_p_run.nd rfl (by first | exact Or.inl rfl | exact Or.inr rfl) (pe_own O__law_p_change hr (by decide) (by rfl) (pa_cons (pv 0) (pa_cons (pv 4) (pa_cons (pv 5) pa_nil)))))
    (pss_cons (ps_asg (pv 8) (pg_tup (n := 3) rfl (pgs_cons (pg_name (i := 9) sc__law_p_run.nd rfl (by first | exact Or.inl rfl | exact Or.inr rfl)) (pgs_cons (pg_name (i := 10) sc__law_p_run.nd rfl (by first | exact Or.inl rfl | exact Or.inr rfl)) (pgs_cons (pg_name (i := 11) sc__law_p_run.nd rfl (by first | exact Or.inl rfl | exact Or.inr rfl)) pgs_nil)))))
    (pss_cons (ps_set (i := 5) sc__law_p_run.nd rfl (by first | exact Or.inl rfl | exact Or.inr rfl) (pe_op op_addA (pe_op op_addA (pe_slice sl_list (pv 5) po_none (po_some (pv 9))) (pe_lc (own := [("_law_one", 12)]) (g := (gName 12)) (tt := tYes) rfl sc__law_p_run.nd (pi_list (pv 11)) (blkOk_by (N := n__law_p_run) (sc := defScope s__law_p_run) (by decide +kernel)) (fun _ _ _ _ _ => (pg_name (i := 12) sc__law_p_run.nd rfl (by first | exact Or.inl rfl | exact Or.inr rfl))) (fun _ _ _ _ _ => pts_nil) (fun _ _ _ _ _ => (pv 3)))) (pe_slice sl_list (pv 5) (po_some (pe_op op_addA (pv 9) (pe_callB call_len (by rfl) T.b_len boot_len (pa_cons (pv 10) pa_nil)))) po_none)))
    (pss_cons (ps_set (i := 4) sc__law_p_run.nd rfl (by first | exact Or.inl rfl | exact Or.inr rfl) (pe_own O__law_p_made hr (by decide) (by rfl) (pa_cons (pv 4) (pa_cons (pv 8) pa_nil))))
    (pss_one (ps_expr (pe_bm PySem.F.plainAttrs_list PySem.F.slot_list_append PySem.F.type_list_append mt_append (pv 6) (pa_cons (pe_tup (pa_cons (pv 7) (pa_cons (pv 8) pa_nil))) pa_nil)))))))))
    (pss_one (ps_ret (pv 6))))), ?_⟩
    have En : EnvOk X H (L2.start n__law_p_run [.ref st, v1, .int (m : Int), .bl false]) [.val (.ref st), .dat (wsD ws), .dat (.int (m : Int)), .dat (.bool false), .un, .un, .un, .un, .un, .un, .un, .un, .un] := ⟨rfl, fun i s e => by
      match i, e with
      | 0, e => cases e; rfl
      | 1, e => cases e; exact ⟨_, rfl, hd⟩
      | 2, e => cases e; exact ⟨_, rfl, .int _⟩
      | 3, e => cases e; exact ⟨_, rfl, .bl false⟩
      | 4, e => cases e; trivial
      | 5, e => cases e; trivial
      | 6, e => cases e; trivial
      | 7, e => cases e; trivial
      | 8, e => cases e; trivial
      | 9, e => cases e; trivial
      | 10, e => cases e; trivial
      | 11, e => cases e; trivial
      | 12, e => cases e; trivial⟩
    have t0 := S.t
    refine k_par3 ?_
    refine g_listOf t0 (g_var (i := 1) (d := wsD ws) En rfl) rfl H (Same.refl H) _ fun x1 H1 s1 dx1 => ?_
    refine g_lc1 (fun d => .bool false) (t0.mono s1) (gi_list (g_var (i := 1) (d := wsD ws) (En.same s1) rfl)) (by rw [List.length_map]; omega) (fun H1 s d hd => tgt_name ((En.same s1).same s)) (fun X' H1 σ2 d hd t E => g_bl) H1 (Same.refl _) _ fun x2 H2 s2 dx2 => ?_
    refine ⟨by show 0 ≤ sizeLine; omega, fun L hL => ⟨_, _, _, rfl, ?_⟩⟩
    let X' : Addr → Prop := fun a => X a ∨ a = L
    let H3 := upd H2 L (.lst [])
    let Γ (here : List Str) (ms : List PyData) : List Sv := [.val (.ref st), .dat (wsD ws), .dat (.int (m : Int)), .dat (.bool false), .dat (wsD here), .dat (.list ms), .val (.ref L), .un, .un, .un, .un, .un, .un]
    have s12 := s1.trans s2
    have s3 : Same H2 H3 := Same.upd hL
    have t2 := t0.mono s12
    have nX : ¬ X L := t2.new hL
    have dx1' : DX X H1 x1 (wsD ws) := dx1
    have E3 : EnvOk X' H3 _ (Γ ws ((ws.map PyData.str).map fun d => .bool false)) := (((((En.same s12).set (i := 4) (dx1'.mono (Kp.of s2))).set (i := 5) dx2).more (More.one hL)).same s3).setV (i := 6)
    have S2 : Sg X st cl n H2 := S.same s12
    have n1 := S2.ne1 hL
    have n2 := S2.ne2 hL
    have S3 : Sg X' st cl n H3 := ⟨S.ok.same (s12.trans s3), .inl S.x1, .inl S.x2, t2.one hL⟩
    refine k_forS (c_mixed (ds := runNames.map PyData.str) S3 (gv_var (i := 0) E3 rfl) (g_lst S3.t (ga_cons g_str (ga_cons g_str (ga_cons g_str (ga_cons g_str (ga_cons g_str (ga_cons g_str ga_nil)))))) (by decide)) (by show n + 6 ≤ _; omega) (by decide) fun v es H4 hp S4 k4 dv => ?_)
    have E4 := E3.kps S3 k4
    have hes : ∀ d ∈ es, ∃ nm ∈ runNames, d = .str nm := fun d hd => by
      obtain ⟨z, hz, e⟩ := List.mem_map.mp (hp.mem_iff.mp hd)
      exact ⟨z, hz, e.symm⟩
    have les : es.length = 6 := hp.length_eq
    have hcut : cutPD es none (some (m : Int)) = es.take m := by rw [cutP_to es (by omega), Int.toNat_natCast]
    have keep0 : ∀ a o, a ≠ st → a ≠ cl → a ≠ L → H2 a = some o → H4 a = some o := fun a o m1 m2 m3 e => k4 a o m1 m2 (s3 a o e)
    refine s_forD (X := X') (ds := es.take m) (fun Ha sa R r => by
        have := gi_list (K := K) (g_sl (K := K) S4.t (g_val dv) go_none (go_some (g_var (i := 2) E4 rfl))) Ha sa R
        rw [hcut] at this
        exact this r)
      (fun Hb i σ' H' => Kp X' Hb H' ∧ Sg X' st cl (n + 6 + 5 * i) H' ∧ (∀ a o, a ≠ st → a ≠ cl → a ≠ L → H2 a = some o → H' a = some o) ∧ ∃ rs ms xs, rs.length = i ∧ okRun ws rs ∧ (rs.map fun r => PyData.str r.name) = es.take i ∧ H' L = some (.lst xs) ∧ DXs X' H' xs (rs.map stpD) ∧ EnvOk X' H' σ' (Γ (hereOf ws rs) ms) ∧ (∀ z ∈ ms, z = .bool false) ∧ ms.length ≤ 50 + 2 * i ∧ (hereOf ws rs).length ≤ 50 + 2 * i ∧ ∀ z ∈ hereOf ws rs, PyData.strOk z = true) ?_ ?_ ?_ ?_
    · intro Hb sb
      refine ⟨Kp.refl, S4.same sb, fun a o m1 m2 m3 e => sb a o (keep0 a o m1 m2 m3 e), [], _, [], rfl, trivial, by simp, sb L _ (k4 L _ (Ne.symm n1 ∘ Eq.symm) (Ne.symm n2 ∘ Eq.symm) upd_same), .nil, E4.same sb, fun z hz => ?_, by rw [List.length_map, List.length_map]; omega, hl, hw.2⟩
      obtain ⟨_, _, e⟩ := List.mem_map.mp hz
      exact e.symm
    · rintro Hb i σ' H' ⟨p1, p2, _⟩
      exact ⟨p1, p2.t⟩
    · rintro Hb i x d σ' H' H'' sb hd ⟨p1, p2, p3, rs, ms, xs, q1, q2, q3, q4, q5, E, q7, q8, q9, q10⟩ s5 dx
      have hi : i < m := by
        have := (List.getElem?_eq_some_iff.mp hd).1
        rw [List.length_take] at this
        omega
      have hdi : es[i]? = some d := by rw [List.getElem?_take_of_lt hi] at hd; exact hd
      obtain ⟨nm, hnm, rfl⟩ := hes d (List.mem_of_mem_take (List.mem_of_getElem? hd))
      refine k_name ?_
      have E5 := (E.same s5).set (i := 7) dx
      have S5 := p2.same s5
      have hwo : WsOk (hereOf ws rs) := ⟨by omega, q10⟩
      refine k_set (c_change S5 (gv_var (i := 0) E5 rfl) (g_var (i := 4) E5 rfl) (g_var (i := 5) E5 rfl) (by omega) hwo q7 fun y p os ns H6 f1 f2 f3 f4 f5 S6 k6 dy => ?_)
      have E6 := (E5.kps S5 k6).set (i := 8) dy
      have hos : WsOk os := by rw [f2]; exact (hwo.drop _).take _
      have hns : WsOk ns := ⟨by omega, fun z hz => letters_ok (f3 z hz)⟩
      have fle : p + os.length ≤ (hereOf ws rs).length := fit_le (by omega) f2.symm
      refine q_asg (g_var (i := 8) (d := chD p os ns) E6 rfl) fun H7 y7 s7 dv7 => ?_
      refine g_triple dv7 fun u1 u2 u3 r1 r2 r3 => ?_
      have E7 := (((E6.same s7).set (i := 9) r1).set (i := 10) r2).set (i := 11) r3
      have S7 := S6.same s7
      have t7 := S7.t
      refine q_set (i := 5) (d := .list (ms.take p ++ ns.map (fun _ => PyData.bool false) ++ ms.drop (p + os.length))) E7 (g_is (g_cat t7 (g_cat t7 (g_sl t7 (g_var (i := 5) E7 rfl) go_none (go_some (g_var (i := 9) E7 rfl))) (g_lc1 (fun d => .bool false) t7 (gi_list (g_var (i := 11) (d := wsD ns) E7 rfl)) (by rw [List.length_map]; omega) (fun H1 s d hd => tgt_name (E7.same s)) (fun X' H1 σ2 d hd t E => g_var (i := 3) E rfl)) ?_) (g_sl t7 (g_var (i := 5) E7 rfl) (go_some (g_addI t7 (g_var (i := 9) E7 rfl) (len_ws (K := K) t7 (g_var (i := 10) E7 rfl)))) go_none) ?_) ?_) fun H8 v8 s8 E8 => ?_
      · rw [cutP_to _ (by omega), List.length_take, List.length_map, List.length_map]
        omega
      · rw [cutP_to _ (by omega), cutP_from _ (by omega), List.length_append, List.length_take, List.length_map, List.length_map, List.length_drop]
        omega
      · rw [cutP_to _ (by omega), cutP_from _ (by omega), List.map_map, show ((p : Int) + (os.length : Int)).toNat = p + os.length from by omega, show (p : Int).toNat = p from by omega]
        rfl
      refine q_set (i := 4) (d := wsD (putB (hereOf ws rs) p os ns)) E8 (g_made (t7.mono s8) (g_var (i := 4) E8 rfl) (g_var (i := 8) E8 rfl) hwo hos hns) fun H9 v9 s9 E9 => ?_
      have s79 := (s7.trans s8).trans s9
      have S9 := S6.same s79
      have k59 : Kp X' H'' H9 := (S5.kp k6).trans (Kp.of s79)
      have L9 : H9 L = some (.lst xs) := s79 L _ (k6 L _ n1 n2 (s5 L _ q4))
      refine s_append (i := 6) (L := L) (d := stpD ⟨nm, p, os, ns⟩) E9 rfl (.inr rfl) S9.t L9 ((q5.mono (Kp.of s5)).mono k59) (g_tup S9.t (ga_cons (g_var (i := 7) E9 rfl) (ga_cons (g_var (i := 8) E9 rfl) ga_nil)) (by simp)) (by rw [List.length_map]; omega) fun H10 H11 zs s10 hu h11 d11 E11 t11 k11 => ?_
      obtain ⟨o, rfl⟩ := hu
      have fr : fitR (hereOf ws rs) ⟨nm, p, os, ns⟩ := ⟨by show (0 : Int) ≤ (p : Int); omega, f1, by simpa using f2, f3, f4, f5⟩
      refine ⟨((p1.trans (Kp.of s5)).trans k59).trans k11, ((S9.same s10).put (Ne.symm (Ne.symm n1)) (Ne.symm (Ne.symm n2))).le (by omega), fun a oo m1 m2 m3 e => ?_, rs ++ [⟨nm, p, os, ns⟩], ms.take p ++ ns.map (fun _ => PyData.bool false) ++ ms.drop (p + os.length), zs, by rw [List.length_append, q1]; rfl, okRun_snoc q2 fr, by rw [List.map_append, q3, List.take_succ, hdi]; rfl, h11, by rw [List.map_append]; exact d11, ?_, fun z hz => ?_, ?_, ?_, ?_⟩
      · rw [upd_ne m3]
        exact s10 a oo (s79 a oo (k6 a oo m1 m2 (s5 a oo (p3 a oo m1 m2 m3 e))))
      · rw [hereOf_snoc]
        exact envUn (envUn (envUn (envUn (envUn E11 7) 8) 9) 10) 11
      · rcases List.mem_append.mp hz with h | h
        · rcases List.mem_append.mp h with h | h
          · exact q7 z (List.mem_of_mem_take h)
          · obtain ⟨_, _, e⟩ := List.mem_map.mp h
            exact e.symm
        · exact q7 z (List.mem_of_mem_drop h)
      · rw [List.length_append, List.length_append, List.length_take, List.length_map, List.length_drop]
        omega
      · rw [hereOf_snoc]
        show (putB (hereOf ws rs) p os ns).length ≤ _
        rw [put_len fle]
        omega
      · rw [hereOf_snoc]
        show ∀ z ∈ putB (hereOf ws rs) p os ns, _
        intro z hz
        unfold putB at hz
        rcases List.mem_append.mp hz with hz | hz
        · rcases List.mem_append.mp hz with hz | hz
          · exact q10 z (List.mem_of_mem_take hz)
          · exact hns.2 z hz
        · exact q10 z (List.mem_of_mem_drop hz)
    · rintro Hb σ' H' sb ⟨p1, p2, p3, rs, ms, xs, q1, q2, q3, q4, q5, E, _⟩
      have e2 : (es.take m).length = m := by rw [List.length_take]; omega
      rw [e2] at q1 p2 q3
      have nd : ((rs.map Stp.name).map PyData.str).Nodup := by
        rw [List.map_map]
        show (rs.map fun r => PyData.str r.name).Nodup
        rw [q3]
        exact List.Nodup.sublist (List.take_sublist _ _) (hp.nodup_iff.mpr (List.Pairwise.map PyData.str (fun a b h e => h (by cases e; rfl)) (by decide : runNames.Nodup)))
      have nd2 : (rs.map Stp.name).Nodup := List.Pairwise.of_map PyData.str (fun a b h e => h (by rw [e])) nd
      have q3' : ∀ r ∈ rs, r.name ∈ runNames := fun r hr => by
        have : PyData.str r.name ∈ es.take m := q3 ▸ List.mem_map_of_mem (f := fun r => PyData.str r.name) hr
        obtain ⟨nm, h1, h2⟩ := hes _ (List.mem_of_mem_take this)
        cases h2
        exact h1
      refine ⟨.ref L, E.get 6 (.val (.ref L)) rfl, k _ rs H' q1 q2 q3' nd2 ⟨(p2.le (by omega : n + 6 + 5 * m ≤ n + 50)).ok, S.x1, S.x2, fun a h => p2.t a (.inl h)⟩ (fun a o m1 m2 e => p3 a o m1 m2 (fun z => ?_) (s12 a o e)) (.lst nX q4 (DXs.less (fun a => .inl) q5))⟩
      have := s12 a o e
      rw [z, hL] at this
      cases this
end K18

/-! Lists of one's own. -/
namespace K18
open PySem PySem.Spec PyProof.Rows L2 KD
variable {P : Program} {w : World} {K : PySem.W.Frag} {mg : Str → Option Value} {base : Heap}
/-! ### a list of one's own that is made longer -/
section
variable {X : Addr → Prop} {σ : L2.St} {H : Hp} {te : TE} {Γ : List Sv} {D : Ends} {tz : TS} {L : Addr} {xs : List V} {ds es : List PyData} {d : PyData} {i : Nat}
/-- all but L stays -/
def KpL (L : Addr) (H H' : Hp) : Prop := ∀ a o, a ≠ L → H a = some o → H' a = some o
theorem KpL.of (s : Same H H') : KpL L H H' := fun a o _ e => s a o e
theorem KpL.trans {H H1 H2 : Hp} (h : KpL L H H1) (k : KpL L H1 H2) : KpL L H H2 := fun a o n e => k a o n (h a o n e)
theorem KpL.put {o : HO} : KpL L H (upd H L o) := fun a u n e => by rw [upd_ne n]; exact e
theorem q_extend (En : EnvOk X H σ Γ) (hi : Γ[i]? = some (.val (.ref L))) (x : X L) (t : Trk X H) (hL : H L = some (.lst xs)) (hx : DXs X H xs ds) (h : G X te σ H (.list es)) (hl : ds.length + es.length ≤ 1000000)
    (k : ∀ H2 ys, H2 L = some (.lst ys) → DXs X H2 ys (ds ++ es) → EnvOk X H2 σ Γ → Trk X H2 → KpL L H H2 → tz D σ H2) : tSeq (tDrop (tBM K "list" rExtend (tVar i) (tCons te tNil))) tz D σ H := by
  refine ⟨.ref L, En.get i _ hi, .inl ⟨rfl, _, SqL.of hL⟩, ?_⟩
  refine h H (Same.refl H) _ fun v H1 s1 dv => ?_
  obtain ⟨b, zs, rfl, nb, hb, hz⟩ := dv.lst_inv
  have hL1 := s1 _ _ hL
  have e1 : xs.length = ds.length := hx.length
  have e2 : zs.length = es.length := hz.length
  refine ⟨L, b, xs, zs, rfl, rfl, hL1, hb, by rw [sizeLine_eq]; omega, ?_⟩
  have kp : Kp X H1 (upd H1 L (.lst (xs ++ zs))) := Kp.put x
  exact k _ _ upd_same (((hx.mono (Kp.of s1)).append hz).mono kp) ((En.same s1).mono kp) ((t.mono s1).put) ((KpL.of s1).trans KpL.put)
theorem q_append (En : EnvOk X H σ Γ) (hi : Γ[i]? = some (.val (.ref L))) (x : X L) (t : Trk X H) (hL : H L = some (.lst xs)) (hx : DXs X H xs ds) (h : G X te σ H d) (hl : ds.length < 1000000)
    (k : ∀ H2 ys, H2 L = some (.lst ys) → DXs X H2 ys (ds ++ [d]) → EnvOk X H2 σ Γ → Trk X H2 → KpL L H H2 → tz D σ H2) : tSeq (tDrop (tBM K "list" rAppend (tVar i) (tCons te tNil))) tz D σ H := by
  refine ⟨.ref L, En.get i _ hi, .inl ⟨rfl, _, SqL.of hL⟩, ?_⟩
  refine h H (Same.refl H) _ fun v H1 s1 dv => ?_
  have hL1 := s1 _ _ hL
  have e1 : xs.length = ds.length := hx.length
  refine ⟨L, xs, v, rfl, rfl, hL1, by rw [sizeLine_eq]; omega, ?_⟩
  have kp : Kp X H1 (upd H1 L (.lst (xs ++ [v]))) := Kp.put x
  exact k _ _ upd_same (((hx.mono (Kp.of s1)).snoc dv).mono kp) ((En.same s1).mono kp) ((t.mono s1).put) ((KpL.of s1).trans KpL.put)
/-- a new list becomes one's own -/
theorem k_own (En : EnvOk X H σ Γ) (t : Trk X H) (h : GN X te σ H (.list ds)) (k : ∀ L H1 xs, H L = none → Same H H1 → H1 L = some (.lst xs) → DXs (fun b => X b ∨ b = L) H1 xs ds → EnvOk (fun b => X b ∨ b = L) H1 (σ.set i (some (.ref L))) (Γ.set i (.val (.ref L))) → Trk (fun b => X b ∨ b = L) H1 → tz D (σ.set i (some (.ref L))) H1) :
    tSeq (tAsg te (gName i)) tz D σ H := by
  refine k_set (h H (Same.refl H) _ fun v H1 s1 dv nw => ?_)
  obtain ⟨L, xs, rfl, nL, hL, hx⟩ := dv.inner
  have h0 := nw L rfl
  exact k L H1 xs h0 s1 hL hx (((En.more (More.one h0)).same s1).setV) (fun a e => e.elim (fun z => t.mono s1 a z) fun z => ⟨_, z ▸ hL⟩)

theorem g_dict (t : Trk X H) : G X tDNewK σ H (.dict []) := fun H1 s Q q => fun p hp => q _ _ (Same.upd hp) (.dic ((t.mono s).new hp) upd_same .nil)
theorem _root_.KD.EnvOk.less {X' : Addr → Prop} (m : ∀ a, X a → X' a) (E : EnvOk X' H σ Γ) : EnvOk X H σ Γ := ⟨E.len, fun i s e => by
  have h := E.get i s e
  cases s with
  | dat d =>
    obtain ⟨v, e1, r⟩ := h
    exact ⟨v, e1, r.less m⟩
  | val v => exact h
  | un => trivial⟩
/-- one's own list is a datum again -/
theorem _root_.KD.EnvOk.give (En : EnvOk (fun b => X b ∨ b = L) H σ Γ) (hi : Γ[i]? = some (.val (.ref L))) (n : ¬ X L) (hL : H L = some (.lst xs)) (hx : DXs (fun b => X b ∨ b = L) H xs ds) : EnvOk X H σ (Γ.set i (.dat (.list ds))) := by
  have E2 : EnvOk X H σ Γ := En.less fun _ => .inl
  refine ⟨by rw [List.length_set]; exact E2.len, fun j s e => ?_⟩
  by_cases hj : i = j
  · subst hj
    have hl : i < Γ.length := (List.getElem?_eq_some_iff.mp hi).1
    rw [List.getElem?_set_self hl] at e
    cases e
    exact ⟨.ref L, En.get i _ hi, .lst n hL (hx.less fun _ => .inl)⟩
  · rw [List.getElem?_set_ne hj] at e
    exact E2.get j s e
end
end K18

/-! Facts of the things drawn. -/
namespace K18
open PySem PySem.Spec PyProof.Rows L2 KD
/-- all words that the law writes -/
def allW : List Str := ["a", "b", "c", "d e", "", "x", "y", "z", "q", "ab", "0", "a\nb", "a\n", "change", "words", "fit"]
/-- .. of which these are words of a text -/
def goodW : List Str := ["a", "b", "c", "d e", "", "x", "y", "z", "q"]
theorem good_all : ∀ s ∈ goodW, s ∈ allW := by decide +kernel
theorem allW_str : ∀ s ∈ allW, PyData.strOk s = true := by decide +kernel
theorem allW_len : ∀ s ∈ allW, s.length ≤ 201 := by decide +kernel
theorem allW_rep : ∀ s ∈ allW, (reprText s).length ≤ 210 := by decide +kernel
theorem goodW_is : ∀ s ∈ goodW, isWordsD (.str s) = true := by decide +kernel
theorem letters_good : ∀ s ∈ letters, s ∈ goodW := by decide +kernel
theorem letters2_good : ∀ s ∈ letters2, s ∈ goodW := by decide +kernel
def smallI (i : Int) : Prop := -1 ≤ i ∧ i ≤ 9
theorem small_rep {i : Int} (h : smallI i) : i.natAbs.log2 < 1920 ∧ (Str.ofString (toString i)).length ≤ 210 := by
  obtain ⟨h1, h2⟩ := h
  have : i = -1 ∨ i = 0 ∨ i = 1 ∨ i = 2 ∨ i = 3 ∨ i = 4 ∨ i = 5 ∨ i = 6 ∨ i = 7 ∨ i = 8 ∨ i = 9 := by omega
  rcases this with rfl | rfl | rfl | rfl | rfl | rfl | rfl | rfl | rfl | rfl | rfl <;> exact ⟨by decide +kernel, by decide +kernel⟩
/-- small things: what may be shown, what may be asked -/
def okD : Nat → PyData → Prop
  | _, .none => True
  | _, .bool _ => True
  | _, .int i => smallI i
  | _, .str s => s ∈ allW
  | 0, _ => False
  | n + 1, .list ds => ds.length ≤ 9 ∧ ∀ z ∈ ds, okD n z
  | n + 1, .tuple ds => ds.length ≤ 9 ∧ ∀ z ∈ ds, okD n z
  | _, .dict ks => ks = []
def lv : Nat → Nat
  | 0 => 210
  | n + 1 => 9 * (lv n) + 30
theorem lv_big : ∀ n, 210 ≤ lv n
  | 0 => Nat.le_refl _
  | n + 1 => by
    have := lv_big n
    show 210 ≤ 9 * lv n + 30
    omega
theorem lv_mono (n : Nat) : lv n ≤ lv (n + 1) := by
  show lv n ≤ 9 * lv n + 30
  omega
theorem lv_le : ∀ {n m : Nat}, n ≤ m → lv n ≤ lv m
  | n, 0, h => by
    have : n = 0 := by omega
    subst this
    exact Nat.le_refl _
  | n, m + 1, h => by
    by_cases e : n = m + 1
    · subst e
      exact Nat.le_refl _
    · exact Nat.le_trans (lv_le (by omega)) (lv_mono m)
def Sh (n : Nat) (d : PyData) : Prop := shw d = true ∧ d.shown.length ≤ lv n ∧ d.depth ≤ n
theorem sh_all {n : Nat} : ∀ {ds : List PyData}, (∀ z ∈ ds, Sh n z) → shws ds = true ∧ ((PyData.shownAll ds).map (·.length)).sum ≤ ds.length * lv n ∧ (PyData.shownAll ds).length = ds.length ∧ PyData.depthAll ds ≤ n
  | [], _ => by simp [shws, PyData.shownAll, PyData.depthAll]
  | d :: ds, h => by
    obtain ⟨a1, a2, a3⟩ := h d List.mem_cons_self
    obtain ⟨b1, b2, b3, b4⟩ := sh_all fun z hz => h z (List.mem_cons_of_mem _ hz)
    refine ⟨by simp [shws, a1, b1], ?_, by simp only [PyData.shownAll, List.length_cons, b3], by simp only [PyData.depthAll]; omega⟩
    simp only [PyData.shownAll, List.map_cons, List.sum_cons, List.length_cons]
    rw [Nat.add_mul]
    omega
theorem sh_list {n : Nat} {ds : List PyData} (hl : ds.length ≤ 9) (h : ∀ z ∈ ds, Sh n z) : Sh (n + 1) (.list ds) := by
  obtain ⟨b1, b2, b3, b4⟩ := sh_all h
  refine ⟨by simp only [shw]; exact b1, ?_, by simp only [PyData.depth]; omega⟩
  have e : (PyData.list ds).shown = listText (PyData.shownAll ds) := by simp only [PyData.shown]
  rw [e]
  have q := listText_len_le (PyData.shownAll ds)
  have m : ds.length * lv n ≤ 9 * lv n := Nat.mul_le_mul_right _ hl
  show _ ≤ 9 * lv n + 30
  omega
theorem sh_tuple {n : Nat} {ds : List PyData} (hl : ds.length ≤ 9) (h : ∀ z ∈ ds, Sh n z) : Sh (n + 1) (.tuple ds) := by
  obtain ⟨b1, b2, b3, b4⟩ := sh_all h
  refine ⟨by simp only [shw]; exact b1, ?_, by simp only [PyData.depth]; omega⟩
  have e : (PyData.tuple ds).shown = tupleText (PyData.shownAll ds) := by simp only [PyData.shown]
  rw [e]
  have q := tupleText_len_le (PyData.shownAll ds)
  have m : ds.length * lv n ≤ 9 * lv n := Nat.mul_le_mul_right _ hl
  show _ ≤ 9 * lv n + 30
  omega
theorem sh_leaf (n : Nat) {d : PyData} (hs : shw d = true) (hl : d.shown.length ≤ 210) (hd : d.depth = 0) : Sh n d := ⟨hs, Nat.le_trans hl (lv_big n), by omega⟩
theorem okD_sh : ∀ (n : Nat) {d : PyData}, okD n d → Sh n d
  | n, .none, _ => sh_leaf n (by simp [shw]) (by simp only [PyData.shown]; decide +kernel) (by simp [PyData.depth])
  | n, .bool b, _ => sh_leaf n (by simp [shw]) (by cases b <;> simp only [PyData.shown] <;> decide +kernel) (by simp [PyData.depth])
  | n, .int i, h => by
    have h : smallI i := by cases n <;> exact h
    exact sh_leaf n (by simp only [shw]; exact decide_eq_true (small_rep h).1) (by simp only [PyData.shown]; exact (small_rep h).2) (by simp [PyData.depth])
  | n, .str s, h => by
    have h : s ∈ allW := by cases n <;> exact h
    exact sh_leaf n (by simp [shw]) (by simp only [PyData.shown]; exact allW_rep s h) (by simp [PyData.depth])
  | n + 1, .list ds, h => sh_list h.1 fun z hz => okD_sh n (h.2 z hz)
  | n + 1, .tuple ds, h => sh_tuple h.1 fun z hz => okD_sh n (h.2 z hz)
  | n + 1, .dict ks, h => by
    have h : ks = [] := h
    subst h
    refine ⟨by simp [shw], ?_, by simp [PyData.depth, PyData.depthKv]⟩
    refine Nat.le_trans ?_ (lv_big (n + 1))
    simp only [PyData.shown, PyData.shownKv]
    decide +kernel
  | 0, .list ds, h => h.elim
  | 0, .tuple ds, h => h.elim
  | 0, .dict ks, h => h.elim
/-- what may be asked of such things -/
theorem okD_words : ∀ {n : Nat} {d : PyData}, okD n d → wordsPre d
  | n, .str s, h => by
    have h : s ∈ allW := by cases n <;> exact h
    have := allW_len s h
    show s.length ≤ 1000000
    omega
  | _, .none, _ => trivial
  | _, .bool _, _ => trivial
  | _, .int _, _ => trivial
  | _, .list _, _ => trivial
  | _, .tuple _, _ => trivial
  | _, .dict _, _ => trivial
theorem okD_items {n : Nat} {d : PyData} (h : okD n d) (hs : isSeq d = true) : (itemsD d).length ≤ 9 ∧ ∃ m, ∀ z ∈ itemsD d, okD m z := by
  cases n with
  | zero => cases d <;> first | exact (show False from h).elim | cases hs
  | succ n =>
    cases d with
    | list ds => exact ⟨h.1, n, h.2⟩
    | tuple ds => exact ⟨h.1, n, h.2⟩
    | _ => cases hs
theorem okD_wordsAll {n : Nat} {d : PyData} (h : okD n d) : wordsAll d := fun hs => by
  obtain ⟨h1, m, h2⟩ := okD_items h hs
  exact ⟨by omega, fun z hz => okD_words (h2 z hz)⟩
theorem okD_chPre {n : Nat} {d : PyData} (h : okD n d) : chPre d := fun hs => by
  obtain ⟨h1, m, h2⟩ := okD_items h hs
  exact ⟨by omega, fun z hz => okD_wordsAll (h2 z hz)⟩
/-! ### words -/
def Gs (ws : List Str) : Prop := ws.length ≤ 9 ∧ ∀ z ∈ ws, z ∈ goodW
theorem Gs.ok {ws : List Str} (h : Gs ws) : WsOk ws := ⟨by have := h.1; omega, fun z hz => allW_str z (good_all z (h.2 z hz))⟩
theorem ff_all : ∀ {ds : List PyData} {i : Nat}, (∀ z ∈ ds, isWordsD z = true) → ffD i (ds.map fun z => .bool (isWordsD z)) = .none
  | [], _, _ => by simp [ffD]
  | d :: ds, i, h => by
    rw [List.map_cons, h d List.mem_cons_self, ff_true]
    exact ff_all fun z hz => h z (List.mem_cons_of_mem _ hz)
theorem ff_first : ∀ {ds : List PyData} {i : Nat} {d : PyData} {es : List PyData}, (∀ z ∈ ds, isWordsD z = true) → isWordsD d = false → ffD i ((ds ++ d :: es).map fun z => .bool (isWordsD z)) = .int ((i + ds.length : Nat) : Int)
  | [], i, d, es, _, hd => by
    rw [List.nil_append, List.map_cons, hd]
    simp [ffD]
  | c :: ds, i, d, es, h, hd => by
    rw [List.cons_append, List.map_cons, h c List.mem_cons_self, ff_true, ff_first (fun z hz => h z (List.mem_cons_of_mem _ hz)) hd]
    congr 1
    rw [List.length_cons]
    omega
theorem Gs.words {ws : List Str} (h : Gs ws) : ∀ z ∈ ws.map PyData.str, isWordsD z = true := fun z hz => by
  obtain ⟨s, hs, rfl⟩ := List.mem_map.mp hz
  exact goodW_is s (h.2 s hs)
/-- a text, as a list or as a tuple -/
def TextOf (ws : List Str) (d : PyData) : Prop := isSeq d = true ∧ itemsD d = ws.map PyData.str
theorem TextOf.list (ws : List Str) : TextOf ws (wsD ws) := ⟨rfl, rfl⟩
theorem TextOf.tuple (ws : List Str) : TextOf ws (.tuple (ws.map PyData.str)) := ⟨rfl, rfl⟩
theorem TextOf.wrong {ws : List Str} {d : PyData} (h : TextOf ws d) (g : Gs ws) : wrongD d = .none := by
  unfold wrongD
  rw [h.1, if_pos rfl, h.2]
  exact ff_all g.words
theorem TextOf.ws {ws : List Str} {d : PyData} (h : TextOf ws d) : wsOf d = ws := by
  have e := wsOf_wsD ws
  unfold wsOf at e ⊢
  rw [h.2]
  exact e
theorem okD_wsD {ws : List Str} (n : Nat) (g : Gs ws) : okD (n + 1) (wsD ws) := by
  refine ⟨by rw [List.length_map]; exact g.1, fun z hz => ?_⟩
  obtain ⟨s, hs, rfl⟩ := List.mem_map.mp hz
  cases n <;> exact good_all s (g.2 s hs)
theorem TextOf.okD {ws : List Str} {d : PyData} (h : TextOf ws d) (g : Gs ws) (n : Nat) : okD (n + 1) d := by
  have k := okD_wsD n g
  obtain ⟨h1, h2⟩ := h
  cases d with
  | list ds =>
    have e : ds = ws.map PyData.str := h2
    subst e
    exact k
  | tuple ds =>
    have e : ds = ws.map PyData.str := h2
    subst e
    exact k
  | _ => cases h1
/-! ### changes -/
def ChOf (p : Int) (os ns : List Str) (d : PyData) : Prop := isSeq d = true ∧ ∃ d1 d2, itemsD d = [.int p, d1, d2] ∧ TextOf os d1 ∧ TextOf ns d2
section
variable {p : Int} {os ns : List Str} {d : PyData}
theorem ChOf.it0 (h : ChOf p os ns d) : it d 0 = .int p := by
  obtain ⟨_, d1, d2, e, _, _⟩ := h
  unfold it
  rw [e]
  rfl
theorem ChOf.it1 (h : ChOf p os ns d) : TextOf os (it d 1) := by
  obtain ⟨_, d1, d2, e, t, _⟩ := h
  unfold it
  rw [e]
  exact t
theorem ChOf.it2 (h : ChOf p os ns d) : TextOf ns (it d 2) := by
  obtain ⟨_, d1, d2, e, _, t⟩ := h
  unfold it
  rw [e]
  exact t
theorem TextOf.len {ws : List Str} (h : TextOf ws d) : lenD d = ws.length := by
  rw [lenD_seq h.1, h.2, List.length_map]
theorem ChOf.is (h : ChOf p os ns d) (h0 : 0 ≤ p) (g1 : Gs os) (g2 : Gs ns) (hl : 0 < os.length + ns.length) : isChangeD d = true := by
  have e0 := h.it0
  have e1 := h.it1
  have e2 := h.it2
  unfold isChangeD ch3
  rw [h.1, e0, e1.wrong g1, e2.wrong g2, e1.len, e2.len]
  obtain ⟨_, d1, d2, e, _, _⟩ := h
  rw [e]
  simp [isNumD, isNone, h0]
  omega
theorem ChOf.okD (h : ChOf p os ns d) (hp : smallI p) (g1 : Gs os) (g2 : Gs ns) (n : Nat) : okD (n + 2) d := by
  obtain ⟨h1, d1, d2, e, t1, t2⟩ := h
  have all : ∀ z ∈ itemsD d, K18.okD (n + 1) z := fun z hz => by
    rw [e] at hz
    simp at hz
    rcases hz with rfl | rfl | rfl
    · exact hp
    · exact t1.okD g1 n
    · exact t2.okD g2 n
  have len : (itemsD d).length ≤ 9 := by rw [e]; simp
  cases d with
  | list ds => exact ⟨len, all⟩
  | tuple ds => exact ⟨len, all⟩
  | _ => cases h1
theorem ChOf.told (p : Int) (os ns : List Str) : ChOf p os ns (chD p os ns) := ⟨rfl, _, _, rfl, .list os, .list ns⟩
end
/-! ### odds -/
theorem not_words {d : PyData} {z : PyData} (h : isSeq d = true) (hz : z ∈ itemsD d) (hw : isWordsD z = false) : isNone (wrongD d) = false := by
  cases e : isNone (wrongD d) with
  | false => rfl
  | true =>
    unfold wrongD at e
    rw [h, if_pos rfl] at e
    have := ffD_none e z hz
    rw [hw] at this
    cases this
theorem not_seq {d : PyData} (h : isSeq d = false) : isNone (wrongD d) = false := by
  unfold wrongD
  rw [h]
  rfl
theorem feed_not : isWordsD (.str "a\nb") = false := by decide +kernel
theorem not_ch {d : PyData} (h : isChangeD d = true → False) : isChangeD d = false := by
  cases e : isChangeD d with
  | false => rfl
  | true => exact (h e).elim
end K18

/-! What a law's frame keeps. -/
namespace K18
open PySem PySem.Spec PyProof.Rows L2 KD LamX
/-- all that is no table and not of X stays -/
def Kq (X : Addr → Prop) (H H' : Hp) : Prop := ∀ a o, ¬ X a → (∀ ps, o ≠ .tbl ps) → H a = some o → H' a = some o
section
variable {X X' : Addr → Prop} {H H' H1 H2 : Hp} {σ : L2.St} {Γ : List Sv} {T : List (Addr × Str)} {st cl L : Addr} {n m : Nat}
theorem Kq.of (h : Kp X H H') : Kq X H H' := fun a o n _ e => h a o n e
theorem Kq.same (h : Same H H') : Kq X H H' := fun a o _ _ e => h a o e
theorem Kq.refl : Kq X H H := fun _ _ _ _ e => e
theorem Kq.trans (h : Kq X H H1) (k : Kq X H1 H2) : Kq X H H2 := fun a o n t e => k a o n t (h a o n t e)
theorem Kq.ext (h : ExtN H H') : Kq X H H' := fun a o _ t e => h a o e t
mutual
theorem DX.kq (k : Kq X H H') : ∀ {v : V} {d : PyData}, DX X H v d → DX X H' v d
  | _, _, .non => .non
  | _, _, .bl b => .bl b
  | _, _, .int i => .int i
  | _, _, .str x => .str x
  | _, _, .lst n h r => .lst n (k _ _ n (fun _ e => by cases e) h) (DXs.kq k r)
  | _, _, .tup n h r => .tup n (k _ _ n (fun _ e => by cases e) h) (DXs.kq k r)
  | _, _, .dic n h r => .dic n (k _ _ n (fun _ e => by cases e) h) (DXk.kq k r)
theorem DXs.kq (k : Kq X H H') : ∀ {vs : List V} {ds : List PyData}, DXs X H vs ds → DXs X H' vs ds
  | _, _, .nil => .nil
  | _, _, .cons h r => .cons (DX.kq k h) (DXs.kq k r)
theorem DXk.kq (k : Kq X H H') : ∀ {vs : List (Key × V)} {ds : List (PyData × PyData)}, DXk X H vs ds → DXk X H' vs ds
  | _, _, .nil => .nil
  | _, _, .cons h r => .cons (DX.kq k h) (DXk.kq k r)
end
theorem _root_.KD.EnvOk.kq (k : Kq X H H') (E : EnvOk X H σ Γ) : EnvOk X H' σ Γ := ⟨E.len, fun i s e => by
  have h := E.get i s e
  cases s with
  | dat d =>
    obtain ⟨v, e1, r⟩ := h
    exact ⟨v, e1, DX.kq k r⟩
  | val v => exact h
  | un => trivial⟩
/-- less is known of the slots -/
theorem _root_.KD.EnvOk.weak {Δ : List Sv} (E : EnvOk X H σ Γ) (hl : Γ.length = Δ.length) (h : ∀ (i : Nat) (s : Sv), Δ[i]? = some s → s = .un ∨ Γ[i]? = some s) : EnvOk X H σ Δ := ⟨E.len.trans hl, fun i s e => by
  rcases h i s e with rfl | q
  · trivial
  · exact E.get i s q⟩
/-- the spring, the tables; X are lists -/
structure Zt (X : Addr → Prop) (st cl : Addr) (n : Nat) (T : List (Addr × Str)) (H : Hp) : Prop where
  sg : Sg X st cl n H
  tabs : Tabs T H
  lst : ∀ a, X a → ∃ xs, H a = some (.lst xs)
theorem tabs_lst (t : Tabs T H) (k : ∀ b o, H b = some o → (∀ xs, o ≠ .lst xs) → H' b = some o) : Tabs T H' := fun p hp => by
  obtain ⟨ps, h1, h2, h3⟩ := t p hp
  refine ⟨ps, k _ _ h1 (fun _ e => by cases e), h2, fun pos cv hc => ?_⟩
  obtain ⟨c, e1, e2⟩ := h3 pos cv hc
  exact ⟨c, e1, k _ _ e2 fun _ e => by unfold CodeO at e; cases e⟩
theorem Zt.same (Z : Zt X st cl n T H) (s : Same H H') : Zt X st cl n T H' := ⟨Z.sg.same s, Z.tabs.ext s, fun a x => let ⟨xs, e⟩ := Z.lst a x; ⟨xs, s _ _ e⟩⟩
theorem Zt.draw (Z : Zt X st cl n T H) (S : Sg X st cl m H') (k : KpS st cl H H') : Zt X st cl m T H' := by
  obtain ⟨xs1, e1⟩ := Z.lst st Z.sg.x1
  obtain ⟨xs2, e2⟩ := Z.lst cl Z.sg.x2
  refine ⟨S, tabs_lst Z.tabs fun b o e hn => k b o (fun q => ?_) (fun q => ?_) e, fun a x => ?_⟩
  · rw [q, e1] at e
    exact hn xs1 (Option.some.inj e).symm
  · rw [q, e2] at e
    exact hn xs2 (Option.some.inj e).symm
  · obtain ⟨ms, a', b, c, S', _⟩ := S.ok
    by_cases q1 : a = st
    · exact ⟨_, q1 ▸ S'.hs⟩
    · by_cases q2 : a = cl
      · exact ⟨_, q2 ▸ S'.hc⟩
      · obtain ⟨xs, e⟩ := Z.lst a x
        exact ⟨xs, k a _ q1 q2 e⟩
theorem Zt.lam (Z : Zt X st cl n T H) (e : ExtN H H') (t : Tabs T H') : Zt X st cl n T H' := by
  have keep : ∀ a, X a → ∃ xs, H a = some (.lst xs) ∧ H' a = some (.lst xs) := fun a x => by
    obtain ⟨xs, q⟩ := Z.lst a x
    exact ⟨xs, q, e a _ q fun _ z => by cases z⟩
  obtain ⟨ms, a, b, c, S, hb⟩ := Z.sg.ok
  exact ⟨⟨⟨ms, a, b, c, ⟨e _ _ S.hs (fun _ z => by cases z), e _ _ S.hc (fun _ z => by cases z), S.ne, S.a0, S.b0, S.c0, S.c1, S.ml⟩, hb⟩, Z.sg.x1, Z.sg.x2, fun a x => let ⟨xs, _, q⟩ := keep a x; ⟨_, q⟩⟩, t, fun a x => let ⟨xs, _, q⟩ := keep a x; ⟨xs, q⟩⟩
theorem Zt.le (Z : Zt X st cl n T H) (h : n ≤ m) : Zt X st cl m T H := ⟨Z.sg.le h, Z.tabs, Z.lst⟩
/-- one more list of one's own -/
theorem Zt.more {xs : List V} (Z : Zt X st cl n T H) (h : H L = some (.lst xs)) : Zt (fun b => X b ∨ b = L) st cl n T H :=
  ⟨⟨Z.sg.ok, .inl Z.sg.x1, .inl Z.sg.x2, fun a e => e.elim (Z.sg.t a) fun q => ⟨_, q ▸ h⟩⟩, Z.tabs, fun a e => e.elim (Z.lst a) fun q => ⟨_, q ▸ h⟩⟩
theorem Zt.less (m : ∀ a, X a → X' a) (x1 : X st) (x2 : X cl) (Z : Zt X' st cl n T H) : Zt X st cl n T H := ⟨⟨Z.sg.ok, x1, x2, fun a e => Z.sg.t a (m a e)⟩, Z.tabs, fun a e => Z.lst a (m a e)⟩
/-- a list of one's own is changed -/
theorem Zt.put {xs : List V} (Z : Zt X st cl n T H) (k : KpL L H H') (h : H' L = some (.lst xs)) (x : X L) (n1 : L ≠ st) (n2 : L ≠ cl) : Zt X st cl n T H' := by
  obtain ⟨ys, eL⟩ := Z.lst L x
  obtain ⟨ms, a, b, c, S, hb⟩ := Z.sg.ok
  refine ⟨⟨⟨ms, a, b, c, ⟨k _ _ (Ne.symm n1) S.hs, k _ _ (Ne.symm n2) S.hc, S.ne, S.a0, S.b0, S.c0, S.c1, S.ml⟩, hb⟩, Z.sg.x1, Z.sg.x2, fun a e => ?_⟩, tabs_lst Z.tabs fun b o e hn => k b o (fun q => ?_) e, fun a e => ?_⟩
  · by_cases q : a = L
    · exact ⟨_, q ▸ h⟩
    · obtain ⟨xs, z⟩ := Z.lst a e
      exact ⟨_, k a _ q z⟩
  · rw [q, eL] at e
    exact hn ys (Option.some.inj e).symm
  · by_cases q : a = L
    · exact ⟨_, q ▸ h⟩
    · obtain ⟨xs, z⟩ := Z.lst a e
      exact ⟨_, k a _ q z⟩
theorem Kq.put (k : KpL L H H') (x : X L) : Kq X H H' := fun a o n _ e => k a o (fun q => n (q ▸ x)) e
end
/-! ### calls -/
theorem rd_addL {X : Addr → Prop} {xs ys : List PyData} (h : xs.length + ys.length ≤ 1000000) : RD X rAddA (.list xs) (.list ys) (.list (xs ++ ys)) := RD.or2 (RD.or1 (rd_cat h))
section
variable {X : Addr → Prop} {H : Hp} {σ : L2.St} {Γ : List Sv} {T : List (Addr × Str)} {st cl : Addr} {n : Nat} {ta tb : TE} {E : XK} {d d1 d2 r : PyData} {Q : VK} {C C1 C2 C3 : Addr} {f1 f2 f3 t1 t2 t3 fl tag : Str}
theorem g_same {m : Nat} (t : Trk X H) (h1 : G X ta σ H d) (h2 : G X tb σ H d) (hs : sm m d) : G X (tCall (spSame m) [] E (tCons ta (tCons tb tNil))) σ H (.bool true) := fun H1 s Q q =>
  h1 H1 s _ fun v H2 s2 r1 => h2 H2 (s.trans s2) _ fun v2 H3 s3 r2 => ⟨X, v, v2, d, rfl, ((t.mono s).mono s2).mono s3, r1.mono (Kp.of s3), r2, hs, fun H' s4 => q _ H' ((s2.trans s3).trans s4) (.bl true)⟩
/-- repr as a datum -/
theorem g_repr {ds : List PyData} {m : Nat} (h : G X ta σ H (.list ds)) (hne : ds ≠ []) (hs : Sh m (.list ds)) (hm : m ≤ 5) : G X (tCB rReprL (tCons ta tNil)) σ H (.str (PyData.shown (.list ds))) := fun H1 s Q q =>
  h H1 s _ fun v H2 s2 r => ⟨X, v, ds, rfl, r, hne, by have := hs.1; simpa [shw] using this, by have := hs.2.2; simp only [PyData.depth] at this; omega, Nat.le_trans hs.2.1 (Nat.le_trans (lv_le hm) (by decide)), q _ H2 s2 (.str _)⟩
theorem gt_neS {a b : Str} (h1 : G X ta σ H (.str a)) (h2 : G X tb σ H (.str b)) : GT (tTest (tOp rNe ta tb)) σ H (!decide (a = b)) := fun H1 s Q q =>
  h1 H1 s _ fun u H2 s2 r => h2 H2 (s.trans s2) _ fun v H3 s3 r2 => by
    rw [r.str_inv, r2.str_inv]
    refine ⟨rfl, _, rfl, ?_⟩
    have e : decide (V.str a = V.str b) = decide (a = b) := by
      by_cases z : a = b
      · rw [z]
        simp
      · rw [decide_eq_false z, decide_eq_false fun q => z (by cases q; rfl)]
    rw [e]
    exact q H3 (s2.trans s3)
theorem r_repr {ds : List PyData} {m : Nat} {w : V} (r : DX X H w (.list ds)) (hne : ds ≠ []) (hs : Sh m (.list ds)) (hm : m ≤ 5) (q : Q (.str (PyData.shown (.list ds))) H) : rReprL [w] H Q :=
  ⟨X, w, ds, rfl, r, hne, by have := hs.1; simpa [shw] using this, by have := hs.2.2; simp only [PyData.depth] at this; omega, Nat.le_trans hs.2.1 (Nat.le_trans (lv_le hm) (by decide)), q⟩
end
section
variable {σ : L2.St} {H : Hp} {te ta tb : TE} {D : Ends} {r : R2} {Q : VK} {g : TG} {tz tu tw : TS} {tt tv : TT} {tl : TA} {K : PySem.W.Frag} {to th : TO} {Qb : Bool → Hp → Prop} {rs : V → Option Int → Option Int → Hp → VK → Prop}
theorem k_lst (h : tl σ H fun vs H1 => vs.length ≤ sizeLine ∧ ∀ p, H1 p = none → Q (.ref p) (upd H1 p (.lst vs))) : tLst tl σ H Q := h
theorem k_if (h : tt σ H fun b H1 => if b = true then tu { D with nx := tz D } σ H1 else tz D σ H1) : tSeq (tIfS tt tu tNext) tz D σ H := h
theorem k_if1 (h : tt σ H fun b H1 => if b = true then tu D σ H1 else D.nx σ H1) : tIfS tt tu tNext D σ H := h
theorem k_nil {Qa : List V → Hp → Prop} (h : Qa [] H) : tNil σ H Qa := h
theorem k_test (h : te σ H fun v H1 => ∃ b, v = V.bl b ∧ Qb b H1) : tTest te σ H Qb := h
theorem k_or (h : GT tt σ H false) (k : ∀ H1, Same H H1 → tv σ H1 Qb) : tOr tt tv σ H Qb := h H (Same.refl H) _ fun H1 s => k H1 s
end
end K18

/-! What passing tells: facts of texts. -/
namespace K18
open PySem PySem.Spec PyProof.Rows L2 KD KP
theorem pass_texts {ws os ns us vs : List Str} {p q x y : Nat} (hp : p + os.length ≤ ws.length) (hq : q + us.length ≤ ws.length - os.length + ns.length) (hx : x + us.length ≤ ws.length) (hy : y + os.length ≤ ws.length - us.length + vs.length)
    (h : PassAt p os.length ns.length q us.length vs.length x y) : putB (putB ws x us vs) y os ns = putB (putB ws p os ns) q us vs := by
  apply List.ext_getElem?
  intro i
  rw [put_get (ws := putB ws x us vs) (by rw [put_len hx]; exact hy), put_get (ws := putB ws p os ns) (by rw [put_len hp]; exact hq)]
  simp only [put_get hx, put_get hp]
  unfold PassAt at h
  rcases h with ⟨h1, rfl, h3⟩ | ⟨h1, h2, rfl⟩
  · repeat' split
    all_goals first | rfl | (exfalso; omega) | (congr 1; omega)
  · repeat' split
    all_goals first | rfl | (exfalso; omega) | (congr 1; omega)
/-! ### passing by numbers -/
theorem apart_iff {P Q : Int} {b d c : List Str} : apartB b d (P - Q - c.length) = true ↔ (Q + c.length < P ∨ (Q + c.length = P ∧ (b.length : Int) + d.length = 0)) := by
  unfold apartB
  simp only [Bool.or_eq_true, Bool.and_eq_true, decide_eq_true_eq]
  omega
theorem passB_Z {p q : Int} {os ns us vs : List Str} : passB p os ns q us vs = (match passZ p os.length ns.length q us.length vs.length with
    | none => .none
    | some (x, y) => .tuple [chD x us vs, chD y os ns]) := by
  unfold passB passZ passK
  by_cases h1 : apartB ns vs (p - q - us.length) = true
  · rw [if_pos h1, if_pos (apart_iff.mp h1)]
  · rw [if_neg h1, if_neg (fun z => h1 (apart_iff.mpr z))]
    by_cases h2 : apartB ns vs (q - p - ns.length) = true
    · rw [if_pos h2, if_pos (apart_iff.mp h2)]
    · rw [if_neg h2, if_neg (fun z => h2 (apart_iff.mpr z))]
theorem besideB_Z {p q : Int} {os ns us vs : List Str} : besideB p os ns q us vs = (match sideZ p os.length ns.length q us.length vs.length with
    | none => .none
    | some (x, y) => .tuple [chD x us vs, chD y os ns]) := by
  unfold besideB sideZ
  by_cases h1 : apartB ns vs (p - q - us.length) = true
  · rw [if_pos h1, if_pos (apart_iff.mp h1)]
  · rw [if_neg h1, if_neg (fun z => h1 (apart_iff.mpr z))]
    by_cases h2 : apartB ns vs (q - p - os.length) = true
    · rw [if_pos h2, if_pos (apart_iff.mp h2)]
    · rw [if_neg h2, if_neg (fun z => h2 (apart_iff.mpr z))]
theorem passZ_nat {p a b q c d : Nat} {X Y : Int} (h : passZ p a b q c d = some (X, Y)) : ∃ x y : Nat, X = x ∧ Y = y ∧ PassAt p a b q c d x y := by
  unfold passZ passK at h
  split at h
  · cases h
    exact ⟨q, p + d - c, rfl, by omega, .inl ⟨by omega, rfl, by omega⟩⟩
  · split at h
    · cases h
      exact ⟨q + a - b, p, by omega, rfl, .inr ⟨by omega, by omega, rfl⟩⟩
    · cases h
theorem sideZ_nat {p a b q c d : Nat} {X Y : Int} (h : sideZ p a b q c d = some (X, Y)) : 0 ≤ X ∧ 0 ≤ Y := by
  unfold sideZ at h
  split at h
  · cases h
    omega
  · split at h
    · cases h
      omega
    · cases h
/-! ### two neighbours that pass leave the same records -/
theorem stepH_len {s : Str} {p a b : Nat} {l : List Ln} (h : p + 1 + a ≤ l.length) : (stepH s p a b l).length = l.length - a + b := by
  unfold stepH
  rw [List.length_append, List.length_append, List.length_take, List.length_drop, own_len]
  omega
theorem step_pass {s t : Str} {p a b q c d x y : Nat} {l : List Ln} (hp : p + 1 + a < l.length) (hq : q + 1 + c < l.length - a + b) (h : PassAt p a b q c d x y) :
    x + 1 + c < l.length ∧ y + 1 + a < l.length - c + d ∧ stepH s y a b (stepH t x c d l) = stepH t q c d (stepH s p a b l) ∧ rowH t x c d l = rowH t q c d (stepH s p a b l) ∧ burH x c l = burH q c (stepH s p a b l) ∧
    rowH s y a b (stepH t x c d l) = rowH s p a b l ∧ burH y a (stepH t x c d l) = burH p a l := by
  have hx : x + 1 + c < l.length := by unfold PassAt at h; omega
  have hy : y + 1 + a < l.length - c + d := by unfold PassAt at h; omega
  have l1 : (stepH s p a b l).length = l.length - a + b := stepH_len (by omega)
  have l2 : (stepH t x c d l).length = l.length - c + d := stepH_len (by omega)
  have g1 : ∀ k, (stepH s p a b l)[k]? = if k ≤ p then l[k]? else if k ≤ p + b then some (s, k - p - 1) else l[k - b + a]? := fun k => step_get (by omega)
  have g2 : ∀ k, (stepH t x c d l)[k]? = if k ≤ x then l[k]? else if k ≤ x + d then some (t, k - x - 1) else l[k - d + c]? := fun k => step_get (by omega)
  unfold PassAt at h
  refine ⟨hx, hy, ?_, row_eq (fun z => ?_) (fun z => ?_), bur_eq (fun i hi => ?_), row_eq (fun z => ?_) (fun z => ?_), bur_eq (fun i hi => ?_)⟩
  · apply List.ext_getElem?
    intro k
    rw [step_get (l := stepH t x c d l) (by omega), step_get (l := stepH s p a b l) (by omega)]
    simp only [g1, g2]
    rcases h with ⟨h1, rfl, h3⟩ | ⟨h1, h2, rfl⟩
    · repeat' split
      all_goals first | rfl | (exfalso; omega) | (congr 1; omega) | (congr 2; omega)
    · repeat' split
      all_goals first | rfl | (exfalso; omega) | (congr 1; omega) | (congr 2; omega)
  · rw [g1]
    rcases h with ⟨h1, rfl, h3⟩ | ⟨h1, h2, rfl⟩
    · rw [if_pos (by omega)]
    · rw [if_neg (by omega), if_neg (by omega)]
      congr 1
      omega
  · rw [g1]
    rcases h with ⟨h1, rfl, h3⟩ | ⟨h1, h2, rfl⟩
    · rw [if_pos (by omega)]
    · rw [if_neg (by omega), if_neg (by omega)]
      congr 1
      omega
  · rw [g1]
    rcases h with ⟨h1, rfl, h3⟩ | ⟨h1, h2, rfl⟩
    · rw [if_pos (by omega)]
    · rw [if_neg (by omega), if_neg (by omega)]
      congr 1
      omega
  · rw [g2]
    rcases h with ⟨h1, rfl, h3⟩ | ⟨h1, h2, rfl⟩
    · rw [if_neg (by omega), if_neg (by omega)]
      congr 1
      omega
    · rw [if_pos (by omega)]
  · rw [g2]
    rcases h with ⟨h1, rfl, h3⟩ | ⟨h1, h2, rfl⟩
    · rw [if_neg (by omega), if_neg (by omega)]
      congr 1
      omega
    · rw [if_pos (by omega)]
  · rw [g2]
    rcases h with ⟨h1, rfl, h3⟩ | ⟨h1, h2, rfl⟩
    · rw [if_neg (by omega), if_neg (by omega)]
      congr 1
      omega
    · rw [if_pos (by omega)]
/-! ### words -/
def Wd (ws : List Str) : Prop := ws.length ≤ 100 ∧ ∀ z ∈ ws, isWordsD (.str z) = true ∧ PyData.strOk z = true
theorem Wd.ok {ws : List Str} (h : Wd ws) : WsOk ws := ⟨by have := h.1; omega, fun z hz => (h.2 z hz).2⟩
theorem Wd.of {ws : List Str} (hl : ws.length ≤ 100) (h : ∀ z ∈ ws, z ∈ goodW) : Wd ws := ⟨hl, fun z hz => ⟨goodW_is z (h z hz), allW_str z (good_all z (h z hz))⟩⟩
theorem Wd.wrong {ws : List Str} (h : Wd ws) : wrongD (wsD ws) = .none := by
  unfold wrongD
  rw [show isSeq (wsD ws) = true from rfl, if_pos rfl]
  exact ff_all fun z hz => by
    obtain ⟨s, hs, rfl⟩ := List.mem_map.mp hz
    exact (h.2 s hs).1
theorem Wd.all {ws : List Str} (h : Wd ws) : wordsAll (wsD ws) := fun _ => ⟨by show (ws.map PyData.str).length ≤ _; rw [List.length_map]; have := h.1; omega, fun z hz => by
  obtain ⟨s, hs, rfl⟩ := List.mem_map.mp hz
  have := (h.2 s hs).1
  simp only [isWordsD, Bool.and_eq_true, decide_eq_true_eq] at this
  show s.length ≤ 1000000
  omega⟩
def ChX (p : Int) (os ns : List Str) (d : PyData) : Prop := d = chD p os ns ∨ d = .list [.int p, wsD os, wsD ns]
section
variable {p q : Int} {os ns us vs ws : List Str} {a b d : PyData} {C : Addr}
theorem ChX.its (h : ChX p os ns d) : isSeq d = true ∧ itemsD d = [.int p, wsD os, wsD ns] := by
  rcases h with rfl | rfl <;> exact ⟨rfl, rfl⟩
theorem ChX.parts (h : ChX p os ns d) : it d 0 = .int p ∧ it d 1 = wsD os ∧ it d 2 = wsD ns := by
  obtain ⟨_, e⟩ := h.its
  unfold it
  rw [e]
  exact ⟨rfl, rfl, rfl⟩
theorem len_wsD : lenD (wsD ws) = ws.length := by
  show (ws.map PyData.str).length = _
  rw [List.length_map]
theorem ChX.is (h : ChX p os ns d) (h0 : 0 ≤ p) (g1 : Wd os) (g2 : Wd ns) (hl : 0 < os.length + ns.length) : isChangeD d = true := by
  obtain ⟨s, e⟩ := h.its
  obtain ⟨e0, e1, e2⟩ := h.parts
  unfold isChangeD ch3
  rw [s, e0, e1, e2, e, g1.wrong, g2.wrong, len_wsD, len_wsD]
  simp [isNumD, isNone, h0]
  omega
theorem ChX.pre (h : ChX p os ns d) (g1 : Wd os) (g2 : Wd ns) : chPre d := fun _ => by
  obtain ⟨s, e⟩ := h.its
  rw [e]
  refine ⟨by simp, fun z hz => ?_⟩
  simp at hz
  rcases hz with rfl | rfl | rfl
  · exact fun h => by cases h
  · exact g1.all
  · exact g2.all
theorem ChX.ok (h : ChX p os ns d) (g1 : Wd os) (g2 : Wd ns) : WsOk (wsOf (it d 1)) ∧ WsOk (wsOf (it d 2)) := by
  obtain ⟨_, e1, e2⟩ := h.parts
  rw [e1, e2, wsOf_wsD, wsOf_wsD]
  exact ⟨g1.ok, g2.ok⟩
theorem two_pre (ha : ChX p os ns a) (hb : ChX q us vs b) (g1 : Wd os) (g2 : Wd ns) (g3 : Wd us) (g4 : Wd vs) : twoPre a b := ⟨ha.pre g1 g2, hb.pre g3 g4, fun _ => ha.ok g1 g2, fun _ => hb.ok g3 g4⟩
theorem two_val {g : Int → List Str → List Str → Int → List Str → List Str → PyData} (ha : ChX p os ns a) (hb : ChX q us vs b) (i1 : isChangeD a = true) (i2 : isChangeD b = true) : twoOut g C a b = .val (g p os ns q us vs) := by
  obtain ⟨a0, a1, a2⟩ := ha.parts
  obtain ⟨b0, b1, b2⟩ := hb.parts
  unfold twoOut
  rw [i1, i2, a0, a1, a2, b0, b1, b2, wsOf_wsD, wsOf_wsD, wsOf_wsD, wsOf_wsD]
  rfl
theorem two_no1 {g : Int → List Str → List Str → Int → List Str → List Str → PyData} (i1 : isChangeD a = false) : twoOut g C a b = .err C "thing" a := by
  unfold twoOut
  rw [i1]
  rfl
theorem two_no2 {g : Int → List Str → List Str → Int → List Str → List Str → PyData} (i1 : isChangeD a = true) (i2 : isChangeD b = false) : twoOut g C a b = .err C "thing" b := by
  unfold twoOut
  rw [i1, i2]
  rfl
end
/-! ### small data are the same -/
theorem sm_leaf {d : PyData} (n : Nat) (h : leaf d = true) : sm n d := by
  cases n with
  | zero => exact h
  | succ n => cases d <;> first | exact h | cases h
theorem sm_ws {ws : List Str} (n : Nat) (h : WsOk ws) : sm (n + 1) (wsD ws) := ⟨by rw [List.length_map]; have := h.1; omega, fun z hz => by
  obtain ⟨x, hx, rfl⟩ := List.mem_map.mp hz
  exact sm_leaf n (h.2 x hx)⟩
theorem sm_ch {p : Int} {os ns : List Str} (n : Nat) (h1 : WsOk os) (h2 : WsOk ns) : sm (n + 2) (chD p os ns) := ⟨by simp, fun z hz => by
  simp at hz
  rcases hz with rfl | rfl | rfl
  · exact sm_leaf _ rfl
  · exact sm_ws n h1
  · exact sm_ws n h2⟩
theorem sm_two {p q : Int} {os ns us vs : List Str} (n : Nat) (h1 : WsOk os) (h2 : WsOk ns) (h3 : WsOk us) (h4 : WsOk vs) : sm (n + 3) (.tuple [chD p os ns, chD q us vs]) := ⟨by simp, fun z hz => by
  simp at hz
  rcases hz with rfl | rfl
  · exact sm_ch n h1 h2
  · exact sm_ch n h3 h4⟩
/-! ### what is drawn -/
theorem take_mem {α : Type} {l r : List α} {a b : Nat} (e : r = (l.drop a).take b) : ∀ z ∈ r, z ∈ l := fun z hz => by
  rw [e] at hz
  exact List.mem_of_mem_drop (List.mem_of_mem_take hz)
theorem put_in {ws ns os : List Str} {p : Int} {z : Str} (hz : z ∈ putB ws p os ns) : z ∈ ws ∨ z ∈ ns := by
  unfold putB at hz
  rcases List.mem_append.mp hz with h | h
  · rcases List.mem_append.mp h with h | h
    · exact .inl (List.mem_of_mem_take h)
    · exact .inr h
  · exact .inl (List.mem_of_mem_drop h)
end K18

/-! Runs of several steps: texts and records. -/
namespace K18
open PySem PySem.Spec PyProof.Rows L2 KD KP
/-! ### texts -/
def fitN (ws : List Str) (p : Nat) (os : List Str) : Prop := p + os.length ≤ ws.length ∧ (ws.drop p).take os.length = os
theorem swap2 {ws os ns us vs : List Str} {p q x y : Nat} (f1 : fitN ws p os) (f2 : fitN (putB ws p os ns) q us) (h : PassAt p os.length ns.length q us.length vs.length x y) :
    fitN ws x us ∧ fitN (putB ws x us vs) y os ∧ putB (putB ws x us vs) y os ns = putB (putB ws p os ns) q us vs := by
  obtain ⟨a1, a2⟩ := f1
  obtain ⟨b1, b2⟩ := f2
  rw [put_len a1] at b1
  obtain ⟨c1, c2, c3, c4⟩ := pass_fits a1 a2 b1 b2 h
  exact ⟨⟨c1, c2⟩, ⟨by rw [put_len c1]; exact c3, c4⟩, pass_texts a1 b1 c1 c3 h⟩
theorem swap3 {ws os ns us vs as bs : List Str} {p q r x2 y1 x3 z1 u3 u2 : Nat} (f1 : fitN ws p os) (f2 : fitN (putB ws p os ns) q us) (f3 : fitN (putB (putB ws p os ns) q us vs) r as)
    (h1 : PassAt p os.length ns.length q us.length vs.length x2 y1) (h2 : PassAt y1 os.length ns.length r as.length bs.length x3 z1) (h3 : PassAt x2 us.length vs.length x3 as.length bs.length u3 u2) :
    fitN ws u3 as ∧ fitN (putB ws u3 as bs) u2 us ∧ fitN (putB (putB ws u3 as bs) u2 us vs) z1 os ∧ putB (putB (putB ws u3 as bs) u2 us vs) z1 os ns = putB (putB (putB ws p os ns) q us vs) r as bs := by
  obtain ⟨a1, a2, a3⟩ := swap2 f1 f2 h1
  rw [← a3] at f3
  obtain ⟨b1, b2, b3⟩ := swap2 a2 f3 h2
  obtain ⟨c1, c2, c3⟩ := swap2 a1 b1 h3
  exact ⟨c1, c2, c3 ▸ b2, by rw [c3, b3, a3]⟩
/-! ### records -/
def okLn : Nat → List Stp → Prop
  | _, [] => True
  | n, r :: rs => (PyData.strOk r.name = true ∧ 0 ≤ r.p ∧ WsOk r.os ∧ WsOk r.ns ∧ r.p.toNat + r.os.length ≤ n) ∧ okLn (n - r.os.length + r.ns.length) rs
theorem fit_run : ∀ {rs : List Stp} {s : KDs × List Ln} {n : Nat}, s.2.length = n + 2 → n + 1000 * rs.length ≤ 90000 → okLn n rs → ∀ (i : Nat) (r : Stp), rs[i]? = some r → fitAt r ((rs.take i).foldl goRec s).2
  | [], _, _, _, _, _, i, r, h => by cases i <;> cases h
  | r0 :: rs, s, n, hl, hn, ⟨⟨o1, o2, o3, o4, o5⟩, ho⟩, i, r, h => by
    rw [List.length_cons] at hn
    have e4 := o4.1
    match i, h with
    | 0, h =>
      cases h
      exact ⟨o1, o2, o3, o4, by rw [List.take_zero, List.foldl_nil, hl]; omega, by rw [List.take_zero, List.foldl_nil, hl]; omega⟩
    | i + 1, h =>
      rw [List.take_succ_cons, List.foldl_cons]
      refine fit_run (n := n - r0.os.length + r0.ns.length) ?_ (by omega) ho i r h
      show (stepH r0.name r0.p.toNat r0.os.length r0.ns.length s.2).length = _
      rw [stepH_len (by omega), hl]
      omega
def recL : List Ln → List Stp → KDs
  | _, [] => []
  | l, r :: rs => (.inr r.name, recD r.name r.p r.os r.ns l) :: recL (stepH r.name r.p.toNat r.os.length r.ns.length l) rs
theorem recL_keys : ∀ {rs : List Stp} {l : List Ln}, (recL l rs).map Prod.fst = rs.map fun r => (Sum.inr r.name : Key)
  | [], _ => rfl
  | r :: rs, l => by
    unfold recL
    rw [List.map_cons, List.map_cons, recL_keys]
theorem recs_fold : ∀ {rs : List Stp} {d : KDs} {l : List Ln}, (rs.map Stp.name).Nodup → (∀ r ∈ rs, ∀ p ∈ d, p.1 ≠ .inr r.name) → (rs.foldl goRec (d, l)).1 = d ++ recL l rs
  | [], d, l, _, _ => by simp [recL]
  | r :: rs, d, l, nd, hd => by
    rw [List.map_cons, List.nodup_cons] at nd
    rw [List.foldl_cons]
    have e : goRec (d, l) r = (d ++ [(.inr r.name, recD r.name r.p r.os r.ns l)], stepH r.name r.p.toNat r.os.length r.ns.length l) := by
      show (putD d (.inr r.name) _, _) = _
      unfold putD
      rw [if_neg]
      intro z
      obtain ⟨p, hp, hq⟩ := List.any_eq_true.mp z
      exact hd r List.mem_cons_self p hp (of_decide_eq_true hq)
    rw [e, recs_fold nd.2, recL, List.append_assoc]
    · rfl
    · intro r2 h2 p hp
      rcases List.mem_append.mp hp with h | h
      · exact hd r2 (List.mem_cons_of_mem _ h2) p h
      · rw [List.mem_singleton.mp h]
        intro z
        have z' : r.name = r2.name := Sum.inr.inj z
        exact nd.1 (z' ▸ List.mem_map_of_mem (f := Stp.name) h2)
theorem recs_is {n : Nat} {rs : List Stp} (nd : (rs.map Stp.name).Nodup) : (recs n rs).1 = recL (here0 n) rs := by
  have := recs_fold (d := []) (l := here0 n) nd (fun r _ p hp => by cases hp)
  exact this
theorem valD_mem : ∀ {bs : KDs} {k : Key} {d : PyData}, (bs.map Prod.fst).Nodup → (k, d) ∈ bs → valD bs k = some d
  | [], _, _, _, h => by cases h
  | (k0, d0) :: bs, k, d, nd, h => by
    rw [List.map_cons, List.nodup_cons] at nd
    unfold valD
    rw [List.find?_cons]
    rcases List.mem_cons.mp h with e | e
    · cases e
      simp
    · have ne : k0 ≠ k := fun z => nd.1 (by show k0 ∈ _; rw [z]; exact List.mem_map_of_mem (f := Prod.fst) e)
      simp only [ne, decide_false]
      have := valD_mem nd.2 e
      unfold valD at this
      exact this
theorem hitB_all {bs : KDs} : ∀ {as : KDs}, (∀ p ∈ as, valD bs p.1 = some p.2 ∧ PyData.eqv p.2 p.2 = true) → hitB bs as = true
  | [], _ => rfl
  | p :: as, h => by
    obtain ⟨h1, h2⟩ := h p List.mem_cons_self
    unfold hitB
    rw [h1]
    show (PyData.eqv p.2 p.2 && hitB bs as) = true
    rw [h2, hitB_all fun q hq => h q (List.mem_cons_of_mem _ hq)]
    rfl
theorem eqK_perm {as bs : KDs} (hp : as.Perm bs) (nd : (bs.map Prod.fst).Nodup) (h : ∀ p ∈ as, PyData.eqv p.2 p.2 = true) : eqK as bs = true := by
  unfold eqK
  rw [Bool.and_eq_true]
  exact ⟨decide_eq_true hp.length_eq, hitB_all fun p m => ⟨valD_mem nd (hp.mem_iff.mp m), h p m⟩⟩
theorem recL_eqv : ∀ {rs : List Stp} {l : List Ln}, ∀ p ∈ recL l rs, PyData.eqv p.2 p.2 = true
  | [], _, p, h => by cases h
  | r :: rs, l, p, h => by
    unfold recL at h
    rcases List.mem_cons.mp h with e | e
    · rw [e]
      exact (eqv_rec (name := r.name) (p := r.p) (q := r.p) (os := r.os) (ns := r.ns) (l := l) (m := l)).1 ⟨rfl, rfl⟩
    · exact recL_eqv p e
/-- a run with a change of order: the records are the same -/
theorem rec_same {nm : Str} {p q : Nat} {os ns : List Str} {l m : List Ln} (h1 : rowH nm p os.length ns.length l = rowH nm q os.length ns.length m) (h2 : burH p os.length l = burH q os.length m) : recD nm (p : Int) os ns l = recD nm (q : Int) os ns m := by
  unfold recD
  rw [Int.toNat_natCast, Int.toNat_natCast, h1, h2]
theorem recs3 {n : Nat} {a b c : Str} {os ns us vs as bs : List Str} {p q r x2 y1 x3 z1 u3 u2 : Nat} (nd : [a, b, c].Nodup) (hp : p + os.length ≤ n) (hq : q + us.length ≤ n - os.length + ns.length) (hr : r + as.length ≤ n - os.length + ns.length - us.length + vs.length)
    (h1 : PassAt p os.length ns.length q us.length vs.length x2 y1) (h2 : PassAt y1 os.length ns.length r as.length bs.length x3 z1) (h3 : PassAt x2 us.length vs.length x3 as.length bs.length u3 u2) :
    eqK (recs n [⟨c, u3, as, bs⟩, ⟨b, u2, us, vs⟩, ⟨a, z1, os, ns⟩]).1 (recs n [⟨a, p, os, ns⟩, ⟨b, q, us, vs⟩, ⟨c, r, as, bs⟩]).1 = true := by
  have nd' : [c, b, a].Nodup := (List.reverse_perm [a, b, c]).nodup_iff.mpr nd
  rw [recs_is (rs := [⟨a, p, os, ns⟩, ⟨b, q, us, vs⟩, ⟨c, r, as, bs⟩]) nd, recs_is (rs := [⟨c, u3, as, bs⟩, ⟨b, u2, us, vs⟩, ⟨a, z1, os, ns⟩]) nd']
  have l0 : (here0 n).length = n + 2 := here0_len
  obtain ⟨A1, A2, A3, A4, A5, A6, A7⟩ := step_pass (s := a) (t := b) (l := here0 n) (by omega) (by omega) h1
  have l1 : (stepH a p os.length ns.length (here0 n)).length = n + 2 - os.length + ns.length := by rw [stepH_len (by omega), l0]
  have l2 : (stepH b x2 us.length vs.length (here0 n)).length = n + 2 - us.length + vs.length := by rw [stepH_len (by omega), l0]
  obtain ⟨B1, B2, B3, B4, B5, B6, B7⟩ := step_pass (s := a) (t := c) (l := stepH b x2 us.length vs.length (here0 n)) (by omega) (by omega) h2
  obtain ⟨C1, C2, C3, C4, C5, C6, C7⟩ := step_pass (s := b) (t := c) (l := here0 n) (by omega) (by omega) h3
  have e : recL (here0 n) [⟨c, u3, as, bs⟩, ⟨b, u2, us, vs⟩, ⟨a, z1, os, ns⟩] = (recL (here0 n) [⟨a, p, os, ns⟩, ⟨b, q, us, vs⟩, ⟨c, r, as, bs⟩]).reverse := by
    simp only [recL, Int.toNat_natCast, List.reverse_cons, List.reverse_nil, List.nil_append, List.cons_append]
    rw [C3]
    rw [rec_same (C4.trans (B4.trans (by rw [A3]))) (C5.trans (B5.trans (by rw [A3]))), rec_same (C6.trans A4) (C7.trans A5), rec_same (B6.trans A6) (B7.trans A7)]
  rw [e]
  refine eqK_perm (List.reverse_perm _) ?_ fun p hp => recL_eqv p (List.mem_reverse.mp hp)
  rw [recL_keys]
  exact List.Pairwise.map (fun (r : Stp) => (Sum.inr r.name : Key)) (R := fun r s => r.name ≠ s.name) (fun r s h z => h (Sum.inr.inj z)) (List.Pairwise.of_map Stp.name (fun r s h => h) nd)
end K18

/-! Names, pairs; three changes turned about. -/
namespace K18
open PySem PySem.Spec PyProof.Rows L2 KD KP
-- RAISES change_of checked_text passed side_by_side
variable {P : Program} {w : World} {K : PySem.W.Frag} {mg : Str → Option Value} {base : Heap}
def SIGNS_S : Str := "abcdefghijklmnopqrstuvwxyz0123456789"
abbrev s_is_pair : Stmt := topS 10
abbrev n_is_pair : List Str := ["thing"]
theorem sc_is_pair : FnScope n_is_pair ["thing"] (defScope s_is_pair) := ⟨rfl, rfl, rfl, by decide +kernel, rfl, by decide +kernel, by decide +kernel⟩
theorem ok_is_pair {f : Addr} {fd : FuncData} (F : Fun K "is_pair" "is_pair" s_is_pair f fd) (T : Bl mg) (O_is_list : Own P w K mg base CX0 1 "is_list" ["thing"] (sp1 (fun _ => True) fun d => .bool (isSeq d))) : FnOk P w K mg base CX0 2 f fd ["thing"] (sp1 (fun _ => True) fun d => .bool (isSeq d && decide (lenD d = 2))) := by
  refine ok1 F sc_is_pair (by decide) fun cdv A outer s H E X d Q hr t _ q => ⟨_, (pss_one (ps_ret (pe_and (pe_own O_is_list hr (by decide) (by rfl) (pa_cons (pv 0) pa_nil)) (pe_one (pe_cmpR (op_eqD hr.units) (pe_callB call_len (by rfl) T.b_len boot_len (pa_cons (pv 0) pa_nil)) pe_int (nomark _)))))), fun σ En => ?_⟩
  refine s_ret (g_and (g_call1 t (g_var En rfl) trivial) fun hb => g_is (g_eqD t (g_len t (g_var (i := 0) En rfl) (hasLen_seq hb)) g_int rfl rfl (shaped_int _) (shaped_int _)) (by rw [eqv_int]; congr 1; exact decide_eq_decide.mpr (by omega))) q
/-! ### texts, sign by sign -/
section
variable {X : Addr → Prop} {σ : L2.St} {H : Hp} {ta tb tc te : TE} {x y z : PyData} {r r' : R2} {a b : Bool}
theorem g_chain (t : Trk X H) (ha : G X ta σ H x) (hb : G X tb σ H y) (hc : a = true → G X tc σ H z) (h1 : RB X r x y a) (h2 : RB X r' y z b) : G X (tChain r r' ta tb tc) σ H (.bool (a && b)) := fun H1 s Q q =>
  ha H1 s _ fun u H2 s2 ru => hb H2 (s.trans s2) _ fun v H3 s3 rv => by
    have t3 := ((t.mono s).mono s2).mono s3
    refine h1 H3 u v t3 (ru.mono (Kp.of s3)) rv _ ⟨a, rfl, ?_⟩
    cases a with
    | false => exact q _ H3 (s2.trans s3) (.bl _)
    | true =>
      refine hc rfl H3 ((s.trans s2).trans s3) _ fun w' H4 s4 rw' => ?_
      exact h2 H4 v w' (t3.mono s4) (rv.mono (Kp.of s4)) rw' _ (q _ H4 ((s2.trans s3).trans s4) (.bl _))
theorem rb_leS {i j : Str} : RB X (fun x y H Q => ∃ i j, x = V.str i ∧ y = V.str j ∧ Q (V.bl (!decide (j.cps.toList < i.cps.toList))) H) (.str i) (.str j) (!decide (j.cps.toList < i.cps.toList)) := fun H u v _ ru rv Q q => ⟨i, j, ru.str_inv, rv.str_inv, q⟩
theorem rb_inS {c : Nat} {z : Str} : RB X rInS (.str ⟨#[c]⟩) (.str z) (decide (c ∈ z.cps.toList)) := fun H u v _ ru rv Q q => ⟨c, z, ru.str_inv, rv.str_inv, q⟩
theorem g_ixS {z : Str} {i : Int} {c : Nat} (ha : G X ta σ H (.str z)) (hb : G X tb σ H (.int i)) (hl : z.length ≤ 1000000) (h : atI z.cps.toList i = some c) : G X (tOp rIxS ta tb) σ H (.str ⟨#[c]⟩) := fun H1 s Q q =>
  ha H1 s _ fun u H2 s2 ru => hb H2 (s.trans s2) _ fun v H3 s3 rv => ⟨z, i, c, ru.str_inv, rv.int_inv, by rw [sizeLine_eq]; omega, h, q _ H3 (s2.trans s3) (.str _)⟩
theorem gi_str {z : Str} (h : G X te σ H (.str z)) : GI X (iStr te) σ H (z.cps.toList.map fun c => .str ⟨#[c]⟩) := fun H1 s R rr => h H1 s _ fun v H2 s2 rv =>
  ⟨z, rv.str_inv, rr _ H2 s2 ⟨_, _, by rw [List.length_map, Array.length_toList]; exact walk_str, fun X' m H3 k t => ⟨trivial, fun i x H4 yy => by
    obtain ⟨rfl, c, hc, rfl⟩ := yy
    exact ⟨Same.refl _, .str ⟨#[c]⟩, by rw [List.getElem?_map, Array.getElem?_toList, hc]; rfl, .str _⟩⟩⟩⟩
theorem g_all {bs : List Bool} (t : Trk X H) (h : G X te σ H (.list (bs.map PyData.bool))) : G X (tCB (rAll K) (tCons te tNil)) σ H (.bool (bs.all id)) := g_cb t (ga_cons h ga_nil) rf_all
theorem g_any {bs : List Bool} (t : Trk X H) (h : G X te σ H (.list (bs.map PyData.bool))) : G X (tCB (rAny K) (tCons te tNil)) σ H (.bool (bs.any id)) := fun H1 s Q q =>
  h H1 s _ fun v H2 s2 rv => by
    obtain ⟨p, xs, rfl, n, e, rx⟩ := rv.lst_inv
    have ex : xs = bs.map V.bl := by
      clear q e rv h
      induction bs generalizing xs with
      | nil => cases rx; rfl
      | cons b bs ih =>
        cases rx with
        | cons h1 h2 => rw [h1.bl_inv, ih _ h2]; rfl
    exact ⟨p, bs, rfl, SqL.of (ex ▸ e), q _ H2 s2 (.bl _)⟩
end
-- HINT is_name ix ix_str
-- HINT is_name it pi_str
-- HINT is_name in op_inS
abbrev s_is_name : Stmt := topS 11
abbrev n_is_name : List Str := ["thing", "sign"]
theorem sc_is_name : FnScope n_is_name ["thing"] (defScope s_is_name) := ⟨rfl, rfl, rfl, by decide +kernel, rfl, by decide +kernel, by decide +kernel⟩
theorem names_ok : ∀ s ∈ runNames, (decide ((1 : Int) ≤ (s.length : Int)) && decide ((s.length : Int) ≤ 12)) = true ∧ s.length ≤ 1000000 ∧ (∃ c, atI s.cps.toList 0 = some c ∧ (!decide ((⟨#[c]⟩ : Str).cps.toList < ("a" : Str).cps.toList)) = true ∧ (!decide (("z" : Str).cps.toList < (⟨#[c]⟩ : Str).cps.toList)) = true) ∧ (s.cps.toList.map fun c => decide (c ∈ SIGNS_S.cps.toList)).all id = true := by
  intro s hs
  simp only [runNames, List.mem_cons, List.not_mem_nil, or_false] at hs
  rcases hs with rfl | rfl | rfl | rfl | rfl | rfl
  all_goals exact ⟨by decide +kernel, by decide +kernel, ⟨_, rfl, by decide +kernel, by decide +kernel⟩, by decide +kernel⟩
theorem ok_is_name {f : Addr} {fd : FuncData} {tS : Tok} (F : Fun K "is_name" "is_name" s_is_name f fd) (T : Bl mg) (g_SIGNS : mg "SIGNS" = some (.str SIGNS_S tS)) : FnOk P w K mg base CX0 1 f fd ["thing"] (sp1 (fun d => ∃ s ∈ runNames, d = .str s) fun _ => .bool true) := by
  refine ok1 F sc_is_name (by decide) fun cdv A outer s H E X d Q hr t hp q => ⟨_, (pss_cons (ps_if (PW.pt (pw_or (pt_not (pt_val (pe_callB call_isi (by rfl) T.b_isinstance boot_isinstance (pa_cons (pv 0) (pa_cons (pe_bltn (v := .ty "str") (by rfl) T.b_str boot_str rfl) pa_nil))))) (pw_or1 (pt_not (pt_chain op_le op_le pe_int (pe_callB call_len (by rfl) T.b_len boot_len (pa_cons (pv 0) pa_nil)) pe_int)))))
    (pss_one (ps_ret pe_bl)) pss_nil)
    (pss_one (ps_ret (pe_and (pe_chain op_le_str op_le_str pe_str (pe_ix ix_str (pv 0) pe_int (fun _ _ => rfl)) pe_str) (pe_one (pe_callB (cr_all rfl) (by rfl) T.b_all boot_all (pa_cons (pe_lc (own := [("sign", 1)]) (g := (gName 1)) (tt := tYes) rfl sc_is_name.nd (pi_str (pv 0)) (blkOk_by (N := n_is_name) (sc := defScope s_is_name) (by decide +kernel)) (fun _ _ _ _ _ => (pg_name (i := 1) sc_is_name.nd rfl (by first | exact Or.inl rfl | exact Or.inr rfl))) (fun _ _ _ _ _ => pts_nil) (fun _ _ _ _ _ => (pe_cmpR op_inS (pv 1) (pe_glob (v := .str SIGNS_S) (by rfl) g_SIGNS ⟨_, rfl⟩) (by rfl)))) pa_nil))))))), fun σ En => ?_⟩
  obtain ⟨z, hz, rfl⟩ := hp
  obtain ⟨n1, n2, ⟨c, n3, n4, n5⟩, n6⟩ := names_ok z hz
  refine q_if (b := false) (gt_is (gt_or (gt_not (gt_B (g_isStr (g_var (i := 0) En rfl)))) fun _ => gt_not (gt_test (g_is (g_chain t g_int (g_len t (g_var (i := 0) En rfl) (by simpa [hasLen] using n2)) (fun _ => g_int) rb_I0 rb_I0) (by
    show PyData.bool (decide ((1 : Int) ≤ (z.length : Int)) && decide ((z.length : Int) ≤ 12)) = _
    rw [n1])))) rfl) (fun h => by cases h) fun _ H1 s1 => ?_
  have E1 := En.same s1
  have t1 := t.mono s1
  refine s_ret (X := X) (d := .bool true) (g_is (g_and (g_is (g_chain t1 g_str (g_ixS (g_var (i := 0) E1 rfl) g_int n2 n3) (fun _ => g_str) rb_leS rb_leS) (by rw [n4, n5])) fun _ => g_is (g_all t1 (bs := z.cps.toList.map fun c => decide (c ∈ SIGNS_S.cps.toList)) (g_is (g_lc1 (fun d => match d with | .str s => .bool (decide (s.cps.getD 0 0 ∈ SIGNS_S.cps.toList)) | _ => .none) t1 (gi_str (g_var (i := 0) E1 rfl)) (by rw [List.length_map, Array.length_toList]; exact n2) (fun H1 s d hd => tgt_name (E1.same s)) (fun X' H1 σ2 d hd t E => ?_)) ?_)) (by rw [n6])) rfl) fun w H2 s2 dw => q w H2 (s1.trans s2) dw
  · obtain ⟨c, hc, rfl⟩ := List.mem_map.mp hd
    exact g_op t (g_var (i := 1) E rfl) g_str (RB.rd (b := decide (c ∈ SIGNS_S.cps.toList)) rb_inS)
  · rw [List.map_map, List.map_map]
    rfl
/-! ### by the one way, by the other -/
def triD (as bs us vs os ns : List Str) : Option (Int × Int × Int) → PyData
  | none => .none
  | some (u3, u2, z1) => .list [chD u3 as bs, chD u2 us vs, chD z1 os ns]
theorem oneZ_eq {p a b q c d r e f : Int} : oneZ p a b q c d r e f = (passZ p a b q c d).bind fun xy => (passZ xy.2 a b r e f).bind fun uv => (passZ xy.1 c d uv.1 e f).bind fun st => some (st.1, st.2, uv.2) := by
  unfold oneZ
  rw [passK_eq]
  congr 1
  funext xy
  rw [passK_eq]
  congr 1
  funext uv
  rw [passK_eq]
theorem othZ_eq {p a b q c d r e f : Int} : othZ p a b q c d r e f = (passZ q c d r e f).bind fun xy => (passZ p a b xy.1 e f).bind fun uv => (passZ uv.2 a b xy.2 c d).bind fun st => some (uv.1, st.1, st.2) := by
  unfold othZ
  rw [passK_eq]
  congr 1
  funext xy
  rw [passK_eq]
  congr 1
  funext uv
  rw [passK_eq]
def spTri (g : Int → Int → Int → Int → Int → Int → Int → Int → Int → Option (Int × Int × Int)) : Sp := fun vs H Q _ => ∃ (X : Addr → Prop) (v1 v2 v3 : V) (p q r : Nat) (os ns us ws as bs : List Str), vs = [v1, v2, v3] ∧ Trk X H ∧ DX X H v1 (chD p os ns) ∧ DX X H v2 (chD q us ws) ∧ DX X H v3 (chD r as bs) ∧
  Wd os ∧ Wd ns ∧ Wd us ∧ Wd ws ∧ Wd as ∧ Wd bs ∧ 0 < os.length + ns.length ∧ 0 < us.length + ws.length ∧ 0 < as.length + bs.length ∧
  ∀ w H', Same H H' → DX X H' w (triD as bs us ws os ns (g p os.length ns.length q us.length ws.length r as.length bs.length)) → Q w H'
section
variable {X : Addr → Prop} {σ : L2.St} {H : Hp} {ta tb : TE} {E : XK} {p q : Nat} {os ns us vs : List Str} {C : Addr}
/-- a passing of told changes -/
theorem g_pass (t : Trk X H) (h1 : G X ta σ H (chD p os ns)) (h2 : G X tb σ H (chD q us vs)) (g1 : Wd os) (g2 : Wd ns) (g3 : Wd us) (g4 : Wd vs) (l1 : 0 < os.length + ns.length) (l2 : 0 < us.length + vs.length) :
    G X (tCall (spX2 twoPre (twoOut passB C)) [] E (tCons ta (tCons tb tNil))) σ H (match passZ p os.length ns.length q us.length vs.length with
    | none => .none
    | some (x, y) => .tuple [chD x us vs, chD y os ns]) := by
  have c1 : ChX (p : Int) os ns (chD p os ns) := .inl rfl
  have c2 : ChX (q : Int) us vs (chD q us vs) := .inl rfl
  exact g_X2 t h1 h2 (two_pre c1 c2 g1 g2 g3 g4) ((two_val c1 c2 (c1.is (by omega) g1 g2 l1) (c2.is (by omega) g3 g4 l2)).trans (congrArg Out.val passB_Z))
/-- if it is not None -/
theorem g_unless {i : Nat} {Γ : List Sv} {te : TE} {d e : PyData} (t : Trk X H) (En : EnvOk X H σ Γ) (hi : Γ[i]? = some (.dat d)) (h : isNone d = false → G X te σ H e) (hn : isNone d = true → e = .none) :
    G X (tIf (tTest (tOp (fun x y H Q => y = V.non ∧ Q (V.bl (!decide (x = V.non))) H) (tVar i) (tC .non))) te (tC .non)) σ H e :=
  g_if (gt_op t (g_var En hi) g_non rb_notN) (fun hb => h (by simpa using hb)) fun hb => by rw [hn (by simpa using hb)]; exact g_non
end
abbrev s__law_by_one : Stmt := topS 41
abbrev n__law_by_one : List Str := ["_law_one", "_law_two", "_law_three", "_law_pair", "_law_rest", "_law_last"]
theorem sc__law_by_one : FnScope n__law_by_one ["_law_one", "_law_two", "_law_three"] (defScope s__law_by_one) := ⟨rfl, rfl, rfl, by decide +kernel, rfl, by decide +kernel, by decide +kernel⟩
theorem ok_by_one {f Cc : Addr} {fd : FuncData} (F : Fun K "_law_by_one" "_law_by_one" s__law_by_one f fd) (T : Bl mg) (O_passed : Own P w K mg base (L2.CX P w) 5 "passed" ["one", "two"] (spX2 twoPre (twoOut passB Cc))) : FnOk P w K mg base CX0 6 f fd ["_law_one", "_law_two", "_law_three"] (spTri oneZ) := by
  refine F.ok sc__law_by_one (fun vs H Q E h => ?_) (fun cdv A outer s H vs Q E hr h => ?_)
  · obtain ⟨X, v1, v2, v3, p, q, r, os, ns, us, ws, as, bs, rfl, _⟩ := h
    rfl
  · obtain ⟨X, v1, v2, v3, p, q, r, os, ns, us, ws, as, bs, rfl, t, d1, d2, d3, w1, w2, w3, w4, w5, w6, l1, l2, l3, k⟩ := h
    refine ⟨_, (pss_cons (ps_set (i := 3) sc__law_by_one.nd rfl (by first | exact Or.inl rfl | exact Or.inr rfl) (pe_ownX O_passed hr (by decide) LamX.takes0 (by rfl) (pa_cons (pv 0) (pa_cons (pv 1) pa_nil))))
    (pss_cons (ps_set (i := 4) sc__law_by_one.nd rfl (by first | exact Or.inl rfl | exact Or.inr rfl) (pe_ifExp (pt_cmpR op_notN (pv 3) pe_non (nomark _)) (pe_ownX O_passed hr (by decide) LamX.takes0 (by rfl) (pa_cons (pe_ix ix_seq (pv 3) pe_int (fun _ _ => rfl)) (pa_cons (pv 2) pa_nil))) pe_non))
    (pss_cons (ps_set (i := 5) sc__law_by_one.nd rfl (by first | exact Or.inl rfl | exact Or.inr rfl) (pe_ifExp (pt_cmpR op_notN (pv 4) pe_non (nomark _)) (pe_ownX O_passed hr (by decide) LamX.takes0 (by rfl) (pa_cons (pe_ix ix_seq (pv 3) pe_int (fun _ _ => rfl)) (pa_cons (pe_ix ix_seq (pv 4) pe_int (fun _ _ => rfl)) pa_nil))) pe_non))
    (pss_one (ps_ret (pe_ifExp (pt_cmpR op_isN (pv 5) pe_non (nomark _)) pe_non (pe_lst (pa_cons (pe_ix ix_seq (pv 5) pe_int (fun _ _ => rfl)) (pa_cons (pe_ix ix_seq (pv 5) pe_int (fun _ _ => rfl)) (pa_cons (pe_ix ix_seq (pv 4) pe_int (fun _ _ => rfl)) pa_nil)))))))))), ?_⟩
    have En : EnvOk X H (L2.start n__law_by_one [v1, v2, v3]) (pad n__law_by_one [.dat (chD p os ns), .dat (chD q us ws), .dat (chD r as bs)]) := env3 d1 d2 d3 (by decide)
    rw [oneZ_eq] at k
    refine q_set (i := 3) En (g_pass t (g_var (i := 0) En rfl) (g_var (i := 1) En rfl) w1 w2 w3 w4 l1 l2) fun H1 v1 s1 E1 => ?_
    have t1 := t.mono s1
    rcases e1 : passZ p os.length ns.length q us.length ws.length with _ | ⟨X2, Y1⟩
    · rw [e1] at E1 k
      refine q_set (i := 4) (d := .none) E1 (g_unless t1 E1 rfl (fun h => by cases h) fun _ => rfl) fun H2 v2 s2 E2 => ?_
      refine q_set (i := 5) (d := .none) E2 (g_unless (t1.mono s2) E2 rfl (fun h => by cases h) fun _ => rfl) fun H3 v3 s3 E3 => ?_
      exact s_ret (X := X) (d := .none) (g_if (b := true) (gt_op ((t1.mono s2).mono s3) (g_var (i := 5) E3 rfl) g_non rb_isN) (fun _ => g_non) fun h => by cases h) fun w H' s' dw => k w H' (((s1.trans s2).trans s3).trans s') dw
    · obtain ⟨x2, y1, rfl, rfl, _⟩ := passZ_nat e1
      rw [e1] at E1 k
      refine q_set (i := 4) E1 (g_unless t1 E1 rfl (fun _ => g_pass (p := y1) (q := r) t1 (g_ixT (ds := [chD x2 us ws, chD y1 os ns]) t1 (g_var (i := 3) E1 rfl) g_int rfl) (g_var (i := 2) E1 rfl) w1 w2 w5 w6 l1 l3) fun h => by cases h) fun H2 v2 s2 E2 => ?_
      have t2 := t1.mono s2
      replace k : ∀ w H', Same H H' → DX X H' w (triD as bs us ws os ns ((passZ y1 os.length ns.length r as.length bs.length).bind fun uv => (passZ x2 us.length ws.length uv.1 as.length bs.length).bind fun st => some (st.1, st.2, uv.2))) → Q w H' := k
      rcases e2 : passZ y1 os.length ns.length r as.length bs.length with _ | ⟨X3, Z1⟩
      · rw [e2] at E2 k
        refine q_set (i := 5) (d := .none) E2 (g_unless t2 E2 rfl (fun h => by cases h) fun _ => rfl) fun H3 v3 s3 E3 => ?_
        exact s_ret (X := X) (d := .none) (g_if (b := true) (gt_op (t2.mono s3) (g_var (i := 5) E3 rfl) g_non rb_isN) (fun _ => g_non) fun h => by cases h) fun w H' s' dw => k w H' (((s1.trans s2).trans s3).trans s') dw
      · obtain ⟨x3, z1, rfl, rfl, _⟩ := passZ_nat e2
        rw [e2] at E2 k
        refine q_set (i := 5) E2 (g_unless t2 E2 rfl (fun _ => g_pass (p := x2) (q := x3) t2 (g_ixT (ds := [chD x2 us ws, chD y1 os ns]) t2 (g_var (i := 3) E2 rfl) g_int rfl) (g_ixT (ds := [chD x3 as bs, chD z1 os ns]) t2 (g_var (i := 4) E2 rfl) g_int rfl) w3 w4 w5 w6 l2 l3) fun h => by cases h) fun H3 v3 s3 E3 => ?_
        have t3 := t2.mono s3
        replace k : ∀ w H', Same H H' → DX X H' w (triD as bs us ws os ns ((passZ x2 us.length ws.length x3 as.length bs.length).bind fun st => some (st.1, st.2, (z1 : Int)))) → Q w H' := k
        rcases e3 : passZ x2 us.length ws.length x3 as.length bs.length with _ | ⟨U3, U2⟩
        · rw [e3] at E3 k
          exact s_ret (X := X) (d := .none) (g_if (b := true) (gt_op t3 (g_var (i := 5) E3 rfl) g_non rb_isN) (fun _ => g_non) fun h => by cases h) fun w H' s' dw => k w H' (((s1.trans s2).trans s3).trans s') dw
        · rw [e3] at E3 k
          exact s_ret (X := X) (d := .list [chD U3 as bs, chD U2 us ws, chD z1 os ns]) (g_if (b := false) (gt_op t3 (g_var (i := 5) E3 rfl) g_non rb_isN) (fun h => by cases h) fun _ => g_lst t3 (ga_cons (g_ixT (ds := [chD U3 as bs, chD U2 us ws]) t3 (g_var (i := 5) E3 rfl) g_int rfl) (ga_cons (g_ixT (ds := [chD U3 as bs, chD U2 us ws]) t3 (g_var (i := 5) E3 rfl) g_int rfl) (ga_cons (g_ixT (ds := [chD x3 as bs, chD z1 os ns]) t3 (g_var (i := 4) E3 rfl) g_int rfl) ga_nil))) (by simp)) fun w H' s' dw => k w H' (((s1.trans s2).trans s3).trans s') dw
abbrev s__law_by_other : Stmt := topS 42
abbrev n__law_by_other : List Str := ["_law_one", "_law_two", "_law_three", "_law_pair", "_law_rest", "_law_last"]
theorem sc__law_by_other : FnScope n__law_by_other ["_law_one", "_law_two", "_law_three"] (defScope s__law_by_other) := ⟨rfl, rfl, rfl, by decide +kernel, rfl, by decide +kernel, by decide +kernel⟩
theorem ok_by_other {f Cc : Addr} {fd : FuncData} (F : Fun K "_law_by_other" "_law_by_other" s__law_by_other f fd) (T : Bl mg) (O_passed : Own P w K mg base (L2.CX P w) 5 "passed" ["one", "two"] (spX2 twoPre (twoOut passB Cc))) : FnOk P w K mg base CX0 6 f fd ["_law_one", "_law_two", "_law_three"] (spTri othZ) := by
  refine F.ok sc__law_by_other (fun vs H Q E h => ?_) (fun cdv A outer s H vs Q E hr h => ?_)
  · obtain ⟨X, v1, v2, v3, p, q, r, os, ns, us, ws, as, bs, rfl, _⟩ := h
    rfl
  · obtain ⟨X, v1, v2, v3, p, q, r, os, ns, us, ws, as, bs, rfl, t, d1, d2, d3, w1, w2, w3, w4, w5, w6, l1, l2, l3, k⟩ := h
    refine ⟨_, (pss_cons (ps_set (i := 3) sc__law_by_other.nd rfl (by first | exact Or.inl rfl | exact Or.inr rfl) (pe_ownX O_passed hr (by decide) LamX.takes0 (by rfl) (pa_cons (pv 1) (pa_cons (pv 2) pa_nil))))
    (pss_cons (ps_set (i := 4) sc__law_by_other.nd rfl (by first | exact Or.inl rfl | exact Or.inr rfl) (pe_ifExp (pt_cmpR op_notN (pv 3) pe_non (nomark _)) (pe_ownX O_passed hr (by decide) LamX.takes0 (by rfl) (pa_cons (pv 0) (pa_cons (pe_ix ix_seq (pv 3) pe_int (fun _ _ => rfl)) pa_nil))) pe_non))
    (pss_cons (ps_set (i := 5) sc__law_by_other.nd rfl (by first | exact Or.inl rfl | exact Or.inr rfl) (pe_ifExp (pt_cmpR op_notN (pv 4) pe_non (nomark _)) (pe_ownX O_passed hr (by decide) LamX.takes0 (by rfl) (pa_cons (pe_ix ix_seq (pv 4) pe_int (fun _ _ => rfl)) (pa_cons (pe_ix ix_seq (pv 3) pe_int (fun _ _ => rfl)) pa_nil))) pe_non))
    (pss_one (ps_ret (pe_ifExp (pt_cmpR op_isN (pv 5) pe_non (nomark _)) pe_non (pe_lst (pa_cons (pe_ix ix_seq (pv 4) pe_int (fun _ _ => rfl)) (pa_cons (pe_ix ix_seq (pv 5) pe_int (fun _ _ => rfl)) (pa_cons (pe_ix ix_seq (pv 5) pe_int (fun _ _ => rfl)) pa_nil)))))))))), ?_⟩
    have En : EnvOk X H (L2.start n__law_by_other [v1, v2, v3]) (pad n__law_by_other [.dat (chD p os ns), .dat (chD q us ws), .dat (chD r as bs)]) := env3 d1 d2 d3 (by decide)
    rw [othZ_eq] at k
    refine q_set (i := 3) En (g_pass t (g_var (i := 1) En rfl) (g_var (i := 2) En rfl) w3 w4 w5 w6 l2 l3) fun H1 v1 s1 E1 => ?_
    have t1 := t.mono s1
    rcases e1 : passZ q us.length ws.length r as.length bs.length with _ | ⟨X3, Y2⟩
    · rw [e1] at E1 k
      refine q_set (i := 4) (d := .none) E1 (g_unless t1 E1 rfl (fun h => by cases h) fun _ => rfl) fun H2 v2 s2 E2 => ?_
      refine q_set (i := 5) (d := .none) E2 (g_unless (t1.mono s2) E2 rfl (fun h => by cases h) fun _ => rfl) fun H3 v3 s3 E3 => ?_
      exact s_ret (X := X) (d := .none) (g_if (b := true) (gt_op ((t1.mono s2).mono s3) (g_var (i := 5) E3 rfl) g_non rb_isN) (fun _ => g_non) fun h => by cases h) fun w H' s' dw => k w H' (((s1.trans s2).trans s3).trans s') dw
    · obtain ⟨x3, y2, rfl, rfl, _⟩ := passZ_nat e1
      rw [e1] at E1 k
      refine q_set (i := 4) E1 (g_unless t1 E1 rfl (fun _ => g_pass (p := p) (q := x3) t1 (g_var (i := 0) E1 rfl) (g_ixT (ds := [chD x3 as bs, chD y2 us ws]) t1 (g_var (i := 3) E1 rfl) g_int rfl) w1 w2 w5 w6 l1 l3) fun h => by cases h) fun H2 v2 s2 E2 => ?_
      have t2 := t1.mono s2
      replace k : ∀ w H', Same H H' → DX X H' w (triD as bs us ws os ns ((passZ p os.length ns.length x3 as.length bs.length).bind fun uv => (passZ uv.2 os.length ns.length y2 us.length ws.length).bind fun st => some (uv.1, st.1, st.2))) → Q w H' := k
      rcases e2 : passZ p os.length ns.length x3 as.length bs.length with _ | ⟨U3, Y1⟩
      · rw [e2] at E2 k
        refine q_set (i := 5) (d := .none) E2 (g_unless t2 E2 rfl (fun h => by cases h) fun _ => rfl) fun H3 v3 s3 E3 => ?_
        exact s_ret (X := X) (d := .none) (g_if (b := true) (gt_op (t2.mono s3) (g_var (i := 5) E3 rfl) g_non rb_isN) (fun _ => g_non) fun h => by cases h) fun w H' s' dw => k w H' (((s1.trans s2).trans s3).trans s') dw
      · obtain ⟨u3, y1, rfl, rfl, _⟩ := passZ_nat e2
        rw [e2] at E2 k
        refine q_set (i := 5) E2 (g_unless t2 E2 rfl (fun _ => g_pass (p := y1) (q := y2) t2 (g_ixT (ds := [chD u3 as bs, chD y1 os ns]) t2 (g_var (i := 4) E2 rfl) g_int rfl) (g_ixT (ds := [chD x3 as bs, chD y2 us ws]) t2 (g_var (i := 3) E2 rfl) g_int rfl) w1 w2 w3 w4 l1 l2) fun h => by cases h) fun H3 v3 s3 E3 => ?_
        have t3 := t2.mono s3
        replace k : ∀ w H', Same H H' → DX X H' w (triD as bs us ws os ns ((passZ y1 os.length ns.length y2 us.length ws.length).bind fun st => some ((u3 : Int), st.1, st.2))) → Q w H' := k
        rcases e3 : passZ y1 os.length ns.length y2 us.length ws.length with _ | ⟨U2, U1⟩
        · rw [e3] at E3 k
          exact s_ret (X := X) (d := .none) (g_if (b := true) (gt_op t3 (g_var (i := 5) E3 rfl) g_non rb_isN) (fun _ => g_non) fun h => by cases h) fun w H' s' dw => k w H' (((s1.trans s2).trans s3).trans s') dw
        · rw [e3] at E3 k
          exact s_ret (X := X) (d := .list [chD u3 as bs, chD U2 us ws, chD U1 os ns]) (g_if (b := false) (gt_op t3 (g_var (i := 5) E3 rfl) g_non rb_isN) (fun h => by cases h) fun _ => g_lst t3 (ga_cons (g_ixT (ds := [chD u3 as bs, chD y1 os ns]) t3 (g_var (i := 4) E3 rfl) g_int rfl) (ga_cons (g_ixT (ds := [chD U2 us ws, chD U1 os ns]) t3 (g_var (i := 5) E3 rfl) g_int rfl) (ga_cons (g_ixT (ds := [chD U2 us ws, chD U1 os ns]) t3 (g_var (i := 5) E3 rfl) g_int rfl) ga_nil))) (by simp)) fun w H' s' dw => k w H' (((s1.trans s2).trans s3).trans s') dw
end K18

/-! Steps of a run, the text behind it. -/
namespace K18
open PySem PySem.Spec PyProof.Rows L2 KD KP
-- RAISES change_of checked_text passed side_by_side
variable {P : Program} {w : World} {K : PySem.W.Frag} {mg : Str → Option Value} {base : Heap}
/-- each step fits the text behind those ahead -/
def okT : List Str → List Stp → Prop
  | _, [] => True
  | ws, r :: rs => (∃ p : Nat, r.p = (p : Int) ∧ fitN ws p r.os) ∧ okT (putB ws r.p r.os r.ns) rs
def okS (r : Stp) : Prop := r.name ∈ runNames ∧ Wd r.os ∧ Wd r.ns ∧ 0 < r.os.length + r.ns.length
theorem okT_at : ∀ {rs : List Stp} {ws : List Str} {i : Nat} {r : Stp}, okT ws rs → rs[i]? = some r → ∃ p : Nat, r.p = (p : Int) ∧ fitN (hereOf ws (rs.take i)) p r.os
  | [], _, i, r, _, h => by cases i <;> cases h
  | r0 :: rs, ws, 0, r, ⟨h1, _⟩, h => by cases h; exact h1
  | r0 :: rs, ws, i + 1, r, ⟨_, h2⟩, h => by
    rw [List.take_succ_cons]
    exact okT_at h2 h
theorem here_len : ∀ {rs : List Stp} {ws : List Str}, (∀ r ∈ rs, r.ns.length ≤ 100) → (hereOf ws rs).length ≤ ws.length + 100 * rs.length
  | [], _, _ => by simp [hereOf]
  | r :: rs, ws, h => by
    have h1 := here_len (ws := putB ws r.p r.os r.ns) fun z hz => h z (List.mem_cons_of_mem _ hz)
    have h2 := h r List.mem_cons_self
    have h3 : (putB ws r.p r.os r.ns).length ≤ ws.length + r.ns.length := by
      unfold putB
      rw [List.length_append, List.length_append, List.length_take, List.length_drop]
      omega
    show (hereOf (putB ws r.p r.os r.ns) rs).length ≤ _
    rw [List.length_cons]
    omega
theorem here_mem : ∀ {rs : List Stp} {ws : List Str} {pr : Str → Prop}, (∀ z ∈ ws, pr z) → (∀ r ∈ rs, ∀ z ∈ r.ns, pr z) → ∀ z ∈ hereOf ws rs, pr z
  | [], _, _, h, _ => h
  | r :: rs, ws, pr, h, k => here_mem (ws := putB ws r.p r.os r.ns) (fun z hz => (put_in hz).elim (h z) (k r List.mem_cons_self z)) fun s hs => k s (List.mem_cons_of_mem _ hs)
theorem strs_inv {X : Addr → Prop} {H : Hp} : ∀ {xs : List V} {nms : List Str}, DXs X H xs (nms.map PyData.str) → xs = nms.map V.str
  | _, [], .nil => rfl
  | _, _ :: _, .cons h r => by rw [h.str_inv, strs_inv r]; rfl
theorem gt_inNames {X : Addr → Prop} {σ : L2.St} {H : Hp} {Γ : List Sv} {ta : TE} {i : Nat} {L : Addr} {nm : Str} {nms : List Str} (h : G X ta σ H (.str nm)) (En : EnvOk X H σ Γ) (hi : Γ[i]? = some (.val (.ref L))) (hL : H L = some (.lst (nms.map V.str))) (hn : nm ∉ nms) : GT (tTest (tOp (rIn K false) ta (tVar i))) σ H false := fun H1 s Q q =>
  h H1 s _ fun v H2 s2 r => ⟨.ref L, (En.same (s.trans s2)).get i _ hi, L, nms.map V.str, rfl, .inl (SqL.of (s2 _ _ (s _ _ hL))), by rw [r.str_inv]; rfl, by
    rw [List.all_eq_true]
    intro z hz
    obtain ⟨_, _, rfl⟩ := List.mem_map.mp hz
    rfl, false, by
    have e : inV v (nms.map V.str) = false := by
      rw [r.str_inv]
      unfold inV
      rw [List.any_eq_false]
      intro z hz
      obtain ⟨m, hm, rfl⟩ := List.mem_map.mp hz
      intro e
      have e' : m = nm := by simpa [eqV] using e
      exact hn (e' ▸ hm)
    rw [e]
    rfl, q H2 s2⟩
def spSteps : Sp := fun vs H Q _ => ∃ (X : Addr → Prop) (v1 v2 v3 : V) (ws : List Str) (rs : List Stp), vs = [v1, v2, v3] ∧ Trk X H ∧ DX X H v1 (wsD ws) ∧ DX X H v2 (.list (rs.map stpD)) ∧ DX X H v3 (.list []) ∧ (∀ r ∈ rs, okS r) ∧ (rs.map Stp.name).Nodup ∧ okT ws rs ∧ Wd ws ∧ rs.length ≤ 8 ∧
  ∀ w H', Same H H' → DX X H' w (.list (rs.map stpD)) → Q w H'
-- HINT steps_of in op_in_seq
abbrev s_steps_of : Stmt := topS 27
abbrev n_steps_of : List Str := ["text", "run", "taken", "steps", "names", "words", "index", "thing", "change"]
theorem sc_steps_of : FnScope n_steps_of ["text", "run", "taken"] (defScope s_steps_of) := ⟨rfl, rfl, rfl, by decide +kernel, rfl, by decide +kernel, by decide +kernel⟩
theorem ok_steps_of {f Cc : Addr} {fd : FuncData} (F : Fun K "steps_of" "steps_of" s_steps_of f fd) (T : Bl mg) (O_is_list : Own P w K mg base CX0 1 "is_list" ["thing"] (sp1 (fun _ => True) fun d => .bool (isSeq d))) (O_is_pair : Own P w K mg base CX0 2 "is_pair" ["thing"] (sp1 (fun _ => True) fun d => .bool (isSeq d && decide (lenD d = 2))))
    (O_is_name : Own P w K mg base CX0 1 "is_name" ["thing"] (sp1 (fun d => ∃ s ∈ runNames, d = .str s) fun _ => .bool true)) (O_is_change : Own P w K mg base CX0 3 "is_change" ["thing"] (sp1 chPre fun d => .bool (isChangeD d)))
    (O_fits : Own P w K mg base CX0 1 "fits" ["text", "change"] (sp2 TC fun a b => .bool (fitsB (wsOf a) (intOf (it b 0)) (wsOf (it b 1))))) (O_change_of : Own P w K mg base (L2.CX P w) 4 "change_of" ["thing"] (spX1 chPre (changeOut Cc)))
    (O_put_in : Own P w K mg base CX0 1 "put_in" ["text", "change"] (sp2N TC fun a b => wsD (putB (wsOf a) (intOf (it b 0)) (wsOf (it b 1)) (wsOf (it b 2))))) : FnOk P w K mg base CX0 5 f fd ["text", "run", "taken"] spSteps := by
  refine F.ok sc_steps_of (fun vs H Q E h => ?_) (fun cdv A outer s H vs Q E hr h => ?_)
  · obtain ⟨X, v1, v2, v3, ws, rs, rfl, _⟩ := h
    rfl
  · obtain ⟨X, v1, v2, v3, ws, rs, rfl, t, d1, d2, d3, hs, nd, ho, hw, hl, k⟩ := h
    refine ⟨_, (pss_cons (ps_if (pt_not (pt_val (pe_own O_is_list hr (by decide) (by rfl) (pa_cons (pv 1) pa_nil))))
    (pss_one ps_never) pss_nil)
    (pss_cons (ps_set (i := 3) sc_steps_of.nd rfl (by first | exact Or.inl rfl | exact Or.inr rfl) (pe_lst pa_nil))
    (pss_cons (ps_set (i := 4) sc_steps_of.nd rfl (by first | exact Or.inl rfl | exact Or.inr rfl) (pe_callTy call_list_of (by rfl) T.b_list boot_list (pa_cons (pv 2) pa_nil)))
    (pss_cons (ps_set (i := 5) sc_steps_of.nd rfl (by first | exact Or.inl rfl | exact Or.inr rfl) (pv 0))
    (pss_cons (ps_for PassesOwn.never rfl (pi_enum (by rfl) T.b_enumerate (pa_cons (pv 1) pa_nil)) (pg_tup (n := 2) rfl (pgs_cons (pg_name (i := 6) sc_steps_of.nd rfl (by first | exact Or.inl rfl | exact Or.inr rfl)) (pgs_cons (pg_name (i := 7) sc_steps_of.nd rfl (by first | exact Or.inl rfl | exact Or.inr rfl)) pgs_nil)))
    (pss_cons (ps_if (PW.pt (pw_or (pt_not (pt_val (pe_own O_is_pair hr (by decide) (by rfl) (pa_cons (pv 7) pa_nil)))) (pw_or (pt_not (pt_val (pe_own O_is_name hr (by decide) (by rfl) (pa_cons (pe_ix ix_seq (pv 7) pe_int (fun _ _ => rfl)) pa_nil)))) (pw_or1 (pt_cmpR op_in_seq (pe_ix ix_seq (pv 7) pe_int (fun _ _ => rfl)) (pv 4) (by rfl))))))
    (pss_one ps_never) pss_nil)
    (pss_cons (ps_if (PW.pt (pw_or (pt_not (pt_val (pe_own O_is_change hr (by decide) (by rfl) (pa_cons (pe_ix ix_seq (pv 7) pe_int (fun _ _ => rfl)) pa_nil)))) (pw_or1 (pt_not (pt_val (pe_own O_fits hr (by decide) (by rfl) (pa_cons (pv 5) (pa_cons (pe_ownX O_change_of hr (by decide) LamX.takes0 (by rfl) (pa_cons (pe_ix ix_seq (pv 7) pe_int (fun _ _ => rfl)) pa_nil)) pa_nil))))))))
    (pss_one ps_never) pss_nil)
    (pss_cons (ps_set (i := 8) sc_steps_of.nd rfl (by first | exact Or.inl rfl | exact Or.inr rfl) (pe_ownX O_change_of hr (by decide) LamX.takes0 (by rfl) (pa_cons (pe_ix ix_seq (pv 7) pe_int (fun _ _ => rfl)) pa_nil)))
    (pss_cons (ps_expr (pe_bm PySem.F.plainAttrs_list PySem.F.slot_list_append PySem.F.type_list_append mt_append (pv 3) (pa_cons (pe_tup (pa_cons (pe_ix ix_seq (pv 7) pe_int (fun _ _ => rfl)) (pa_cons (pv 8) pa_nil))) pa_nil)))
    (pss_cons (ps_expr (pe_bm PySem.F.plainAttrs_list PySem.F.slot_list_append PySem.F.type_list_append mt_append (pv 4) (pa_cons (pe_ix ix_seq (pv 7) pe_int (fun _ _ => rfl)) pa_nil)))
    (pss_one (ps_set (i := 5) sc_steps_of.nd rfl (by first | exact Or.inl rfl | exact Or.inr rfl) (pe_own O_put_in hr (by decide) (by rfl) (pa_cons (pv 5) (pa_cons (pv 8) pa_nil)))))))))))
    (pss_one (ps_ret (pv 3)))))))), ?_⟩
    have En : EnvOk X H (L2.start n_steps_of [v1, v2, v3]) (pad n_steps_of [.dat (wsD ws), .dat (.list (rs.map stpD)), .dat (.list [])]) := env3 d1 d2 d3 (by decide)
    refine q_if (b := false) (gt_is (gt_not (gt_B (g_call1 t (g_var (i := 1) (d := .list (rs.map stpD)) En rfl) trivial))) rfl) (fun h => by cases h) fun _ H1 s1 => ?_
    have E1 := En.same s1
    have t1 := t.mono s1
    refine k_own (i := 3) E1 t1 (gn_lst t1 ga_nil (by simp)) fun LA H2 xs2 f2 s2 h2 x2 E2 t2 => ?_
    refine k_own (i := 4) E2 t2 (gn_listOf t2 (g_var (i := 2) (d := .list []) E2 rfl) rfl) fun LB H3 xs3 f3 s3 h3 x3 E3 t3 => ?_
    refine q_set (i := 5) E3 (g_var (i := 0) (d := wsD ws) E3 rfl) fun H4 v4 s4 E4 => ?_
    let X' : Addr → Prop := fun b => X b ∨ b = LA
    let X'' : Addr → Prop := fun b => X' b ∨ b = LB
    let Γ (here : List Str) : List Sv := [.dat (wsD ws), .dat (.list (rs.map stpD)), .dat (.list []), .val (.ref LA), .val (.ref LB), .dat (wsD here), .un, .un, .un]
    have t4 : Trk X'' H4 := t3.mono s4
    have nX : ¬ X LA := t1.new f2
    have ne12 : LA ≠ LB := fun e => by rw [← e, h2] at f3; cases f3
    have f3' : H1 LB = none := s2.free f3
    have s14 : Same H1 H4 := (s2.trans s3).trans s4
    have a2 := s3 LA _ h2
    refine s_forD (X := X'') (gi_enum (g_var (i := 1) (d := .list (rs.map stpD)) E4 rfl)) (fun Hb i σ' H' => Kp X'' Hb H' ∧ Trk X'' H' ∧ Same H1 H' ∧ (∃ xs, H' LA = some (.lst xs) ∧ DXs X'' H' xs ((rs.take i).map stpD)) ∧ (∃ ys, H' LB = some (.lst ys) ∧ DXs X'' H' ys (((rs.take i).map Stp.name).map PyData.str)) ∧ EnvOk X'' H' σ' (Γ (hereOf ws (rs.take i)))) ?_ ?_ ?_ ?_
    · intro Hb sb
      refine ⟨Kp.refl, t4.mono sb, s14.trans sb, ⟨xs2, sb _ _ (s4 _ _ a2), ?_⟩, ⟨xs3, sb _ _ (s4 _ _ h3), ?_⟩, E4.same sb⟩
      · cases x2
        exact .nil
      · cases x3
        exact .nil
    · rintro Hb i σ' H' ⟨p1, p2, _⟩
      exact ⟨p1, p2⟩
    · rintro Hb i x d σ' H' H'' sb hd ⟨p1, p2, p3, ⟨xs, p4, p5⟩, ⟨ys, p6, p7⟩, E⟩ s5 dx
      have hi : i < rs.length := by
        have := (List.getElem?_eq_some_iff.mp hd).1
        rw [enumD_len, List.length_map] at this
        exact this
      obtain ⟨r, hri⟩ : ∃ r, rs[i]? = some r := ⟨_, List.getElem?_eq_getElem hi⟩
      rw [enumD_get (d := stpD r) (by rw [List.getElem?_map, hri]; rfl)] at hd
      cases hd
      obtain ⟨g1, g2, g3, g4⟩ := hs r (List.mem_of_getElem? hri)
      obtain ⟨p, ep, fp⟩ := okT_at ho hri
      have tk : rs.take (i + 1) = rs.take i ++ [r] := by rw [List.take_succ, hri]; rfl
      have hsn : ∀ z ∈ rs.take i, okS z := fun z hz => hs z (List.mem_of_mem_take hz)
      have lh := here_len (rs := rs.take i) (ws := ws) fun z hz => (hsn z hz).2.2.1.1
      have lt : (rs.take i).length ≤ 8 := Nat.le_trans (List.length_take_le' _ _) hl
      have wl := hw.1
      have who : WsOk (hereOf ws (rs.take i)) := ⟨by omega, here_mem (fun z hz => (hw.2 z hz).2) fun z hz y hy => ((hsn z hz).2.2.1.2 y hy).2⟩
      have nin : r.name ∉ (rs.take i).map Stp.name := by
        intro hm
        have n2 : ((rs.take (i + 1)).map Stp.name).Nodup := nd.sublist ((List.take_sublist _ _).map _)
        rw [tk, List.map_append] at n2
        exact (List.nodup_append.mp n2).2.2 _ hm _ (by simp) rfl
      refine g_pair (d := .int (i : Int)) (e := stpD r) dx fun u v q1 q2 => ?_
      have E6 := ((E.same s5).set (i := 6) q1).set (i := 7) q2
      have t6 := p2.mono s5
      have cr : ChX r.p r.os r.ns (chD r.p r.os r.ns) := .inl rfl
      have ic := cr.is (by omega) g2 g3 g4
      have ch : G X'' (tOp (rIx K) (tVar 7) (tC (.int 1))) _ H'' (chD r.p r.os r.ns) := g_ixT (ds := [PyData.str r.name, chD r.p r.os r.ns]) t6 (g_var (i := 7) (d := stpD r) E6 rfl) g_int rfl
      have toldc : changeOut Cc (chD r.p r.os r.ns) = .val (chD r.p r.os r.ns) := by
        unfold changeOut
        rw [ic]
        rfl
      have tc : TC (wsD (hereOf ws (rs.take i))) (chD r.p r.os r.ns) := ⟨_, _, _, _, rfl, rfl, who, g2.ok, g3.ok, by omega⟩
      have nm : ∀ {H1 : Hp} {σ : L2.St} {Γ' : List Sv}, EnvOk X'' H1 σ Γ' → Γ'[7]? = some (.dat (stpD r)) → Trk X'' H1 → G X'' (tOp (rIx K) (tVar 7) (tC (.int 0))) σ H1 (.str r.name) := fun E e t => g_ixT (ds := [PyData.str r.name, chD r.p r.os r.ns]) t (g_var (i := 7) (d := stpD r) E e) g_int rfl
      refine q_if (b := false) (gt_is (gt_or (b := false) (gt_is (gt_not (gt_B (g_call1 t6 (g_var (i := 7) (d := stpD r) E6 rfl) trivial))) rfl) fun _ => gt_is (gt_or (b := false) (gt_not (gt_B (g_call1 t6 (nm E6 rfl t6) ⟨_, g1, rfl⟩))) fun _ => gt_inNames (nms := (rs.take i).map Stp.name) (nm E6 rfl t6) E6 rfl (by rw [← strs_inv p7]; exact s5 _ _ p6) nin) rfl) rfl) (fun h => by cases h) fun _ H7 s7 => ?_
      have E7 := E6.same s7
      have t7 := t6.mono s7
      have fb : PyData.bool (fitsB (wsOf (wsD (hereOf ws (rs.take i)))) (intOf (it (chD r.p r.os r.ns) 0)) (wsOf (it (chD r.p r.os r.ns) 1))) = .bool true := by
        show PyData.bool (fitsB (wsOf (wsD (hereOf ws (rs.take i)))) r.p (wsOf (wsD r.os))) = .bool true
        rw [wsOf_wsD, wsOf_wsD, ep]
        unfold fitsB
        rw [Int.toNat_natCast, fp.2]
        have := fp.1
        simp
        omega
      refine q_if (b := false) (gt_is (gt_or (gt_is (gt_not (gt_B (g_call1 t7 (ch.mono s7) (cr.pre g2 g3)))) (b := false) (by rw [ic]; rfl)) fun _ => gt_not (gt_B (g_is (g_call2 t7 (g_var (i := 5) E7 rfl) (g_X1 t7 (ch.mono s7) (cr.pre g2 g3) toldc) tc) fb))) rfl) (fun h => by cases h) fun _ H8 s8 => ?_
      have E8 := E7.same s8
      have t8 := t7.mono s8
      refine q_set (i := 8) (d := chD r.p r.os r.ns) E8 (g_X1 t8 (ch.mono (s7.trans s8)) (cr.pre g2 g3) toldc) fun H9 v9 s9 E9 => ?_
      have t9 := t8.mono s9
      have s59 := ((s5.trans s7).trans s8).trans s9
      have lx : (rs.take i).map stpD = (rs.take i).map stpD := rfl
      refine q_append (i := 3) (L := LA) (d := stpD r) E9 rfl (.inl (.inr rfl)) t9 (s59 _ _ p4) (p5.mono (Kp.of s59)) (g_tup t9 (ga_cons (nm E9 rfl t9) (ga_cons (g_var (i := 8) E9 rfl) ga_nil)) (by simp)) (by rw [List.length_map]; omega) fun H10 zs h10 x10 E10 t10 k10 => ?_
      have b10 : H10 LB = some (.lst ys) := k10 _ _ (Ne.symm ne12) (s59 _ _ p6)
      have kx10 : Kp X'' H9 H10 := fun a o n e => k10 a o (fun z => n (.inl (.inr z))) e
      refine q_append (i := 4) (L := LB) (d := .str r.name) E10 rfl (.inr rfl) t10 b10 ((p7.mono (Kp.of s59)).mono kx10) (nm E10 rfl t10) (by rw [List.length_map, List.length_map]; omega) fun H11 zs2 h11 x11 E11 t11 k11 => ?_
      have b11 : H11 LA = some (.lst zs) := k11 _ _ ne12 h10
      have kx11 : Kp X'' H10 H11 := fun a o n e => k11 a o (fun z => n (.inr z)) e
      have same11 : Same H1 H11 := fun a o e => by
        have n1 : a ≠ LA := fun z => by rw [z, f2] at e; cases e
        have n2 : a ≠ LB := fun z => by rw [z, f3'] at e; cases e
        exact k11 a o n2 (k10 a o n1 (s59 a o (p3 a o e)))
      refine (GN.g (gn_call2 t11 (g_var (i := 5) E11 rfl) (g_var (i := 8) E11 rfl) tc)) H11 (Same.refl _) _ fun w12 H12 s12 d12 => ?_
      refine ⟨((p1.trans (Kp.of s59)).trans (kx10.trans kx11)).trans (Kp.of s12), t11.mono s12, same11.trans s12, ⟨zs, s12 _ _ b11, ?_⟩, ⟨zs2, s12 _ _ h11, ?_⟩, ?_⟩
      · rw [tk, List.map_append]
        exact (x10.mono kx11).mono (Kp.of s12)
      · rw [tk, List.map_append, List.map_append]
        exact x11.mono (Kp.of s12)
      · rw [tk, hereOf_snoc]
        have d12' : DX X'' H12 w12 (wsD (putB (hereOf ws (rs.take i)) r.p r.os r.ns)) := by
          have e : wsD (putB (wsOf (wsD (hereOf ws (rs.take i)))) (intOf (it (chD r.p r.os r.ns) 0)) (wsOf (it (chD r.p r.os r.ns) 1)) (wsOf (it (chD r.p r.os r.ns) 2))) = wsD (putB (hereOf ws (rs.take i)) r.p r.os r.ns) := by
            show wsD (putB (wsOf (wsD (hereOf ws (rs.take i)))) r.p (wsOf (wsD r.os)) (wsOf (wsD r.ns))) = _
            rw [wsOf_wsD, wsOf_wsD, wsOf_wsD]
          rw [← e]
          exact d12
        exact envUn (envUn (envUn ((E11.same s12).set (i := 5) d12') 6) 7) 8
    · rintro Hb σ' H' sb ⟨p1, p2, p3, ⟨xs, p4, p5⟩, _, E⟩
      rw [enumD_len, List.length_map, List.take_length] at p5
      exact ⟨.ref LA, E.get 3 (.val (.ref LA)) rfl, k _ H' (s1.trans p3) (.lst nX p4 (DXs.less (fun a h => .inl (.inl h)) p5))⟩
end K18

/-! The text behind a run; three changes side by side. -/
namespace K18
open PySem PySem.Spec PyProof.Rows L2 KD KP
-- RAISES change_of checked_text passed side_by_side
variable {P : Program} {w : World} {K : PySem.W.Frag} {mg : Str → Option Value} {base : Heap}
/-- draws in a list, each of which takes several -/
theorem lc_drawsC (c : Nat) {X : Addr → Prop} {st cl : Addr} {n : Nat} {H : Hp} {σ : L2.St} {Γ : List Sv} {te : TE} {i m : Nat} {Q : VK} (pr : PyData → Prop) (S : Sg X st cl n H) (En : EnvOk X H σ Γ) (hm : m ≤ 100000)
    (he : ∀ X' H1 σ2 k Q1, k < m → EnvOk X' H1 σ2 ((Γ.set i .un).set i (.dat (.int (k : Nat)))) → Sg X' st cl (n + c * k) H1 → (∀ w d H', pr d → Sg X' st cl (n + c * k + c) H' → KpS st cl H1 H' → DX X' H' w d → Q1 w H') → te σ2 H1 Q1)
    (q : ∀ w ds H', ds.length = m → (∀ d ∈ ds, pr d) → Sg X st cl (n + c * m) H' → KpS st cl H H' → DX X H' w (.list ds) → Nw H w → Q w H') : tLc (fun σ H R => R (Itr 0 m) H) (gName i) tYes te [i] σ H Q := by
  intro D hD
  have m2 : More X (fun a => X a ∨ a = D) H := More.one hD
  have d1 := S.ne1 hD
  have d2 := S.ne2 hD
  obtain ⟨Gd, Y, w1, w2⟩ := walkD_range (X := X) (H := H) (lo := 0) (n := m)
  rw [rangeD_len] at w1
  have key : ∀ H3, Kp (fun a => X a ∨ a = D) H H3 ∧ Trk (fun a => X a ∨ a = D) H3 → Gd H3 := fun H3 p => (w2 _ m2.2 H3 p.1 p.2).1
  let I : Nat → Hp → Prop := fun k H3 => KpS st cl H H3 ∧ Sg (fun a => X a ∨ a = D) st cl (n + c * k) H3 ∧ ∃ acc ds, H3 D = some (.lst acc) ∧ DXs (fun a => X a ∨ a = D) H3 acc ds ∧ ds.length = k ∧ ∀ d ∈ ds, pr d
  have ik : ∀ {k H3}, I k H3 → Kp (fun a => X a ∨ a = D) H H3 ∧ Trk (fun a => X a ∨ a = D) H3 := fun {k H3} p => ⟨p.1.kp (.inl S.x1) (.inl S.x2), p.2.1.t⟩
  refine lc_it w1 I ?_ (fun i H3 _ p => key H3 (ik p)) ?_ ?_
  · exact ⟨KpS.of (Same.upd hD), ⟨(S.ok).same (Same.upd hD), .inl S.x1, .inl S.x2, S.t.one hD⟩, [], [], upd_same, .nil, rfl, fun d h => by cases h⟩
  · rintro k x H3 H4 hk p y
    obtain ⟨s4, d, hd, dx⟩ := (w2 _ m2.2 H3 (ik p).1 (ik p).2).2 k x H4 y
    obtain ⟨p1, p2, acc, ds, p3, p4, p5, p6⟩ := p
    rw [rangeD_get hk] at hd
    cases hd
    have S4 := p2.same s4
    have k4 : Kp (fun a => X a ∨ a = D) H H4 := (p1.kp (.inl S.x1) (.inl S.x2)).trans (Kp.of s4)
    refine tgt_name (X := X) (i := i) En _ H4 m2 k4 S4.t x dx _ fun σ2 E2 hw => ⟨hw, ?_⟩
    refine k_yes ?_
    rw [show (0 : Int) + (k : Int) = (k : Nat) from by omega] at E2
    refine he _ H4 σ2 k _ hk E2 S4 fun w d H5 hp S5 k5 dw => ?_
    refine ⟨acc, k5 D _ d1 d2 (s4 D _ p3), by rw [p4.length, p5, sizeLine_eq]; omega, ?_, ?_, acc ++ [w], ds ++ [d], upd_same, ?_, by rw [List.length_append, p5]; rfl, fun z hz => ?_⟩
    · exact fun a o n1 n2 e => by
        have := k5 a o n1 n2 (s4 a _ (p1 a o n1 n2 e))
        rw [upd_ne (ne_of_none e hD)]
        exact this
    · rw [Nat.mul_succ, ← Nat.add_assoc]
      exact S5.put d1 d2
    · exact (((p4.mono (Kp.of s4)).mono (S4.kp k5)).snoc dw).mono (Kp.put (.inr rfl))
    · rcases List.mem_append.mp hz with h | h
      · exact p6 z h
      · rw [List.mem_singleton.mp h]
        exact hp
  · rintro H3 ⟨p1, p2, acc, ds, p3, p4, p5, p6⟩
    have nXD : ¬ X D := S.t.new hD
    exact q (.ref D) ds H3 p5 p6 ⟨p2.ok, S.x1, S.x2, fun a h => p2.t a (.inl h)⟩ p1 (.lst nXD p3 (p4.less fun a => .inl)) (Nw.of hD)

theorem g_steps {X : Addr → Prop} {σ : L2.St} {H : Hp} {ta tb tc : TE} {E : XK} {ws : List Str} {rs : List Stp} (t : Trk X H) (h1 : G X ta σ H (wsD ws)) (h2 : G X tb σ H (.list (rs.map stpD))) (h3 : G X tc σ H (.list [])) (a1 : ∀ r ∈ rs, okS r) (a2 : (rs.map Stp.name).Nodup) (a3 : okT ws rs) (a4 : Wd ws) (a5 : rs.length ≤ 8) :
    G X (tCall spSteps [] E (tCons ta (tCons tb (tCons tc tNil)))) σ H (.list (rs.map stpD)) :=
  g_call (ga_cons h1 (ga_cons h2 (ga_cons h3 ga_nil))) fun vs H1 s rs' Q k => by
    cases rs' with
    | cons r1 r2 =>
      cases r2 with
      | cons r2 r3 =>
        cases r3 with
        | cons r3 r4 =>
          cases r4
          exact ⟨X, _, _, _, ws, rs, rfl, t.mono s, r1, r2, r3, a1, a2, a3, a4, a5, k⟩
def spBehind : Sp := fun vs H Q _ => ∃ (X : Addr → Prop) (v1 v2 : V) (ws : List Str) (rs : List Stp), vs = [v1, v2] ∧ Trk X H ∧ DX X H v1 (wsD ws) ∧ DX X H v2 (.list (rs.map stpD)) ∧ (∀ r ∈ rs, okS r) ∧ (rs.map Stp.name).Nodup ∧ okT ws rs ∧ Wd ws ∧ rs.length ≤ 8 ∧
  ∀ w H', Same H H' → DX X H' w (wsD (hereOf ws rs)) → Q w H'
abbrev s_text_behind : Stmt := topS 28
abbrev n_text_behind : List Str := ["text", "run", "words", "_", "change"]
theorem sc_text_behind : FnScope n_text_behind ["text", "run"] (defScope s_text_behind) := ⟨rfl, rfl, rfl, by decide +kernel, rfl, by decide +kernel, by decide +kernel⟩
theorem ok_text_behind {f Cw : Addr} {fd : FuncData} (F : Fun K "text_behind" "text_behind" s_text_behind f fd) (T : Bl mg) (O_checked_text : Own P w K mg base (L2.CX P w) 3 "checked_text" ["text"] (spX1 wordsAll (textOut Cw))) (O_steps_of : Own P w K mg base CX0 5 "steps_of" ["text", "run", "taken"] spSteps)
    (O_put_in : Own P w K mg base CX0 1 "put_in" ["text", "change"] (sp2N TC fun a b => wsD (putB (wsOf a) (intOf (it b 0)) (wsOf (it b 1)) (wsOf (it b 2))))) : FnOk P w K mg base CX0 6 f fd ["text", "run"] spBehind := by
  refine F.ok sc_text_behind (fun vs H Q E h => ?_) (fun cdv A outer s H vs Q E hr h => ?_)
  · obtain ⟨X, v1, v2, ws, rs, rfl, _⟩ := h
    rfl
  · obtain ⟨X, v1, v2, ws, rs, rfl, t, d1, d2, hs, nd, ho, hw, hl, k⟩ := h
    refine ⟨_, (pss_cons (ps_set (i := 2) sc_text_behind.nd rfl (by first | exact Or.inl rfl | exact Or.inr rfl) (pe_ownX O_checked_text hr (by decide) LamX.takes0 (by rfl) (pa_cons (pv 0) pa_nil)))
    (pss_cons (ps_for PassesOwn.never rfl (pi_list (pe_own O_steps_of hr (by decide) (by rfl) (pa_cons (pv 2) (pa_cons (pv 1) (pa_cons (pe_lst pa_nil) pa_nil))))) (pg_tup (n := 2) rfl (pgs_cons (pg_name (i := 3) sc_text_behind.nd rfl (by first | exact Or.inl rfl | exact Or.inr rfl)) (pgs_cons (pg_name (i := 4) sc_text_behind.nd rfl (by first | exact Or.inl rfl | exact Or.inr rfl)) pgs_nil)))
    (pss_one (ps_set (i := 2) sc_text_behind.nd rfl (by first | exact Or.inl rfl | exact Or.inr rfl) (pe_own O_put_in hr (by decide) (by rfl) (pa_cons (pv 2) (pa_cons (pv 4) pa_nil))))))
    (pss_one (ps_ret (pv 2))))), ?_⟩
    have En : EnvOk X H (L2.start n_text_behind [v1, v2]) (pad n_text_behind [.dat (wsD ws), .dat (.list (rs.map stpD))]) := env2 d1 d2 (by decide)
    have tx : textOut Cw (wsD ws) = .val (wsD ws) := by
      unfold textOut
      rw [hw.wrong, wsOf_wsD]
      rfl
    refine q_set (i := 2) En (g_X1 t (g_var (i := 0) En rfl) hw.all tx) fun H1 v1 s1 E1 => ?_
    have t1 := t.mono s1
    let Γ (here : List Str) : List Sv := [.dat (wsD ws), .dat (.list (rs.map stpD)), .dat (wsD here), .un, .un]
    refine s_forD (X := X) (gi_list (g_steps t1 (g_var (i := 2) (d := wsD ws) E1 rfl) (g_var (i := 1) (d := .list (rs.map stpD)) E1 rfl) (g_lst t1 ga_nil (by simp)) hs nd ho hw hl)) (fun Hb i σ' H' => Same Hb H' ∧ Trk X H' ∧ EnvOk X H' σ' (Γ (hereOf ws (rs.take i)))) ?_ ?_ ?_ ?_
    · intro Hb sb
      exact ⟨Same.refl _, t1.mono sb, E1.same sb⟩
    · rintro Hb i σ' H' ⟨p1, p2, _⟩
      exact ⟨Kp.of p1, p2⟩
    · rintro Hb i x d σ' H' H'' sb hd ⟨p1, p2, E⟩ s5 dx
      rw [List.getElem?_map, Option.map_eq_some_iff] at hd
      obtain ⟨r, hri, rfl⟩ := hd
      obtain ⟨g1, g2, g3, g4⟩ := hs r (List.mem_of_getElem? hri)
      obtain ⟨p, ep, fp⟩ := okT_at ho hri
      have tk : rs.take (i + 1) = rs.take i ++ [r] := by rw [List.take_succ, hri]; rfl
      have hsn : ∀ z ∈ rs.take i, okS z := fun z hz => hs z (List.mem_of_mem_take hz)
      have lh := here_len (rs := rs.take i) (ws := ws) fun z hz => (hsn z hz).2.2.1.1
      have lt : (rs.take i).length ≤ 8 := Nat.le_trans (List.length_take_le' _ _) hl
      have wl := hw.1
      have who : WsOk (hereOf ws (rs.take i)) := ⟨by omega, here_mem (fun z hz => (hw.2 z hz).2) fun z hz y hy => ((hsn z hz).2.2.1.2 y hy).2⟩
      refine g_pair (d := .str r.name) (e := chD r.p r.os r.ns) dx fun u v q1 q2 => ?_
      have E6 := ((E.same s5).set (i := 3) q1).set (i := 4) q2
      have tc : TC (wsD (hereOf ws (rs.take i))) (chD r.p r.os r.ns) := ⟨_, _, _, _, rfl, rfl, who, g2.ok, g3.ok, by omega⟩
      refine (GN.g (gn_call2 (p2.mono s5) (g_var (i := 2) E6 rfl) (g_var (i := 4) E6 rfl) tc)) H'' (Same.refl _) _ fun w12 H12 s12 d12 => ?_
      refine ⟨(p1.trans s5).trans s12, (p2.mono s5).mono s12, ?_⟩
      rw [tk, hereOf_snoc]
      have d12' : DX X H12 w12 (wsD (putB (hereOf ws (rs.take i)) r.p r.os r.ns)) := by
        have e : wsD (putB (wsOf (wsD (hereOf ws (rs.take i)))) (intOf (it (chD r.p r.os r.ns) 0)) (wsOf (it (chD r.p r.os r.ns) 1)) (wsOf (it (chD r.p r.os r.ns) 2))) = wsD (putB (hereOf ws (rs.take i)) r.p r.os r.ns) := by
          show wsD (putB (wsOf (wsD (hereOf ws (rs.take i)))) r.p (wsOf (wsD r.os)) (wsOf (wsD r.ns))) = _
          rw [wsOf_wsD, wsOf_wsD, wsOf_wsD]
        rw [← e]
        exact d12
      exact envUn (envUn ((E6.same s12).set (i := 2) d12') 3) 4
    · rintro Hb σ' H' sb ⟨p1, p2, E⟩
      rw [List.length_map, List.take_length] at E
      exact s_ret (X := X) (D := { nx := fun _ H' => Q .non H', rt := Q }) (g_var (i := 2) (d := wsD (hereOf ws rs)) E rfl) fun w H2 s2 dw => k w H2 (((s1.trans sb).trans p1).trans s2) dw
theorem Wd.cut {ws : List Str} (h : Wd ws) (a b : Nat) : Wd ((ws.drop a).take b) := ⟨by rw [List.length_take, List.length_drop]; have := h.1; omega, fun z hz => h.2 z (List.mem_of_mem_drop (List.mem_of_mem_take hz))⟩
/-! ### side by side -/
theorem g_side {X : Addr → Prop} {σ : L2.St} {H : Hp} {ta tb : TE} {E : XK} {p q : Nat} {os ns us vs : List Str} {C : Addr} (t : Trk X H) (h1 : G X ta σ H (chD p os ns)) (h2 : G X tb σ H (chD q us vs)) (g1 : Wd os) (g2 : Wd ns) (g3 : Wd us) (g4 : Wd vs) (l1 : 0 < os.length + ns.length) (l2 : 0 < us.length + vs.length) :
    G X (tCall (spX2 twoPre (twoOut besideB C)) [] E (tCons ta (tCons tb tNil))) σ H (match sideZ p os.length ns.length q us.length vs.length with
    | none => .none
    | some (x, y) => .tuple [chD x us vs, chD y os ns]) := by
  have c1 : ChX (p : Int) os ns (chD p os ns) := .inl rfl
  have c2 : ChX (q : Int) us vs (chD q us vs) := .inl rfl
  exact g_X2 t h1 h2 (two_pre c1 c2 g1 g2 g3 g4) ((two_val c1 c2 (c1.is (by omega) g1 g2 l1) (c2.is (by omega) g3 g4 l2)).trans (congrArg Out.val besideB_Z))
def sdD (us vs os ns : List Str) : Option (Int × Int) → PyData
  | none => .none
  | some (x, y) => .tuple [chD x us vs, chD y os ns]
def Chg (d : PyData) : Prop := ∃ (p : Nat) (os ns : List Str), d = chD p os ns ∧ Wd os ∧ Wd ns ∧ 0 < os.length + ns.length
def spBeside : Sp := fun vs H Q _ => ∃ (X : Addr → Prop) (st cl : Addr) (n : Nat) (v1 : V) (ws : List Str), vs = [.ref st, v1] ∧ Sg X st cl n H ∧ n + 30 ≤ 1000000000 ∧ DX X H v1 (wsD ws) ∧ Wd ws ∧ ∀ H', Sg X st cl (n + 15) H' → KpS st cl H H' → Q (.bl true) H'
def scLots : Scope := { kind := ScopeKind.function, names := [(".0", NameKind.local), ("_law_k", NameKind.local), ("_law_p_change", NameKind.globalImplicit), ("_law_stream", NameKind.cell), ("_law_words", NameKind.cell)], isGenerator := false, isCoroutine := false }
-- HINT _law_beside_right lcsc#2 scLots
-- HINT _law_beside_right lcte#1 (tCall spChange [] E0 (tCons (tVar 0) (tCons (tVar 1) (tCons (tLc (iList K (tVar 1)) (gName 7) tYes (tC (.bl false)) [7]) tNil))))
abbrev s__law_beside_right : Stmt := topS 43
abbrev n__law_beside_right : List Str := ["_law_stream", "_law_words", "_law_lots", "_law_pairs", "_law_ways", "_law_k", "_law_pair", "_law_one"]
theorem sc__law_beside_right : FnScope n__law_beside_right ["_law_stream", "_law_words"] (defScope s__law_beside_right) := ⟨rfl, rfl, rfl, by decide +kernel, rfl, by decide +kernel, by decide +kernel⟩
theorem ok_beside_right {f Cc : Addr} {fd : FuncData} (F : Fun K "_law_beside_right" "_law_beside_right" s__law_beside_right f fd) (T : Bl mg) (b_any : mg "any" = none) (O__law_p_change : Own P w K mg base CX0 3 "_law_p_change" ["_law_stream", "_law_words", "_law_marks"] spChange)
    (O_side_by_side : Own P w K mg base (L2.CX P w) 5 "side_by_side" ["one", "two"] (spX2 twoPre (twoOut besideB Cc))) (O__law_same : Own P w K mg base CX0 6 "_law_same" ["_law_found", "_law_due"] (spSame 4)) : FnOk P w K mg base CX0 7 f fd ["_law_stream", "_law_words"] spBeside := by
  refine F.ok sc__law_beside_right (fun vs H Q E h => ?_) (fun cdv A outer s H vs Q E hr h => ?_)
  · obtain ⟨X, st, cl, n, v1, ws, rfl, _⟩ := h
    rfl
  · obtain ⟨X, st, cl, n, v1, ws, rfl, S, hn, d1, hw, k⟩ := h
    refine ⟨_, (pss_cons (ps_setLc (i := 2) (own := [("_law_k", 5)]) (g := (gName 5)) (tt := tYes) (te := (tCall spChange [] E0 (tCons (tVar 0) (tCons (tVar 1) (tCons (tLc (iList K (tVar 1)) (gName 7) tYes (tC (.bl false)) [7]) tNil))))) rfl sc__law_beside_right.nd rfl rfl (sw_true rfl rfl rfl (by decide +kernel)) (pi_range1 (by rfl) T.b_range (pa_cons pe_int pa_nil)) (blkOk_by (N := n__law_beside_right) (sc := defScope s__law_beside_right) (by decide +kernel)) (fun _ _ _ _ _ => (pg_name (i := 5) sc__law_beside_right.nd rfl (by first | exact Or.inl rfl | exact Or.inr rfl))) (fun _ _ _ _ _ => pts_nil) (fun _ _ _ _ _ => (pe_own O__law_p_change hr (by decide) (by rfl) (pa_cons (pv 0) (pa_cons (pv 1) (pa_cons (by exact (pe_lc (own := [("_law_one", 7)]) (g := (gName 7)) (tt := tYes) rfl sc__law_beside_right.nd (pi_list (pv 1)) (blkOk_by (N := n__law_beside_right) (sc := scLots) (by decide +kernel)) (fun _ _ _ _ _ => (pg_name (i := 7) sc__law_beside_right.nd rfl (by first | exact Or.inl rfl | exact Or.inr rfl))) (fun _ _ _ _ _ => pts_nil) (fun _ _ _ _ _ => pe_bl))) pa_nil))))))
    (pss_cons (ps_set (i := 3) sc__law_beside_right.nd rfl (by first | exact Or.inl rfl | exact Or.inr rfl) (pe_lst (pa_cons (pe_ownX O_side_by_side hr (by decide) LamX.takes0 (by rfl) (pa_cons (pe_ix ix_seq (pv 2) pe_int (fun _ _ => rfl)) (pa_cons (pe_ix ix_seq (pv 2) pe_int (fun _ _ => rfl)) pa_nil))) (pa_cons (pe_ownX O_side_by_side hr (by decide) LamX.takes0 (by rfl) (pa_cons (pe_ix ix_seq (pv 2) pe_int (fun _ _ => rfl)) (pa_cons (pe_ix ix_seq (pv 2) pe_int (fun _ _ => rfl)) pa_nil))) (pa_cons (pe_ownX O_side_by_side hr (by decide) LamX.takes0 (by rfl) (pa_cons (pe_ix ix_seq (pv 2) pe_int (fun _ _ => rfl)) (pa_cons (pe_ix ix_seq (pv 2) pe_int (fun _ _ => rfl)) pa_nil))) pa_nil)))))
    (pss_cons (ps_if (pt_val (pe_callB (cr_any rfl) (by rfl) b_any boot_any (pa_cons (pe_lc (own := [("_law_pair", 6)]) (g := (gName 6)) (tt := tYes) rfl sc__law_beside_right.nd (pi_list (pv 3)) (blkOk_by (N := n__law_beside_right) (sc := defScope s__law_beside_right) (by decide +kernel)) (fun _ _ _ _ _ => (pg_name (i := 6) sc__law_beside_right.nd rfl (by first | exact Or.inl rfl | exact Or.inr rfl))) (fun _ _ _ _ _ => pts_nil) (fun _ _ _ _ _ => (pe_cmpR op_isN (pv 6) pe_non (nomark _)))) pa_nil)))
    (pss_one (ps_ret pe_bl)) pss_nil)
    (pss_cons (ps_set (i := 4) sc__law_beside_right.nd rfl (by first | exact Or.inl rfl | exact Or.inr rfl) (pe_lst (pa_cons (pe_ownX O_side_by_side hr (by decide) LamX.takes0 (by rfl) (pa_cons (pe_ix ix_seq (pe_ix ix_seq (pv 3) pe_int (fun _ _ => rfl)) pe_int (fun _ _ => rfl)) (pa_cons (pe_ix ix_seq (pe_ix ix_seq (pv 3) pe_int (fun _ _ => rfl)) pe_int (fun _ _ => rfl)) pa_nil))) (pa_cons (pe_ownX O_side_by_side hr (by decide) LamX.takes0 (by rfl) (pa_cons (pe_ix ix_seq (pe_ix ix_seq (pv 3) pe_int (fun _ _ => rfl)) pe_int (fun _ _ => rfl)) (pa_cons (pe_ix ix_seq (pe_ix ix_seq (pv 3) pe_int (fun _ _ => rfl)) pe_int (fun _ _ => rfl)) pa_nil))) pa_nil))))
    (pss_one (ps_ret (pe_and (pe_cmpR op_notN (pe_ix ix_seq (pv 4) pe_int (fun _ _ => rfl)) pe_non (nomark _)) (pe_and (pe_cmpR op_notN (pe_ix ix_seq (pv 4) pe_int (fun _ _ => rfl)) pe_non (nomark _)) (pe_one (pe_own O__law_same hr (by decide) (by rfl) (pa_cons (pe_ix ix_seq (pe_ix ix_seq (pv 4) pe_int (fun _ _ => rfl)) pe_int (fun _ _ => rfl)) (pa_cons (pe_ix ix_seq (pe_ix ix_seq (pv 4) pe_int (fun _ _ => rfl)) pe_int (fun _ _ => rfl)) pa_nil)))))))))))), ?_⟩
    have En : EnvOk X H (L2.start n__law_beside_right [.ref st, v1]) [.val (.ref st), .dat (wsD ws), .un, .un, .un, .un, .un, .un] := ⟨rfl, fun i s e => by
      match i, e with
      | 0, e => cases e; rfl
      | 1, e => cases e; exact ⟨_, rfl, d1⟩
      | 2, e => cases e; trivial
      | 3, e => cases e; trivial
      | 4, e => cases e; trivial
      | 5, e => cases e; trivial
      | 6, e => cases e; trivial
      | 7, e => cases e; trivial⟩
    have wl := hw.1
    refine k_set (k_lcR ?_)
    refine ⟨3, rfl, by decide, by decide, ?_⟩
    refine lc_drawsC 5 Chg S En (by decide) (fun X' H1 σ2 kk Q1 hk E1 S1 q1 => ?_) fun wl ds H2 hl hd S2 k2 d2 _ => ?_
    · have hk3 : kk < 3 := hk
      refine c_change S1 (gv_var (i := 0) E1 rfl) (g_var (i := 1) (d := wsD ws) E1 rfl) (g_lc1 (fun d => .bool false) S1.t (gi_list (g_var (i := 1) (d := wsD ws) E1 rfl)) (by rw [List.length_map]; omega) (fun H1 s d hd => tgt_name (E1.same s)) (fun X' H1 σ2 d hd t E => g_bl)) (by omega) hw.ok (fun z hz => ?_) fun w p os ns H' p1 p2 p3 p4 p5 S' k' dw => ?_
      · obtain ⟨_, _, rfl⟩ := List.mem_map.mp hz
        rfl
      · exact q1 w _ H' ⟨p, os, ns, rfl, p2 ▸ hw.cut _ _, Wd.of (by omega) (fun z hz => letters2_good z (p3 z hz)), p5⟩ S' k' dw
    · obtain ⟨e1, e2, e3, rfl⟩ : ∃ e1 e2 e3, ds = [e1, e2, e3] := by
        match ds, hl with
        | [e1, e2, e3], _ => exact ⟨e1, e2, e3, rfl⟩
      obtain ⟨p, os, ns, rfl, w1, w2, l1⟩ := hd e1 (by simp)
      obtain ⟨q, us, vs, rfl, w3, w4, l2⟩ := hd e2 (by simp)
      obtain ⟨r, as, bs, rfl, w5, w6, l3⟩ := hd e3 (by simp)
      have E2 := (En.kps S k2).set (i := 2) d2
      have t2 := S2.t
      have fin : ∀ H', Same H2 H' → Q (.bl true) H' := fun H' s' => k H' (S2.same s') (k2.trans (KpS.of s'))
      have lt : ∀ {H1 : Hp} {σ : L2.St} {Γ : List Sv} {j : Int} {z : PyData}, Trk X H1 → EnvOk X H1 σ Γ → Γ[2]? = some (.dat (.list [chD p os ns, chD q us vs, chD r as bs])) → atI [chD p os ns, chD q us vs, chD r as bs] j = some z → G X (tOp (rIx K) (tVar 2) (tC (.int j))) σ H1 z := fun t E e h => g_ixL (ds := [chD p os ns, chD q us vs, chD r as bs]) t (g_var (i := 2) E e) g_int h
      refine q_set (i := 3) (d := .list [sdD us vs os ns (sideZ p os.length ns.length q us.length vs.length), sdD as bs os ns (sideZ p os.length ns.length r as.length bs.length), sdD as bs us vs (sideZ q us.length vs.length r as.length bs.length)]) E2
        (g_lst t2 (ga_cons (g_side t2 (lt t2 E2 rfl rfl) (lt t2 E2 rfl rfl) w1 w2 w3 w4 l1 l2) (ga_cons (g_side t2 (lt t2 E2 rfl rfl) (lt t2 E2 rfl rfl) w1 w2 w5 w6 l1 l3) (ga_cons (g_side t2 (lt t2 E2 rfl rfl) (lt t2 E2 rfl rfl) w3 w4 w5 w6 l2 l3) ga_nil))) (by simp)) fun H3 v3 s3 E3 => ?_
      have t3 := t2.mono s3
      have key := beside3 p os.length ns.length q us.length vs.length r as.length bs.length (by omega) (by omega) (by omega) (by omega) (by omega) (by omega) (by omega) (by omega) (by omega)
      generalize hA : sideZ p os.length ns.length q us.length vs.length = zA at E3
      generalize hB : sideZ p os.length ns.length r as.length bs.length = zB at E3
      generalize hC : sideZ q us.length vs.length r as.length bs.length = zC at E3
      refine q_if (gt_B (g_any t3 (bs := [isNone (sdD us vs os ns zA), isNone (sdD as bs os ns zB), isNone (sdD as bs us vs zC)]) (g_is (g_lc1 (fun d => .bool (isNone d)) t3 (gi_list (g_var (i := 3) E3 rfl)) (by simp) (fun H1 s d hd => tgt_name (E3.same s)) (fun X' H1 σ2 d hd t E => g_op t (g_var (i := 6) E rfl) g_non (RB.rd rb_isN))) rfl))) (fun hb H4 s4 => ?_) fun hb H4 s4 => ?_
      · exact s_ret (X := X) (d := .bool true) g_bl fun w H5 s5 dw => by
          rw [dw.bl_inv]
          exact fin H5 ((s3.trans s4).trans s5)
      · have E4 := E3.same s4
        have t4 := t3.mono s4
        rcases zA with _ | ⟨x2, x1⟩
        · cases hb
        rcases zB with _ | ⟨y3, y1⟩
        · cases hb
        rcases zC with _ | ⟨z3, z2⟩
        · cases hb
        have key := sideP_some (sideP_some (sideP_some key hA) hB) hC
        obtain ⟨a1, a2⟩ := sideZ_nat hA
        obtain ⟨b1, _⟩ := sideZ_nat hB
        obtain ⟨c1, _⟩ := sideZ_nat hC
        obtain ⟨x2, rfl⟩ : ∃ m : Nat, x2 = m := ⟨x2.toNat, by omega⟩
        obtain ⟨x1, rfl⟩ : ∃ m : Nat, x1 = m := ⟨x1.toNat, by omega⟩
        obtain ⟨y3, rfl⟩ : ∃ m : Nat, y3 = m := ⟨y3.toNat, by omega⟩
        obtain ⟨z3, rfl⟩ : ∃ m : Nat, z3 = m := ⟨z3.toNat, by omega⟩
        let LL : List PyData := [.tuple [chD x2 us vs, chD x1 os ns], .tuple [chD y3 as bs, chD y1 os ns], .tuple [chD z3 as bs, chD z2 us vs]]
        have pr : ∀ {H1 : Hp} {σ : L2.St} {Γ : List Sv} {j : Int} {z : PyData}, Trk X H1 → EnvOk X H1 σ Γ → Γ[3]? = some (.dat (.list LL)) → atI LL j = some z → G X (tOp (rIx K) (tVar 3) (tC (.int j))) σ H1 z := fun t E e h => g_ixL (ds := LL) t (g_var (i := 3) E e) g_int h
        refine q_set (i := 4) (d := .list [sdD as bs us vs (sideZ x2 us.length vs.length y3 as.length bs.length), sdD as bs os ns (sideZ x1 os.length ns.length z3 as.length bs.length)]) E4
          (g_lst t4 (ga_cons (g_side t4 (g_ixT (ds := [chD x2 us vs, chD x1 os ns]) t4 (pr t4 E4 rfl rfl) g_int rfl) (g_ixT (ds := [chD y3 as bs, chD y1 os ns]) t4 (pr t4 E4 rfl rfl) g_int rfl) w3 w4 w5 w6 l2 l3) (ga_cons (g_side t4 (g_ixT (ds := [chD x2 us vs, chD x1 os ns]) t4 (pr t4 E4 rfl rfl) g_int rfl) (g_ixT (ds := [chD z3 as bs, chD z2 us vs]) t4 (pr t4 E4 rfl rfl) g_int rfl) w1 w2 w5 w6 l1 l3) ga_nil)) (by simp)) fun H5 v5 s5 E5 => ?_
        have t5 := t4.mono s5
        rcases hD : sideZ x2 us.length vs.length y3 as.length bs.length with _ | ⟨u, u1⟩
        · exact (sideP_none key hD).elim
        have key := sideP_some key hD
        rcases hE : sideZ x1 os.length ns.length z3 as.length bs.length with _ | ⟨u', u2⟩
        · exact (sideP_none key hE).elim
        have key := sideP_some key hE
        cases key
        rw [hD, hE] at E5
        let MM : List PyData := [.tuple [chD u as bs, chD u1 us vs], .tuple [chD u as bs, chD u2 os ns]]
        have mr : ∀ {H1 : Hp} {σ : L2.St} {Γ : List Sv} {j : Int} {z : PyData}, Trk X H1 → EnvOk X H1 σ Γ → Γ[4]? = some (.dat (.list MM)) → atI MM j = some z → G X (tOp (rIx K) (tVar 4) (tC (.int j))) σ H1 z := fun t E e h => g_ixL (ds := MM) t (g_var (i := 4) E e) g_int h
        refine s_ret (X := X) (d := .bool true) (g_is (g_and (a := true) (b := true) (g_is (g_op t5 (mr (z := .tuple [chD u as bs, chD u1 us vs]) t5 E5 rfl rfl) g_non (RB.rd rb_notN)) rfl) fun _ => g_is (g_and (a := true) (b := true) (g_is (g_op t5 (mr (z := .tuple [chD u as bs, chD u2 os ns]) t5 E5 rfl rfl) g_non (RB.rd rb_notN)) rfl) fun _ =>
          g_same t5 (g_ixT (ds := [chD u as bs, chD u1 us vs]) t5 (mr t5 E5 rfl rfl) g_int rfl) (g_ixT (ds := [chD u as bs, chD u2 os ns]) t5 (mr t5 E5 rfl rfl) g_int rfl) (sm_ch 2 w5.ok w6.ok)) rfl) rfl) fun w H6 s6 dw => ?_
        rw [dw.bl_inv]
        exact fin H6 (((s3.trans s4).trans s5).trans s6)
end K18

/-! The law. -/
namespace K18
open PySem PySem.Spec PyProof.Rows L2 KD KP LamX
-- RAISES change_of checked_text passed side_by_side
-- HINT law nek _law_p_records (op_neK (Nat.lt_of_le_of_lt (Nat.add_le_add_left (by decide : 65 ≤ 16 * 8 + 200) _) (Nat.add_assoc _ _ _ ▸ hr.un)))
theorem names_str : ∀ s ∈ runNames, PyData.strOk s = true := by decide +kernel
theorem run_facts : ∀ {rs : List Stp} {ws : List Str}, okRun ws rs → (∀ z ∈ ws, z ∈ goodW) → ws.length + 2 * rs.length ≤ 90 → (∀ r ∈ rs, r.name ∈ runNames) → (∀ r ∈ rs, okS r) ∧ okT ws rs ∧ okLn ws.length rs
  | [], _, _, _, _, _ => ⟨fun r h => (by cases h), trivial, trivial⟩
  | r :: rs, ws, ⟨⟨p0, p1, eo, hns, lns, hab⟩, h2⟩, hg, hl, hn => by
    rw [List.length_cons] at hl
    obtain ⟨p, hp⟩ : ∃ p : Nat, r.p = (p : Int) := ⟨r.p.toNat, by omega⟩
    rw [hp] at p0 p1 eo h2
    rw [Int.toNat_natCast] at eo
    have f1 := fit_le (by omega : p ≤ ws.length) eo.symm
    have pl := put_len (ns := r.ns) f1
    have gp : ∀ z ∈ putB ws p r.os r.ns, z ∈ goodW := fun z hz => (put_in hz).elim (hg z) fun h => letters2_good z (hns z h)
    have os1 : okS r := ⟨hn r List.mem_cons_self, Wd.of (by omega) fun z hz => hg z (take_mem eo z hz), Wd.of (by omega) fun z hz => letters2_good z (hns z hz), hab⟩
    obtain ⟨a1, a2, a3⟩ := run_facts h2 gp (by rw [pl]; omega) fun s hs => hn s (List.mem_cons_of_mem _ hs)
    rw [pl] at a3
    exact ⟨fun s hs => (List.mem_cons.mp hs).elim (fun e => e ▸ os1) (a1 s), ⟨⟨p, hp, f1, eo.symm⟩, by rw [hp]; exact a2⟩, ⟨names_str _ os1.1, by omega, os1.2.1.ok, os1.2.2.1.ok, by rw [hp, Int.toNat_natCast]; exact f1⟩, a3⟩
section
variable {X : Addr → Prop} {H : Hp} {σ : L2.St} {st cl : Addr} {n : Nat} {ta tb tc te : TE} {E : XK} {Q : VK} {ws : List Str} {D : Ends} {tz tu : TS} {tt : TT} {Qb : Bool → Hp → Prop} {K : PySem.W.Frag}
theorem c_run {m : Nat} (S : Sg X st cl n H) (hv : GV ta σ H (.ref st)) (h1 : G X tb σ H (wsD ws)) (hm : m ≤ 6) (hn : n + 100 ≤ 1000000000) (hw : WsOk ws) (hl : ws.length ≤ 50) (k : ∀ w rs H', rs.length = m → okRun ws rs → (∀ r ∈ rs, r.name ∈ runNames) → (rs.map Stp.name).Nodup → Sg X st cl (n + 50) H' → KpS st cl H H' → DX X H' w (.list (rs.map stpD)) → Q w H') :
    tCall spRun [] E (tCons ta (tCons tb (tCons (tC (.int (m : Int))) (tCons (tC (.bl false)) tNil)))) σ H Q :=
  hv H (Same.refl H) _ (h1 H (Same.refl H) _ fun v H1 s1 r1 => ⟨X, st, cl, n, m, v, ws, rfl, hm, S.same s1, hn, r1, hw, hl, fun w rs H' a b c d e f g => k w rs H' a b c d e ((KpS.of s1).trans f) g⟩)
theorem c_beside (S : Sg X st cl n H) (hv : GV ta σ H (.ref st)) (h1 : G X tb σ H (wsD ws)) (hn : n + 30 ≤ 1000000000) (hw : Wd ws) (k : ∀ H', Sg X st cl (n + 15) H' → KpS st cl H H' → Qb false H') : tNot (tB (tCall spBeside [] E (tCons ta (tCons tb tNil)))) σ H Qb :=
  hv H (Same.refl H) _ (h1 H (Same.refl H) _ fun v H1 s1 r1 => ⟨X, st, cl, n, v, ws, rfl, S.same s1, hn, r1, hw, fun H' S' k' => ⟨true, rfl, k H' S' ((KpS.of s1).trans k')⟩⟩)
theorem q_ifJ {b : Bool} (h : GT tt σ H b) (J : L2.St → Hp → Prop) (hJ : ∀ σ H, J σ H → tz D σ H) (h1 : b = true → (∀ σ H, J σ H → tz D σ H) → ∀ H1, Same H H1 → tu { D with nx := tz D } σ H1) (h0 : b = false → ∀ H1, Same H H1 → J σ H1) : tSeq (tIfS tt tu tNext) tz D σ H :=
  q_if h (fun e H1 s => h1 e hJ H1 s) fun e H1 s => hJ σ H1 (h0 e H1 s)
theorem g_list3 {i j l : Nat} {w : V} {d e f : PyData} {Ψ : L2.St → Hp → Prop} (dw : DX X H w (.list [d, e, f])) (k : ∀ a b c, DX X H a d → DX X H b e → DX X H c f → Ψ (((σ.set i (some a)).set j (some b)).set l (some c)) H) :
    gUnl K 3 (gCons (gName i) (gCons (gName j) (gCons (gName l) gNil))) w σ H Ψ := by
  obtain ⟨a, xs, rfl, _, ea, rx⟩ := dw.lst_inv
  cases rx with
  | cons h1 rx =>
    cases rx with
    | cons h2 rx =>
      cases rx with
      | cons h3 rx =>
        cases rx
        exact ⟨a, _, rfl, SqL.of ea, rfl, _, _, rfl, _, _, rfl, _, _, rfl, rfl, k _ _ _ h1 h2 h3⟩
theorem dxs_rev : ∀ {xs : List V} {ds : List PyData}, DXs X H xs ds → DXs X H xs.reverse ds.reverse
  | _, _, .nil => .nil
  | _, _, .cons h r => by
    rw [List.reverse_cons, List.reverse_cons]
    exact (dxs_rev r).append (.cons h .nil)
theorem g_rev {ds : List PyData} (t : Trk X H) (h : G X te σ H (.list ds)) : G X (tRevL K te) σ H (.list ds.reverse) := fun H1 s Q q =>
  h H1 s _ fun v H2 s2 r => by
    obtain ⟨a, xs, rfl, n, e, rx⟩ := r.lst_inv
    exact ⟨a, xs, rfl, SqL.of e, fun p hp => q _ _ (s2.trans (Same.upd hp)) (DX.newL ((t.mono s).mono s2) (dxs_rev rx) hp)⟩
theorem gt_neK {as bs : KDs} (h1 : G X ta σ H (dicD as)) (h2 : G X tb σ H (dicD bs)) (c1 : ∀ p ∈ as, cmpD p.2) (c2 : ∀ p ∈ bs, cmpD p.2) : GT (tTest (tOp rNeK ta tb)) σ H (!eqK as bs) := fun H1 s Q q =>
  h1 H1 s _ fun v H2 s2 r1 => h2 H2 (s.trans s2) _ fun u H3 s3 r2 => ⟨X, as, bs, r1.mono (Kp.of s3), r2, c1, c2, _, rfl, q H3 (s2.trans s3)⟩
theorem g_tri {g : Int → Int → Int → Int → Int → Int → Int → Int → Int → Option (Int × Int × Int)} {p q r : Nat} {os ns us vs as bs : List Str} (t : Trk X H) (h1 : G X ta σ H (chD p os ns)) (h2 : G X tb σ H (chD q us vs)) (h3 : G X tc σ H (chD r as bs))
    (w1 : Wd os) (w2 : Wd ns) (w3 : Wd us) (w4 : Wd vs) (w5 : Wd as) (w6 : Wd bs) (l1 : 0 < os.length + ns.length) (l2 : 0 < us.length + vs.length) (l3 : 0 < as.length + bs.length) :
    G X (tCall (spTri g) [] E (tCons ta (tCons tb (tCons tc tNil)))) σ H (triD as bs us vs os ns (g p os.length ns.length q us.length vs.length r as.length bs.length)) :=
  g_call (ga_cons h1 (ga_cons h2 (ga_cons h3 ga_nil))) fun vs' H1 s rs Q k => by
    cases rs with
    | cons r1 r2 =>
      cases r2 with
      | cons r2 r3 =>
        cases r3 with
        | cons r3 r4 =>
          cases r4
          exact ⟨X, _, _, _, p, q, r, os, ns, us, vs, as, bs, rfl, t.mono s, r1, r2, r3, w1, w2, w3, w4, w5, w6, l1, l2, l3, k⟩
theorem g_behind {rs : List Stp} (t : Trk X H) (h1 : G X ta σ H (wsD ws)) (h2 : G X tb σ H (.list (rs.map stpD))) (a1 : ∀ r ∈ rs, okS r) (a2 : (rs.map Stp.name).Nodup) (a3 : okT ws rs) (a4 : Wd ws) (a5 : rs.length ≤ 8) : G X (tCall spBehind [] E (tCons ta (tCons tb tNil))) σ H (wsD (hereOf ws rs)) :=
  g_call (ga_cons h1 (ga_cons h2 ga_nil)) fun vs H1 s rs' Q k => by
    cases rs' with
    | cons r1 r2 =>
      cases r2 with
      | cons r2 r3 =>
        cases r3
        exact ⟨X, _, _, ws, rs, rfl, t.mono s, r1, r2, a1, a2, a3, a4, a5, k⟩
end
section
variable {P : Program} {w : World} {K : PySem.W.Frag} {mg : Str → Option Value} {base : Heap}
abbrev s_law : Stmt := topS 44
abbrev n_law : List Str := ["_law_script", "_law_stream", "_law_turn", "_law_words", "_law_run", "_law_one", "_law_two", "_law_three", "_law_found", "_law_due", "_law_names", "_law_later", "_law_name", "_law_change"]
theorem sc_law : FnScope n_law ["_law_script"] (defScope s_law) := ⟨rfl, rfl, rfl, by decide +kernel, rfl, by decide +kernel, by decide +kernel⟩
/-- what the law's text leans on -/
structure Lib (P : Program) (w : World) (K : PySem.W.Frag) (mg : Str → Option Value) (base : Heap) : Prop where
  T : Bl mg
  start : Own P w K mg base CX0 1 "_law_start" ["_law_script"] (spStart K)
  draw : Own P w K mg base CX0 1 "_law_draw" ["_law_stream", "_law_many"] spDraw
  text : Own P w K mg base CX0 3 "_law_p_text" ["_law_stream", "_law_many"] spText
  run : Own P w K mg base CX0 4 "_law_p_run" ["_law_stream", "_law_words", "_law_many", "_law_is_plain"] spRun
  recs : Own P w K mg base CX0 2 "_law_p_records" ["_law_words", "_law_run"] spRecs
  same : Own P w K mg base CX0 6 "_law_same" ["_law_found", "_law_due"] (spSame 4)
  one : Own P w K mg base CX0 6 "_law_by_one" ["_law_one", "_law_two", "_law_three"] (spTri oneZ)
  oth : Own P w K mg base CX0 6 "_law_by_other" ["_law_one", "_law_two", "_law_three"] (spTri othZ)
  beh : Own P w K mg base CX0 6 "text_behind" ["text", "run"] spBehind
  bes : Own P w K mg base CX0 7 "_law_beside_right" ["_law_stream", "_law_words"] spBeside
def Gm0 (st : Addr) : List Sv := [.un, .val (.ref st), .un, .un, .un, .un, .un, .un, .un, .un, .un, .un, .un, .un]
theorem law_reads {f a : Addr} {cdv : Value} {s : Shared} {H : Hp} {E : XK} {ns : List Int} (L : Lib P w K mg base) (hr : Room 8 (callerA.deeper (envOfC "law" (defScope s_law) s.heap.objs.size f cdv))) (hS : SqL K H a (ns.map V.int)) (hl : ns.length ≤ 63) :
    ∃ t, PSs (cxOf CX0 P w K mg base n_law "law" (defScope s_law) f cdv callerA [] s H E).nox (defBody s_law) t ∧ t { nx := fun _ _ => V.non = V.bl true, rt := fun v _ => v = V.bl true } (L2.start n_law [.ref a]) H := by
  obtain ⟨T, O__law_start, O__law_draw, O__law_p_text, O__law_p_run, O__law_p_records, O__law_same, O__law_by_one, O__law_by_other, O_text_behind, O__law_beside_right⟩ := L
  have hrr := hr
  refine ⟨_, (pss_cons (ps_set (i := 1) sc_law.nd rfl (by first | exact Or.inl rfl | exact Or.inr rfl) (pe_own O__law_start hr (by decide) (by rfl) (pa_cons (pv 0) pa_nil)))
    (pss_cons (ps_for PassesOwn.never rfl (pi_range1 (by rfl) T.b_range (pa_cons pe_int pa_nil)) (pg_name (i := 2) sc_law.nd rfl (by first | exact Or.inl rfl | exact Or.inr rfl))
    (pss_cons (ps_set (i := 3) sc_law.nd rfl (by first | exact Or.inl rfl | exact Or.inr rfl) (pe_own O__law_p_text hr (by decide) (by rfl) (pa_cons (pv 1) (pa_cons (pe_op op_addA pe_int (pe_own O__law_draw hr (by decide) (by rfl) (pa_cons (pv 1) (pa_cons pe_int pa_nil)))) pa_nil))))
    (pss_cons (ps_set (i := 4) sc_law.nd rfl (by first | exact Or.inl rfl | exact Or.inr rfl) (pe_own O__law_p_run hr (by decide) (by rfl) (pa_cons (pv 1) (pa_cons (pv 3) (pa_cons pe_int (pa_cons pe_bl pa_nil))))))
    (pss_cons (ps_asg (pe_lc (own := [("_law_name", 12), ("_law_change", 13)]) (g := (gTup K 2 (gCons (gName 12) (gCons (gName 13) gNil)))) (tt := tYes) rfl sc_law.nd (pi_list (pv 4)) (blkOk_by (N := n_law) (sc := defScope s_law) (by decide +kernel)) (fun _ _ _ _ _ => (pg_tup (n := 2) rfl (pgs_cons (pg_name (i := 12) sc_law.nd rfl (by first | exact Or.inl rfl | exact Or.inr rfl)) (pgs_cons (pg_name (i := 13) sc_law.nd rfl (by first | exact Or.inl rfl | exact Or.inr rfl)) pgs_nil)))) (fun _ _ _ _ _ => pts_nil) (fun _ _ _ _ _ => (pv 13))) (pg_unl (n := 3) rfl (pgs_cons (pg_name (i := 5) sc_law.nd rfl (by first | exact Or.inl rfl | exact Or.inr rfl)) (pgs_cons (pg_name (i := 6) sc_law.nd rfl (by first | exact Or.inl rfl | exact Or.inr rfl)) (pgs_cons (pg_name (i := 7) sc_law.nd rfl (by first | exact Or.inl rfl | exact Or.inr rfl)) pgs_nil)))))
    (pss_cons (ps_par (i := 8) (j := 9) (by rfl) sc_law.nd rfl rfl (by decide) rfl rfl (pa_cons (pe_own O__law_by_one hr (by decide) (by rfl) (pa_cons (pv 5) (pa_cons (pv 6) (pa_cons (pv 7) pa_nil)))) (pa_cons (pe_own O__law_by_other hr (by decide) (by rfl) (pa_cons (pv 5) (pa_cons (pv 6) (pa_cons (pv 7) pa_nil)))) pa_nil)) (by rfl))
    (pss_cons (ps_if (pt_not (pt_val (pe_own O__law_same hr (by decide) (by rfl) (pa_cons (pe_lst (pa_cons (pv 8) pa_nil)) (pa_cons (pe_lst (pa_cons (pv 9) pa_nil)) pa_nil)))))
    (pss_one (ps_ret pe_bl)) pss_nil)
    (pss_cons (ps_if (pt_cmpR op_notN (pv 8) pe_non (nomark _))
    (pss_cons (ps_set (i := 10) sc_law.nd rfl (by first | exact Or.inl rfl | exact Or.inr rfl) (pe_revL (pe_lc (own := [("_law_name", 12), ("_law_change", 13)]) (g := (gTup K 2 (gCons (gName 12) (gCons (gName 13) gNil)))) (tt := tYes) rfl sc_law.nd (pi_list (pv 4)) (blkOk_by (N := n_law) (sc := defScope s_law) (by decide +kernel)) (fun _ _ _ _ _ => (pg_tup (n := 2) rfl (pgs_cons (pg_name (i := 12) sc_law.nd rfl (by first | exact Or.inl rfl | exact Or.inr rfl)) (pgs_cons (pg_name (i := 13) sc_law.nd rfl (by first | exact Or.inl rfl | exact Or.inr rfl)) pgs_nil)))) (fun _ _ _ _ _ => pts_nil) (fun _ _ _ _ _ => (pv 12)))))
    (pss_cons (ps_set (i := 11) sc_law.nd rfl (by first | exact Or.inl rfl | exact Or.inr rfl) (pe_listZip rfl (by rfl) T.b_list (by rfl) T.b_zip (pa_cons (pv 10) (pa_cons (pv 8) pa_nil))))
    (pss_cons (ps_if (pt_cmpR (op_neK (Nat.lt_of_le_of_lt (Nat.add_le_add_left (by decide : 65 ≤ 16 * 8 + 200) _) (Nat.add_assoc _ _ _ ▸ hr.un))) (pe_own O__law_p_records hr (by decide) (by rfl) (pa_cons (pv 3) (pa_cons (pv 11) pa_nil))) (pe_own O__law_p_records hr (by decide) (by rfl) (pa_cons (pv 3) (pa_cons (pv 4) pa_nil))) (nomark _))
    (pss_one (ps_ret pe_bl)) pss_nil)
    (pss_one (ps_if (pt_cmpR (op_neD hr.units) (pe_own O_text_behind hr (by decide) (by rfl) (pa_cons (pv 3) (pa_cons (pv 11) pa_nil))) (pe_own O_text_behind hr (by decide) (by rfl) (pa_cons (pv 3) (pa_cons (pv 4) pa_nil))) (nomark _))
    (pss_one (ps_ret pe_bl)) pss_nil))))) pss_nil)
    (pss_one (ps_if (pt_not (pt_val (pe_own O__law_beside_right hr (by decide) (by rfl) (pa_cons (pv 1) (pa_cons (pv 3) pa_nil)))))
    (pss_one (ps_ret pe_bl)) pss_nil)))))))))
    (pss_one (ps_ret pe_bl)))), ?_⟩
  clear hrr
  -- the spring
  refine k_set ?_
  refine ⟨.ref a, rfl, a, ns, rfl, hS, hl, fun st cl H1 s1 h1 h2 so => ?_⟩
  have hst : ∃ ms x y z, SpAt st cl ms x y z H1 := by
    obtain ⟨ms, x, y, z, S, _⟩ := so
    exact ⟨ms, x, y, z, S⟩
  let X : Addr → Prop := fun b => b = st ∨ b = cl
  have lst1 : ∀ b, X b → ∃ xs, H1 b = some (.lst xs) := fun b hb => by
    obtain ⟨ms, x, y, z, S⟩ := hst
    rcases hb with rfl | rfl
    · exact ⟨_, S.hs⟩
    · exact ⟨_, S.hc⟩
  have Z1 : Sg X st cl 0 H1 := ⟨so, .inl rfl, .inr rfl, fun b hb => let ⟨xs, e⟩ := lst1 b hb; ⟨_, e⟩⟩
  have E1 : EnvOk X H1 ((L2.start n_law [.ref a]).set 1 (some (.ref st))) (Gm0 st) := ⟨rfl, fun i s e => by
    match i, e with
    | 1, e => cases e; rfl
    | 0, e => cases e; trivial
    | 2, e => cases e; trivial
    | 3, e => cases e; trivial
    | 4, e => cases e; trivial
    | 5, e => cases e; trivial
    | 6, e => cases e; trivial
    | 7, e => cases e; trivial
    | 8, e => cases e; trivial
    | 9, e => cases e; trivial
    | 10, e => cases e; trivial
    | 11, e => cases e; trivial
    | 12, e => cases e; trivial
    | 13, e => cases e; trivial
    | _ + 14, e => cases e⟩
  clear hst so lst1 h1 h2
  refine ⟨8, rfl, by decide, by decide, ?_⟩
  refine for_it walk_range (fun i σ H' => Sg X st cl (i * 100) H' ∧ EnvOk X H' σ (Gm0 st)) ⟨Z1, E1⟩ (fun _ _ _ _ _ => trivial) (fun i x σ H2 H3 hi p y => ?_) (fun σ H2 p => rfl)
  obtain ⟨rfl, rfl⟩ := y
  obtain ⟨Z2, E2⟩ := p
  have hi8 : i < 8 := hi
  clear Z1 E1
  have E3 := E2.setV (i := 2) (v := .int (0 + (i : Int)))
  -- words
  refine k_set ?_
  refine ⟨.ref st, E3.get 1 _ rfl, ?_⟩
  refine k_op (c_draw (m := 7) Z2 (gv_var (i := 1) E3 rfl) g_int (by omega) (by decide) (by decide) fun m H4 m0 m1 S4 k4 => ?_)
  have E4 := E3.kps Z2 k4
  refine .inl ⟨1, m, rfl, rfl, ?_⟩
  refine ⟨X, st, cl, i * 100 + 1, (1 + m).toNat, by rw [show (((1 + m).toNat : Nat) : Int) = 1 + m from by omega]; rfl, S4, by omega, by omega, fun w5 ws H5 hl5 hw5 S5 k5 dw5 nw5 => ?_⟩
  have Z5 := S5.le (m := i * 100 + 9) (by omega)
  have E5 := (E4.kps S4 k5).set (i := 3) dw5
  have lw : ws.length ≤ 7 := by omega
  have gw : ∀ z ∈ ws, z ∈ goodW := fun z hz => letters_good z (hw5 z hz)
  have ww : Wd ws := Wd.of (by omega) gw
  clear E2 E3 Z2 E4 S4 k4 S5 k5 hw5 dw5 nw5
  -- run
  refine k_set (c_run (m := 3) Z5 (gv_var (i := 1) E5 rfl) (g_var (i := 3) E5 rfl) (by decide) (by omega) ww.ok (by omega) fun w6 rs H6 hrs hok hnm nd S6 k6 d6 => ?_)
  obtain ⟨⟨na, P1, os, ns'⟩, ⟨nb, P2, us, vs⟩, ⟨nc, P3, as, bs⟩, rfl⟩ : ∃ r1 r2 r3, rs = [r1, r2, r3] := by
    match rs, hrs with
    | [r1, r2, r3], _ => exact ⟨r1, r2, r3, rfl⟩
  obtain ⟨oS, oT, oL⟩ := run_facts hok gw (by simp; omega) hnm
  obtain ⟨s1, w1, w2, l1⟩ := oS _ List.mem_cons_self
  obtain ⟨s2, w3, w4, l2⟩ := oS _ (List.mem_cons_of_mem _ List.mem_cons_self)
  obtain ⟨s3, w5, w6, l3⟩ := oS _ (List.mem_cons_of_mem _ (List.mem_cons_of_mem _ List.mem_cons_self))
  have oT' := oT
  obtain ⟨⟨p, e1, f1⟩, ⟨q, e2, f2⟩, ⟨r, e3, f3⟩, _⟩ := oT'
  simp only at e1 e2 e3 s1 s2 s3 w1 w2 w3 w4 w5 w6 l1 l2 l3 f1 f2 f3
  subst e1 e2 e3
  have Z6 := S6.le (m := i * 100 + 60) (by omega)
  have E6 := (E5.kps Z5 k6).set (i := 4) d6
  clear E5 Z5 S6 k6 d6 hok hnm
  let run : List Stp := [⟨na, p, os, ns'⟩, ⟨nb, q, us, vs⟩, ⟨nc, r, as, bs⟩]
  have t6 := Z6.t
  -- one, two, three
  refine k_asg (g_is (g_lc1 (ds := run.map stpD) (Γ2 := fun d => ((((((((Gm0 st).set 2 (.val (.int (0 + (i : Int))))).set 3 (.dat (wsD ws))).set 4 (.dat (.list (run.map stpD)))).set 13 .un).set 12 .un).set 12 (.dat (it d 0))).set 13 (.dat (it d 1)))) (fun d => it d 1) t6 (gi_list (g_var (i := 4) (d := .list (run.map stpD)) E6 rfl)) (by simp [run]) (fun H1 s d hd => ?_) (fun X' H1 σ2 d hd t E => g_var (i := 13) E rfl)) (e := .list [chD p os ns', chD q us vs, chD r as bs]) rfl H6 (Same.refl _) _ fun v7 H7 s7 d7 => ?_)
  · obtain ⟨z, hz, rfl⟩ := List.mem_map.mp hd
    exact tgt_pair (d := .str z.name) (e := chD z.p z.os z.ns) (E6.same s) (by decide)
  refine g_list3 d7 fun x1 x2 x3 y1 y2 y3 => ?_
  have E7 := (((E6.same s7).set (i := 5) y1).set (i := 6) y2).set (i := 7) y3
  have Z7 := Z6.same s7
  have t7 := Z7.t
  clear E6 Z6 t6 d7 y1 y2 y3
  -- by one, by the other
  have cb := cube p os.length ns'.length q us.length vs.length r as.length bs.length (by omega) (by omega) (by omega) (by omega) (by omega) (by omega) (by omega) (by omega) (by omega)
  refine k_par ?_
  refine g_tri t7 (g_var (i := 5) E7 rfl) (g_var (i := 6) E7 rfl) (g_var (i := 7) E7 rfl) w1 w2 w3 w4 w5 w6 l1 l2 l3 H7 (Same.refl _) _ fun v8 H8 s8 d8 => ?_
  refine g_tri t7 (g_var (i := 5) E7 rfl) (g_var (i := 6) E7 rfl) (g_var (i := 7) E7 rfl) w1 w2 w3 w4 w5 w6 l1 l2 l3 H8 s8 _ fun v9 H9 s9 d9 => ⟨_, _, rfl, ?_⟩
  rw [← cb] at d9
  have E9 := (((E7.same s8).same s9).set (i := 8) (d8.mono (Kp.of s9))).set (i := 9) d9
  have Z9 := (Z7.same s8).same s9
  have t9 := Z9.t
  clear E7 Z7 t7 d8 d9 cb
  have bo := oneZ_eq (p := p) (a := os.length) (b := ns'.length) (q := q) (c := us.length) (d := vs.length) (r := r) (e := as.length) (f := bs.length)
  have shape : oneZ p os.length ns'.length q us.length vs.length r as.length bs.length = none ∨ ∃ x2 y1 x3 z1 u3 u2 : Nat, oneZ p os.length ns'.length q us.length vs.length r as.length bs.length = some ((u3 : Int), (u2 : Int), (z1 : Int)) ∧ PassAt p os.length ns'.length q us.length vs.length x2 y1 ∧ PassAt y1 os.length ns'.length r as.length bs.length x3 z1 ∧ PassAt x2 us.length vs.length x3 as.length bs.length u3 u2 := by
    rw [bo]
    rcases h1 : passZ p os.length ns'.length q us.length vs.length with _ | ⟨A, B⟩
    · exact .inl rfl
    obtain ⟨x2, y1, rfl, rfl, g1⟩ := passZ_nat h1
    show (passZ y1 os.length ns'.length r as.length bs.length).bind _ = none ∨ _
    rcases h2 : passZ y1 os.length ns'.length r as.length bs.length with _ | ⟨A, B⟩
    · exact .inl rfl
    obtain ⟨x3, z1, rfl, rfl, g2⟩ := passZ_nat h2
    show (passZ x2 us.length vs.length x3 as.length bs.length).bind _ = none ∨ _
    rcases h3 : passZ x2 us.length vs.length x3 as.length bs.length with _ | ⟨A, B⟩
    · exact .inl rfl
    obtain ⟨u3, u2, rfl, rfl, g3⟩ := passZ_nat h3
    exact .inr ⟨x2, y1, x3, z1, u3, u2, by simp only [Option.bind, h2, h3], g1, g2, g3⟩
  generalize hz : oneZ p os.length ns'.length q us.length vs.length r as.length bs.length = oz at E9 shape
  clear bo
  -- the same
  refine q_if (b := false) (gt_is (gt_not (gt_B (g_same (d := .list [triD as bs us vs os ns' oz]) t9 (g_lst t9 (ga_cons (g_var (i := 8) E9 rfl) ga_nil) (by simp)) (g_lst t9 (ga_cons (g_var (i := 9) E9 rfl) ga_nil) (by simp)) ?_))) rfl) (fun h => by cases h) fun _ H11 s11 => ?_
  · refine ⟨by simp, fun z hz => ?_⟩
    simp at hz
    subst hz
    rcases shape with rfl | ⟨_, _, _, z1, u3, u2, rfl, _⟩
    · exact sm_leaf 3 rfl
    · refine ⟨by simp, fun z hz => ?_⟩
      simp at hz
      rcases hz with rfl | rfl | rfl
      · exact sm_ch 0 w5.ok w6.ok
      · exact sm_ch 0 w3.ok w4.ok
      · exact sm_ch 0 w1.ok w2.ok
  have Z11 := Z9.same s11
  have E11 := E9.same s11
  clear E9 Z9 t9
  refine q_ifJ (b := !isNone (triD as bs us vs os ns' oz)) (gt_op Z11.t (g_var (i := 8) E11 rfl) g_non rb_notN) (fun σ H' => Sg X st cl (i * 100 + 60) H' ∧ EnvOk X H' σ [.un, .val (.ref st), .un, .dat (wsD ws), .un, .un, .un, .un, .un, .un, .un, .un, .un, .un]) (fun σ H' hJ => ?_) (fun hb hJ H12 s12 => ?_) fun hb H12 s12 => ⟨Z11.same s12, (E11.same s12).weak rfl (fun i s e => by
    rcases i with _ | _ | _ | _ | _ | _ | _ | _ | _ | _ | _ | _ | _ | _ | i
    all_goals first | (cases e; first | exact .inl rfl | exact .inr rfl) | cases e)⟩
  -- beside
  · obtain ⟨Z, En⟩ := hJ
    refine k_if1 (c_beside Z (gv_var (i := 1) En rfl) (g_var (i := 3) En rfl) (by omega) ww fun H' S' k' => (if_neg (by simp)).mpr ?_)
    exact ⟨S'.le (by omega), (En.kps Z k').weak rfl (fun i s e => by
      rcases i with _ | _ | _ | _ | _ | _ | _ | _ | _ | _ | _ | _ | _ | _ | i
      all_goals first | (cases e; first | exact .inl rfl | exact .inr rfl) | cases e)⟩
  -- turned about
  rcases shape with rfl | ⟨x2, y1, x3, z1, u3, u2, rfl, g1, g2, g3⟩
  · cases hb
  have Z12 := Z11.same s12
  have E12 := E11.same s12
  have t12 := Z12.t
  clear E11 Z11
  obtain ⟨h1, h2, h3, h4⟩ := swap3 f1 f2 f3 g1 g2 g3
  let later : List Stp := [⟨nc, u3, as, bs⟩, ⟨nb, u2, us, vs⟩, ⟨na, z1, os, ns'⟩]
  have nd' : (later.map Stp.name).Nodup := (List.reverse_perm [na, nb, nc]).nodup_iff.mpr nd
  have lS : ∀ r ∈ later, okS r := fun r hr => by
    simp only [later, List.mem_cons, List.not_mem_nil, or_false] at hr
    rcases hr with rfl | rfl | rfl
    · exact ⟨s3, w5, w6, l3⟩
    · exact ⟨s2, w3, w4, l2⟩
    · exact ⟨s1, w1, w2, l1⟩
  have lT : okT ws later := ⟨⟨u3, rfl, h1⟩, ⟨u2, rfl, h2⟩, ⟨z1, rfl, h3⟩, trivial⟩
  have lL : okLn ws.length later := by
    have a1 := h1.1
    have a2 := h2.1
    have a3 := h3.1
    have q1 := put_len (ns := bs) a1
    have q2 := put_len (ns := vs) a2
    rw [q2, q1] at a3
    rw [q1] at a2
    exact ⟨⟨names_str _ s3, by show (0 : Int) ≤ (u3 : Int); omega, w5.ok, w6.ok, by show (u3 : Int).toNat + _ ≤ _; rw [Int.toNat_natCast]; exact a1⟩, ⟨names_str _ s2, by show (0 : Int) ≤ (u2 : Int); omega, w3.ok, w4.ok, by show (u2 : Int).toNat + _ ≤ _; rw [Int.toNat_natCast]; exact a2⟩, ⟨names_str _ s1, by show (0 : Int) ≤ (z1 : Int); omega, w1.ok, w2.ok, by show (z1 : Int).toNat + _ ≤ _; rw [Int.toNat_natCast]; exact a3⟩, trivial⟩
  have l0 : (here0 ws.length).length = ws.length + 2 := here0_len
  -- names
  refine q_set (i := 10) (d := .list [.str nc, .str nb, .str na]) E12 (g_is (g_rev t12 (g_lc1 (ds := run.map stpD) (Γ2 := fun d => ((((((((((((((Gm0 st).set 2 (.val (.int (0 + (i : Int))))).set 3 (.dat (wsD ws))).set 4 (.dat (.list (run.map stpD)))).set 5 (.dat (chD p os ns'))).set 6 (.dat (chD q us vs))).set 7 (.dat (chD r as bs))).set 8 (.dat (triD as bs us vs os ns' (some ((u3 : Int), (u2 : Int), (z1 : Int)))))).set 9 (.dat (triD as bs us vs os ns' (some ((u3 : Int), (u2 : Int), (z1 : Int)))))).set 13 .un).set 12 .un).set 12 (.dat (it d 0))).set 13 (.dat (it d 1))))) (fun d => it d 0) t12 (gi_list (g_var (i := 4) (d := .list (run.map stpD)) E12 rfl)) (by simp [run]) (fun H1 s d hd => ?_) (fun X' H1 σ2 d hd t E => g_var (i := 12) E rfl))) rfl) fun H13 v13 s13 E13 => ?_
  · obtain ⟨z, hz, rfl⟩ := List.mem_map.mp hd
    exact tgt_pair (d := .str z.name) (e := chD z.p z.os z.ns) (E12.same s) (by decide)
  have t13 := t12.mono s13
  -- later
  refine q_set (i := 11) (d := .list (later.map stpD)) E13 (g_is (GN.g (g_listZip (K := K) t13 (g_var (i := 10) (d := .list [.str nc, .str nb, .str na]) E13 rfl) (g_var (i := 8) (d := .list [chD u3 as bs, chD u2 us vs, chD z1 os ns']) E13 rfl) (by simp))) rfl) fun H14 v14 s14 E14 => ?_
  have t14 := t13.mono s14
  have rf : ∀ {rs : List Stp}, (∀ r ∈ rs, okS r) → ∀ r ∈ rs, PyData.strOk r.name = true ∧ ∀ z ∈ r.ns, PyData.strOk z = true := fun h r hr => ⟨names_str _ (h r hr).1, (h r hr).2.2.1.ok.2⟩
  refine q_if (b := false) (gt_is (gt_neK (g_recs (rs := later) t14 (g_var (i := 3) E14 rfl) (g_var (i := 11) E14 rfl) ww.ok (by simp [later]) (fit_run l0 (by simp [later]; omega) lL)) (g_recs (rs := run) t14 (g_var (i := 3) E14 rfl) (g_var (i := 4) E14 rfl) ww.ok (by simp [run]) (fit_run l0 (by simp [run]; omega) oL)) (cmp_recs (rf lS)) (cmp_recs (rf oS))) ?_) (fun h => by cases h) fun _ H15 s15 => ?_
  · have a1 := f1.1
    have a2 := f2.1
    have a3 := f3.1
    rw [put_len a2, put_len a1] at a3
    rw [put_len a1] at a2
    have := recs3 (n := ws.length) (a := na) (b := nb) (c := nc) nd a1 a2 a3 g1 g2 g3
    rw [this]
    rfl
  have E15 := E14.same s15
  have t15 := t14.mono s15
  have wr : WsOk (hereOf ws run) := ⟨by have := here_len (rs := run) (ws := ws) fun z hz => (oS z hz).2.2.1.1; simp [run] at this; simp [run]; omega, here_mem (fun z hz => (ww.2 z hz).2) fun z hz y hy => ((oS z hz).2.2.1.2 y hy).2⟩
  have eh : hereOf ws later = hereOf ws run := h4
  refine s_if (b := false) (gt_is (gt_neD t15 (x := .list ((hereOf ws run).map PyData.str)) (y := .list ((hereOf ws run).map PyData.str)) (g_is (g_behind (rs := later) t15 (g_var (i := 3) E15 rfl) (g_var (i := 11) E15 rfl) lS nd' lT ww (by simp [later])) (by rw [eh]; rfl)) (g_behind (rs := run) t15 (g_var (i := 3) E15 rfl) (g_var (i := 4) E15 rfl) oS nd oT ww (by simp [run])) (noDict_strs _) (noDict_strs _) (shaped_strs wr.2) (shaped_strs wr.2)) ?_) (fun h => by cases h) fun _ H16 s16 => hJ _ _ ⟨(((Z12.same s13).same s14).same s15).same s16, (E15.same s16).weak rfl (fun i s e => by
    rcases i with _ | _ | _ | _ | _ | _ | _ | _ | _ | _ | _ | _ | _ | _ | i
    all_goals first | (cases e; first | exact .inl rfl | exact .inr rfl) | cases e)⟩
  show (!PyData.eqv (.list _) (.list _)) = false
  simp only [PyData.eqv, eqv_strs]
  simp
end
end K18

/-! What the top has written; the law's own head. -/
namespace K18
open PySem PySem.Spec PyProof.Rows L2 KD KP LamX
def inC : Stmt → Stmt
  | .ClassDef _ _ _ b _ _ _ _ _ _ _ => b.getD 0 (.Pass ⟨0, 0, 0, 0⟩)
  | s => s
/-- a def of the text -/
def DefA (K : PySem.W.Frag) (x : Str) (st : Stmt) : Prop := ∃ (f : Addr) (fd : FuncData), PySem.W.nsIn K mainGlobals x = some (some (.ref f)) ∧ PySem.W.keepIn K (.ref f) = true ∧ Fun K x x st f fd
theorem da {K : PySem.W.Frag} {x : Str} {st : Stmt} {f : Addr} {oc kV dc pm cd ct : Value} {od an : Option Addr} {sl : Array (Option Value)} (a : PySem.W.nsIn K mainGlobals x = some (some (.ref f)))
    (l : K.lookup f = some ⟨oc, od, .func (PySem.W.fnOf x x (defArgs st) (defBody st) (defScope st) .none kV dc pm an cd ct), sl⟩) (c : PySem.W.codeIn K cd x = true) (k : PySem.W.keepIn K (.ref f) = true) : DefA K x st := ⟨f, _, a, k, fun_mk l c k⟩
/-- a class of errors of the text -/
structure ClsA (K : PySem.W.Frag) (x qual f : Str) (st : Stmt) (C : Addr) : Prop where
  a : PySem.W.nsIn K mainGlobals x = some (some (.ref C))
  T : OexC K C
  xf : XfC K C
  no : PySem.W.findIn K (.ref C) f = some none
  ini : ∃ (fI : Addr) (fd : FuncData), PySem.W.findIn K (.ref C) "__init__" = some (some (.ref fI)) ∧ PySem.W.typeIn K (.ref fI) = some (.type "function") ∧ Fun K "__init__" qual (inC st) fI fd
theorem ca {K : PySem.W.Frag} {x qual f : Str} {st : Stmt} {C f1 N : Addr} {nm q : Str} {bs bm : List Value} {sn : List Str} {sub : List Value} {ab : Bool} {col : Option Bool} {dd : Option Addr} {m0 m1 m2 m3 m5 : Option Value} {oc kV dc pm cd ct : Value} {od an : Option Addr} {sl : Array (Option Value)}
    (a : PySem.W.nsIn K mainGlobals x = some (some (.ref C))) (xL : K.lookup C = some (excClassObj nm q C N bs bm true sn sub ab col dd m0 m1 m2 m3 m5 "ValueError.__new__")) (rv : PySem.HandSPX.refsVE bm = true)
    (sa : PySem.W.findIn K (.ref C) "__setattr__" = some (some (.builtin "object.__setattr__"))) (ga : PySem.W.findIn K (.ref C) "__getattribute__" = some (some (.builtin "BaseException.__getattribute__"))) (gg : PySem.W.findIn K (.ref C) "__getattr__" = some none)
    (no : PySem.W.findIn K (.ref C) f = some none) (a1 : PySem.W.findIn K (.ref C) "__init__" = some (some (.ref f1))) (t1 : PySem.W.typeIn K (.ref f1) = some (.type "function"))
    (l1 : K.lookup f1 = some ⟨oc, od, .func (PySem.W.fnOf "__init__" qual (defArgs (inC st)) (defBody (inC st)) (defScope (inC st)) .none kV dc pm an cd ct), sl⟩) (c1 : PySem.W.codeIn K cd qual = true) (k1 : PySem.W.keepIn K (.ref f1) = true)
    (kC : PySem.W.keepIn K (.ref C) = true) (eC : PySem.W.subIn K (.ref C) (.type "BaseException") = some true) (tC : PySem.W.typeIn K (.ref C) = some (.type "type")) (hC : PySem.W.hasDictIn K C = true) : ClsA K x qual f st C :=
  ⟨a, ⟨⟨nm, q, N, bs, bm, sn, sub, ab, col, dd, m0, m1, m2, m3, m5, xL, rv⟩, sa, eC, tC, kC⟩, ⟨ga, gg, eC, hC⟩, no, ⟨f1, _, a1, t1, fun_mk l1 c1 k1⟩⟩
theorem exm_of {K : PySem.W.Frag} {A B : Addr} {b : Bool} (h1 : PySem.W.subIn K (.ref B) (.type "BaseException") = some true) (h2 : PySem.W.isClsIn K B = true) (h3 : PySem.W.typeIn K (.ref B) = some (.type "type")) (h4 : PySem.W.subIn K (.ref A) (.ref B) = some b) : PySem.W.exmOne K (.ref A) (.ref B) = some b := by
  have i : (PySem.W.clsIn K B).isSome = true := h2
  show (if (PySem.W.subIn K (.ref B) (.type "BaseException") == some true) = true then (if ((PySem.W.clsIn K B).isSome && PySem.W.typeIn K (.ref B) == some (.type "type")) = true then PySem.W.subIn K (.ref A) (.ref B) else none) else none) = some b
  rw [h1, i, h3, if_pos (by rfl), if_pos (by rfl), h4]
/-- the law's own def -/
def LawA (K : PySem.W.Frag) (c : Addr) : Prop := ∃ (f : Addr) (oc kV dc pm ct : Value) (od an : Option Addr) (sl : Array (Option Value)), PySem.W.nsIn K mainGlobals "law" = some (some (.ref f)) ∧
  K.lookup f = some ⟨oc, od, .func (PySem.W.fnOf "law" "law" (defArgs s_law) (defBody s_law) (defScope s_law) .none kV dc pm an (.ref c) ct), sl⟩ ∧ PySem.W.codeIn K (.ref c) "law" = true
theorem la {K : PySem.W.Frag} {f c : Addr} {oc kV dc pm ct : Value} {od an : Option Addr} {sl : Array (Option Value)} (a : PySem.W.nsIn K mainGlobals "law" = some (some (.ref f)))
    (l : K.lookup f = some ⟨oc, od, .func (PySem.W.fnOf "law" "law" (defArgs s_law) (defBody s_law) (defScope s_law) .none kV dc pm an (.ref c) ct), sl⟩) (cc : PySem.W.codeIn K (.ref c) "law" = true) : LawA K c := ⟨f, oc, kV, dc, pm, ct, od, an, sl, a, l, cc⟩
def spLaw (K : PySem.W.Frag) : Sp := fun vs H Q _ => ∃ (a : Addr) (ns : List Int), vs = [.ref a] ∧ SqL K H a (ns.map V.int) ∧ ns.length ≤ 63 ∧ Q = fun v _ => v = V.bl true
section
variable {P : Program} {w : World} {K : PySem.W.Frag} {mg : Str → Option Value} {base h : Heap}
abbrev s_BadWords : Stmt := topS 4
theorem ec_BadWords {C : Addr} (X : K.In h) (G : h.Ns mainGlobals mg) (A : ClsA K "BadWords" "BadWords.__init__" "index" s_BadWords C) : Ec P w K mg base "BadWords" "index" C := by
  obtain ⟨fI, fd, h1, h2, F⟩ := A.ini
  have S : FnScope ["self", "index"] ["self", "index"] (defScope (inC s_BadWords)) := ⟨rfl, rfl, rfl, by decide +kernel, rfl, by decide +kernel, by decide +kernel⟩
  exact ⟨PySem.W.mg_of X G A.a, A.T, A.xf, A.no, fI, fd, h1, h2, ok_initF F S A.T A.no rfl rfl rfl (by decide) (by decide) (fun _ => rfl), F.binds (ps := ["self", "index"]) fun _ _ _ _ _ _ us hl => match us, hl with | [_, _], _ => rfl⟩
abbrev s_BadChange : Stmt := topS 2
theorem ec_BadChange {C : Addr} (X : K.In h) (G : h.Ns mainGlobals mg) (A : ClsA K "BadChange" "BadChange.__init__" "thing" s_BadChange C) : Ec P w K mg base "BadChange" "thing" C := by
  obtain ⟨fI, fd, h1, h2, F⟩ := A.ini
  have S : FnScope ["self", "thing"] ["self", "thing"] (defScope (inC s_BadChange)) := ⟨rfl, rfl, rfl, by decide +kernel, rfl, by decide +kernel, by decide +kernel⟩
  exact ⟨PySem.W.mg_of X G A.a, A.T, A.xf, A.no, fI, fd, h1, h2, ok_initF F S A.T A.no rfl rfl rfl (by decide) (by decide) (fun _ => rfl), F.binds (ps := ["self", "thing"]) fun _ _ _ _ _ _ us hl => match us, hl with | [_, _], _ => rfl⟩
theorem own_of {CX : CXT} {k : Nat} {x : Str} {st : Stmt} {ps : List Str} {sp : Sp} (X : K.In h) (G : h.Ns mainGlobals mg) (D : DefA K x st) (b : ∀ (kV doc pm : Value) (an : Option Addr) (cdv ct : Value) (us : List Value), us.length = ps.length → bindArgs (PySem.W.fnOf x x (defArgs st) (defBody st) (defScope st) .none kV doc pm an cdv ct) ⟨us, []⟩ = pure (ps.zip us))
    (F : ∀ f fd, mg x = some (.ref f) → PySem.W.keepIn K (.ref f) = true → Binds K fd ps [] → Fun K x x st f fd → FnOk P w K mg base CX k f fd ps sp) : Own P w K mg base CX k x ps sp := by
  obtain ⟨f, fd, a, kp, Fn⟩ := D
  exact ⟨f, fd, PySem.W.mg_of X G a, kp, Fn.binds b, F f fd (PySem.W.mg_of X G a) kp (Fn.binds b) Fn⟩
end
theorem all_mk {l : PySem.W.OpenLaw} {w : World} {K : PySem.W.Frag} {h : Heap} {mg : Str → Option Value} {fa C1 C2 c : Addr} {tS : Tok} (X : K.In h) (G : h.Ns mainGlobals mg) (hfa : mg "law" = some (.ref fa))
    (lw : LawA K c) (sg : PySem.W.nsIn K mainGlobals "SIGNS" = some (some (.str SIGNS_S tS)))
    (c1 : ClsA K "BadWords" "BadWords.__init__" "index" s_BadWords C1) (c2 : ClsA K "BadChange" "BadChange.__init__" "thing" s_BadChange C2)
    (d_is_list : DefA K "is_list" s_is_list)
    (d_is_integer : DefA K "is_integer" s_is_integer)
    (d_is_number : DefA K "is_number" s_is_number)
    (d_is_pair : DefA K "is_pair" s_is_pair)
    (d_is_name : DefA K "is_name" s_is_name)
    (d_is_words : DefA K "is_words" s_is_words)
    (d_first_false : DefA K "first_false" s_first_false)
    (d_wrong_words : DefA K "wrong_words" s_wrong_words)
    (d_is_change : DefA K "is_change" s_is_change)
    (d_change_of : DefA K "change_of" s_change_of)
    (d_checked_text : DefA K "checked_text" s_checked_text)
    (d_fits : DefA K "fits" s_fits)
    (d_put_in : DefA K "put_in" s_put_in)
    (d_moved : DefA K "moved" s_moved)
    (d_moved_back : DefA K "moved_back" s_moved_back)
    (d_apart : DefA K "apart" s_apart)
    (d_passed : DefA K "passed" s_passed)
    (d_side_by_side : DefA K "side_by_side" s_side_by_side)
    (d_steps_of : DefA K "steps_of" s_steps_of)
    (d_text_behind : DefA K "text_behind" s_text_behind)
    (d__law_p_text : DefA K "_law_p_text" s__law_p_text)
    (d__law_p_made : DefA K "_law_p_made" s__law_p_made)
    (d__law_p_change : DefA K "_law_p_change" s__law_p_change)
    (d__law_p_run : DefA K "_law_p_run" s__law_p_run)
    (d__law_p_step : DefA K "_law_p_step" s__law_p_step)
    (d__law_p_records : DefA K "_law_p_records" s__law_p_records)
    (d__law_start : DefA K "_law_start" s__law_start)
    (d__law_draw : DefA K "_law_draw" s__law_draw)
    (d__law_pick : DefA K "_law_pick" s__law_pick)
    (d__law_mixed : DefA K "_law_mixed" s__law_mixed)
    (d__law_same : DefA K "_law_same" s__law_same)
    (d__law_by_one : DefA K "_law_by_one" s__law_by_one)
    (d__law_by_other : DefA K "_law_by_other" s__law_by_other)
    (d__law_beside_right : DefA K "_law_beside_right" s__law_beside_right)
    (z_isinstance : PySem.W.nsIn K mainGlobals "isinstance" = some none)
    (z_len : PySem.W.nsIn K mainGlobals "len" = some none)
    (z_list : PySem.W.nsIn K mainGlobals "list" = some none)
    (z_tuple : PySem.W.nsIn K mainGlobals "tuple" = some none)
    (z_dict : PySem.W.nsIn K mainGlobals "dict" = some none)
    (z_int : PySem.W.nsIn K mainGlobals "int" = some none)
    (z_bool : PySem.W.nsIn K mainGlobals "bool" = some none)
    (z_str : PySem.W.nsIn K mainGlobals "str" = some none)
    (z_min : PySem.W.nsIn K mainGlobals "min" = some none)
    (z_all : PySem.W.nsIn K mainGlobals "all" = some none)
    (z_range : PySem.W.nsIn K mainGlobals "range" = some none)
    (z_enumerate : PySem.W.nsIn K mainGlobals "enumerate" = some none)
    (z_zip : PySem.W.nsIn K mainGlobals "zip" = some none)
    (z_repr : PySem.W.nsIn K mainGlobals "repr" = some none)
    (z_sorted : PySem.W.nsIn K mainGlobals "sorted" = some none)
    (z_any : PySem.W.nsIn K mainGlobals "any" = some none) :
    LawG l w K CX0 63 "_law_script" mg fa h := by
  obtain ⟨f, oc, kV, dc, pm, ct, od, an, sl, la, ll, lc⟩ := lw
  have e := hfa.symm.trans (PySem.W.mg_of X G la)
  cases e
  have T : Bl mg := ⟨PySem.W.mg_none_of X G z_isinstance, PySem.W.mg_none_of X G z_len, PySem.W.mg_none_of X G z_list, PySem.W.mg_none_of X G z_tuple, PySem.W.mg_none_of X G z_dict, PySem.W.mg_none_of X G z_int, PySem.W.mg_none_of X G z_bool, PySem.W.mg_none_of X G z_str, PySem.W.mg_none_of X G z_min, PySem.W.mg_none_of X G z_all, PySem.W.mg_none_of X G z_range, PySem.W.mg_none_of X G z_enumerate, PySem.W.mg_none_of X G z_zip, PySem.W.mg_none_of X G z_repr⟩
  have gS := PySem.W.mg_of X G sg
  refine ⟨PySem.W.fnOf "law" "law" (defArgs s_law) (defBody s_law) (defScope s_law) .none kV dc pm an (.ref c) ct, [], spLaw K, fun p hp => (by cases hp), fun p hp => (by cases hp), fun p hp => (by cases hp), fun s u => .of_eq rfl, fun H a ns hn _ hT hS => ⟨a, ns, rfl, hS, hn, rfl⟩, fun base kin glob tb => ?_⟩
  have E1 : Ec l.prog w K mg base "BadWords" "index" C1 := ec_BadWords X G c1
  have E2 : Ec l.prog w K mg base "BadChange" "thing" C2 := ec_BadChange X G c2
  have O_is_list : Own l.prog w K mg base CX0 1 "is_list" ["thing"] (sp1 (fun _ => True) fun d => .bool (isSeq d)) := own_of X G d_is_list (fun _ _ _ _ _ _ us hl => match us, hl with | [_], _ => rfl) fun f fd m k b F => ok_is_list F T
  have O_is_integer : Own l.prog w K mg base CX0 1 "is_integer" ["thing"] (sp1 (fun _ => True) fun d => .bool (isIntD d)) := own_of X G d_is_integer (fun _ _ _ _ _ _ us hl => match us, hl with | [_], _ => rfl) fun f fd m k b F => ok_is_integer F T
  have O_is_number : Own l.prog w K mg base CX0 2 "is_number" ["thing"] (sp1 (fun _ => True) fun d => .bool (isNumD d)) := own_of X G d_is_number (fun _ _ _ _ _ _ us hl => match us, hl with | [_], _ => rfl) fun f fd m k b F => ok_is_number F T O_is_integer
  have O_is_words : Own l.prog w K mg base CX0 1 "is_words" ["thing"] (sp1 wordsPre fun d => .bool (isWordsD d)) := own_of X G d_is_words (fun _ _ _ _ _ _ us hl => match us, hl with | [_], _ => rfl) fun f fd m k b F => ok_is_words F T
  have O_first_false : Own l.prog w K mg base CX0 1 "first_false" ["tests"] (sp1 Bools fun d => ffD 0 (itemsD d)) := own_of X G d_first_false (fun _ _ _ _ _ _ us hl => match us, hl with | [_], _ => rfl) fun f fd m k b F => ok_first_false F T
  have O_wrong_words : Own l.prog w K mg base CX0 2 "wrong_words" ["things"] (sp1 wordsAll wrongD) := own_of X G d_wrong_words (fun _ _ _ _ _ _ us hl => match us, hl with | [_], _ => rfl) fun f fd m k b F => ok_wrong_words F T O_is_list O_is_words O_first_false
  have O_is_change : Own l.prog w K mg base CX0 3 "is_change" ["thing"] (sp1 chPre fun d => .bool (isChangeD d)) := own_of X G d_is_change (fun _ _ _ _ _ _ us hl => match us, hl with | [_], _ => rfl) fun f fd m k b F => ok_is_change F T O_is_list O_is_number O_wrong_words
  have O_change_of : Own l.prog w K mg base (L2.CX l.prog w) 4 "change_of" ["thing"] (spX1 chPre (changeOut C2)) := own_of X G d_change_of (fun _ _ _ _ _ _ us hl => match us, hl with | [_], _ => rfl) fun f fd m k b F => ok_change_of F T O_is_change E2
  have O_checked_text : Own l.prog w K mg base (L2.CX l.prog w) 3 "checked_text" ["text"] (spX1 wordsAll (textOut C1)) := own_of X G d_checked_text (fun _ _ _ _ _ _ us hl => match us, hl with | [_], _ => rfl) fun f fd m k b F => ok_checked_text F T O_wrong_words E1
  have O_fits : Own l.prog w K mg base CX0 1 "fits" ["text", "change"] (sp2 TC fun a b => .bool (fitsB (wsOf a) (intOf (it b 0)) (wsOf (it b 1)))) := own_of X G d_fits (fun _ _ _ _ _ _ us hl => match us, hl with | [_, _], _ => rfl) fun f fd m k b F => ok_fits F T
  have O_put_in : Own l.prog w K mg base CX0 1 "put_in" ["text", "change"] (sp2N TC fun a b => wsD (putB (wsOf a) (intOf (it b 0)) (wsOf (it b 1)) (wsOf (it b 2)))) := own_of X G d_put_in (fun _ _ _ _ _ _ us hl => match us, hl with | [_, _], _ => rfl) fun f fd m k b F => ok_put_in F T
  have O_moved : Own l.prog w K mg base CX0 1 "moved" ["change", "by"] (sp2 CC fun a b => chD (intOf (it a 0) + ((wsOf (it b 2)).length : Int) - ((wsOf (it b 1)).length : Int)) (wsOf (it a 1)) (wsOf (it a 2))) := own_of X G d_moved (fun _ _ _ _ _ _ us hl => match us, hl with | [_, _], _ => rfl) fun f fd m k b F => ok_moved F T
  have O_moved_back : Own l.prog w K mg base CX0 1 "moved_back" ["change", "by"] (sp2 CC fun a b => chD (intOf (it a 0) - ((wsOf (it b 2)).length : Int) + ((wsOf (it b 1)).length : Int)) (wsOf (it a 1)) (wsOf (it a 2))) := own_of X G d_moved_back (fun _ _ _ _ _ _ us hl => match us, hl with | [_, _], _ => rfl) fun f fd m k b F => ok_moved_back F T
  have O_apart : Own l.prog w K mg base CX0 1 "apart" ["one", "two", "room"] sp3A := own_of X G d_apart (fun _ _ _ _ _ _ us hl => match us, hl with | [_, _, _], _ => rfl) fun f fd m k b F => ok_apart F T
  have O_passed : Own l.prog w K mg base (L2.CX l.prog w) 5 "passed" ["one", "two"] (spX2 twoPre (twoOut passB C2)) := own_of X G d_passed (fun _ _ _ _ _ _ us hl => match us, hl with | [_, _], _ => rfl) fun f fd m k b F => ok_passed F T O_change_of O_apart O_moved O_moved_back
  have O_side_by_side : Own l.prog w K mg base (L2.CX l.prog w) 5 "side_by_side" ["one", "two"] (spX2 twoPre (twoOut besideB C2)) := own_of X G d_side_by_side (fun _ _ _ _ _ _ us hl => match us, hl with | [_, _], _ => rfl) fun f fd m k b F => ok_side_by_side F T O_change_of O_apart O_moved
  have O__law_start : Own l.prog w K mg base CX0 1 "_law_start" ["_law_script"] (spStart K) := own_of X G d__law_start (fun _ _ _ _ _ _ us hl => match us, hl with | [_], _ => rfl) fun f fd m k b F => ok_start F T
  have O__law_draw : Own l.prog w K mg base CX0 1 "_law_draw" ["_law_stream", "_law_many"] spDraw := own_of X G d__law_draw (fun _ _ _ _ _ _ us hl => match us, hl with | [_, _], _ => rfl) fun f fd m k b F => ok_draw F T
  have O__law_pick : Own l.prog w K mg base CX0 2 "_law_pick" ["_law_stream", "_law_some"] spPick := own_of X G d__law_pick (fun _ _ _ _ _ _ us hl => match us, hl with | [_, _], _ => rfl) fun f fd m k b F => ok_pick F T O__law_draw
  have O__law_mixed : Own l.prog w K mg base CX0 2 "_law_mixed" ["_law_stream", "_law_some"] spMixed := own_of X G d__law_mixed (fun _ _ _ _ _ _ us hl => match us, hl with | [_, _], _ => rfl) fun f fd m k b F => ok_mixed F T O__law_draw
  have O__law_p_text : Own l.prog w K mg base CX0 3 "_law_p_text" ["_law_stream", "_law_many"] spText := own_of X G d__law_p_text (fun _ _ _ _ _ _ us hl => match us, hl with | [_, _], _ => rfl) fun f fd m k b F => ok_p_text F T O__law_pick
  have O__law_p_made : Own l.prog w K mg base CX0 1 "_law_p_made" ["_law_words", "_law_change"] (sp2N TC fun a b => wsD (putB (wsOf a) (intOf (it b 0)) (wsOf (it b 1)) (wsOf (it b 2)))) := own_of X G d__law_p_made (fun _ _ _ _ _ _ us hl => match us, hl with | [_, _], _ => rfl) fun f fd m k b F => ok_p_made F T
  have O__law_p_change : Own l.prog w K mg base CX0 3 "_law_p_change" ["_law_stream", "_law_words", "_law_marks"] spChange := own_of X G d__law_p_change (fun _ _ _ _ _ _ us hl => match us, hl with | [_, _, _], _ => rfl) fun f fd m k b F => ok_p_change F T O__law_draw O__law_pick
  have O__law_p_run : Own l.prog w K mg base CX0 4 "_law_p_run" ["_law_stream", "_law_words", "_law_many", "_law_is_plain"] spRun := own_of X G d__law_p_run (fun _ _ _ _ _ _ us hl => match us, hl with | [_, _, _, _], _ => rfl) fun f fd m k b F => ok_p_run F T O__law_mixed O__law_p_change O__law_p_made
  have O__law_p_step : Own l.prog w K mg base CX0 1 "_law_p_step" ["_law_name", "_law_change", "_law_here"] spStep := own_of X G d__law_p_step (fun _ _ _ _ _ _ us hl => match us, hl with | [_, _, _], _ => rfl) fun f fd m k b F => ok_p_step F T (PySem.W.mg_none_of X G z_sorted)
  have O__law_p_records : Own l.prog w K mg base CX0 2 "_law_p_records" ["_law_words", "_law_run"] spRecs := own_of X G d__law_p_records (fun _ _ _ _ _ _ us hl => match us, hl with | [_, _], _ => rfl) fun f fd m k b F => ok_p_records F T O__law_p_step
  have O__law_same : Own l.prog w K mg base CX0 6 "_law_same" ["_law_found", "_law_due"] (spSame 4) := own_of X G d__law_same (fun _ _ _ _ _ _ us hl => match us, hl with | [_, _], _ => rfl) fun f fd m k b F => ok_same F T m k b 4
  have O_is_pair : Own l.prog w K mg base CX0 2 "is_pair" ["thing"] (sp1 (fun _ => True) fun d => .bool (isSeq d && decide (lenD d = 2))) := own_of X G d_is_pair (fun _ _ _ _ _ _ us hl => match us, hl with | [_], _ => rfl) fun f fd m k b F => ok_is_pair F T O_is_list
  have O_is_name : Own l.prog w K mg base CX0 1 "is_name" ["thing"] (sp1 (fun d => ∃ s ∈ runNames, d = .str s) fun _ => .bool true) := own_of X G d_is_name (fun _ _ _ _ _ _ us hl => match us, hl with | [_], _ => rfl) fun f fd m k b F => ok_is_name F T gS
  have O_steps_of : Own l.prog w K mg base CX0 5 "steps_of" ["text", "run", "taken"] spSteps := own_of X G d_steps_of (fun _ _ _ _ _ _ us hl => match us, hl with | [_, _, _], _ => rfl) fun f fd m k b F => ok_steps_of F T O_is_list O_is_pair O_is_name O_is_change O_fits O_change_of O_put_in
  have O_text_behind : Own l.prog w K mg base CX0 6 "text_behind" ["text", "run"] spBehind := own_of X G d_text_behind (fun _ _ _ _ _ _ us hl => match us, hl with | [_, _], _ => rfl) fun f fd m k b F => ok_text_behind F T O_checked_text O_steps_of O_put_in
  have O__law_by_one : Own l.prog w K mg base CX0 6 "_law_by_one" ["_law_one", "_law_two", "_law_three"] (spTri oneZ) := own_of X G d__law_by_one (fun _ _ _ _ _ _ us hl => match us, hl with | [_, _, _], _ => rfl) fun f fd m k b F => ok_by_one F T O_passed
  have O__law_by_other : Own l.prog w K mg base CX0 6 "_law_by_other" ["_law_one", "_law_two", "_law_three"] (spTri othZ) := own_of X G d__law_by_other (fun _ _ _ _ _ _ us hl => match us, hl with | [_, _, _], _ => rfl) fun f fd m k b F => ok_by_other F T O_passed
  have O__law_beside_right : Own l.prog w K mg base CX0 7 "_law_beside_right" ["_law_stream", "_law_words"] spBeside := own_of X G d__law_beside_right (fun _ _ _ _ _ _ us hl => match us, hl with | [_, _], _ => rfl) fun f fd m k b F => ok_beside_right F T (PySem.W.mg_none_of X G z_any) O__law_p_change O_side_by_side O__law_same
  have Lb : Lib l.prog w K mg base := ⟨T, O__law_start, O__law_draw, O__law_p_text, O__law_p_run, O__law_p_records, O__law_same, O__law_by_one, O__law_by_other, O_text_behind, O__law_beside_right⟩
  intro s H u v Q E env bind rel sp
  obtain ⟨a, ns, hv, hS, hn, rfl⟩ := sp
  refine run_ofS (k := 8) (N := n_law) (ps := ["_law_script"]) (us := [u]) (vs := [v]) ll lc sc_law ⟨rfl, by decide, by decide⟩ env bind (.cons rel .nil) rfl fun hr => ?_
  obtain ⟨t, h1, h2⟩ := law_reads Lb hr hS hn
  cases hv
  exact ⟨t, h1.nox, h2⟩
end K18
open PySem PySem.W PyProof.Rows
set_option maxRecDepth 100000 in
set_option maxHeartbeats 0 in
theorem PySem.Challenge.cw_patchlots_k18_whole_cube_holds : PySem.Challenge.rw_patchlots_k18_whole_cube.Holds := by
  w_on; o_law; k_head; (case hw => w_witness2)
  k_fill
  refine KD.walk_ofG (l := PySem.Challenge.rw_patchlots_k18_whole_cube) (n := 63) (x := "_law_script") (CX := fun _ => L2.CX0) rfl (by decide) rfl (fun w h Y => PySem.W.kIn_of Y) ?F (fun _ _ _ _ _ z => z)
  case F =>
    intro w mg fa h Y KX G hmg
    refine' K18.all_mk KX G hmg ?lw ?sg ?c1 ?c2 ?d_is_list ?d_is_integer ?d_is_number ?d_is_pair ?d_is_name ?d_is_words ?d_first_false ?d_wrong_words ?d_is_change ?d_change_of ?d_checked_text ?d_fits ?d_put_in ?d_moved ?d_moved_back ?d_apart ?d_passed ?d_side_by_side ?d_steps_of ?d_text_behind ?d__law_p_text ?d__law_p_made ?d__law_p_change ?d__law_p_run ?d__law_p_step ?d__law_p_records ?d__law_start ?d__law_draw ?d__law_pick ?d__law_mixed ?d__law_same ?d__law_by_one ?d__law_by_other ?d__law_beside_right ?z_isinstance ?z_len ?z_list ?z_tuple ?z_dict ?z_int ?z_bool ?z_str ?z_min ?z_all ?z_range ?z_enumerate ?z_zip ?z_repr ?z_sorted ?z_any
    (case d_is_list => (refine' K18.da ?a ?l ?c ?k; (case a => k_is); (case l => k_is); (case c => k_is); (case k => k_is)))
    (case d_is_integer => (refine' K18.da ?a ?l ?c ?k; (case a => k_is); (case l => k_is); (case c => k_is); (case k => k_is)))
    (case d_is_number => (refine' K18.da ?a ?l ?c ?k; (case a => k_is); (case l => k_is); (case c => k_is); (case k => k_is)))
    (case d_is_pair => (refine' K18.da ?a ?l ?c ?k; (case a => k_is); (case l => k_is); (case c => k_is); (case k => k_is)))
    (case d_is_name => (refine' K18.da ?a ?l ?c ?k; (case a => k_is); (case l => k_is); (case c => k_is); (case k => k_is)))
    (case d_is_words => (refine' K18.da ?a ?l ?c ?k; (case a => k_is); (case l => k_is); (case c => k_is); (case k => k_is)))
    (case d_first_false => (refine' K18.da ?a ?l ?c ?k; (case a => k_is); (case l => k_is); (case c => k_is); (case k => k_is)))
    (case d_wrong_words => (refine' K18.da ?a ?l ?c ?k; (case a => k_is); (case l => k_is); (case c => k_is); (case k => k_is)))
    (case d_is_change => (refine' K18.da ?a ?l ?c ?k; (case a => k_is); (case l => k_is); (case c => k_is); (case k => k_is)))
    (case d_change_of => (refine' K18.da ?a ?l ?c ?k; (case a => k_is); (case l => k_is); (case c => k_is); (case k => k_is)))
    (case d_checked_text => (refine' K18.da ?a ?l ?c ?k; (case a => k_is); (case l => k_is); (case c => k_is); (case k => k_is)))
    (case d_fits => (refine' K18.da ?a ?l ?c ?k; (case a => k_is); (case l => k_is); (case c => k_is); (case k => k_is)))
    (case d_put_in => (refine' K18.da ?a ?l ?c ?k; (case a => k_is); (case l => k_is); (case c => k_is); (case k => k_is)))
    (case d_moved => (refine' K18.da ?a ?l ?c ?k; (case a => k_is); (case l => k_is); (case c => k_is); (case k => k_is)))
    (case d_moved_back => (refine' K18.da ?a ?l ?c ?k; (case a => k_is); (case l => k_is); (case c => k_is); (case k => k_is)))
    (case d_apart => (refine' K18.da ?a ?l ?c ?k; (case a => k_is); (case l => k_is); (case c => k_is); (case k => k_is)))
    (case d_passed => (refine' K18.da ?a ?l ?c ?k; (case a => k_is); (case l => k_is); (case c => k_is); (case k => k_is)))
    (case d_side_by_side => (refine' K18.da ?a ?l ?c ?k; (case a => k_is); (case l => k_is); (case c => k_is); (case k => k_is)))
    (case d_steps_of => (refine' K18.da ?a ?l ?c ?k; (case a => k_is); (case l => k_is); (case c => k_is); (case k => k_is)))
    (case d_text_behind => (refine' K18.da ?a ?l ?c ?k; (case a => k_is); (case l => k_is); (case c => k_is); (case k => k_is)))
    (case d__law_p_text => (refine' K18.da ?a ?l ?c ?k; (case a => k_is); (case l => k_is); (case c => k_is); (case k => k_is)))
    (case d__law_p_made => (refine' K18.da ?a ?l ?c ?k; (case a => k_is); (case l => k_is); (case c => k_is); (case k => k_is)))
    (case d__law_p_change => (refine' K18.da ?a ?l ?c ?k; (case a => k_is); (case l => k_is); (case c => k_is); (case k => k_is)))
    (case d__law_p_run => (refine' K18.da ?a ?l ?c ?k; (case a => k_is); (case l => k_is); (case c => k_is); (case k => k_is)))
    (case d__law_p_step => (refine' K18.da ?a ?l ?c ?k; (case a => k_is); (case l => k_is); (case c => k_is); (case k => k_is)))
    (case d__law_p_records => (refine' K18.da ?a ?l ?c ?k; (case a => k_is); (case l => k_is); (case c => k_is); (case k => k_is)))
    (case d__law_start => (refine' K18.da ?a ?l ?c ?k; (case a => k_is); (case l => k_is); (case c => k_is); (case k => k_is)))
    (case d__law_draw => (refine' K18.da ?a ?l ?c ?k; (case a => k_is); (case l => k_is); (case c => k_is); (case k => k_is)))
    (case d__law_pick => (refine' K18.da ?a ?l ?c ?k; (case a => k_is); (case l => k_is); (case c => k_is); (case k => k_is)))
    (case d__law_mixed => (refine' K18.da ?a ?l ?c ?k; (case a => k_is); (case l => k_is); (case c => k_is); (case k => k_is)))
    (case d__law_same => (refine' K18.da ?a ?l ?c ?k; (case a => k_is); (case l => k_is); (case c => k_is); (case k => k_is)))
    (case d__law_by_one => (refine' K18.da ?a ?l ?c ?k; (case a => k_is); (case l => k_is); (case c => k_is); (case k => k_is)))
    (case d__law_by_other => (refine' K18.da ?a ?l ?c ?k; (case a => k_is); (case l => k_is); (case c => k_is); (case k => k_is)))
    (case d__law_beside_right => (refine' K18.da ?a ?l ?c ?k; (case a => k_is); (case l => k_is); (case c => k_is); (case k => k_is)))
    (case lw => (refine' K18.la ?a ?l ?c; (case a => k_is); (case l => k_is); (case c => k_is)))
    (case c1 => (refine' K18.ca ?a ?xL ?rv ?sa ?ga ?gg ?no ?a1 ?t1 ?l1 ?c1 ?k1 ?kC ?eC ?tC ?hC; (case a => k_is); (case xL => k_is); (case rv => decide +kernel); (case sa => k_is); (case ga => k_is); (case gg => k_is); (case no => k_is); (case a1 => k_is); (case t1 => k_is); (case l1 => k_is); (case c1 => k_is); (case k1 => k_is); (case kC => k_is); (case eC => k_is); (case tC => k_is); (case hC => k_is)))
    (case c2 => (refine' K18.ca ?a ?xL ?rv ?sa ?ga ?gg ?no ?a1 ?t1 ?l1 ?c1 ?k1 ?kC ?eC ?tC ?hC; (case a => k_is); (case xL => k_is); (case rv => decide +kernel); (case sa => k_is); (case ga => k_is); (case gg => k_is); (case no => k_is); (case a1 => k_is); (case t1 => k_is); (case l1 => k_is); (case c1 => k_is); (case k1 => k_is); (case kC => k_is); (case eC => k_is); (case tC => k_is); (case hC => k_is)))
    (case sg => k_is)
    (case z_isinstance => k_is)
    (case z_len => k_is)
    (case z_list => k_is)
    (case z_tuple => k_is)
    (case z_dict => k_is)
    (case z_int => k_is)
    (case z_bool => k_is)
    (case z_str => k_is)
    (case z_min => k_is)
    (case z_all => k_is)
    (case z_range => k_is)
    (case z_enumerate => k_is)
    (case z_zip => k_is)
    (case z_repr => k_is)
    (case z_sorted => k_is)
    (case z_any => k_is)

