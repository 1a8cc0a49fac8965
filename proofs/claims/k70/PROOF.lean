import PyProof.Rows.All
import Wide.All
import OpenK.AllK
import Wide.FinOn
import HandS.ForMost
import HandS.Codes
import HandS.Defaults
import HandS.Wide
import HandS.Gcd
import HandS.IsInst
import HandS.More
import HandS.TupAny
import HandS.Conv
import HandS.Zip
import HandS.Head0
import HandS.Head1
import HandS.Head2
import HandS.HeadEnd
import HandS.HeadHook1
import HandS.HeadHook2
import HandS.HeadHook3
import HandS.HeadHook4
import HandS.Walk
import HandS.New0
import HandS.Star
import KE.GoesMore
import HandS.Iter
import HandS.TupMul
import HandS.TupSets
import HandS.RepeatKit
import HandS.Sort
import PyProof.ListNew
import PyProof.Rows.SortShell
import KE.KDictPairs
import HandS.DictComp
import KE.KDictCopyH
import HandS.Finally
import HandS.TupLen
import HandS.Style
import KE.SortData
import KE.KDictItemsList
import HandS.DictTup
import HandS.SetFor
import HandS.Deep
import KE.KDictOf
import HandS.Small
import HandS.Head3
import PySem.Challenge.RW_cornerbids_k70_whole_tables_of_weights
set_option Elab.async false
set_option linter.all false
set_option maxRecDepth 100000
set_option maxHeartbeats 2000000
namespace CB
open PySem PySem.Spec PyProof.Rows L2
open C8 (Cal Met Mak pe_c pe_mk pe_mt pe_mt0 pe_gc CalAt)

/-! ### heaps: what stays -/
/-- tuples stay -/
structure KT (H H' : Hp) : Prop where
  t : ∀ b xs, H b = some (.tup xs) → H' b = some (.tup xs)
  f : ∀ b o u, H b = some (.frz o u) → H' b = some (.frz o u)
theorem KT.refl (H : Hp) : KT H H := ⟨fun _ _ h => h, fun _ _ _ h => h⟩
theorem KT.trans {H H1 H2 : Hp} (a : KT H H1) (b : KT H1 H2) : KT H H2 := ⟨fun c xs h => b.t c xs (a.t c xs h), fun c o u h => b.f c o u (a.f c o u h)⟩
theorem Same.kt {H H' : Hp} (a : Same H H') : KT H H' := ⟨fun b xs h => a b _ h, fun b o u h => a b _ h⟩
theorem same_new {H : Hp} {p : Addr} {o : HO} (h : H p = none) : Same H (upd H p o) := fun a u e => by
  rw [upd_ne (ne_of_none e h)]
  exact e
/-- all but the object at d stays -/
def KD (d : Addr) (H H' : Hp) : Prop := ∀ b o, b ≠ d → H b = some o → H' b = some o
theorem KD.refl (d : Addr) (H : Hp) : KD d H H := fun _ _ _ h => h
theorem KD.trans {d : Addr} {H H1 H2 : Hp} (a : KD d H H1) (b : KD d H1 H2) : KD d H H2 := fun c o n h => b c o n (a c o n h)
theorem Same.kd {d : Addr} {H H' : Hp} (a : Same H H') : KD d H H' := fun b o _ h => a b o h
theorem KD.kt {d : Addr} {H H' : Hp} (a : KD d H H') {xs : List V} (h : H d = some (.lst xs)) : KT H H' :=
  ⟨fun b ys e => a b _ (ne_of e h (by intro z; cases z)) e, fun b o u e => a b _ (ne_of e h (by intro z; cases z)) e⟩
theorem KD.upd {d : Addr} {H H' : Hp} (a : KD d H H') {o : HO} : KD d H (upd H' d o) := fun b u n e => by
  rw [upd_ne n]
  exact a b u n e
theorem KT.sq {K : PySem.W.Frag} {H H' : Hp} {a : Addr} {xs : List V} (e : KT H H') (h : SqT K H a xs) : SqT K H' a xs := by
  rcases h with (h | ⟨o, h⟩) | h
  · exact .inl (.inl (e.t _ _ h))
  · exact .inl (.inr ⟨o, e.f _ _ _ h⟩)
  · exact .inr h

theorem KT.updl {H : Hp} {D : Addr} {xs : List V} {o : HO} (h : H D = some (.lst xs)) : KT H (upd H D o) :=
  ⟨fun b ys e => by rw [upd_ne (ne_of e h (by intro z; cases z))]; exact e, fun b u v e => by rw [upd_ne (ne_of e h (by intro z; cases z))]; exact e⟩
theorem KD.new {d : Addr} {H H' : Hp} (a : KD d H H') {p : Addr} (hp : H' p = none) {o : HO} : KD d H (L2.upd H' p o) := fun b u n e => by
  have e2 := a b u n e
  rw [upd_ne (ne_of_none e2 hp)]
  exact e2
theorem KD.mut {d : Addr} {H H' : Hp} (a : KD d H H') {p : Addr} (hp : H p = none) {o : HO} : KD d H (L2.upd H' p o) := fun b u n e => by
  rw [upd_ne (ne_of_none e hp)]
  exact a b u n e
theorem Same.mut {H H' : Hp} {p : Addr} {o : HO} (e : Same H H') (h : H p = none) : Same H (upd H' p o) := fun a u ha => by
  rw [upd_ne (ne_of_none ha h)]
  exact e a u ha
theorem KD.seq {K : PySem.W.Frag} {d : Addr} {H H' : Hp} {a : Addr} {xs : List V} (e : KD d H H') (n : a ≠ d) (h : SqL K H a xs) : SqL K H' a xs := by
  rcases h with (h | ⟨o, h⟩) | h
  · exact .inl (.inl (e _ _ n h))
  · exact .inl (.inr ⟨o, e _ _ n h⟩)
  · exact .inr h
/-! ### data without lists, as it stands -/
mutual
inductive Rp (K : PySem.W.Frag) (H : Hp) : V → PyData → Prop
  | non : Rp K H .non .none
  | bl (b : Bool) : Rp K H (.bl b) (.bool b)
  | int (i : Int) : Rp K H (.int i) (.int i)
  | str (x : Str) : Rp K H (.str x) (.str x)
  | tup {a : Addr} {xs : List V} {ds : List PyData} : SqT K H a xs → RpAll K H xs ds → Rp K H (.ref a) (.tuple ds)
inductive RpAll (K : PySem.W.Frag) (H : Hp) : List V → List PyData → Prop
  | nil : RpAll K H [] []
  | cons {v : V} {vs : List V} {d : PyData} {ds : List PyData} : Rp K H v d → RpAll K H vs ds → RpAll K H (v :: vs) (d :: ds)
end
section
variable {K : PySem.W.Frag} {H H' : Hp} {v : V} {d : PyData}
mutual
theorem Rp.mono (e : KT H H') : ∀ {v : V} {d : PyData}, Rp K H v d → Rp K H' v d
  | _, _, .non => .non
  | _, _, .bl b => .bl b
  | _, _, .int i => .int i
  | _, _, .str x => .str x
  | _, _, .tup h1 h2 => .tup (e.sq h1) (RpAll.mono e h2)
theorem RpAll.mono (e : KT H H') : ∀ {vs : List V} {ds : List PyData}, RpAll K H vs ds → RpAll K H' vs ds
  | _, _, .nil => .nil
  | _, _, .cons h1 h2 => .cons (Rp.mono e h1) (RpAll.mono e h2)
end
mutual
theorem Rp.dp : ∀ {v : V} {d : PyData}, Rp K H v d → Dp K H v d
  | _, _, .non => .non
  | _, _, .bl b => .bl b
  | _, _, .int i => .int i
  | _, _, .str x => .str x
  | _, _, .tup h1 h2 => .tup h1 (RpAll.dp h2)
theorem RpAll.dp : ∀ {vs : List V} {ds : List PyData}, RpAll K H vs ds → DpAll K H vs ds
  | _, _, .nil => .nil
  | _, _, .cons h1 h2 => .cons (Rp.dp h1) (RpAll.dp h2)
end
theorem Rp.tupI {ds : List PyData} (h : Rp K H v (.tuple ds)) : ∃ a xs, v = .ref a ∧ SqT K H a xs ∧ RpAll K H xs ds := by
  cases h with
  | tup h1 h2 => exact ⟨_, _, rfl, h1, h2⟩
theorem Rp.intI {i : Int} (h : Rp K H v (.int i)) : v = .int i := by cases h; rfl
theorem Rp.strI {x : Str} (h : Rp K H v (.str x)) : v = .str x := by cases h; rfl
theorem Rp.blI {b : Bool} (h : Rp K H v (.bool b)) : v = .bl b := by cases h; rfl
theorem RpAll.nilI {vs : List V} (h : RpAll K H vs []) : vs = [] := by cases h; rfl
theorem RpAll.consI {vs : List V} {ds : List PyData} (h : RpAll K H vs (d :: ds)) : ∃ w ws, vs = w :: ws ∧ Rp K H w d ∧ RpAll K H ws ds := by
  cases h with
  | cons h1 h2 => exact ⟨_, _, rfl, h1, h2⟩
theorem RpAll.length : ∀ {vs : List V} {ds : List PyData}, RpAll K H vs ds → vs.length = ds.length
  | _, _, .nil => rfl
  | _, _, .cons _ h => by simp [RpAll.length h]
theorem RpAll.get : ∀ {vs : List V} {ds : List PyData} {i : Nat} {d : PyData}, RpAll K H vs ds → ds[i]? = some d → ∃ v, vs[i]? = some v ∧ Rp K H v d
  | _, _, _, _, .nil, e => by simp at e
  | _, _, 0, _, .cons h _, e => by simp at e; subst e; exact ⟨_, rfl, h⟩
  | _, _, i + 1, d, .cons _ h, e => by
    obtain ⟨v, h1, h2⟩ := RpAll.get (i := i) (d := d) h (by simpa using e)
    exact ⟨v, by simpa using h1, h2⟩
theorem RpAll.getV : ∀ {vs : List V} {ds : List PyData} {i : Nat} {v : V}, RpAll K H vs ds → vs[i]? = some v → ∃ d, ds[i]? = some d ∧ Rp K H v d
  | _, _, _, _, .nil, e => by simp at e
  | _, _, 0, _, .cons h _, e => by simp at e; subst e; exact ⟨_, rfl, h⟩
  | _, _, i + 1, v, .cons _ h, e => by
    obtain ⟨d, h1, h2⟩ := RpAll.getV (i := i) (v := v) h (by simpa using e)
    exact ⟨d, by simpa using h1, h2⟩
theorem RpAll.append : ∀ {vs ws : List V} {ds es : List PyData}, RpAll K H vs ds → RpAll K H ws es → RpAll K H (vs ++ ws) (ds ++ es)
  | _, _, _, _, .nil, h => h
  | _, _, _, _, .cons a b, h => .cons a (RpAll.append b h)
end

theorem RpAll.take {K : PySem.W.Frag} {H : Hp} : ∀ {vs : List V} {ds : List PyData} (n : Nat), RpAll K H vs ds → RpAll K H (vs.take n) (ds.take n)
  | _, _, 0, _ => by simp only [List.take_zero]; exact .nil
  | _, _, _ + 1, .nil => by simp only [List.take_nil]; exact .nil
  | _, _, n + 1, .cons h t => .cons h (RpAll.take n t)
theorem RpAll.drop {K : PySem.W.Frag} {H : Hp} : ∀ {vs : List V} {ds : List PyData} (n : Nat), RpAll K H vs ds → RpAll K H (vs.drop n) (ds.drop n)
  | _, _, 0, h => h
  | _, _, _ + 1, .nil => by simp only [List.drop_nil]; exact .nil
  | _, _, n + 1, .cons _ t => RpAll.drop n t
/-! ### fractions -/
/-- the pair of two ints -/
def PF (K : PySem.W.Frag) (H : Hp) (v : V) (a b : Int) : Prop := ∃ p, v = .ref p ∧ SqT K H p [.int a, .int b]
abbrev RF (K : PySem.W.Frag) (H : Hp) (v : V) (q : Rat) : Prop := PF K H v q.num (q.den : Int)
def qd (q : Rat) : PyData := .tuple [.int q.num, .int (q.den : Int)]
theorem PF.mono {K : PySem.W.Frag} {H H' : Hp} {v : V} {a b : Int} (e : KT H H') (h : PF K H v a b) : PF K H' v a b := by
  obtain ⟨p, rfl, h⟩ := h
  exact ⟨p, rfl, e.sq h⟩
theorem PF.rp {K : PySem.W.Frag} {H : Hp} {v : V} {a b : Int} (h : PF K H v a b) : Rp K H v (.tuple [.int a, .int b]) := by
  obtain ⟨p, rfl, h⟩ := h
  exact .tup h (.cons (.int a) (.cons (.int b) .nil))
theorem PF.of {K : PySem.W.Frag} {H : Hp} {v : V} {a b : Int} (h : Rp K H v (.tuple [.int a, .int b])) : PF K H v a b := by
  obtain ⟨p, xs, rfl, h1, h2⟩ := h.tupI
  obtain ⟨w, ws, rfl, h3, h4⟩ := h2.consI
  obtain ⟨w2, ws2, rfl, h5, h6⟩ := h4.consI
  have e1 := h3.intI
  have e2 := h5.intI
  have e3 := h6.nilI
  subst e1 e2 e3
  exact ⟨p, rfl, h1⟩

abbrev RQ (K : PySem.W.Frag) (H : Hp) (vs : List V) (qs : List Rat) : Prop := RpAll K H vs (qs.map qd)
theorem RQ.get {K : PySem.W.Frag} {H : Hp} {vs : List V} {qs : List Rat} {i : Nat} {q : Rat} (h : RQ K H vs qs) (e : qs[i]? = some q) : ∃ v, vs[i]? = some v ∧ RF K H v q := by
  obtain ⟨v, h1, h2⟩ := RpAll.get (d := qd q) h (by rw [List.getElem?_map, e]; rfl)
  exact ⟨v, h1, PF.of h2⟩
theorem RQ.getV {K : PySem.W.Frag} {H : Hp} {vs : List V} {qs : List Rat} {i : Nat} {v : V} (h : RQ K H vs qs) (e : vs[i]? = some v) : ∃ q, qs[i]? = some q ∧ RF K H v q := by
  obtain ⟨d, h1, h2⟩ := RpAll.getV h e
  rw [List.getElem?_map] at h1
  cases c : qs[i]? with
  | none => rw [c] at h1; cases h1
  | some q =>
    rw [c] at h1
    cases h1
    exact ⟨q, rfl, PF.of h2⟩
theorem RQ.length {K : PySem.W.Frag} {H : Hp} {vs : List V} {qs : List Rat} (h : RQ K H vs qs) : vs.length = qs.length := by
  rw [RpAll.length h, List.length_map]
theorem RQ.snoc {K : PySem.W.Frag} {H : Hp} {vs : List V} {qs : List Rat} {v : V} {q : Rat} (h : RQ K H vs qs) (r : RF K H v q) : RQ K H (vs ++ [v]) (qs ++ [q]) := by
  show RpAll K H (vs ++ [v]) ((qs ++ [q]).map qd)
  rw [List.map_append]
  exact RpAll.append h (.cons r.rp .nil)
/-! ### rationals -/
theorem divInt_num {a b : Int} (hb : 0 < b) : (Rat.divInt a b).num = a / ((Nat.gcd a.natAbs b.natAbs : Nat) : Int) := by
  rw [Rat.num_divInt]
  have h : b.sign = 1 := Int.sign_eq_one_of_pos hb
  rw [h, Int.one_mul]
  have : b.gcd a = Nat.gcd a.natAbs b.natAbs := by rw [Int.gcd, Nat.gcd_comm]
  rw [this]
theorem divInt_den {a b : Int} (hb : 0 < b) : ((Rat.divInt a b).den : Int) = b / ((Nat.gcd a.natAbs b.natAbs : Nat) : Int) := by
  rw [Rat.den_divInt, if_neg (by omega)]
  have : b.gcd a = Nat.gcd a.natAbs b.natAbs := by rw [Int.gcd, Nat.gcd_comm]
  rw [this, Int.natCast_ediv, Int.natAbs_of_nonneg (by omega)]
theorem gcd_pos {a b : Int} (hb : 0 < b) : (0 : Int) < ((Nat.gcd a.natAbs b.natAbs : Nat) : Int) := by
  have := Nat.gcd_pos_of_pos_right a.natAbs (show 0 < b.natAbs by omega)
  omega
theorem gcd_le {a b : Int} (hb : 0 < b) : (((Nat.gcd a.natAbs b.natAbs : Nat) : Int)).natAbs ≤ b.natAbs := by
  have := Nat.gcd_le_right a.natAbs (show 0 < b.natAbs by omega)
  omega
/-- its parts have at most so many bits -/
def Sz (k : Nat) (q : Rat) : Prop := q.num.natAbs < 2 ^ k ∧ q.den < 2 ^ k
theorem divInt_sz {a b : Int} {k : Nat} (hb : 0 < b) (h1 : a.natAbs < 2 ^ k) (h2 : b.natAbs < 2 ^ k) : Sz k (Rat.divInt a b) := by
  have g := gcd_pos (a := a) hb
  have e1 := divInt_num (a := a) hb
  have e2 := divInt_den (a := a) hb
  constructor
  · rw [e1]
    exact Nat.lt_of_le_of_lt (Int.natAbs_ediv_le_natAbs _ _) h1
  · have : (Rat.divInt a b).den ≤ b.natAbs := by
      have h3 : b / ((Nat.gcd a.natAbs b.natAbs : Nat) : Int) ≤ b := Int.ediv_le_self _ (by omega)
      omega
    omega
theorem den_pos (q : Rat) : (0 : Int) < (q.den : Int) := by
  have := q.den_pos
  omega
theorem lt_num {a b : Rat} : (a.num * (b.den : Int) < b.num * (a.den : Int)) ↔ a < b := (Rat.lt_iff a b).symm
/-! ### going through a row -/
theorem it_list {K : PySem.W.Frag} {a : Addr} {xs : List V} {H0 : Hp} {Qd : Hp → Prop} {Body : (Hp → Prop) → V → Hp → Prop} (Pv : Nat → Hp → Prop) (h0 : Pv 0 H0) (hl : ∀ i H, Pv i H → SqL K H a xs)
    (hs : ∀ i x H, xs[i]? = some x → Pv i H → Body (Pv (i + 1)) x H) (hd : ∀ H, Pv xs.length H → Qd H) :
    ∃ W : Nat → Nat → Hp → Prop, (∃ m, W 0 m H0) ∧ ∀ i m H, W i m H → ((Itl K a).stop i H ∧ Qd H) ∨
      ((Itl K a).go i H ∧ ∃ N : Hp → Prop, (∀ H', N H' → ∃ m', m' < m ∧ W (i + 1) m' H') ∧ ∀ x H', (Itl K a).yld i H x H' → Body N x H') := by
  refine ⟨fun i m H => i + m = xs.length ∧ Pv i H, ⟨xs.length, Nat.zero_add _, h0⟩, fun i m H h => ?_⟩
  obtain ⟨e, p⟩ := h
  have q := hl i H p
  cases m with
  | zero =>
    have e' : i = xs.length := e
    subst e'
    exact .inl ⟨⟨xs, q, Nat.le_refl _⟩, hd H p⟩
  | succ m =>
    have c : i < xs.length := by omega
    have g : xs[i]? = some xs[i] := List.getElem?_eq_getElem c
    refine .inr ⟨⟨xs, _, q, g⟩, Pv (i + 1), fun H' p' => ⟨m, Nat.lt_succ_self m, by omega, p'⟩, fun x H' y => ?_⟩
    obtain ⟨rfl, y2⟩ := y
    exact hs i x _ (y2 xs q) p
theorem it_tup {K : PySem.W.Frag} {a : Addr} {xs : List V} {H0 : Hp} {Qd : Hp → Prop} {Body : (Hp → Prop) → V → Hp → Prop} (Pv : Nat → Hp → Prop) (h0 : Pv 0 H0) (hl : ∀ i H, Pv i H → SqT K H a xs)
    (hs : ∀ i x H, xs[i]? = some x → Pv i H → Body (Pv (i + 1)) x H) (hd : ∀ H, Pv xs.length H → Qd H) :
    ∃ W : Nat → Nat → Hp → Prop, (∃ m, W 0 m H0) ∧ ∀ i m H, W i m H → ((Itt K a).stop i H ∧ Qd H) ∨
      ((Itt K a).go i H ∧ ∃ N : Hp → Prop, (∀ H', N H' → ∃ m', m' < m ∧ W (i + 1) m' H') ∧ ∀ x H', (Itt K a).yld i H x H' → Body N x H') := by
  refine ⟨fun i m H => i + m = xs.length ∧ Pv i H, ⟨xs.length, Nat.zero_add _, h0⟩, fun i m H h => ?_⟩
  obtain ⟨e, p⟩ := h
  have q := hl i H p
  cases m with
  | zero =>
    have e' : i = xs.length := e
    subst e'
    exact .inl ⟨⟨xs, q, Nat.le_refl _⟩, hd H p⟩
  | succ m =>
    have c : i < xs.length := by omega
    have g : xs[i]? = some xs[i] := List.getElem?_eq_getElem c
    refine .inr ⟨⟨xs, _, q, g⟩, Pv (i + 1), fun H' p' => ⟨m, Nat.lt_succ_self m, by omega, p'⟩, fun x H' y => ?_⟩
    obtain ⟨rfl, y2⟩ := y
    exact hs i x _ (y2 xs q) p
theorem tyT {K : PySem.W.Frag} {H : Hp} {a : Addr} {xs : List V} (h : SqT K H a xs) : TyX K H (.ref a) (.type "tuple") := by
  rcases h with (h | ⟨o, h⟩) | ⟨o, _, _, h, c, _⟩
  · exact .base (.tup h)
  · exact .fTuple h
  · exact .kTuple h c
theorem pe_ty {X : Cx} {x : Str} {n : String} {pos : Pos} (hg : Gl X x) (hm : X.mg x = none) (hv : bootBuiltins x = some (.type n)) (hn : x ≠ "__name__" := by decide) (hd : (x == ("__debug__" : Str)) = false := by decide) : PE X (.Name x pos) (tC (.ty n)) :=
  pe_bltn hg hm hv (show RelV (.ty n) (.type n) from rfl) hn hd
/-! ### a def of the text -/
/-- the def nm that the module's name x stands for -/
structure FnA (K : PySem.W.Frag) (mg : Str → Option Value) (x nm : Str) (st : Stmt) : Prop where
  ex : ∃ f fd, FunD K nm nm (defArgs st) (defBody st) (defScope st) [] [] f fd ∧ mg x = some (.ref f)
abbrev FnD (K : PySem.W.Frag) (mg : Str → Option Value) (x : Str) (st : Stmt) : Prop := FnA K mg x x st
/-- the class x at C and its __init__ -/
structure MkD (K : PySem.W.Frag) (mg : Str → Option Value) (x : Str) (C : Addr) (qual : Str) (st : Stmt) : Prop where
  ex : ∃ f fd, FunD K "__init__" qual (defArgs st) (defBody st) (defScope st) [] [] f fd ∧ mg x = some (.ref C) ∧ Mk K C f
/-- a method of the class at C -/
structure MtD (K : PySem.W.Frag) (C : Addr) (m qual : Str) (st : Stmt) : Prop where
  ex : ∃ f fd, FunD K m qual (defArgs st) (defBody st) (defScope st) [] [] f fd ∧ Cls K C ∧ Meth K C m f
section
variable {P : Program} {w : World} {K : PySem.W.Frag} {mg : Str → Option Value} {base : Heap}
abbrev HBinds (x qual : Str) (st : Stmt) (ps : List Str) : Prop := ∀ (kV doc pm : Value) (an : Option Addr) (cdv ct : Value) (us : List Value), us.length = ps.length → bindArgs (PySem.W.fnOf x qual (defArgs st) (defBody st) (defScope st) .none kV doc pm an cdv ct) ⟨us, []⟩ = pure (ps.zip us)
abbrev HBody (P : Program) (w : World) (K : PySem.W.Frag) (mg : Str → Option Value) (base : Heap) (k : Nat) (qual : Str) (st : Stmt) (N : List Str) (sp : Sp) : Prop :=
  ∀ (cdv : Value) (f : Addr) (A : Around) (outer : List Env) (s : Shared) (H : Hp) (vs : List V) (Q : VK) (E : XK), Room k (A.deeper (envOfC qual (defScope st) s.heap.objs.size f cdv)) → sp vs H Q E →
      ∃ t, PSs (cxOf CX0 P w K mg base N qual (defScope st) f cdv A outer s H E).nox (defBody st) t ∧ t { nx := fun _ H' => Q .non H', rt := Q } (start N vs) H
theorem fnOkOf {x qual : Str} {st : Stmt} {N ps : List Str} {k : Nat} {sp : Sp} {f : Addr} {fd : FuncData} (F : FunD K x qual (defArgs st) (defBody st) (defScope st) [] [] f fd) (S : FnScope N ps (defScope st))
    (len : ∀ vs H Q E, sp vs H Q E → vs.length = ps.length) (hbody : HBody P w K mg base k qual st N sp) : FnOk P w K mg base CX0 (k + 1) f fd ps sp :=
  F.ok S len fun cdv A outer s H vs Q E hr h => (by
    obtain ⟨t, h1, h2⟩ := hbody cdv f A outer s H vs Q E hr h
    exact ⟨t, h1.nox, h2⟩)
theorem calOf {x nm : Str} {st : Stmt} {N ps : List Str} {k : Nat} {sp : Sp} (F : FnA K mg x nm st) (S : FnScope N ps (defScope st)) (hb : HBinds nm nm st ps) (len : ∀ vs H Q E, sp vs H Q E → vs.length = ps.length)
    (hbody : HBody P w K mg base k nm st N sp) : Cal P w K mg base (k + 1) x sp [] := by
  obtain ⟨f, fd, F, hm⟩ := F.ex
  exact ⟨f, fd, ps, [], fnOkOf F S len hbody, hm, F.kp, F.bindsN hb, .nil⟩
theorem makOf {x qual : Str} {C : Addr} {st : Stmt} {N ps : List Str} {k : Nat} {sp : Sp} (F : MkD K mg x C qual st) (S : FnScope N ps (defScope st)) (hb : HBinds "__init__" qual st ps) (len : ∀ vs H Q E, sp vs H Q E → vs.length = ps.length)
    (hbody : HBody P w K mg base k qual st N sp) : Mak P w K mg base (k + 1) x C sp [] := by
  obtain ⟨f, fd, F, hm, hk⟩ := F.ex
  exact ⟨f, fd, ps, [], hk, fnOkOf F S len hbody, hm, F.bindsN hb, .nil⟩
theorem metOf {m qual : Str} {C : Addr} {st : Stmt} {N ps : List Str} {k : Nat} {sp : Sp} (F : MtD K C m qual st) (S : FnScope N ps (defScope st)) (hb : HBinds m qual st ps) (len : ∀ vs H Q E, sp vs H Q E → vs.length = ps.length)
    (hbody : HBody P w K mg base k qual st N sp) : Met P w K mg base (k + 1) C m sp [] := by
  obtain ⟨f, fd, F, hc, hm⟩ := F.ex
  exact ⟨f, fd, ps, [], hc, hm, fnOkOf F S len hbody, F.bindsN hb, .nil⟩
end
theorem wm {i j : Int} {a b : Nat} (ha : i.natAbs < 2 ^ a) (hb : j.natAbs < 2 ^ b) (h : a + b ≤ 900000) : CMulW i j :=
  wide_mul (a := a + 1) (b := b + 1) (Nat.lt_trans ha (by rw [Nat.pow_succ]; have := Nat.two_pow_pos a; omega)) (Nat.lt_trans hb (by rw [Nat.pow_succ]; have := Nat.two_pow_pos b; omega)) (by omega) (by omega) (by omega)
theorem Sz.d {k : Nat} {q : Rat} (h : Sz k q) : ((q.den : Int)).natAbs < 2 ^ k := by
  have := h.2
  omega
theorem Sz.mono {j k : Nat} {q : Rat} (h : Sz j q) (l : j ≤ k) : Sz k q :=
  ⟨Nat.lt_of_lt_of_le h.1 (Nat.pow_le_pow_right (by omega) l), Nat.lt_of_lt_of_le h.2 (Nat.pow_le_pow_right (by omega) l)⟩
theorem sz_add {a b c d : Int} {m n : Nat} (hb : 0 < b) (hd : 0 < d) (h1 : a.natAbs < 2 ^ m) (h2 : b.natAbs < 2 ^ m) (h3 : c.natAbs < 2 ^ n) (h4 : d.natAbs < 2 ^ n) : Sz (m + n + 1) (Rat.divInt a b + Rat.divInt c d) := by
  rw [Rat.divInt_add_divInt _ _ (by omega) (by omega)]
  have e : (2 : Nat) ^ (m + n + 1) = 2 ^ (m + n) + 2 ^ (m + n) := by rw [Nat.pow_succ]; omega
  refine divInt_sz (Int.mul_pos hb hd) ?_ ?_
  · have z1 := wide_lt h1 h4
    have z2 := wide_lt h3 h2
    rw [Nat.add_comm n m] at z2
    have := Int.natAbs_add_le (a * d) (c * b)
    omega
  · have z1 := wide_lt h2 h4
    omega
theorem ne_zero_divInt {c d : Int} (hc : 0 < c) (hd : 0 < d) : Rat.divInt c d ≠ 0 := by
  intro h
  have z : (0 : Rat) = Rat.divInt 0 1 := by rw [Rat.zero_divInt]
  rw [z, Rat.divInt_eq_divInt_iff (by omega) (by omega)] at h
  omega
theorem divInt_div {a b c d : Int} (hc : 0 < c) (hd : 0 < d) (hb : 0 < b) : Rat.divInt (a * d) (b * c) = Rat.divInt a b / Rat.divInt c d := by
  have h := ne_zero_divInt hc hd
  have e : Rat.divInt (a * d) (b * c) * Rat.divInt c d = Rat.divInt a b := by
    rw [Rat.divInt_mul_divInt, Rat.divInt_eq_divInt_iff (by have := Int.mul_pos (Int.mul_pos hb hc) hd; omega) (by omega)]
    grind
  rw [← e, Rat.mul_div_cancel h]
theorem int_rat (x : Int) : ((x : Int) : Rat) = Rat.divInt x 1 := by
  rw [Rat.divInt_eq_div]
  grind
theorem mul_divInt (x : Int) (q : Rat) : ((x : Int) : Rat) * q = Rat.divInt (x * q.num) (q.den : Int) := by
  have h : q = Rat.divInt q.num (q.den : Int) := (Rat.num_divInt_den q).symm
  conv => lhs; rw [h]
  rw [int_rat, Rat.divInt_mul_divInt, Int.one_mul]
def NumOk (k : Nat) (q : Rat) : Prop := 0 ≤ q ∧ q ≤ 1 ∧ Sz k q
theorem NumOk.mono {j k : Nat} {q : Rat} (h : NumOk j q) (l : j ≤ k) : NumOk k q := ⟨h.1, h.2.1, h.2.2.mono l⟩
theorem numOk_divInt {a b : Int} {k : Nat} (ha : 0 ≤ a) (hab : a ≤ b) (hb : 0 < b) (hk : b.natAbs < 2 ^ k) : NumOk k (Rat.divInt a b) := by
  refine ⟨Rat.divInt_nonneg ha (by omega), ?_, divInt_sz hb (by omega) hk⟩
  have e : (1 : Rat) = Rat.divInt b b := by
    rw [show (1 : Rat) = Rat.divInt 1 1 from rfl, Rat.divInt_eq_divInt_iff (by omega) (by omega)]
    omega
  have h := Rat.divInt_nonneg (a := b - a) (b := b) (by omega) (by omega)
  have h2 : Rat.divInt (b - a) b = 1 - Rat.divInt a b := by
    rw [e, Rat.divInt_sub_divInt _ _ (by omega) (by omega), Rat.divInt_eq_divInt_iff (by omega) (by have := Int.mul_pos hb hb; omega)]
    grind
  rw [h2] at h
  grind
/-- the lesser, the greater one -/
def rmin (a b : Rat) : Rat := if b < a then b else a
def rmax (a b : Rat) : Rat := if a < b then b else a
theorem divInt_self' (q : Rat) : Rat.divInt q.num (q.den : Int) = q := Rat.num_divInt_den q
end CB

set_option Elab.async false
set_option linter.all false
set_option maxRecDepth 100000
set_option maxHeartbeats 4000000
namespace CB
open PySem PySem.Spec PyProof.Rows L2
open C8 (Cal Met Mak pe_c pe_mk pe_mt pe_mt0 pe_gc CalAt)
def top (i : Nat) : Stmt := PySem.Challenge.pw_cornerbids_k70_whole_tables_of_weights.main.body.getD i (.Pass ⟨0, 0, 0, 0⟩)
set_option maxHeartbeats 0
abbrev s_lowest : Stmt := top 5
abbrev s_is_less : Stmt := top 7
abbrev s_lesser : Stmt := top 8
abbrev s_greater : Stmt := top 10
abbrev s_mean_of : Stmt := top 12
abbrev s_common_bottom : Stmt := top 13
abbrev s_scaled : Stmt := top 14
abbrev s__law_draw : Stmt := top 64
abbrev s__law_dice : Stmt := top 63
abbrev s__law_lowest : Stmt := top 66
abbrev s__law_sum : Stmt := top 67
abbrev s__law_product : Stmt := top 68
abbrev s__law_less : Stmt := top 69
abbrev s__law_number : Stmt := top 71
abbrev s__law_sorted : Stmt := top 70
abbrev s__law_term : Stmt := top 72
abbrev s_is_integer : Stmt := top 22
abbrev s_is_number : Stmt := top 23
abbrev s_is_person : Stmt := top 26
abbrev s_is_weight : Stmt := top 37
abbrev s_is_weighted : Stmt := top 36
abbrev s_are_some : Stmt := top 35
abbrev s_are_bounds : Stmt := top 24
abbrev s_inner_terms : Stmt := top 38
abbrev s_is_formed : Stmt := top 34
abbrev s_is_term : Stmt := top 33
abbrev s_is_people : Stmt := top 25
abbrev s_Rule___init__ : Stmt := inClass (top 52) 0
abbrev s_Numbers_fixed : Stmt := inClass (top 43) 0
abbrev s_Numbers_mean : Stmt := inClass (top 43) 1
abbrev s_Numbers_lesser : Stmt := inClass (top 43) 2
abbrev s_Numbers_greater : Stmt := inClass (top 43) 3
abbrev s_least_of : Stmt := top 40
abbrev s_greatest_of : Stmt := top 41
abbrev s_kth_greatest : Stmt := top 42
abbrev s_worked : Stmt := top 39
abbrev s_told_by : Stmt := top 44
abbrev s_minus : Stmt := top 6
abbrev s__law_value : Stmt := top 73
abbrev s_replaced : Stmt := top 45
abbrev s__law_at_ends : Stmt := top 76
abbrev s__law_corner : Stmt := top 77
abbrev s__law_by_size : Stmt := top 75
abbrev s__law_lots : Stmt := top 74
abbrev s__law_some : Stmt := top 65
abbrev s_corner_of : Stmt := top 48
abbrev s_lots_among : Stmt := top 50
abbrev s_all_lots : Stmt := top 49
abbrev s_corners : Stmt := top 47
abbrev s_joined : Stmt := top 57
abbrev s_lots_without : Stmt := top 56
abbrev s_falls : Stmt := top 55
abbrev s_is_right_table : Stmt := top 54
abbrev s_need_people : Stmt := top 27
abbrev s_need_table : Stmt := top 58
abbrev s__law_people : Stmt := top 78
abbrev s__law_turned : Stmt := top 80
abbrev s__law_table : Stmt := top 79
abbrev s_rise : Stmt := top 60
abbrev s_first_bar_to_weights : Stmt := top 61
abbrev s_weights_of : Stmt := top 59
abbrev s__law_with : Stmt := top 81
abbrev s__law_without : Stmt := top 82
abbrev s__law_rise : Stmt := top 83
abbrev s__law_due : Stmt := top 84
abbrev s__law_is_fraction : Stmt := top 86
abbrev s__law_is_told : Stmt := top 87
abbrev s__law_raised : Stmt := top 85
abbrev s_law : Stmt := top 88
/-! ### the head -/
def d_lowest : He.DefD := ⟨("lowest", none), "lowest", "lowest", defArgs s_lowest, defBody s_lowest, defScope s_lowest, [], []⟩
def d_minus : He.DefD := ⟨("minus", none), "minus", "minus", defArgs s_minus, defBody s_minus, defScope s_minus, [], []⟩
def d_is_less : He.DefD := ⟨("is_less", none), "is_less", "is_less", defArgs s_is_less, defBody s_is_less, defScope s_is_less, [], []⟩
def d_lesser : He.DefD := ⟨("lesser", none), "lesser", "lesser", defArgs s_lesser, defBody s_lesser, defScope s_lesser, [], []⟩
def d_greater : He.DefD := ⟨("greater", none), "greater", "greater", defArgs s_greater, defBody s_greater, defScope s_greater, [], []⟩
def d_mean_of : He.DefD := ⟨("mean_of", none), "mean_of", "mean_of", defArgs s_mean_of, defBody s_mean_of, defScope s_mean_of, [], []⟩
def d_common_bottom : He.DefD := ⟨("common_bottom", none), "common_bottom", "common_bottom", defArgs s_common_bottom, defBody s_common_bottom, defScope s_common_bottom, [], []⟩
def d_scaled : He.DefD := ⟨("scaled", none), "scaled", "scaled", defArgs s_scaled, defBody s_scaled, defScope s_scaled, [], []⟩
def d_is_integer : He.DefD := ⟨("is_integer", none), "is_integer", "is_integer", defArgs s_is_integer, defBody s_is_integer, defScope s_is_integer, [], []⟩
def d_is_number : He.DefD := ⟨("is_number", none), "is_number", "is_number", defArgs s_is_number, defBody s_is_number, defScope s_is_number, [], []⟩
def d_are_bounds : He.DefD := ⟨("are_bounds", none), "are_bounds", "are_bounds", defArgs s_are_bounds, defBody s_are_bounds, defScope s_are_bounds, [], []⟩
def d_is_people : He.DefD := ⟨("is_people", none), "is_people", "is_people", defArgs s_is_people, defBody s_is_people, defScope s_is_people, [], []⟩
def d_is_person : He.DefD := ⟨("is_person", none), "is_person", "is_person", defArgs s_is_person, defBody s_is_person, defScope s_is_person, [], []⟩
def d_need_people : He.DefD := ⟨("need_people", none), "need_people", "need_people", defArgs s_need_people, defBody s_need_people, defScope s_need_people, [], []⟩
def d_is_term : He.DefD := ⟨("is_term", none), "is_term", "is_term", defArgs s_is_term, defBody s_is_term, defScope s_is_term, [], []⟩
def d_is_formed : He.DefD := ⟨("is_formed", none), "is_formed", "is_formed", defArgs s_is_formed, defBody s_is_formed, defScope s_is_formed, [], []⟩
def d_are_some : He.DefD := ⟨("are_some", none), "are_some", "are_some", defArgs s_are_some, defBody s_are_some, defScope s_are_some, [], []⟩
def d_is_weighted : He.DefD := ⟨("is_weighted", none), "is_weighted", "is_weighted", defArgs s_is_weighted, defBody s_is_weighted, defScope s_is_weighted, [], []⟩
def d_is_weight : He.DefD := ⟨("is_weight", none), "is_weight", "is_weight", defArgs s_is_weight, defBody s_is_weight, defScope s_is_weight, [], []⟩
def d_inner_terms : He.DefD := ⟨("inner_terms", none), "inner_terms", "inner_terms", defArgs s_inner_terms, defBody s_inner_terms, defScope s_inner_terms, [], []⟩
def d_worked : He.DefD := ⟨("worked", none), "worked", "worked", defArgs s_worked, defBody s_worked, defScope s_worked, [], []⟩
def d_least_of : He.DefD := ⟨("least_of", none), "least_of", "least_of", defArgs s_least_of, defBody s_least_of, defScope s_least_of, [], []⟩
def d_greatest_of : He.DefD := ⟨("greatest_of", none), "greatest_of", "greatest_of", defArgs s_greatest_of, defBody s_greatest_of, defScope s_greatest_of, [], []⟩
def d_kth_greatest : He.DefD := ⟨("kth_greatest", none), "kth_greatest", "kth_greatest", defArgs s_kth_greatest, defBody s_kth_greatest, defScope s_kth_greatest, [], []⟩
def d_told_by : He.DefD := ⟨("told_by", none), "told_by", "told_by", defArgs s_told_by, defBody s_told_by, defScope s_told_by, [], []⟩
def d_replaced : He.DefD := ⟨("replaced", none), "replaced", "replaced", defArgs s_replaced, defBody s_replaced, defScope s_replaced, [], []⟩
def d_corners : He.DefD := ⟨("corners", none), "corners", "corners", defArgs s_corners, defBody s_corners, defScope s_corners, [], []⟩
def d_corner_of : He.DefD := ⟨("corner_of", none), "corner_of", "corner_of", defArgs s_corner_of, defBody s_corner_of, defScope s_corner_of, [], []⟩
def d_all_lots : He.DefD := ⟨("all_lots", none), "all_lots", "all_lots", defArgs s_all_lots, defBody s_all_lots, defScope s_all_lots, [], []⟩
def d_lots_among : He.DefD := ⟨("lots_among", none), "lots_among", "lots_among", defArgs s_lots_among, defBody s_lots_among, defScope s_lots_among, [], []⟩
def d_is_right_table : He.DefD := ⟨("is_right_table", none), "is_right_table", "is_right_table", defArgs s_is_right_table, defBody s_is_right_table, defScope s_is_right_table, [], []⟩
def d_falls : He.DefD := ⟨("falls", none), "falls", "falls", defArgs s_falls, defBody s_falls, defScope s_falls, [], []⟩
def d_lots_without : He.DefD := ⟨("lots_without", none), "lots_without", "lots_without", defArgs s_lots_without, defBody s_lots_without, defScope s_lots_without, [], []⟩
def d_joined : He.DefD := ⟨("joined", none), "joined", "joined", defArgs s_joined, defBody s_joined, defScope s_joined, [], []⟩
def d_need_table : He.DefD := ⟨("need_table", none), "need_table", "need_table", defArgs s_need_table, defBody s_need_table, defScope s_need_table, [], []⟩
def d_weights_of : He.DefD := ⟨("weights_of", none), "weights_of", "weights_of", defArgs s_weights_of, defBody s_weights_of, defScope s_weights_of, [], []⟩
def d_rise : He.DefD := ⟨("rise", none), "rise", "rise", defArgs s_rise, defBody s_rise, defScope s_rise, [], []⟩
def d_first_bar_to_weights : He.DefD := ⟨("first_bar_to_weights", none), "first_bar_to_weights", "first_bar_to_weights", defArgs s_first_bar_to_weights, defBody s_first_bar_to_weights, defScope s_first_bar_to_weights, [], []⟩
def d__law_dice : He.DefD := ⟨("_law_dice", none), "_law_dice", "_law_dice", defArgs s__law_dice, defBody s__law_dice, defScope s__law_dice, [], []⟩
def d__law_draw : He.DefD := ⟨("_law_draw", none), "_law_draw", "_law_draw", defArgs s__law_draw, defBody s__law_draw, defScope s__law_draw, [], []⟩
def d__law_some : He.DefD := ⟨("_law_some", none), "_law_some", "_law_some", defArgs s__law_some, defBody s__law_some, defScope s__law_some, [], []⟩
def d__law_lowest : He.DefD := ⟨("_law_lowest", none), "_law_lowest", "_law_lowest", defArgs s__law_lowest, defBody s__law_lowest, defScope s__law_lowest, [], []⟩
def d__law_sum : He.DefD := ⟨("_law_sum", none), "_law_sum", "_law_sum", defArgs s__law_sum, defBody s__law_sum, defScope s__law_sum, [], []⟩
def d__law_product : He.DefD := ⟨("_law_product", none), "_law_product", "_law_product", defArgs s__law_product, defBody s__law_product, defScope s__law_product, [], []⟩
def d__law_less : He.DefD := ⟨("_law_less", none), "_law_less", "_law_less", defArgs s__law_less, defBody s__law_less, defScope s__law_less, [], []⟩
def d__law_sorted : He.DefD := ⟨("_law_sorted", none), "_law_sorted", "_law_sorted", defArgs s__law_sorted, defBody s__law_sorted, defScope s__law_sorted, [], []⟩
def d__law_number : He.DefD := ⟨("_law_number", none), "_law_number", "_law_number", defArgs s__law_number, defBody s__law_number, defScope s__law_number, [], []⟩
def d__law_term : He.DefD := ⟨("_law_term", none), "_law_term", "_law_term", defArgs s__law_term, defBody s__law_term, defScope s__law_term, [], []⟩
def d__law_value : He.DefD := ⟨("_law_value", none), "_law_value", "_law_value", defArgs s__law_value, defBody s__law_value, defScope s__law_value, [], []⟩
def d__law_lots : He.DefD := ⟨("_law_lots", none), "_law_lots", "_law_lots", defArgs s__law_lots, defBody s__law_lots, defScope s__law_lots, [], []⟩
def d__law_by_size : He.DefD := ⟨("_law_by_size", none), "_law_by_size", "_law_by_size", defArgs s__law_by_size, defBody s__law_by_size, defScope s__law_by_size, [], []⟩
def d__law_at_ends : He.DefD := ⟨("_law_at_ends", none), "_law_at_ends", "_law_at_ends", defArgs s__law_at_ends, defBody s__law_at_ends, defScope s__law_at_ends, [], []⟩
def d__law_corner : He.DefD := ⟨("_law_corner", none), "_law_corner", "_law_corner", defArgs s__law_corner, defBody s__law_corner, defScope s__law_corner, [], []⟩
def d__law_people : He.DefD := ⟨("_law_people", none), "_law_people", "_law_people", defArgs s__law_people, defBody s__law_people, defScope s__law_people, [], []⟩
def d__law_table : He.DefD := ⟨("_law_table", none), "_law_table", "_law_table", defArgs s__law_table, defBody s__law_table, defScope s__law_table, [], []⟩
def d__law_turned : He.DefD := ⟨("_law_turned", none), "_law_turned", "_law_turned", defArgs s__law_turned, defBody s__law_turned, defScope s__law_turned, [], []⟩
def d__law_with : He.DefD := ⟨("_law_with", none), "_law_with", "_law_with", defArgs s__law_with, defBody s__law_with, defScope s__law_with, [], []⟩
def d__law_without : He.DefD := ⟨("_law_without", none), "_law_without", "_law_without", defArgs s__law_without, defBody s__law_without, defScope s__law_without, [], []⟩
def d__law_rise : He.DefD := ⟨("_law_rise", none), "_law_rise", "_law_rise", defArgs s__law_rise, defBody s__law_rise, defScope s__law_rise, [], []⟩
def d__law_due : He.DefD := ⟨("_law_due", none), "_law_due", "_law_due", defArgs s__law_due, defBody s__law_due, defScope s__law_due, [], []⟩
def d__law_raised : He.DefD := ⟨("_law_raised", none), "_law_raised", "_law_raised", defArgs s__law_raised, defBody s__law_raised, defScope s__law_raised, [], []⟩
def d__law_is_fraction : He.DefD := ⟨("_law_is_fraction", none), "_law_is_fraction", "_law_is_fraction", defArgs s__law_is_fraction, defBody s__law_is_fraction, defScope s__law_is_fraction, [], []⟩
def d__law_is_told : He.DefD := ⟨("_law_is_told", none), "_law_is_told", "_law_is_told", defArgs s__law_is_told, defBody s__law_is_told, defScope s__law_is_told, [], []⟩
def d_law : He.DefD := ⟨("law", none), "law", "law", defArgs s_law, defBody s_law, defScope s_law, [], []⟩
def d_Numbers_fixed : He.DefD := ⟨("Numbers", some "fixed"), "fixed", "Numbers.fixed", defArgs s_Numbers_fixed, defBody s_Numbers_fixed, defScope s_Numbers_fixed, [], []⟩
def d_Numbers_mean : He.DefD := ⟨("Numbers", some "mean"), "mean", "Numbers.mean", defArgs s_Numbers_mean, defBody s_Numbers_mean, defScope s_Numbers_mean, [], []⟩
def d_Numbers_lesser : He.DefD := ⟨("Numbers", some "lesser"), "lesser", "Numbers.lesser", defArgs s_Numbers_lesser, defBody s_Numbers_lesser, defScope s_Numbers_lesser, [], []⟩
def d_Numbers_greater : He.DefD := ⟨("Numbers", some "greater"), "greater", "Numbers.greater", defArgs s_Numbers_greater, defBody s_Numbers_greater, defScope s_Numbers_greater, [], []⟩
def d_Rule___init__ : He.DefD := ⟨("Rule", some "__init__"), "__init__", "Rule.__init__", defArgs s_Rule___init__, defBody s_Rule___init__, defScope s_Rule___init__, [], []⟩
def d_lesser_amounts : He.DefD := ⟨("lesser_amounts", none), "lesser", "lesser", defArgs s_lesser, defBody s_lesser, defScope s_lesser, [], []⟩
def d_greater_amounts : He.DefD := ⟨("greater_amounts", none), "greater", "greater", defArgs s_greater, defBody s_greater, defScope s_greater, [], []⟩
def fnL0 : List He.DefD := [d_lowest, d_minus, d_is_less, d_lesser, d_greater, d_mean_of, d_common_bottom, d_scaled, d_is_integer, d_is_number, d_are_bounds, d_is_people, d_is_person, d_need_people, d_is_term, d_is_formed, d_are_some, d_is_weighted, d_is_weight, d_inner_terms, d_worked, d_least_of, d_greatest_of, d_kth_greatest, d_told_by, d_replaced, d_corners, d_corner_of, d_all_lots, d_lots_among]
def fnL1 : List He.DefD := [d_is_right_table, d_falls, d_lots_without, d_joined, d_need_table, d_weights_of, d_rise, d_first_bar_to_weights, d__law_dice, d__law_draw, d__law_some, d__law_lowest, d__law_sum, d__law_product, d__law_less, d__law_sorted, d__law_number, d__law_term, d__law_value, d__law_lots, d__law_by_size, d__law_at_ends, d__law_corner, d__law_people, d__law_table, d__law_turned, d__law_with, d__law_without, d__law_rise, d__law_due]
def fnL2 : List He.DefD := [d__law_raised, d__law_is_fraction, d__law_is_told, d_law, d_Numbers_fixed, d_Numbers_mean, d_Numbers_lesser, d_Numbers_greater, d_Rule___init__, d_lesser_amounts, d_greater_amounts]
def fnL : List He.DefD := fnL0 ++ fnL1 ++ fnL2
def faL0 : List He.Fa := [.glo "lowest", .glo "minus", .glo "is_less", .glo "lesser", .glo "greater", .glo "mean_of", .glo "common_bottom", .glo "scaled", .glo "is_integer", .glo "is_number", .glo "are_bounds", .glo "is_people", .glo "is_person", .glo "need_people", .glo "is_term", .glo "is_formed", .glo "are_some", .glo "is_weighted", .glo "is_weight", .glo "inner_terms", .glo "worked", .glo "least_of", .glo "greatest_of", .glo "kth_greatest", .glo "told_by", .glo "replaced", .glo "corners", .glo "corner_of", .glo "all_lots", .glo "lots_among"]
def faL1 : List He.Fa := [.glo "is_right_table", .glo "falls", .glo "lots_without", .glo "joined", .glo "need_table", .glo "weights_of", .glo "rise", .glo "first_bar_to_weights", .glo "_law_dice", .glo "_law_draw", .glo "_law_some", .glo "_law_lowest", .glo "_law_sum", .glo "_law_product", .glo "_law_less", .glo "_law_sorted", .glo "_law_number", .glo "_law_term", .glo "_law_value", .glo "_law_lots", .glo "_law_by_size", .glo "_law_at_ends", .glo "_law_corner", .glo "_law_people", .glo "_law_table", .glo "_law_turned", .glo "_law_with", .glo "_law_without", .glo "_law_rise", .glo "_law_due"]
def faL2 : List He.Fa := [.glo "_law_raised", .glo "_law_is_fraction", .glo "_law_is_told", .glo "law", .glo "lesser_amounts", .glo "greater_amounts", .glo "Rule", .cls "Rule", .glo "Numbers", .cls "Numbers", .noat "Rule" "people", .noat "Rule" "term", .mkr "Rule", .meth "Numbers" "fixed", .meth "Numbers" "mean", .meth "Numbers" "lesser", .meth "Numbers" "greater", .keep "Numbers", .free "abs", .free "int", .free "len", .free "range", .free "sorted", .free "tuple", .free "sum", .free "dict", .free "list", .free "isinstance", .free "bool", .free "any"]
def faL3 : List He.Fa := [.free "all", .free "str", .free "zip", .free "enumerate", .int "MOST_PEOPLE" 6, .int "MOST_WEIGHT" 99, .int "MOST_PARTS" 8, .int "MOST_DEEP" 8, .int "MOST_TERMS" 60]
def faZ : List He.Fa := [.glo "ZERO", .glo "ONE"]
def faL : List He.Fa := faL0 ++ faL1 ++ faL2 ++ faL3 ++ faZ
def looseL0 : List PySem.Str := ["ZERO", "ONE", "lowest", "minus", "is_less", "lesser", "lesser_amounts", "greater", "greater_amounts", "mean_of", "common_bottom", "scaled", "BidError", "BadRule", "NoPeople", "NoTable", "MOST_PEOPLE", "is_integer", "is_number", "are_bounds", "is_people", "is_person", "need_people", "MOST_PARTS", "MOST_WEIGHT", "MOST_DEEP", "MOST_TERMS", "is_term", "is_formed", "are_some"]
def looseL1 : List PySem.Str := ["is_weighted", "is_weight", "inner_terms", "worked", "least_of", "greatest_of", "kth_greatest", "Numbers", "told_by", "replaced", "corners", "corner_of", "all_lots", "lots_among", "Rule", "is_right_table", "falls", "lots_without", "joined", "need_table", "weights_of", "rise", "first_bar_to_weights", "_law_dice", "_law_draw", "_law_some", "_law_lowest", "_law_sum", "_law_product", "_law_less"]
def looseL2 : List PySem.Str := ["_law_sorted", "_law_number", "_law_term", "_law_value", "_law_lots", "_law_by_size", "_law_at_ends", "_law_corner", "_law_people", "_law_table", "_law_turned", "_law_with", "_law_without", "_law_rise", "_law_due", "_law_raised", "_law_is_fraction", "_law_is_told"]
def looseL : List PySem.Str := looseL0 ++ looseL1 ++ looseL2
def exL (K : PySem.W.Frag) : Bool := (He.eqO (PySem.W.nsIn K mainGlobals "combinations") (some (some (.type "itertools.combinations"))) && (He.eqO (PySem.W.nsIn K mainGlobals "gcd") (some (some (.builtin "math.gcd"))) && (He.eqO (PySem.W.nsIn K mainGlobals "lcm") (some (some (.builtin "math.lcm"))) && (He.tupB K "ZERO" [.int 0, .int 1] && (He.tupB K "ONE" [.int 1, .int 1] && (PySem.W.makesIn K (He.ga K "Numbers") && (He.eqO (PySem.W.findIn K (.ref (He.ga K "Numbers")) "__init__") (some (some (.builtin "object.__init__"))) && (decide (PySem.W.mroIn K (He.ga K "Numbers") (.type "object") = some true) && true))))))))
abbrev Rw : PySem.W.OpenRow := PySem.W.OpenLaw.row PySem.Challenge.rw_cornerbids_k70_whole_tables_of_weights
abbrev qv : Program := PySem.W.view Rw.prog [0, 1, 88]
abbrev hkL : PySem.W.Hook := He.hookX 5 faL fnL [] [] exL
def obL (s : PySem.W.SharedT) : He.AlX := He.obsX 5 faL fnL [] [] exL (HandSHeadRun.getT s)
theorem ob_eq (s : PySem.W.SharedT) : obL s = hkL.obs s.abs := He.obsX_eq (HandSHeadRun.getT_eq s)
theorem map_both {α β γ δ : Type} {o : Option α} {f : α → β} {g : α → γ} {h : α → δ} {b : β} {c : γ} {d : δ} (e1 : o.map (fun x => (f x, g x)) = some (b, c)) (e2 : o.map h = some d) : o.map (fun x => (f x, g x, h x)) = some (b, c, d) := by
  cases o with
  | none => cases e2
  | some x =>
    obtain ⟨a1, a2⟩ := Prod.mk.inj (Option.some.inj e1)
    exact congrArg some (Prod.ext a1 (Prod.ext a2 (Option.some.inj e2)))
noncomputable abbrev whL (w : World) := HandSHeadRun.wholeF (fun p => HandSHeadRun.stepQ (HandSHeadRun.denQ HandSHeadRun.tabQ) p w) HandSHeadRun.fenceQ 6000 Rw.prog
theorem run1 (w : World) : Option.map (fun x => (HandSHeadRun.looksF Rw.prog x.fst.heap x.snd.abs, HandSHeadRun.seenQ qv looseL (PySem.importedModules Rw.prog.main.body) (fun s => PySem.W.xlAt qv [] s && PySem.W.recOk Rw.records s) x.snd.abs)) (whL w) = Option.some (Bool.true, PySem.W.openGood qv looseL) := by
  kernel_rfl
theorem run2 (w : World) : Option.map (fun x => obL x.snd) (whL w) = Option.some (hkL.val w) := by
  kernel_rfl
theorem runL (w : World) : HandSHeadRun.RunEqI Rw qv hkL obL 6000 looseL w :=
  map_both (o := whL w) (f := fun x => HandSHeadRun.looksF Rw.prog x.fst.heap x.snd.abs) (g := fun x => HandSHeadRun.seenQ qv looseL (PySem.importedModules Rw.prog.main.body) (fun s => PySem.W.xlAt qv [] s && PySem.W.recOk Rw.records s) x.snd.abs) (h := fun x => obL x.snd) (run1 w) (run2 w)
set_option maxHeartbeats 4000000
section
variable {P : Program} {w : World} {K : PySem.W.Frag} {mg : Str → Option Value} {base : Heap}
abbrev n_lowest : List Str := ["top", "bottom", "shared"]
theorem sc_lowest : FnScope ["top", "bottom", "shared"] ["top", "bottom"] (defScope s_lowest) := ⟨rfl, rfl, rfl, by decide +kernel, rfl, by decide +kernel, by decide +kernel⟩
def sp_lowest (K : PySem.W.Frag) : Sp := fun vs H Q _ => ∃ a b : Int, vs = [.int a, .int b] ∧ 0 < b ∧ b.natAbs < 2 ^ 9000 ∧ ∀ v H', Same H H' → RF K H' v (Rat.divInt a b) → Q v H'
theorem ok_lowest (F : FnD K mg "lowest" s_lowest) (g_gcd : mg "gcd" = some (.builtin "math.gcd")) : Cal P w K mg base 1 "lowest" (sp_lowest K) [] := by
  refine calOf F sc_lowest (fun _ _ _ _ _ _ us hl => match us, hl with | [_, _], _ => rfl) (fun vs H Q E h => ?_) (fun cdv f A outer s H vs Q E hr h => ?_)
  · obtain ⟨a, b, rfl, _⟩ := h
    rfl
  · obtain ⟨a, b, rfl, hb, hz, k⟩ := h
    have g := gcd_pos (a := a) hb
    have gl : (((Nat.gcd a.natAbs b.natAbs : Nat) : Int)).natAbs < 2 ^ 9000 := Nat.lt_of_le_of_lt (gcd_le hb) hz
    have cd : ∀ x : Int, CDivW x ((Nat.gcd a.natAbs b.natAbs : Nat) : Int) := fun x => wide_div g gl (by omega) (by omega)
    refine ⟨_, (pss_cons (ps_set (i := 2) sc_lowest.nd rfl (Or.inl rfl) (pe_callBfun cr_gcd (by rfl) g_gcd (pa_cons (pv 0) (pa_cons (pv 1) pa_nil))))
    (pss_one (ps_ret (pe_tup (pa_cons (pe_op op_fdivW (pv 0) (pv 2)) (pa_cons (pe_op op_fdivW (pv 1) (pv 2)) pa_nil)))))), ?_⟩
    refine ⟨_, rfl, _, rfl, _, _, rfl, _, rfl, _, rfl, _, _, rfl, rfl, cd _, _, rfl, _, rfl, _, _, rfl, rfl, cd _, (by show 2 ≤ sizeLine; decide), fun p hp => ?_⟩
    refine k _ _ (same_new hp) ⟨p, rfl, SqT.of ?_⟩
    rw [upd_same, divInt_num hb, divInt_den hb]
/-- of raw pairs -/
def sp_plus (K : PySem.W.Frag) : Sp := fun vs H Q _ => ∃ (v1 v2 : V) (a b c d : Int) (m n : Nat), vs = [v1, v2] ∧ PF K H v1 a b ∧ PF K H v2 c d ∧ 0 < b ∧ 0 < d ∧ 
  a.natAbs < 2 ^ m ∧ b.natAbs < 2 ^ m ∧ c.natAbs < 2 ^ n ∧ d.natAbs < 2 ^ n ∧ m + n ≤ 9000 ∧ ∀ v H', Same H H' → RF K H' v (Rat.divInt a b + Rat.divInt c d) → Q v H'
end
end CB

set_option Elab.async false
set_option linter.all false
set_option maxRecDepth 100000
set_option maxHeartbeats 4000000
namespace CB
open PySem PySem.Spec PyProof.Rows L2
open C8 (Cal Met Mak pe_c pe_mk pe_mt pe_mt0 pe_gc CalAt)
section
variable {P : Program} {w : World} {K : PySem.W.Frag} {mg : Str → Option Value} {base : Heap}
/-- of raw pairs, the second above 0 -/
def sp_over (K : PySem.W.Frag) : Sp := fun vs H Q _ => ∃ (v1 v2 : V) (a b c d : Int) (m n : Nat), vs = [v1, v2] ∧ PF K H v1 a b ∧ PF K H v2 c d ∧ 0 < b ∧ 0 < c ∧ 0 < d ∧ 
  a.natAbs < 2 ^ m ∧ b.natAbs < 2 ^ m ∧ c.natAbs < 2 ^ n ∧ d.natAbs < 2 ^ n ∧ m + n ≤ 9000 ∧ ∀ v H', Same H H' → RF K H' v (Rat.divInt a b / Rat.divInt c d) → Q v H'
abbrev n_is_less : List Str := ["one", "other"]
theorem sc_is_less : FnScope ["one", "other"] ["one", "other"] (defScope s_is_less) := ⟨rfl, rfl, rfl, by decide +kernel, rfl, by decide +kernel, by decide +kernel⟩
def sp_is_less (K : PySem.W.Frag) : Sp := fun vs H Q _ => ∃ (v1 v2 : V) (a b : Rat) (m n : Nat), vs = [v1, v2] ∧ RF K H v1 a ∧ RF K H v2 b ∧ Sz m a ∧ Sz n b ∧ m + n ≤ 900000 ∧ Q (.bl (decide (a < b))) H
theorem ok_is_less (F : FnD K mg "is_less" s_is_less) : Cal P w K mg base 1 "is_less" (sp_is_less K) [] := by
  refine calOf F sc_is_less (fun _ _ _ _ _ _ us hl => match us, hl with | [_, _], _ => rfl) (fun vs H Q E h => ?_) (fun cdv f A outer s H vs Q E hr h => ?_)
  · obtain ⟨_, _, _, _, _, _, rfl, _⟩ := h
    rfl
  · obtain ⟨v1, v2, a, b, m, n, rfl, ⟨p1, rfl, h1⟩, ⟨p2, rfl, h2⟩, sa, sb, hmn, k⟩ := h
    refine ⟨_, (pss_one (ps_ret (pe_cmpR op_lt (pe_op op_mulW (pe_ix ix_tup (pv 0) pe_int (fun _ _ => rfl)) (pe_ix ix_tup (pv 1) pe_int (fun _ _ => rfl))) (pe_op op_mulW (pe_ix ix_tup (pv 1) pe_int (fun _ _ => rfl)) (pe_ix ix_tup (pv 0) pe_int (fun _ _ => rfl))) (nomark _)))), ?_⟩
    refine ⟨_, rfl, _, _, _, _, rfl, rfl, h1, rfl, _, rfl, _, _, _, _, rfl, rfl, h2, rfl, _, _, rfl, rfl, wm sa.1 sb.d (by omega), ?_⟩
    refine ⟨_, rfl, _, _, _, _, rfl, rfl, h2, rfl, _, rfl, _, _, _, _, rfl, rfl, h1, rfl, _, _, rfl, rfl, wm sb.1 sa.d (by omega), ?_⟩
    refine ⟨_, _, rfl, rfl, ?_⟩
    show Q (V.bl (decide (a.num * (b.den : Int) < b.num * (a.den : Int)))) H
    rw [show decide (a.num * (b.den : Int) < b.num * (a.den : Int)) = decide (a < b) from decide_eq_decide.mpr lt_num]
    exact k
abbrev n_lesser : List Str := ["one", "other"]
theorem sc_lesser : FnScope ["one", "other"] ["one", "other"] (defScope s_lesser) := ⟨rfl, rfl, rfl, by decide +kernel, rfl, by decide +kernel, by decide +kernel⟩
def sp_lesser (K : PySem.W.Frag) : Sp := fun vs H Q _ => ∃ (v1 v2 : V) (a b : Rat) (m n : Nat), vs = [v1, v2] ∧ RF K H v1 a ∧ RF K H v2 b ∧ Sz m a ∧ Sz n b ∧ m + n ≤ 900000 ∧ ∀ v, RF K H v (rmin a b) → Q v H
theorem ok_lesser {x : Str} (F : FnA K mg x "lesser" s_lesser) (c_is_less : Cal P w K mg base 1 "is_less" (sp_is_less K) []) : Cal P w K mg base 2 x (sp_lesser K) [] := by
  refine calOf F sc_lesser (fun _ _ _ _ _ _ us hl => match us, hl with | [_, _], _ => rfl) (fun vs H Q E h => ?_) (fun cdv f A outer s H vs Q E hr h => ?_)
  · obtain ⟨_, _, _, _, _, _, rfl, _⟩ := h
    rfl
  · obtain ⟨v1, v2, a, b, m, n, rfl, h1, h2, sa, sb, hmn, k⟩ := h
    refine ⟨_, (pss_one (ps_ret (pe_ifExp (pt_val (pe_c c_is_less hr (by first | decide | omega) rfl (pa_cons (pv 1) (pa_cons (pv 0) pa_nil)))) (pv 1) (pv 0)))), ?_⟩
    refine ⟨_, rfl, _, rfl, _, _, _, _, _, _, rfl, h2, h1, sb, sa, by omega, _, rfl, ?_⟩
    by_cases c : b < a
    · rw [decide_eq_true c]
      refine iteT ⟨_, rfl, k _ ?_⟩
      rw [rmin, if_pos c]
      exact h2
    · rw [decide_eq_false c]
      refine iteF ⟨_, rfl, k _ ?_⟩
      rw [rmin, if_neg c]
      exact h1
abbrev n_greater : List Str := ["one", "other"]
theorem sc_greater : FnScope ["one", "other"] ["one", "other"] (defScope s_greater) := ⟨rfl, rfl, rfl, by decide +kernel, rfl, by decide +kernel, by decide +kernel⟩
def sp_greater (K : PySem.W.Frag) : Sp := fun vs H Q _ => ∃ (v1 v2 : V) (a b : Rat) (m n : Nat), vs = [v1, v2] ∧ RF K H v1 a ∧ RF K H v2 b ∧ Sz m a ∧ Sz n b ∧ m + n ≤ 900000 ∧ ∀ v, RF K H v (rmax a b) → Q v H
theorem ok_greater {x : Str} (F : FnA K mg x "greater" s_greater) (c_is_less : Cal P w K mg base 1 "is_less" (sp_is_less K) []) : Cal P w K mg base 2 x (sp_greater K) [] := by
  refine calOf F sc_greater (fun _ _ _ _ _ _ us hl => match us, hl with | [_, _], _ => rfl) (fun vs H Q E h => ?_) (fun cdv f A outer s H vs Q E hr h => ?_)
  · obtain ⟨_, _, _, _, _, _, rfl, _⟩ := h
    rfl
  · obtain ⟨v1, v2, a, b, m, n, rfl, h1, h2, sa, sb, hmn, k⟩ := h
    refine ⟨_, (pss_one (ps_ret (pe_ifExp (pt_val (pe_c c_is_less hr (by first | decide | omega) rfl (pa_cons (pv 0) (pa_cons (pv 1) pa_nil)))) (pv 1) (pv 0)))), ?_⟩
    refine ⟨_, rfl, _, rfl, _, _, _, _, _, _, rfl, h1, h2, sa, sb, by omega, _, rfl, ?_⟩
    by_cases c : a < b
    · rw [decide_eq_true c]
      refine iteT ⟨_, rfl, k _ ?_⟩
      rw [rmax, if_pos c]
      exact h2
    · rw [decide_eq_false c]
      refine iteF ⟨_, rfl, k _ ?_⟩
      rw [rmax, if_neg c]
      exact h1
abbrev n_mean_of : List Str := ["weights", "numbers", "bottom", "total", "weight", "number"]
theorem sc_mean_of : FnScope ["weights", "numbers", "bottom", "total", "weight", "number"] ["weights", "numbers"] (defScope s_mean_of) := ⟨rfl, rfl, rfl, by decide +kernel, rfl, by decide +kernel, by decide +kernel⟩
/-- the parts of a mean: a weight, its number, a bound of its size -/
abbrev MPart := Int × Rat × Nat
def wsum (L : List MPart) : Rat := (L.map fun x => ((x.1 : Int) : Rat) * x.2.1).sum
def wtot (L : List MPart) : Int := (L.map fun x => x.1).sum
def wsz (L : List MPart) : Nat := (L.map fun x => x.2.2 + 8).sum
def MOk (x : MPart) : Prop := 1 ≤ x.1 ∧ x.1 ≤ 99 ∧ Sz x.2.2 x.2.1
def sp_mean_of (K : PySem.W.Frag) : Sp := fun vs H Q _ => ∃ (a1 a2 : Addr) (us : List V) (L : List MPart), vs = [.ref a1, .ref a2] ∧ SqL K H a1 (L.map fun x => V.int x.1) ∧ SqL K H a2 us ∧ RpAll K H us (L.map fun x => qd x.2.1) ∧
  L ≠ [] ∧ (∀ x ∈ L, MOk x) ∧ L.length ≤ 8 ∧ wsz L + 20 ≤ 9000 ∧ ∀ v H', Same H H' → RF K H' v (wsum L / ((wtot L : Int) : Rat)) → Sz (wsz L + 12) (wsum L / ((wtot L : Int) : Rat)) → Q v H'
theorem take_succ' {α : Type} {l : List α} {i : Nat} {x : α} (h : l[i]? = some x) : l.take (i + 1) = l.take i ++ [x] := by
  rw [List.take_succ, h]
  rfl
theorem wtot_bound : ∀ {L : List MPart}, (∀ x ∈ L, MOk x) → (L.length : Int) ≤ wtot L ∧ wtot L ≤ 99 * (L.length : Int)
  | [], _ => by simp [wtot]
  | x :: L, h => by
    have ih := wtot_bound (L := L) fun y hy => h y (List.mem_cons_of_mem _ hy)
    have hx := h x List.mem_cons_self
    have e : wtot (x :: L) = x.1 + wtot L := by simp [wtot]
    rw [e, List.length_cons]
    have := hx.1
    have := hx.2.1
    push_cast
    omega
theorem wsz_take_le {L : List MPart} {i : Nat} : wsz (L.take i) ≤ wsz L := by
  have e : wsz L = wsz (L.take i) + wsz (L.drop i) := by
    unfold wsz
    rw [← List.sum_append, ← List.map_append, List.take_append_drop]
  omega
theorem zero_rf {K : PySem.W.Frag} {H : Hp} {a : Addr} (h : SqT K H a [.int 0, .int 1]) : RF K H (.ref a) 0 := ⟨a, rfl, h⟩
theorem sz_zero : Sz 1 0 := by
  constructor <;> decide
theorem le_sum_mem : ∀ {l : List Nat} {x : Nat}, x ∈ l → x ≤ l.sum
  | y :: l, x, h => by
    rw [List.sum_cons]
    rcases List.mem_cons.mp h with e | e
    · omega
    · have := le_sum_mem e; omega
theorem mul_den_num (q : Rat) : q * ((q.den : Int) : Rat) = ((q.num : Int) : Rat) := by
  have h := Rat.num_divInt_den q
  rw [Rat.divInt_eq_div] at h
  have hd : ((q.den : Int) : Rat) ≠ 0 := by
    intro h
    have e : ((q.den : Nat) : Int) = 0 := Rat.intCast_inj.mp h
    have := q.den_pos
    omega
  have e : q * ((q.den : Int) : Rat) = ((q.num : Int) : Rat) / ((q.den : Int) : Rat) * ((q.den : Int) : Rat) := by rw [h]
  rw [e, Rat.div_mul_cancel hd]
/-! ### math.lcm -/
def rLcm : List V → Hp → VK → Prop := fun vs H Q => ∃ a b : Int, vs = [.int a, .int b] ∧ a.natAbs < 2 ^ 9100 ∧ b.natAbs < 2 ^ 9100 ∧ Q (.int ((Nat.lcm a.natAbs b.natAbs : Nat) : Int)) H
theorem lcm_le' (a b : Nat) : Nat.lcm a b ≤ a * b := Nat.div_le_self _ _
theorem cr_lcm {X : Cx} : CallR X (.builtin "math.lcm") rLcm := by
  intro pins s σ H vs us Q I r h
  obtain ⟨a, b, rfl, ha, hb, q⟩ := h
  obtain ⟨t, u, rfl⟩ := Vals.int2 r
  have p1 := Nat.one_le_two_pow (n := 9100)
  have h1 : (max 1 a.natAbs).log2 ≤ 9100 := PySem.W.mg_log (k := 9100) (by rw [Nat.pow_succ]; omega)
  have h2 : (max a.natAbs b.natAbs).log2 ≤ 9100 := PySem.W.mg_log (k := 9100) (by rw [Nat.pow_succ]; omega)
  have g := PySem.W.mg_run_lcm a t b u (by omega) (by omega) (by
    rw [Nat.lcm_one_left]
    have l := lcm_le' a.natAbs b.natAbs
    have m : a.natAbs * b.natAbs < 2 ^ (9100 + 9100) := by rw [Nat.pow_add]; exact Nat.mul_lt_mul'' ha hb
    have h3 : (((a.natAbs.lcm b.natAbs : Nat) : Int)).natAbs.log2 ≤ 18200 := PySem.W.mg_log (k := 18200) (by rw [Int.natAbs_natCast, Nat.pow_succ]; omega)
    exact Nat.lt_of_le_of_lt h3 (by decide))
  rw [Nat.lcm_one_left] at g
  exact call_function_meets PySem.W.MGF.kind_lcm PySem.W.MGF.plain_lcm PySem.W.MGF.entry_lcm (PySem.W.MGF.args_lcm _ _) g.meets ⟨.int _, H, I.tok _, ⟨_, rfl⟩, q⟩
/-! ### the bottom that numbers have in common -/
def cbot (L : List MPart) : Nat := L.foldl (fun b x => Nat.lcm b x.2.1.den) 1
theorem cbot_snoc (L : List MPart) (x : MPart) : cbot (L ++ [x]) = Nat.lcm (cbot L) x.2.1.den := by
  unfold cbot
  rw [List.foldl_append]
  rfl
theorem foldl_lcm_dvd : ∀ (L : List MPart) (b : Nat), b ∣ L.foldl (fun b x => Nat.lcm b x.2.1.den) b ∧ ∀ x ∈ L, x.2.1.den ∣ L.foldl (fun b x => Nat.lcm b x.2.1.den) b
  | [], b => ⟨Nat.dvd_refl _, fun x h => by cases h⟩
  | y :: L, b => by
    obtain ⟨h1, h2⟩ := foldl_lcm_dvd L (Nat.lcm b y.2.1.den)
    refine ⟨Nat.dvd_trans (Nat.dvd_lcm_left _ _) h1, fun x h => ?_⟩
    rcases List.mem_cons.mp h with e | e
    · rw [e]
      exact Nat.dvd_trans (Nat.dvd_lcm_right _ _) h1
    · exact h2 x e
theorem cbot_dvd {L : List MPart} {x : MPart} (h : x ∈ L) : x.2.1.den ∣ cbot L := (foldl_lcm_dvd L 1).2 x h
theorem foldl_lcm_pos : ∀ (L : List MPart) (b : Nat), 0 < b → 0 < L.foldl (fun b x => Nat.lcm b x.2.1.den) b
  | [], _, h => h
  | y :: L, b, h => foldl_lcm_pos L _ (Nat.lcm_pos h y.2.1.den_pos)
theorem cbot_pos (L : List MPart) : 0 < cbot L := foldl_lcm_pos L 1 (by decide)
theorem foldl_lcm_lt : ∀ (L : List MPart) (b k : Nat), (∀ x ∈ L, MOk x) → b < 2 ^ k → L.foldl (fun b x => Nat.lcm b x.2.1.den) b < 2 ^ (k + wsz L)
  | [], _, _, _, h => h
  | y :: L, b, k, ok, h => by
    have hy := (ok y List.mem_cons_self).2.2.2
    have l := lcm_le' b y.2.1.den
    have m : b * y.2.1.den < 2 ^ (k + y.2.2) := by rw [Nat.pow_add]; exact Nat.mul_lt_mul'' h hy
    have ih := foldl_lcm_lt L (Nat.lcm b y.2.1.den) (k + y.2.2) (fun x hx => ok x (List.mem_cons_of_mem _ hx)) (Nat.lt_of_le_of_lt l m)
    refine Nat.lt_of_lt_of_le ih (Nat.pow_le_pow_right (by omega) ?_)
    simp [wsz]
    omega
theorem cbot_lt {L : List MPart} (ok : ∀ x ∈ L, MOk x) : cbot L < 2 ^ (wsz L + 1) := by
  have h := foldl_lcm_lt L 1 1 ok (by decide)
  rw [Nat.add_comm] at h
  exact h
abbrev n_common_bottom : List Str := ["fractions", "bottom", "fraction"]
theorem sc_common_bottom : FnScope ["fractions", "bottom", "fraction"] ["fractions"] (defScope s_common_bottom) := ⟨rfl, rfl, rfl, by decide +kernel, rfl, by decide +kernel, by decide +kernel⟩
def sp_common_bottom (K : PySem.W.Frag) : Sp := fun vs H Q _ => ∃ (a : Addr) (us : List V) (L : List MPart), vs = [.ref a] ∧ SqL K H a us ∧ RpAll K H us (L.map fun x => qd x.2.1) ∧ (∀ x ∈ L, MOk x) ∧ wsz L + 20 ≤ 9000 ∧ Q (.int ((cbot L : Nat) : Int)) H
theorem ok_common_bottom (F : FnD K mg "common_bottom" s_common_bottom) (g_lcm : mg "lcm" = some (.builtin "math.lcm")) : Cal P w K mg base 1 "common_bottom" (sp_common_bottom K) [] := by
  refine calOf F sc_common_bottom (fun _ _ _ _ _ _ us hl => match us, hl with | [_], _ => rfl) (fun vs H Q E h => ?_) (fun cdv f A outer s H vs Q E hr h => ?_)
  · obtain ⟨_, _, _, rfl, _⟩ := h
    rfl
  · obtain ⟨a, us, L, rfl, h1, hu, hok, hsz, k⟩ := h
    have hul : us.length = L.length := by rw [hu.length, List.length_map]
    refine ⟨_, (pss_cons (ps_set (i := 1) sc_common_bottom.nd rfl (Or.inl rfl) pe_int)
    (pss_cons (ps_for PassesOwn.never rfl (pi_list (pv 0)) (pg_name (i := 2) sc_common_bottom.nd rfl (Or.inl rfl)) (pss_one (ps_set (i := 1) sc_common_bottom.nd rfl (Or.inl rfl) (pe_callBfun cr_lcm (by rfl) g_lcm (pa_cons (pv 1) (pa_cons (pe_ix ix_tup (pv 2) pe_int (fun _ _ => rfl)) pa_nil))))))
    (pss_one (ps_ret (pv 1))))), ?_⟩
    refine ⟨_, rfl, a, rfl, ⟨_, h1⟩, for_list (K := K) (a := a) (xs := us) (fun i σ H' => ∃ y : Option V, σ = [some (.ref a), some (.int ((cbot (L.take i) : Nat) : Int)), y] ∧ H' = H)
      ⟨none, rfl, rfl⟩ (fun i σ H' _ ⟨_, _, e⟩ => by rw [e]; exact h1) ?_ ?_⟩
    · rintro i x σ H' hx ⟨_, rfl, rfl⟩
      obtain ⟨d, hd, r2⟩ := hu.getV hx
      rw [List.getElem?_map] at hd
      cases e : L[i]? with
      | none => rw [e] at hd; cases hd
      | some m =>
        rw [e] at hd
        cases hd
        have hm := hok m (List.mem_of_getElem? e)
        obtain ⟨q1, rfl, r3⟩ := PF.of r2
        have le := wsz_take_le (L := L) (i := i)
        have okt : ∀ x ∈ L.take i, MOk x := fun x hx => hok x (List.mem_of_mem_take hx)
        have mw : m.2.2 + 8 ≤ wsz L := by
          have := List.mem_of_getElem? e
          unfold wsz
          exact le_sum_mem (List.mem_map.mpr ⟨m, this, rfl⟩)
        have b1 : (((cbot (L.take i) : Nat) : Int)).natAbs < 2 ^ 9100 := by
          rw [Int.natAbs_natCast]
          exact Nat.lt_of_lt_of_le (cbot_lt okt) (Nat.pow_le_pow_right (by omega) (by omega))
        have b2 : ((m.2.1.den : Int)).natAbs < 2 ^ 9100 := Nat.lt_of_lt_of_le hm.2.2.d (Nat.pow_le_pow_right (by omega) (by omega))
        refine ⟨_, rfl, _, rfl, _, _, _, _, rfl, rfl, r3, rfl, _, _, rfl, b1, b2, ?_⟩
        refine ⟨some (.ref q1), ?_, rfl⟩
        rw [take_succ' e, cbot_snoc, Int.natAbs_natCast, Int.natAbs_natCast]
        rfl
    · rintro σ H' ⟨_, rfl, rfl⟩
      rw [hul, List.take_length]
      exact ⟨_, rfl, k⟩
abbrev n_scaled : List Str := ["fraction", "bottom"]
theorem sc_scaled : FnScope ["fraction", "bottom"] ["fraction", "bottom"] (defScope s_scaled) := ⟨rfl, rfl, rfl, by decide +kernel, rfl, by decide +kernel, by decide +kernel⟩
def sp_scaled (K : PySem.W.Frag) : Sp := fun vs H Q _ => ∃ (v : V) (a b c : Int) (m n : Nat), vs = [v, .int c] ∧ PF K H v a b ∧ 0 < b ∧ a.natAbs < 2 ^ m ∧ b.natAbs < 2 ^ m ∧ 0 ≤ c ∧ c.natAbs < 2 ^ n ∧ m ≤ 9000 ∧ n ≤ 9000 ∧ Q (.int (a * (c / b))) H
theorem ok_scaled (F : FnD K mg "scaled" s_scaled) : Cal P w K mg base 1 "scaled" (sp_scaled K) [] := by
  refine calOf F sc_scaled (fun _ _ _ _ _ _ us hl => match us, hl with | [_, _], _ => rfl) (fun vs H Q E h => ?_) (fun cdv f A outer s H vs Q E hr h => ?_)
  · obtain ⟨_, _, _, _, _, _, rfl, _⟩ := h
    rfl
  · obtain ⟨v, a, b, c, m, n, rfl, ⟨p1, rfl, h1⟩, hb, ha, hb', hc, hc', hm, hn, k⟩ := h
    have cd : CDivW c b := wide_div hb (Nat.lt_of_lt_of_le hb' (Nat.pow_le_pow_right (by omega) hm)) (by omega) (by omega)
    have dl : (c / b).natAbs < 2 ^ n := Nat.lt_of_le_of_lt (Int.natAbs_ediv_le_natAbs _ _) hc'
    refine ⟨_, (pss_one (ps_ret (pe_op op_mulW (pe_ix ix_tup (pv 0) pe_int (fun _ _ => rfl)) (pe_op op_fdivW (pv 1) (pe_ix ix_tup (pv 0) pe_int (fun _ _ => rfl)))))), ?_⟩
    refine ⟨_, rfl, _, _, _, _, rfl, rfl, h1, rfl, _, rfl, _, rfl, _, _, _, _, rfl, rfl, h1, rfl, _, _, rfl, rfl, cd, _, _, rfl, rfl, wm ha dl (by omega), k⟩
/-! ### the mean -/
def scp (B : Int) (x : MPart) : Int := x.1 * (x.2.1.num * (B / (x.2.1.den : Int)))
theorem scp_rat {B : Nat} {x : MPart} (h : x.2.1.den ∣ B) : ((scp (B : Int) x : Int) : Rat) = ((x.1 : Int) : Rat) * x.2.1 * ((B : Int) : Rat) := by
  obtain ⟨c, rfl⟩ := h
  have hd : ((x.2.1.den : Nat) : Int) ≠ 0 := by have := den_pos x.2.1; omega
  have e : ((x.2.1.den * c : Nat) : Int) / (x.2.1.den : Int) = (c : Int) := by
    rw [Int.natCast_mul, Int.mul_ediv_cancel_left _ hd]
  have q : x.2.1 * ((x.2.1.den : Int) : Rat) = ((x.2.1.num : Int) : Rat) := mul_den_num _
  unfold scp
  rw [e, Int.natCast_mul, Rat.intCast_mul, Rat.intCast_mul, Rat.intCast_mul, ← q]
  grind
theorem scp_sum {B : Nat} : ∀ {L : List MPart}, (∀ x ∈ L, x.2.1.den ∣ B) → (((L.map (scp (B : Int))).sum : Int) : Rat) = wsum L * ((B : Int) : Rat)
  | [], _ => by
    show ((0 : Int) : Rat) = 0 * _
    rw [Rat.zero_mul]
    rfl
  | x :: L, h => by
    have ih := scp_sum (L := L) fun y hy => h y (List.mem_cons_of_mem _ hy)
    have hx := scp_rat (h x List.mem_cons_self)
    have e : wsum (x :: L) = ((x.1 : Int) : Rat) * x.2.1 + wsum L := by simp [wsum]
    rw [List.map_cons, List.sum_cons, Rat.intCast_add, ih, hx, e]
    grind
theorem scp_mean {L : List MPart} {B : Nat} (hB : 0 < B) (hd : ∀ x ∈ L, x.2.1.den ∣ B) (hw : 0 < wtot L) : Rat.divInt (L.map (scp ((B : Nat) : Int))).sum (((B : Nat) : Int) * wtot L) = wsum L / ((wtot L : Int) : Rat) := by
  have hb : (((B : Nat) : Int) : Rat) ≠ 0 := by
    intro h
    have : ((B : Nat) : Int) = 0 := Rat.intCast_inj.mp h
    omega
  have ht : ((wtot L : Int) : Rat) ≠ 0 := by
    intro h
    have : wtot L = 0 := Rat.intCast_inj.mp h
    omega
  rw [Rat.divInt_eq_div, scp_sum hd, Rat.intCast_mul]
  grind
theorem wsum_cons (x : MPart) (L : List MPart) : wsum (x :: L) = ((x.1 : Int) : Rat) * x.2.1 + wsum L := by simp [wsum]
theorem wsum_sz : ∀ {L : List MPart}, (∀ x ∈ L, MOk x) → Sz (wsz L + 1) (wsum L)
  | [], _ => by
    show Sz 1 0
    exact sz_zero
  | x :: L, h => by
    have ih := wsum_sz (L := L) fun y hy => h y (List.mem_cons_of_mem _ hy)
    have hx := h x List.mem_cons_self
    have hw : x.1.natAbs < 2 ^ 7 := by have := hx.1; have := hx.2.1; omega
    have z := sz_add (den_pos x.2.1) (den_pos (wsum L)) (wide_lt hw hx.2.2.1) (Nat.lt_of_lt_of_le hx.2.2.d (Nat.pow_le_pow_right (by omega) (show x.2.2 ≤ 7 + x.2.2 by omega))) ih.1 ih.d
    rw [← mul_divInt, divInt_self', ← wsum_cons] at z
    refine z.mono ?_
    simp [wsz]
    omega
theorem wmean_sz {L : List MPart} (h : ∀ x ∈ L, MOk x) (hne : L ≠ []) (hl : L.length ≤ 8) : Sz (wsz L + 12) (wsum L / ((wtot L : Int) : Rat)) := by
  have wb := wtot_bound h
  have hl1 := List.length_pos_iff.mpr hne
  have hs := wsum_sz h
  have hb : (wtot L).natAbs < 2 ^ 10 := by omega
  have z : wsum L / ((wtot L : Int) : Rat) = Rat.divInt ((wsum L).num * 1) (((wsum L).den : Int) * wtot L) := by
    rw [divInt_div (by omega) (by omega) (den_pos _), divInt_self', ← int_rat]
  rw [z]
  refine divInt_sz (Int.mul_pos (den_pos _) (by omega)) ?_ ?_
  · rw [Int.mul_one]
    exact Nat.lt_of_lt_of_le hs.1 (Nat.pow_le_pow_right (by omega) (by omega))
  · exact Nat.lt_of_lt_of_le (wide_lt hs.d hb) (Nat.pow_le_pow_right (by omega) (by omega))
theorem ok_mean_of (F : FnD K mg "mean_of" s_mean_of) (c_common_bottom : Cal P w K mg base 1 "common_bottom" (sp_common_bottom K) []) (c_scaled : Cal P w K mg base 1 "scaled" (sp_scaled K) [])
    (c_lowest : Cal P w K mg base 1 "lowest" (sp_lowest K) []) (T_zip : mg "zip" = none) (T_sum : mg "sum" = none) : Cal P w K mg base 3 "mean_of" (sp_mean_of K) [] := by
  refine calOf F sc_mean_of (fun _ _ _ _ _ _ us hl => match us, hl with | [_, _], _ => rfl) (fun vs H Q E h => ?_) (fun cdv f A outer s H vs Q E hr h => ?_)
  · obtain ⟨_, _, _, _, rfl, _⟩ := h
    rfl
  · obtain ⟨a1, a2, us, L, rfl, h1, h2, hu, hne, hok, hlen, hsz, k⟩ := h
    have hul : us.length = L.length := by rw [hu.length, List.length_map]
    have wb := wtot_bound hok
    have hl1 : 1 ≤ L.length := by cases L with | nil => exact absurd rfl hne | cons _ _ => simp
    have bl := cbot_lt hok
    have bp := cbot_pos L
    refine ⟨_, (pss_cons (ps_set (i := 2) sc_mean_of.nd rfl (Or.inr rfl) (pe_c c_common_bottom hr (by first | decide | omega) rfl (pa_cons (pv 1) pa_nil)))
    (pss_cons (ps_set (i := 3) sc_mean_of.nd rfl (Or.inl rfl) (pe_callB (cr_sum rfl) (by rfl) T_sum (by decide +kernel) (pa_cons (pe_lc (own := [("weight", 4), ("number", 5)]) (g := (gTup K 2 (gCons (gName 4) (gCons (gName 5) gNil)))) (by rfl) sc_mean_of.nd (pi_zip (by rfl) T_zip (pa_cons (pv 0) (pa_cons (pv 1) pa_nil))) (blkOk_by (own := [("weight", 4), ("number", 5)]) (N := ["weights", "numbers", "bottom", "total", "weight", "number"]) (sc := defScope s_mean_of) (by decide +kernel)) (fun _ _ _ _ _ => (pg_tup rfl (pgs_cons (pg_name (i := 4) sc_mean_of.nd rfl (Or.inl rfl)) (pgs_cons (pg_name (i := 5) sc_mean_of.nd rfl (Or.inl rfl)) pgs_nil)))) (fun _ _ _ _ _ => pts_nil) (fun _ _ _ _ _ => (pe_op op_mulW (pv 4) (pe_c c_scaled hr (by first | decide | omega) rfl (pa_cons (pv 5) (pa_cons (pv 2) pa_nil)))))) pa_nil)))
    (pss_one (ps_ret (pe_c c_lowest hr (by first | decide | omega) rfl (pa_cons (pv 3) (pa_cons (pe_op op_mulW (pv 2) (pe_callB (cr_sum rfl) (by rfl) T_sum (by decide +kernel) (pa_cons (pv 0) pa_nil))) pa_nil))))))), ?_⟩
    refine ⟨_, rfl, a2, us, L, rfl, h2, hu, hok, hsz, ?_⟩
    refine ⟨_, rfl, _, rfl, a1, a2, _, us, rfl, h1, h2, fun D hD => ?_⟩
    refine lc_it (n := L.length) (walk_zip (by rw [List.length_map, hul, Nat.min_self])) (fun i H' => H' D = some (.lst ((L.take i).map fun x => V.int (scp ((cbot L : Nat) : Int) x))) ∧ Same H H')
      ⟨upd_same, same_new hD⟩ (fun i H' _ p => ⟨p.2.seq h1, p.2.seq h2⟩) ?_ ?_
    · rintro i x H' H'' hi ⟨s5, s6⟩ ⟨T, y1, y2, rfl, hT, rfl, hx, hy⟩
      dsimp only at hx hy
      rw [List.getElem?_map] at hx
      cases e : L[i]? with
      | none => rw [e] at hx; cases hx
      | some m =>
        rw [e] at hx
        cases hx
        have hm := hok m (List.mem_of_getElem? e)
        have hq : (L.map fun x => qd x.2.1)[i]? = some (qd m.2.1) := by rw [List.getElem?_map, e]; rfl
        obtain ⟨v2, e2, r2⟩ := hu.get hq
        rw [hy] at e2
        cases e2
        have s7 := s6.trans (same_new (o := .tup [V.int m.1, y2]) hT)
        obtain ⟨q1, rfl, r3⟩ := PF.of (r2.mono (Same.kt s7))
        have mw : m.2.2 + 8 ≤ wsz L := by
          have := List.mem_of_getElem? e
          unfold wsz
          exact le_sum_mem (List.mem_map.mpr ⟨m, this, rfl⟩)
        have hw : m.1.natAbs < 2 ^ 7 := by have := hm.1; have := hm.2.1; omega
        have dB : (((cbot L : Nat) : Int) / (m.2.1.den : Int)).natAbs < 2 ^ (wsz L + 1) := Nat.lt_of_le_of_lt (Int.natAbs_ediv_le_natAbs _ _) (by rw [Int.natAbs_natCast]; exact bl)
        have sz2 := wide_lt hm.2.2.1 dB
        have hD' : D ≠ T := ne_of_none s5 hT
        refine ⟨T, _, rfl, SqT.of upd_same, rfl, _, _, rfl, _, _, rfl, rfl, rfl, ?_⟩
        refine ⟨_, rfl, _, rfl, _, rfl, _, m.2.1.num, (m.2.1.den : Int), ((cbot L : Nat) : Int), m.2.2, wsz L + 1, rfl, ⟨q1, rfl, r3⟩, den_pos _, hm.2.2.1, hm.2.2.d, by omega, by rw [Int.natAbs_natCast]; exact bl, by omega, by omega, ?_⟩
        refine ⟨_, _, rfl, rfl, wm hw sz2 (by omega), ?_⟩
        refine ⟨_, by rw [upd_ne hD']; exact s5, small1000 (by rw [List.length_map, List.length_take]; omega), ?_, ?_⟩
        · rw [take_succ' e, List.map_append]
          exact upd_same
        · exact Same.mut s7 hD
    · rintro H' ⟨s5, s6⟩
      rw [List.take_length] at s5
      have es : (L.map fun x => V.int (scp ((cbot L : Nat) : Int) x)) = (L.map (scp ((cbot L : Nat) : Int))).map V.int := by rw [List.map_map]; rfl
      rw [es] at s5
      refine ⟨_, _, rfl, SqL.of s5, ?_⟩
      have hwt : (L.map fun x => x.1).sum = wtot L := rfl
      have hb : (wtot L).natAbs < 2 ^ 10 := by omega
      have bn : ((cbot L : Nat) : Int).natAbs < 2 ^ (wsz L + 1) := by rw [Int.natAbs_natCast]; exact bl
      refine ⟨_, rfl, _, rfl, _, rfl, a1, L.map (fun x => x.1), rfl, ?_, ?_⟩
      · rw [List.map_map]
        exact s6.seq h1
      · refine ⟨_, _, rfl, rfl, wm bn hb (by omega), ?_⟩
        refine ⟨_, _, rfl, Int.mul_pos (by omega) (by rw [hwt]; omega), Nat.lt_of_lt_of_le (wide_lt bn hb) (Nat.pow_le_pow_right (by omega) (by omega)), fun v H2 e3 r5 => ?_⟩
        rw [hwt, scp_mean (cbot_pos L) (fun x hx => cbot_dvd hx) (by omega)] at r5
        exact k v H2 (s6.trans e3) r5 (wmean_sz hok hne hlen)
end
end CB

set_option Elab.async false
set_option linter.all false
set_option maxRecDepth 100000
set_option maxHeartbeats 4000000
namespace CB
open PySem PySem.Spec PyProof.Rows L2
open C8 (Cal Met Mak pe_c pe_mk pe_mt pe_mt0 pe_gc CalAt)
section
variable {P : Program} {w : World} {K : PySem.W.Frag} {mg : Str → Option Value} {base : Heap}
/-- the dice, a list at d.1: its cells, a list at d.2, and the state -/
def Dice (H : Hp) (d : Addr × Addr) : Prop := ∃ (p h s c : Int) (ns : List Int), H d.1 = some (.lst [.ref d.2, .int p, .int h, .int s, .int c]) ∧ H d.2 = some (.lst (ns.map V.int)) ∧ d.2 ≠ d.1 ∧ 0 ≤ p ∧ (∀ n ∈ ns, 0 ≤ n) ∧ 0 ≤ h ∧ 0 ≤ s ∧ s < 2147483647
theorem Dice.lst {H : Hp} {d : Addr × Addr} (h : Dice H d) : ∃ xs, H d.1 = some (.lst xs) := by
  obtain ⟨_, _, _, _, _, h, _⟩ := h
  exact ⟨_, h⟩
theorem Dice.kt {H H' : Hp} {d : Addr × Addr} (h : Dice H d) (e : KD d.1 H H') : KT H H' := by
  obtain ⟨xs, h⟩ := h.lst
  exact e.kt h
theorem Dice.same {H H' : Hp} {d : Addr × Addr} (h : Dice H d) (e : Same H H') : Dice H' d := by
  obtain ⟨p, h, s, c, ns, h1, h2, h3⟩ := h
  exact ⟨p, h, s, c, ns, e _ _ h1, e _ _ h2, h3⟩
theorem Dice.ne {H : Hp} {d : Addr × Addr} (h : Dice H d) {D : Addr} (n : H D = none) : D ≠ d.1 ∧ D ≠ d.2 := by
  obtain ⟨p, h, s, c, ns, h1, h2, h3⟩ := h
  exact ⟨(ne_of_none h1 n).symm, (ne_of_none h2 n).symm⟩
theorem Dice.upd {H : Hp} {d : Addr × Addr} (h : Dice H d) {D : Addr} {o : HO} (n : D ≠ d.1 ∧ D ≠ d.2) : Dice (L2.upd H D o) d := by
  obtain ⟨p, h, s, c, ns, h1, h2, h3⟩ := h
  exact ⟨p, h, s, c, ns, by rw [upd_ne n.1.symm]; exact h1, by rw [upd_ne n.2.symm]; exact h2, h3⟩
abbrev n__law_draw : List Str := ["_law_dice_here", "_law_many", "_law_cell", "_law_digit", "_law_mixed"]
theorem sc__law_draw : FnScope ["_law_dice_here", "_law_many", "_law_cell", "_law_digit", "_law_mixed"] ["_law_dice_here", "_law_many"] (defScope s__law_draw) := ⟨rfl, rfl, rfl, by decide +kernel, rfl, by decide +kernel, by decide +kernel⟩
def sp__law_draw : Sp := fun vs H Q _ => ∃ (d : Addr × Addr) (n : Int), vs = [.ref d.1, .int n] ∧ Dice H d ∧ 1 ≤ n ∧ n < 21778071482940061661655974875633165533184 ∧ ∀ (r : Int) (H' : Hp), 0 ≤ r → r < n → Dice H' d → KD d.1 H H' → Q (.int r) H'
theorem ok__law_draw (F : FnD K mg "_law_draw" s__law_draw) (T_len : mg "len" = none) (T_int : mg "int" = none) : Cal P w K mg base 1 "_law_draw" sp__law_draw [] := by
  refine calOf F sc__law_draw (fun _ _ _ _ _ _ us hl => match us, hl with | [_, _], _ => rfl) (fun vs H Q E h => ?_) (fun cdv f A outer s H vs Q E hr h => ?_)
  · obtain ⟨_, _, rfl, _⟩ := h
    rfl
  · obtain ⟨⟨da, cl⟩, n, rfl, ⟨p, hg, st, c, ns, h1, h2, hne, hp, hns, hg0, hs0, hs1⟩, hn1, hn2, k⟩ := h
    refine ⟨_, (C8.pss_cut (ps_if (PW.pt (pw_and (pt_cmpR op_eq (pe_ix ix_list (pv 0) pe_int (fun _ _ => rfl)) pe_int (nomark _)) (pw_and1 (pt_cmpR op_lt (pe_ix ix_list (pv 0) pe_int (fun _ _ => rfl)) (pe_callB call_len_seq (by rfl) T_len PySem.boot_len (pa_cons (pe_ix ix_list (pv 0) pe_int (fun _ _ => rfl)) pa_nil)) (nomark _))))) (pss_cons (ps_set (i := 2) sc__law_draw.nd rfl (Or.inl rfl) (pe_ix ix_list (pe_ix ix_list (pv 0) pe_int (fun _ _ => rfl)) (pe_ix ix_list (pv 0) pe_int (fun _ _ => rfl)) (fun _ _ => rfl)))
    (pss_cons (ps_asg (pe_op op_add (pe_ix ix_list (pv 0) pe_int (fun _ _ => rfl)) pe_int) (pg_sub (pv 0) pe_int set_list))
    (pss_one (ps_if (pt_cmpR op_ge (pv 2) (pe_op op_pow pe_int pe_int) (nomark _)) (pss_one (ps_asg (pv 2) (pg_sub (pv 0) pe_int set_list))) (pss_one (ps_asg (pe_op op_mod (pe_callTy call_int1 (by rfl) T_int (by decide +kernel) (pa_cons (pe_op op_add (pe_op op_add (pe_op op_mul (pe_ix ix_list (pv 0) pe_int (fun _ _ => rfl)) pe_int) (pe_op op_mul (pv 2) pe_int)) (pe_ix ix_list (pv 0) pe_int (fun _ _ => rfl))) pa_nil)) pe_int) (pg_sub (pv 0) pe_int set_list))))))) pss_nil)
    (C8.pss_cut (ps_if (pt_cmpR op_gt (pe_ix ix_list (pv 0) pe_int (fun _ _ => rfl)) pe_int (nomark _)) (pss_cons (ps_set (i := 3) sc__law_draw.nd rfl (Or.inl rfl) (pe_op op_mod (pe_callTy call_int1 (by rfl) T_int (by decide +kernel) (pa_cons (pe_ix ix_list (pv 0) pe_int (fun _ _ => rfl)) pa_nil)) (pv 1)))
    (pss_cons (ps_asg (pe_op op_fdivW (pe_callTy call_int1 (by rfl) T_int (by decide +kernel) (pa_cons (pe_ix ix_list (pv 0) pe_int (fun _ _ => rfl)) pa_nil)) (pv 1)) (pg_sub (pv 0) pe_int set_list))
    (pss_one (ps_ret (pv 3))))) pss_nil)
    (pss_cons (ps_asg (pe_op op_add (pe_ix ix_list (pv 0) pe_int (fun _ _ => rfl)) pe_int) (pg_sub (pv 0) pe_int set_list))
    (pss_cons (ps_asg (pe_op op_mod (pe_callTy call_int1 (by rfl) T_int (by decide +kernel) (pa_cons (pe_op op_add (pe_op op_add (pe_op op_mul (pe_ix ix_list (pv 0) pe_int (fun _ _ => rfl)) pe_int) (pe_op op_mul (pe_ix ix_list (pv 0) pe_int (fun _ _ => rfl)) pe_int)) pe_int) pa_nil)) pe_int) (pg_sub (pv 0) pe_int set_list))
    (pss_cons (ps_set (i := 4) sc__law_draw.nd rfl (Or.inl rfl) (pe_op op_mod (pe_callTy call_int1 (by rfl) T_int (by decide +kernel) (pa_cons (pe_op op_mul (pe_ix ix_list (pv 0) pe_int (fun _ _ => rfl)) (pe_op op_add (pe_op op_fdivW (pe_ix ix_list (pv 0) pe_int (fun _ _ => rfl)) pe_int) pe_int)) pa_nil)) pe_int))
    (pss_cons (ps_set (i := 4) sc__law_draw.nd rfl (Or.inl rfl) (pe_op op_mod (pe_callTy call_int1 (by rfl) T_int (by decide +kernel) (pa_cons (pe_op op_mul (pv 4) (pe_op op_add (pe_op op_fdivW (pv 4) pe_int) pe_int)) pa_nil)) pe_int))
    (pss_one (ps_ret (pe_op op_mod (pe_callTy call_int1 (by rfl) T_int (by decide +kernel) (pa_cons (pe_op op_fdivW (pv 4) pe_int) pa_nil)) (pv 1)))))))))), ?_⟩
    have h1 : H da = some (HO.lst [V.ref cl, V.int p, V.int hg, V.int st, V.int c]) := h1
    have h2 : H cl = some (HO.lst (ns.map V.int)) := h2
    have hne : cl ≠ da := hne
    have cm : ∀ x y : Int, (-(2 ^ 64) < y ∧ y < 2 ^ 64) → CMul x y := fun x y h => .inr h
    have dv : ∀ x y : Int, 0 < y → y < 21778071482940061661655974875633165533184 → CDivW x y := fun x y h1 h2 => wide_div (b := 134) h1 (by omega) (by omega) (by omega)
    have dmk : ∀ {H' : Hp} {p hg st c : Int}, H' da = some (.lst [.ref cl, .int p, .int hg, .int st, .int c]) → KD da H H' → 0 ≤ p → 0 ≤ hg → 0 ≤ st → st < 2147483647 → Dice H' (da, cl) := fun a b c d e g => ⟨_, _, _, _, ns, a, b _ _ hne h2, hne, c, hns, d, e, g⟩
    refine ⟨fun σ H' => ∃ (x : Option V) (p hg st : Int), σ = [some (.ref da), some (.int n), x, none, none] ∧ H' da = some (.lst [.ref cl, .int p, .int hg, .int st, .int c]) ∧ KD da H H' ∧ 0 ≤ p ∧ 0 ≤ hg ∧ 0 ≤ st ∧ st < 2147483647, ?_, ?_⟩
    · refine ⟨_, rfl, _, _, _, _, rfl, rfl, SqL.of h1, rfl, rfl, _, rfl, ?_⟩
      refine ite2 (fun _ => ?_) (fun _ => ⟨none, p, hg, st, rfl, h1, KD.refl _ _, hp, hg0, hs0, hs1⟩)
      refine ⟨_, rfl, _, _, _, _, rfl, rfl, SqL.of h1, rfl, _, rfl, _, _, _, _, rfl, rfl, SqL.of h1, rfl, _, _, rfl, .inl (SqL.of h2), _, _, rfl, rfl, _, rfl, ?_⟩
      refine ite2 (fun hlt => ?_) (fun _ => ⟨none, p, hg, st, rfl, h1, KD.refl _ _, hp, hg0, hs0, hs1⟩)
      have hlt' : p < ((ns.map V.int).length : Int) := of_decide_eq_true hlt
      rw [List.length_map] at hlt'
      obtain ⟨z, hz⟩ : ∃ z, ns[p.toNat]? = some z := ⟨ns[p.toNat]'(by omega), List.getElem?_eq_getElem (by omega)⟩
      have hz' : (ns.map V.int)[p.toNat]? = some (.int z) := by rw [List.getElem?_map, hz]; rfl
      have z0 := hns z (List.mem_of_getElem? hz)
      refine ⟨_, rfl, _, _, _, _, rfl, rfl, SqL.of h1, rfl, _, rfl, _, _, _, _, rfl, rfl, SqL.of h1, rfl, _, _, _, _, rfl, rfl, SqL.of h2, at_of (j := p.toNat) (by omega) hz', ?_⟩
      refine ⟨_, rfl, _, _, _, _, rfl, rfl, SqL.of h1, rfl, _, _, rfl, rfl, _, rfl, _, _, _, _, rfl, rfl, h1, rfl, ?_⟩
      refine ⟨_, rfl, _, _, rfl, rfl, ⟨by decide, by decide, by decide⟩, _, _, rfl, rfl, _, rfl, ?_⟩
      refine ite2 (fun _ => ?_) (fun _ => ?_)
      · refine ⟨_, rfl, _, rfl, _, _, _, _, rfl, rfl, upd_same, rfl, ?_⟩
        exact ⟨_, p + 1, z, st, rfl, upd_same, (KD.refl _ _).upd.upd, by omega, z0, hs0, hs1⟩
      · refine ⟨_, rfl, _, _, _, _, rfl, rfl, SqL.of upd_same, rfl, _, _, rfl, rfl, cm _ _ (by decide), _, rfl, _, _, rfl, rfl, cm _ _ (by decide), _, _, rfl, rfl, ?_⟩
        refine ⟨_, rfl, _, _, _, _, rfl, rfl, SqL.of upd_same, rfl, _, _, rfl, rfl, .inl ⟨_, rfl, ?_⟩⟩
        refine ⟨_, _, rfl, rfl, (by show (0 : Int) < 2147483647; decide), _, rfl, _, _, _, _, rfl, rfl, upd_same, rfl, ?_⟩
        exact ⟨_, p + 1, hg, _, rfl, upd_same, (KD.refl _ _).upd.upd, by omega, hg0, Int.emod_nonneg _ (by decide), Int.emod_lt_of_pos _ (by decide)⟩
    · rintro σ H1 ⟨x, p1, hg1, st1, rfl, q1, kd1, b1, b2, b3, b4⟩
      refine ⟨fun σ H' => σ = [some (.ref da), some (.int n), x, none, none] ∧ H' = H1, ?_, ?_⟩
      · refine ⟨_, rfl, _, _, _, _, rfl, rfl, SqL.of q1, rfl, _, _, rfl, rfl, _, rfl, ?_⟩
        refine ite2 (fun _ => ?_) (fun _ => ⟨rfl, rfl⟩)
        refine ⟨_, rfl, _, _, _, _, rfl, rfl, SqL.of q1, rfl, .inl ⟨_, rfl, _, rfl, _, _, rfl, rfl, (by omega), ?_⟩⟩
        refine ⟨_, rfl, _, _, _, _, rfl, rfl, SqL.of q1, rfl, .inl ⟨_, rfl, _, rfl, _, _, rfl, rfl, dv _ _ (by omega) hn2, _, rfl, _, _, _, _, rfl, rfl, q1, rfl, ?_⟩⟩
        refine ⟨_, rfl, k _ _ (Int.emod_nonneg _ (by omega)) (Int.emod_lt_of_pos _ (by omega)) (dmk upd_same kd1.upd b1 (Int.ediv_nonneg b2 (by omega)) b3 b4) kd1.upd⟩
      · rintro σ H2 ⟨rfl, rfl⟩
        refine ⟨_, rfl, _, _, _, _, rfl, rfl, SqL.of q1, rfl, _, _, rfl, rfl, _, rfl, _, _, _, _, rfl, rfl, q1, rfl, ?_⟩
        refine ⟨_, rfl, _, _, _, _, rfl, rfl, SqL.of upd_same, rfl, _, _, rfl, rfl, cm _ _ (by decide), _, rfl, _, _, _, _, rfl, rfl, SqL.of upd_same, rfl, _, _, rfl, rfl, cm _ _ (by decide), _, _, rfl, rfl, _, _, rfl, rfl, .inl ⟨_, rfl, ?_⟩⟩
        refine ⟨_, _, rfl, rfl, (by show (0 : Int) < 2147483647; decide), _, rfl, _, _, _, _, rfl, rfl, upd_same, rfl, ?_⟩
        have m0 : ∀ x : Int, 0 ≤ x % 2147483647 := fun x => Int.emod_nonneg _ (by decide)
        have m1 : ∀ x : Int, x % 2147483647 < 2147483647 := fun x => Int.emod_lt_of_pos _ (by decide)
        have sm : ∀ x y : Int, 0 ≤ x → x < 2147483648 → CMul x y := fun x y h1 h2 => .inl ⟨by omega, by omega⟩
        refine ⟨_, rfl, _, _, _, _, rfl, rfl, SqL.of upd_same, rfl, _, rfl, _, _, _, _, rfl, rfl, SqL.of upd_same, rfl, _, _, rfl, rfl, dv _ _ (by decide) (by decide), _, _, rfl, rfl, _, _, rfl, rfl, sm _ _ (m0 _) (by have := m1 (st1 * 48271 + c * 7919 + 1); omega), .inl ⟨_, rfl, ?_⟩⟩
        refine ⟨_, _, rfl, rfl, (by show (0 : Int) < 2147483399; decide), ?_⟩
        refine ⟨_, rfl, _, rfl, _, _, rfl, rfl, dv _ _ (by decide) (by decide), _, _, rfl, rfl, _, _, rfl, rfl, sm _ _ (Int.emod_nonneg _ (by decide)) (by have := Int.emod_lt_of_pos ((st1 * 48271 + c * 7919 + 1) % 2147483647 * ((st1 * 48271 + c * 7919 + 1) % 2147483647 / 1009 + 69623)) (show (0 : Int) < 2147483399 by decide); omega), .inl ⟨_, rfl, ?_⟩⟩
        refine ⟨_, _, rfl, rfl, (by show (0 : Int) < 2147483563; decide), ?_⟩
        refine ⟨_, rfl, _, _, rfl, rfl, dv _ _ (by decide) (by decide), .inl ⟨_, rfl, _, rfl, _, _, rfl, rfl, (by omega), ?_⟩⟩
        exact k _ _ (Int.emod_nonneg _ (by omega)) (Int.emod_lt_of_pos _ (by omega)) (dmk upd_same kd1.upd.upd b1 b2 (m0 _) (m1 _)) kd1.upd.upd
end
end CB

set_option Elab.async false
set_option linter.all false
set_option maxRecDepth 100000
set_option maxHeartbeats 4000000
namespace CB
open PySem PySem.Spec PyProof.Rows L2
open C8 (Cal Met Mak pe_c pe_mk pe_mt pe_mt0 pe_gc CalAt)
section
variable {P : Program} {w : World} {K : PySem.W.Frag} {mg : Str → Option Value} {base : Heap}
abbrev n__law_dice : List Str := ["_law_script", "_law_cell"]
theorem sc__law_dice : FnScope ["_law_script", "_law_cell"] ["_law_script"] (defScope s__law_dice) := ⟨rfl, rfl, rfl, by decide +kernel, rfl, by decide +kernel, by decide +kernel⟩
def sp__law_dice (K : PySem.W.Frag) : Sp := fun vs H Q _ => ∃ (a : Addr) (ns : List Int), vs = [.ref a] ∧ SqL K H a (ns.map V.int) ∧ ∀ (d : Addr × Addr) (H' : Hp), H d.1 = none → Same H H' → Dice H' d → Q (.ref d.1) H'
theorem abs_nonneg (z : Int) : 0 ≤ (if z < 0 then -z else z) := by split <;> omega
theorem ok__law_dice (F : FnD K mg "_law_dice" s__law_dice) (T_abs : mg "abs" = none) (T_int : mg "int" = none) : Cal P w K mg base 1 "_law_dice" (sp__law_dice K) [] := by
  refine calOf F sc__law_dice (fun _ _ _ _ _ _ us hl => match us, hl with | [_], _ => rfl) (fun vs H Q E h => ?_) (fun cdv f A outer s H vs Q E hr h => ?_)
  · obtain ⟨_, _, rfl, _⟩ := h
    rfl
  · obtain ⟨a, ns, rfl, hS, k⟩ := h
    refine ⟨_, (pss_one (ps_ret (pe_lst (pa_cons (pe_lc (own := [("_law_cell", 1)]) (by rfl) sc__law_dice.nd (pi_list (pe_slice sl_list (pv 0) po_none (po_some pe_int))) (blkOk_by (own := [("_law_cell", 1)]) (N := ["_law_script", "_law_cell"]) (sc := defScope s__law_dice) (by decide +kernel)) (fun _ _ _ _ _ => (pg_name (i := 1) sc__law_dice.nd rfl (Or.inl rfl))) (fun _ _ _ _ _ => pts_nil) (fun _ _ _ _ _ => (pe_callB call_abs (by rfl) T_abs (by decide +kernel) (pa_cons (pe_callTy call_int1 (by rfl) T_int (by decide +kernel) (pa_cons (pv 1) pa_nil)) pa_nil)))) (pa_cons pe_int (pa_cons pe_int (pa_cons pe_int (pa_cons pe_int pa_nil)))))))), ?_⟩
    refine ⟨_, rfl, _, rfl, a, _, rfl, hS, fun p hp => ?_⟩
    have e2 : cutV (ns.map V.int) none (some 63) = (ns.take 63).map V.int := by
      show ((ns.map V.int).drop 0).take (HT.sIx (ns.map V.int).length (ns.map V.int).length (some ((63 : Nat) : Int)) - 0) = _
      rw [HT.sIx_nat, List.drop_zero, List.length_map, Nat.sub_zero, ← List.map_take]
      congr 1
      by_cases c : 63 ≤ ns.length
      · rw [Nat.min_eq_left c]
      · rw [Nat.min_eq_right (by omega), List.take_of_length_le (Nat.le_refl _), List.take_of_length_le (by omega)]
    rw [e2]
    have s1 := same_new (o := .lst ((ns.take 63).map V.int)) hp
    refine ⟨p, rfl, ⟨_, SqL.of upd_same⟩, fun D hD => ?_⟩
    have hDH : H D = none := Same.free s1 hD
    have s2 : Same H (upd (upd H p (.lst ((ns.take 63).map V.int))) D (.lst [])) := s1.trans (same_new hD)
    refine lc_list (K := K) (a := p) (xs := (ns.take 63).map V.int) (fun i H' => ∃ ms : List Int, p ≠ D ∧ H' D = some (.lst (ms.map V.int)) ∧ ms.length = i ∧ (∀ m ∈ ms, 0 ≤ m) ∧ Same H H' ∧ H' p = some (.lst ((ns.take 63).map V.int)))
      ⟨[], ne_of_none upd_same hD, upd_same, rfl, by simp, s2, by rw [upd_ne (ne_of_none upd_same hD)]; exact upd_same⟩ (fun i H' _ ⟨_, _, _, _, _, _, h⟩ => SqL.of h) ?_ ?_
    · rintro i x H' hx ⟨ms, npd, h1, h2, h3, h4, h5⟩
      rw [List.getElem?_map] at hx
      cases e : (ns.take 63)[i]? with
      | none => rw [e] at hx; cases hx
      | some z =>
        rw [e] at hx
        cases hx
        have hi : i < (ns.take 63).length := (List.getElem?_eq_some_iff.mp e).1
        have hl : (ns.take 63).length ≤ 63 := by rw [List.length_take]; omega
        refine ⟨rfl, _, rfl, .inl ⟨_, rfl, _, rfl, _, h1, by rw [List.length_map, h2]; exact small1000 (by omega), ?_⟩⟩
        refine ⟨ms ++ [if z < 0 then -z else z], npd, by rw [List.map_append]; exact upd_same, by simp [h2], ?_, Same.mut h4 hDH, ?_⟩
        · intro m hm
          rcases List.mem_append.mp hm with h | h
          · exact h3 m h
          · rw [List.mem_singleton.mp h]
            exact abs_nonneg z
        · rw [upd_ne npd]
          exact h5
    · rintro H' ⟨ms, npd, h1, h2, h3, h4, h5⟩
      refine ⟨(by show 5 ≤ sizeLine; decide), fun da hda => ?_⟩
      have nd : D ≠ da := ne_of_none h1 hda
      refine k (da, D) _ (Same.free h4 hda) (h4.trans (same_new hda)) ⟨0, 0, 1, 0, ms, upd_same, by rw [upd_ne nd]; exact h1, nd, by omega, h3, by omega, by omega, by omega⟩
end
end CB

set_option Elab.async false
set_option linter.all false
set_option maxRecDepth 100000
set_option maxHeartbeats 4000000
namespace CB
open PySem PySem.Spec PyProof.Rows L2
open C8 (Cal Met Mak pe_c pe_mk pe_mt pe_mt0 pe_gc CalAt)
section
variable {P : Program} {w : World} {K : PySem.W.Frag} {mg : Str → Option Value} {base : Heap}
abbrev n__law_lowest : List Str := ["_law_top", "_law_bottom", "_law_one", "_law_other"]
theorem sc__law_lowest : FnScope ["_law_top", "_law_bottom", "_law_one", "_law_other"] ["_law_top", "_law_bottom"] (defScope s__law_lowest) := ⟨rfl, rfl, rfl, by decide +kernel, rfl, by decide +kernel, by decide +kernel⟩
theorem ok__law_lowest (F : FnD K mg "_law_lowest" s__law_lowest) (T_abs : mg "abs" = none) (T_int : mg "int" = none) : Cal P w K mg base 1 "_law_lowest" (sp_lowest K) [] := by
  refine calOf F sc__law_lowest (fun _ _ _ _ _ _ us hl => match us, hl with | [_, _], _ => rfl) (fun vs H Q E h => ?_) (fun cdv f A outer s H vs Q E hr h => ?_)
  · obtain ⟨_, _, rfl, _⟩ := h
    rfl
  · obtain ⟨a, b, rfl, hb, hz, k⟩ := h
    have g := gcd_pos (a := a) hb
    have gl : (((Nat.gcd a.natAbs b.natAbs : Nat) : Int)).natAbs < 2 ^ 9000 := Nat.lt_of_le_of_lt (gcd_le hb) hz
    have cd : ∀ x : Int, CDivW x ((Nat.gcd a.natAbs b.natAbs : Nat) : Int) := fun x => wide_div g gl (by omega) (by omega)
    refine ⟨_, (pss_cons (ps_par (i := 2) (j := 3) (by rfl) sc__law_lowest.nd rfl rfl (by decide) rfl rfl (pa_cons (pe_callB call_abs (by rfl) T_abs (by decide +kernel) (pa_cons (pv 0) pa_nil)) (pa_cons (pv 1) pa_nil)) (by rfl))
    (pss_cons (ps_while PassesOwn.never (pt_cmpR op_gt (pv 3) pe_int (nomark _)) (pss_one (ps_par (i := 2) (j := 3) (by rfl) sc__law_lowest.nd rfl rfl (by decide) rfl rfl (pa_cons (pv 3) (pa_cons (pe_op op_mod (pe_callTy call_int1 (by rfl) T_int (by decide +kernel) (pa_cons (pv 2) pa_nil)) (pv 3)) pa_nil)) (by rfl))))
    (pss_one (ps_ret (pe_tup (pa_cons (pe_op op_fdivW (pv 0) (pv 2)) (pa_cons (pe_op op_fdivW (pv 1) (pv 2)) pa_nil))))))), ?_⟩
    refine ⟨_, rfl, _, rfl, _, rfl, _, _, rfl, ?_⟩
    refine ⟨fun m σ H' => ∃ x y : Int, σ = [some (.int a), some (.int b), some (.int x), some (.int y)] ∧ H' = H ∧ 0 ≤ x ∧ 0 ≤ y ∧ Nat.gcd x.toNat y.toNat = Nat.gcd a.natAbs b.natAbs ∧ m = y.toNat, ⟨_, _, _, rfl, rfl, abs_nonneg a, by omega, ?_, rfl⟩, ?_⟩
    · congr 1
      · split <;> omega
      · omega
    · rintro m σ H1 ⟨x, y, rfl, eH, hx, hy, hg, rfl⟩
      subst eH
      refine ⟨_, rfl, _, _, rfl, rfl, _, rfl, ?_⟩
      refine ite2 (fun c => ?_) (fun c => ?_)
      · have c' : 0 < y := of_decide_eq_true c
        refine ⟨fun σ' H' => ∃ x' y' : Int, σ' = [some (.int a), some (.int b), some (.int x'), some (.int y')] ∧ H' = H1 ∧ 0 ≤ x' ∧ 0 ≤ y' ∧ Nat.gcd x'.toNat y'.toNat = Nat.gcd a.natAbs b.natAbs ∧ y' < y, fun σ' H' ⟨x', y', e1, e2, h1, h2, h3, h4⟩ => ⟨y'.toNat, by omega, x', y', e1, e2, h1, h2, h3, rfl⟩, ?_⟩
        refine ⟨_, rfl, _, rfl, .inl ⟨_, rfl, _, rfl, _, _, rfl, rfl, c', _, _, rfl, ?_⟩⟩
        refine ⟨y, x % y, rfl, rfl, hy, Int.emod_nonneg _ (by omega), ?_, Int.emod_lt_of_pos _ c'⟩
        rw [← hg, Nat.gcd_comm x.toNat, Nat.gcd_comm y.toNat (x % y).toNat, Int.toNat_emod hx hy, ← Nat.gcd_rec]
      · have c' : ¬ 0 < y := fun z => c (decide_eq_true z)
        have y0 : y = 0 := by omega
        subst y0
        have ex : x = ((Nat.gcd a.natAbs b.natAbs : Nat) : Int) := by
          rw [← hg]
          simp
          omega
        subst ex
        refine ⟨_, rfl, _, rfl, _, _, rfl, rfl, cd _, _, rfl, _, rfl, _, _, rfl, rfl, cd _, (by show 2 ≤ sizeLine; decide), fun p hp => ?_⟩
        refine k _ _ (same_new hp) ⟨p, rfl, SqT.of ?_⟩
        rw [upd_same, divInt_num hb, divInt_den hb]
abbrev n__law_sum : List Str := ["_law_one", "_law_other", "_law_sign"]
theorem sc__law_sum : FnScope ["_law_one", "_law_other", "_law_sign"] ["_law_one", "_law_other", "_law_sign"] (defScope s__law_sum) := ⟨rfl, rfl, rfl, by decide +kernel, rfl, by decide +kernel, by decide +kernel⟩
/-- of raw pairs, the sign 1 or -1 -/
def sp__law_sum (K : PySem.W.Frag) : Sp := fun vs H Q _ => ∃ (v1 v2 : V) (a b c d g : Int) (m n : Nat), vs = [v1, v2, .int g] ∧ PF K H v1 a b ∧ PF K H v2 c d ∧ 0 < b ∧ 0 < d ∧ (g = 1 ∨ g = -1) ∧
  a.natAbs < 2 ^ m ∧ b.natAbs < 2 ^ m ∧ c.natAbs < 2 ^ n ∧ d.natAbs < 2 ^ n ∧ m + n ≤ 9000 ∧ ∀ v H', Same H H' → RF K H' v (Rat.divInt a b + (g : Rat) * Rat.divInt c d) → Q v H'
theorem ok__law_sum (F : FnD K mg "_law_sum" s__law_sum) (c__law_lowest : Cal P w K mg base 1 "_law_lowest" (sp_lowest K) []) : Cal P w K mg base 2 "_law_sum" (sp__law_sum K) [] := by
  refine calOf F sc__law_sum (fun _ _ _ _ _ _ us hl => match us, hl with | [_, _, _], _ => rfl) (fun vs H Q E h => ?_) (fun cdv f A outer s H vs Q E hr h => ?_)
  · obtain ⟨_, _, _, _, _, _, _, _, _, rfl, _⟩ := h
    rfl
  · obtain ⟨v1, v2, a, b, c, d, g, m, n, rfl, ⟨p1, rfl, h1⟩, ⟨p2, rfl, h2⟩, hb, hd, hg, ha', hb', hc', hd', hmn, k⟩ := h
    have hg' : g.natAbs < 2 ^ 1 := by omega
    have hgc : (g * c).natAbs < 2 ^ n := by rcases hg with rfl | rfl <;> simpa using hc'
    refine ⟨_, (pss_one (ps_ret (pe_c c__law_lowest hr (by first | decide | omega) rfl (pa_cons (pe_op op_add (pe_op op_mulW (pe_ix ix_tup (pv 0) pe_int (fun _ _ => rfl)) (pe_ix ix_tup (pv 1) pe_int (fun _ _ => rfl))) (pe_op op_mulW (pe_op op_mulW (pv 2) (pe_ix ix_tup (pv 1) pe_int (fun _ _ => rfl))) (pe_ix ix_tup (pv 0) pe_int (fun _ _ => rfl)))) (pa_cons (pe_op op_mulW (pe_ix ix_tup (pv 0) pe_int (fun _ _ => rfl)) (pe_ix ix_tup (pv 1) pe_int (fun _ _ => rfl))) pa_nil))))), ?_⟩
    refine ⟨_, rfl, _, _, _, _, rfl, rfl, h1, rfl, _, rfl, _, _, _, _, rfl, rfl, h2, rfl, _, _, rfl, rfl, wm ha' hd' (by omega), ?_⟩
    refine ⟨_, rfl, _, rfl, _, _, _, _, rfl, rfl, h2, rfl, _, _, rfl, rfl, wm hg' hc' (by omega), _, rfl, _, _, _, _, rfl, rfl, h1, rfl, _, _, rfl, rfl, wm hgc hb' (by omega), _, _, rfl, rfl, ?_⟩
    refine ⟨_, rfl, _, _, _, _, rfl, rfl, h1, rfl, _, rfl, _, _, _, _, rfl, rfl, h2, rfl, _, _, rfl, rfl, wm hb' hd' (by omega), ?_⟩
    refine ⟨_, _, rfl, Int.mul_pos hb hd, Nat.lt_of_lt_of_le (wide_lt hb' hd') (Nat.pow_le_pow_right (by omega) hmn), fun v H' e r => k v H' e ?_⟩
    have z : (g : Rat) * Rat.divInt c d = Rat.divInt (g * c) d := by rw [int_rat, Rat.divInt_mul_divInt, Int.one_mul]
    rw [z, Rat.divInt_add_divInt _ _ (by omega) (by omega)]
    exact r
abbrev n__law_product : List Str := ["_law_one", "_law_other"]
theorem sc__law_product : FnScope ["_law_one", "_law_other"] ["_law_one", "_law_other"] (defScope s__law_product) := ⟨rfl, rfl, rfl, by decide +kernel, rfl, by decide +kernel, by decide +kernel⟩
def sp__law_product (K : PySem.W.Frag) : Sp := fun vs H Q _ => ∃ (v1 v2 : V) (a b c d : Int) (m n : Nat), vs = [v1, v2] ∧ PF K H v1 a b ∧ PF K H v2 c d ∧ 0 < b ∧ 0 < d ∧
  a.natAbs < 2 ^ m ∧ b.natAbs < 2 ^ m ∧ c.natAbs < 2 ^ n ∧ d.natAbs < 2 ^ n ∧ m + n ≤ 9000 ∧ ∀ v H', Same H H' → RF K H' v (Rat.divInt a b * Rat.divInt c d) → Q v H'
theorem ok__law_product (F : FnD K mg "_law_product" s__law_product) (c__law_lowest : Cal P w K mg base 1 "_law_lowest" (sp_lowest K) []) : Cal P w K mg base 2 "_law_product" (sp__law_product K) [] := by
  refine calOf F sc__law_product (fun _ _ _ _ _ _ us hl => match us, hl with | [_, _], _ => rfl) (fun vs H Q E h => ?_) (fun cdv f A outer s H vs Q E hr h => ?_)
  · obtain ⟨_, _, _, _, _, _, _, _, rfl, _⟩ := h
    rfl
  · obtain ⟨v1, v2, a, b, c, d, m, n, rfl, ⟨p1, rfl, h1⟩, ⟨p2, rfl, h2⟩, hb, hd, ha', hb', hc', hd', hmn, k⟩ := h
    refine ⟨_, (pss_one (ps_ret (pe_c c__law_lowest hr (by first | decide | omega) rfl (pa_cons (pe_op op_mulW (pe_ix ix_tup (pv 0) pe_int (fun _ _ => rfl)) (pe_ix ix_tup (pv 1) pe_int (fun _ _ => rfl))) (pa_cons (pe_op op_mulW (pe_ix ix_tup (pv 0) pe_int (fun _ _ => rfl)) (pe_ix ix_tup (pv 1) pe_int (fun _ _ => rfl))) pa_nil))))), ?_⟩
    refine ⟨_, rfl, _, _, _, _, rfl, rfl, h1, rfl, _, rfl, _, _, _, _, rfl, rfl, h2, rfl, _, _, rfl, rfl, wm ha' hc' (by omega), ?_⟩
    refine ⟨_, rfl, _, _, _, _, rfl, rfl, h1, rfl, _, rfl, _, _, _, _, rfl, rfl, h2, rfl, _, _, rfl, rfl, wm hb' hd' (by omega), ?_⟩
    refine ⟨_, _, rfl, Int.mul_pos hb hd, Nat.lt_of_lt_of_le (wide_lt hb' hd') (Nat.pow_le_pow_right (by omega) hmn), fun v H' e r => k v H' e ?_⟩
    rw [Rat.divInt_mul_divInt]
    exact r
abbrev n__law_less : List Str := ["_law_one", "_law_other"]
theorem sc__law_less : FnScope ["_law_one", "_law_other"] ["_law_one", "_law_other"] (defScope s__law_less) := ⟨rfl, rfl, rfl, by decide +kernel, rfl, by decide +kernel, by decide +kernel⟩
theorem ok__law_less (F : FnD K mg "_law_less" s__law_less) : Cal P w K mg base 1 "_law_less" (sp_is_less K) [] := by
  refine calOf F sc__law_less (fun _ _ _ _ _ _ us hl => match us, hl with | [_, _], _ => rfl) (fun vs H Q E h => ?_) (fun cdv f A outer s H vs Q E hr h => ?_)
  · obtain ⟨_, _, _, _, _, _, rfl, _⟩ := h
    rfl
  · obtain ⟨v1, v2, a, b, m, n, rfl, ⟨p1, rfl, h1⟩, ⟨p2, rfl, h2⟩, sa, sb, hmn, k⟩ := h
    refine ⟨_, (pss_one (ps_ret (pe_cmpR op_lt (pe_op op_mulW (pe_ix ix_tup (pv 0) pe_int (fun _ _ => rfl)) (pe_ix ix_tup (pv 1) pe_int (fun _ _ => rfl))) (pe_op op_mulW (pe_ix ix_tup (pv 1) pe_int (fun _ _ => rfl)) (pe_ix ix_tup (pv 0) pe_int (fun _ _ => rfl))) (nomark _)))), ?_⟩
    refine ⟨_, rfl, _, _, _, _, rfl, rfl, h1, rfl, _, rfl, _, _, _, _, rfl, rfl, h2, rfl, _, _, rfl, rfl, wm sa.1 sb.d (by omega), ?_⟩
    refine ⟨_, rfl, _, _, _, _, rfl, rfl, h2, rfl, _, rfl, _, _, _, _, rfl, rfl, h1, rfl, _, _, rfl, rfl, wm sb.1 sa.d (by omega), ?_⟩
    refine ⟨_, _, rfl, rfl, ?_⟩
    show Q (V.bl (decide (a.num * (b.den : Int) < b.num * (a.den : Int)))) H
    rw [show decide (a.num * (b.den : Int) < b.num * (a.den : Int)) = decide (a < b) from decide_eq_decide.mpr lt_num]
    exact k
abbrev n__law_number : List Str := ["_law_dice_here", "_law_bottom"]
theorem sc__law_number : FnScope ["_law_dice_here", "_law_bottom"] ["_law_dice_here"] (defScope s__law_number) := ⟨rfl, rfl, rfl, by decide +kernel, rfl, by decide +kernel, by decide +kernel⟩
def sp__law_number (K : PySem.W.Frag) : Sp := fun vs H Q _ => ∃ d : Addr × Addr, vs = [.ref d.1] ∧ Dice H d ∧ ∀ v q H', NumOk 20 q → RF K H' v q → Dice H' d → KD d.1 H H' → Q v H'
def bottoms : List Int := [1, 2, 3, 4, 5, 6, 8, 10, 12, 60, 999983]
theorem bottoms_ok : ∀ z ∈ bottoms, 1 ≤ z ∧ z ≤ 999983 := by decide
theorem ok__law_number (F : FnD K mg "_law_number" s__law_number) (c__law_draw : Cal P w K mg base 1 "_law_draw" sp__law_draw []) (c__law_lowest : Cal P w K mg base 1 "_law_lowest" (sp_lowest K) []) : Cal P w K mg base 2 "_law_number" (sp__law_number K) [] := by
  refine calOf F sc__law_number (fun _ _ _ _ _ _ us hl => match us, hl with | [_], _ => rfl) (fun vs H Q E h => ?_) (fun cdv f A outer s H vs Q E hr h => ?_)
  · obtain ⟨_, rfl, _⟩ := h
    rfl
  · obtain ⟨da, rfl, hd, k⟩ := h
    refine ⟨_, (pss_cons (ps_set (i := 1) sc__law_number.nd rfl (Or.inl rfl) (pe_ix ix_list (pe_lst (pa_cons pe_int (pa_cons pe_int (pa_cons pe_int (pa_cons pe_int (pa_cons pe_int (pa_cons pe_int (pa_cons pe_int (pa_cons pe_int (pa_cons pe_int (pa_cons pe_int (pa_cons pe_int pa_nil)))))))))))) (pe_c c__law_draw hr (by first | decide | omega) rfl (pa_cons (pv 0) (pa_cons pe_int pa_nil))) (fun _ _ => rfl)))
    (pss_one (ps_ret (pe_c c__law_lowest hr (by first | decide | omega) rfl (pa_cons (pe_c c__law_draw hr (by first | decide | omega) rfl (pa_cons (pv 0) (pa_cons (pe_op op_add (pv 1) pe_int) pa_nil))) (pa_cons (pv 1) pa_nil)))))), ?_⟩
    refine ⟨(by show 11 ≤ sizeLine; decide), fun p hp => ?_⟩
    have npd := (hd.ne hp).1
    refine ⟨_, rfl, da, 11, rfl, hd.same (same_new hp), by decide, by decide, fun r H1 r0 r1 d1 k1 => ?_⟩
    have hl : H1 p = some (.lst (bottoms.map V.int)) := k1 p _ npd upd_same
    obtain ⟨z, hz⟩ : ∃ z, bottoms[r.toNat]? = some z := ⟨bottoms[r.toNat]'(by show r.toNat < 11; omega), List.getElem?_eq_getElem _⟩
    have zb := bottoms_ok z (List.mem_of_getElem? hz)
    have hz' : (bottoms.map V.int)[r.toNat]? = some (.int z) := by rw [List.getElem?_map, hz]; rfl
    refine ⟨p, _, r, _, rfl, rfl, SqL.of hl, at_of (j := r.toNat) (by omega) hz', ?_⟩
    refine ⟨_, rfl, _, rfl, _, _, rfl, rfl, da, z + 1, rfl, d1, by omega, by omega, fun r2 H2 g0 g1 d2 k2 => ?_⟩
    refine ⟨_, rfl, r2, z, rfl, by omega, Nat.lt_of_lt_of_le (show z.natAbs < 2 ^ 20 by omega) (Nat.pow_le_pow_right (by omega) (by omega)), fun v H3 e3 r3 => ?_⟩
    exact k v _ H3 (numOk_divInt g0 (by omega) (by omega) (by omega)) r3 (d2.same e3) ((((Same.kd (same_new hp)).trans k1).trans k2).trans (Same.kd e3))
def sp__law_numbers (K : PySem.W.Frag) : Sp := fun vs H Q _ => ∃ (d : Addr × Addr) (n : Nat), vs = [.ref d.1, .int (n : Int)] ∧ Dice H d ∧ n ≤ 1000 ∧ ∀ (v : V) (qs : List Rat) (H' : Hp), qs.length = n → (∀ q ∈ qs, NumOk 20 q) → Rp K H' v (.tuple (qs.map qd)) → Dice H' d → KD d.1 H H' → Q v H'
end
end CB

set_option Elab.async false
set_option linter.all false
set_option maxRecDepth 100000
set_option maxHeartbeats 2000000
namespace CB
open PySem PySem.Spec PyProof.Rows L2
/-! ### sorted rows -/
def cntLe (q : Rat) (l : List Rat) : Nat := (l.filter fun x => !decide (q < x)).length
def insq (l : List Rat) (q : Rat) : List Rat := l.take (cntLe q l) ++ [q] ++ l.drop (cntLe q l)
def isort (l : List Rat) : List Rat := l.foldl insq []
abbrev Srt (l : List Rat) : Prop := l.Pairwise fun a b => a ≤ b
theorem cntLe_le (q : Rat) (l : List Rat) : cntLe q l ≤ l.length := List.length_filter_le _ _
theorem insq_perm (l : List Rat) (q : Rat) : (insq l q).Perm (q :: l) := by
  unfold insq
  have h1 : (l.take (cntLe q l) ++ [q] ++ l.drop (cntLe q l)).Perm ([q] ++ l.take (cntLe q l) ++ l.drop (cntLe q l)) := (List.perm_append_comm).append_right _
  refine h1.trans ?_
  rw [List.append_assoc, List.take_append_drop]
  exact List.Perm.refl _
theorem cntLe_cons_le {q x : Rat} {l : List Rat} (h : ¬ q < x) : cntLe q (x :: l) = cntLe q l + 1 := by
  unfold cntLe
  rw [List.filter_cons_of_pos (by simp [h])]
  rfl
theorem cntLe_zero {q : Rat} : ∀ {l : List Rat}, (∀ x ∈ l, q < x) → cntLe q l = 0
  | [], _ => rfl
  | x :: l, h => by
    unfold cntLe
    rw [List.filter_cons_of_neg (by simp [h x List.mem_cons_self])]
    exact cntLe_zero fun y hy => h y (List.mem_cons_of_mem _ hy)
theorem insq_srt : ∀ {l : List Rat} (q : Rat), Srt l → Srt (insq l q)
  | [], q, _ => by simp [insq, cntLe, Srt]
  | x :: l, q, h => by
    have hx := (List.pairwise_cons.mp h).1
    have hl := (List.pairwise_cons.mp h).2
    by_cases c : q < x
    · have z : cntLe q (x :: l) = 0 := cntLe_zero fun y hy => by
        rcases List.mem_cons.mp hy with e | e
        · rw [e]; exact c
        · have := hx y e; grind
      unfold insq
      rw [z, List.take_zero, List.drop_zero]
      refine List.pairwise_cons.mpr ⟨fun y hy => ?_, h⟩
      rcases List.mem_cons.mp hy with e | e
      · rw [e]; grind
      · have := hx y e; grind
    · have ih := insq_srt q hl
      have z : insq (x :: l) q = x :: insq l q := by
        unfold insq
        rw [cntLe_cons_le c]
        rfl
      rw [z]
      refine List.pairwise_cons.mpr ⟨fun y hy => ?_, ih⟩
      rcases List.mem_cons.mp ((insq_perm l q).mem_iff.mp hy) with e | e
      · rw [e]; grind
      · exact hx y e
theorem isort_aux : ∀ (l acc : List Rat), Srt acc → Srt (l.foldl insq acc) ∧ (l.foldl insq acc).Perm (acc ++ l)
  | [], acc, h => ⟨h, by simp⟩
  | q :: l, acc, h => by
    obtain ⟨h1, h2⟩ := isort_aux l (insq acc q) (insq_srt q h)
    refine ⟨h1, h2.trans ?_⟩
    refine ((insq_perm acc q).append_right l).trans ?_
    exact List.perm_middle.symm
theorem isort_srt (l : List Rat) : Srt (isort l) := (isort_aux l [] .nil).1
theorem isort_perm (l : List Rat) : (isort l).Perm l := by
  have h := (isort_aux l [] .nil).2
  rw [List.nil_append] at h
  exact h
theorem isort_length (l : List Rat) : (isort l).length = l.length := (isort_perm l).length_eq
theorem srt_unique : ∀ {l m : List Rat}, Srt l → Srt m → l.Perm m → l = m
  | [], m, _, _, p => (List.nil_perm.mp p).symm
  | a :: l, [], _, _, p => absurd p.symm.nil_eq (by simp)
  | a :: l, b :: m, hl, hm, p => by
    have h1 := (List.pairwise_cons.mp hl).1
    have h2 := (List.pairwise_cons.mp hm).1
    have e : a = b := by
      have ha : a ∈ b :: m := p.mem_iff.mp List.mem_cons_self
      have hb : b ∈ a :: l := p.mem_iff.mpr List.mem_cons_self
      rcases List.mem_cons.mp ha with e | e
      · exact e
      · rcases List.mem_cons.mp hb with e' | e'
        · exact e'.symm
        · have := h1 b e'
          have := h2 a e
          grind
    subst e
    rw [srt_unique (List.pairwise_cons.mp hl).2 (List.pairwise_cons.mp hm).2 (List.Perm.cons_inv p)]
theorem isort_of {l m : List Rat} (h : Srt m) (p : m.Perm l) : isort l = m := srt_unique (isort_srt l) h ((isort_perm l).trans p.symm)

/-! ### the least, the greatest, the k-th greatest -/
def minL (l : List Rat) : Rat := match l with
  | [] => 0
  | x :: l => l.foldl rmin x
def maxL (l : List Rat) : Rat := match l with
  | [] => 0
  | x :: l => l.foldl rmax x
def bub : Rat → List Rat → List Rat × Rat
  | t, [] => ([], t)
  | t, x :: l => (rmin t x :: (bub (rmax t x) l).1, (bub (rmax t x) l).2)
def bubL (l : List Rat) : List Rat := match l with
  | [] => []
  | x :: l => (bub x l).1
def kthG : Nat → List Rat → Rat
  | 0, l => maxL l
  | k + 1, l => kthG k (bubL l)
theorem foldl_rmin : ∀ (l : List Rat) (x : Rat), (l.foldl rmin x = x ∨ l.foldl rmin x ∈ l) ∧ l.foldl rmin x ≤ x ∧ ∀ y ∈ l, l.foldl rmin x ≤ y
  | [], x => ⟨.inl rfl, by show x ≤ x; grind, by simp⟩
  | z :: l, x => by
    obtain ⟨h1, h2, h3⟩ := foldl_rmin l (rmin x z)
    have m : rmin x z ≤ x ∧ rmin x z ≤ z ∧ (rmin x z = x ∨ rmin x z = z) := by unfold rmin; split <;> grind
    refine ⟨?_, ?_, ?_⟩
    · show List.foldl rmin (rmin x z) l = x ∨ List.foldl rmin (rmin x z) l ∈ z :: l
      rcases h1 with h | h
      · rw [h]
        rcases m.2.2 with e | e
        · exact .inl e
        · rw [e]; exact .inr List.mem_cons_self
      · exact .inr (List.mem_cons_of_mem _ h)
    · show List.foldl rmin (rmin x z) l ≤ x
      grind
    · intro y hy
      show List.foldl rmin (rmin x z) l ≤ y
      rcases List.mem_cons.mp hy with e | e
      · rw [e]; grind
      · exact h3 y e
theorem foldl_rmax : ∀ (l : List Rat) (x : Rat), (l.foldl rmax x = x ∨ l.foldl rmax x ∈ l) ∧ x ≤ l.foldl rmax x ∧ ∀ y ∈ l, y ≤ l.foldl rmax x
  | [], x => ⟨.inl rfl, by show x ≤ x; grind, by simp⟩
  | z :: l, x => by
    obtain ⟨h1, h2, h3⟩ := foldl_rmax l (rmax x z)
    have m : x ≤ rmax x z ∧ z ≤ rmax x z ∧ (rmax x z = x ∨ rmax x z = z) := by unfold rmax; split <;> grind
    refine ⟨?_, ?_, ?_⟩
    · show List.foldl rmax (rmax x z) l = x ∨ List.foldl rmax (rmax x z) l ∈ z :: l
      rcases h1 with h | h
      · rw [h]
        rcases m.2.2 with e | e
        · exact .inl e
        · rw [e]; exact .inr List.mem_cons_self
      · exact .inr (List.mem_cons_of_mem _ h)
    · show x ≤ List.foldl rmax (rmax x z) l
      grind
    · intro y hy
      show y ≤ List.foldl rmax (rmax x z) l
      rcases List.mem_cons.mp hy with e | e
      · rw [e]; grind
      · exact h3 y e
theorem minL_mem {l : List Rat} (h : l ≠ []) : minL l ∈ l ∧ ∀ y ∈ l, minL l ≤ y := by
  cases l with
  | nil => exact absurd rfl h
  | cons x l =>
    obtain ⟨h1, h2, h3⟩ := foldl_rmin l x
    show List.foldl rmin x l ∈ x :: l ∧ ∀ y ∈ x :: l, List.foldl rmin x l ≤ y
    refine ⟨?_, fun y hy => ?_⟩
    · rcases h1 with e | e
      · rw [e]; exact List.mem_cons_self
      · exact List.mem_cons_of_mem _ e
    · rcases List.mem_cons.mp hy with e | e
      · rw [e]; exact h2
      · exact h3 y e
theorem maxL_mem {l : List Rat} (h : l ≠ []) : maxL l ∈ l ∧ ∀ y ∈ l, y ≤ maxL l := by
  cases l with
  | nil => exact absurd rfl h
  | cons x l =>
    obtain ⟨h1, h2, h3⟩ := foldl_rmax l x
    show List.foldl rmax x l ∈ x :: l ∧ ∀ y ∈ x :: l, y ≤ List.foldl rmax x l
    refine ⟨?_, fun y hy => ?_⟩
    · rcases h1 with e | e
      · rw [e]; exact List.mem_cons_self
      · exact List.mem_cons_of_mem _ e
    · rcases List.mem_cons.mp hy with e | e
      · rw [e]; exact h2
      · exact h3 y e
theorem srt_get_le {l : List Rat} (h : Srt l) {i j : Nat} {x y : Rat} (hi : l[i]? = some x) (hj : l[j]? = some y) (hij : i ≤ j) : x ≤ y := by
  by_cases e : i = j
  · subst e
    rw [hi] at hj
    cases hj
    grind
  · obtain ⟨h1, e1⟩ := List.getElem?_eq_some_iff.mp hi
    obtain ⟨h2, e2⟩ := List.getElem?_eq_some_iff.mp hj
    have := List.pairwise_iff_getElem.mp h i j h1 h2 (by omega)
    rw [e1, e2] at this
    exact this
theorem isort_first {l : List Rat} (h : l ≠ []) : (isort l)[0]? = some (minL l) := by
  obtain ⟨h1, h2⟩ := minL_mem h
  have hl : 0 < (isort l).length := by rw [isort_length]; exact List.length_pos_iff.mpr h
  have e : (isort l)[0]? = some (isort l)[0] := List.getElem?_eq_getElem hl
  rw [e]
  congr 1
  have a : minL l ≤ (isort l)[0] := h2 _ ((isort_perm l).mem_iff.mp (List.getElem_mem hl))
  obtain ⟨j, hj⟩ := List.mem_iff_getElem?.mp ((isort_perm l).mem_iff.mpr h1)
  have b := srt_get_le (isort_srt l) e hj (Nat.zero_le _)
  grind
theorem isort_last {l : List Rat} (h : l ≠ []) : (isort l)[l.length - 1]? = some (maxL l) := by
  obtain ⟨h1, h2⟩ := maxL_mem h
  have hp := List.length_pos_iff.mpr h
  have hl : l.length - 1 < (isort l).length := by rw [isort_length]; omega
  have e : (isort l)[l.length - 1]? = some (isort l)[l.length - 1] := List.getElem?_eq_getElem hl
  rw [e]
  congr 1
  have a : (isort l)[l.length - 1] ≤ maxL l := h2 _ ((isort_perm l).mem_iff.mp (List.getElem_mem hl))
  obtain ⟨j, hj⟩ := List.mem_iff_getElem?.mp ((isort_perm l).mem_iff.mpr h1)
  have hj2 := (List.getElem?_eq_some_iff.mp hj).1
  rw [isort_length] at hj2
  have b := srt_get_le (isort_srt l) hj e (by omega)
  grind
theorem bub_perm : ∀ (l : List Rat) (t : Rat), ((bub t l).1 ++ [(bub t l).2]).Perm (t :: l)
  | [], t => List.Perm.refl _
  | x :: l, t => by
    have ih := bub_perm l (rmax t x)
    show (rmin t x :: (bub (rmax t x) l).1 ++ [(bub (rmax t x) l).2]).Perm (t :: x :: l)
    refine (List.Perm.cons _ ih).trans ?_
    unfold rmin rmax
    by_cases c : x < t
    · rw [if_pos c, if_neg (by grind)]
      exact List.Perm.swap _ _ _
    · by_cases c2 : t < x
      · rw [if_neg c, if_pos c2]
      · rw [if_neg c, if_neg c2]
        have : t = x := by grind
        rw [this]
theorem bub_max : ∀ (l : List Rat) (t : Rat), (bub t l).2 = l.foldl rmax t
  | [], t => rfl
  | x :: l, t => bub_max l (rmax t x)
theorem bub_length : ∀ (l : List Rat) (t : Rat), (bub t l).1.length = l.length
  | [], t => rfl
  | x :: l, t => by show ((bub (rmax t x) l).1.length + 1) = _; rw [bub_length l]; rfl
theorem isort_bubL {l : List Rat} (h : l ≠ []) : isort l = isort (bubL l) ++ [maxL l] := by
  cases l with
  | nil => exact absurd rfl h
  | cons x l =>
    refine isort_of ?_ ?_
    · refine List.pairwise_append.mpr ⟨isort_srt _, by simp, fun a ha b hb => ?_⟩
      rw [List.mem_singleton.mp hb]
      refine (maxL_mem h).2 a ?_
      have : a ∈ (bub x l).1 := (isort_perm _).mem_iff.mp ha
      exact (bub_perm l x).mem_iff.mp (List.mem_append_left _ this)
    · refine ((isort_perm _).append_right _).trans ?_
      have e : maxL (x :: l) = (bub x l).2 := (bub_max l x).symm
      rw [e]
      exact bub_perm l x
theorem bubL_length (l : List Rat) : (bubL l).length = l.length - 1 := by
  cases l with
  | nil => rfl
  | cons x l => exact bub_length l x
theorem kthG_isort : ∀ (k : Nat) (l : List Rat), k < l.length → (isort l)[l.length - 1 - k]? = some (kthG k l)
  | 0, l, h => isort_last (by intro e; subst e; cases h)
  | k + 1, l, h => by
    have hne : l ≠ [] := by intro e; subst e; cases h
    have ih := kthG_isort k (bubL l) (by rw [bubL_length]; omega)
    rw [bubL_length] at ih
    rw [isort_bubL hne]
    have z : l.length - 1 - (k + 1) < (isort (bubL l)).length := by rw [isort_length, bubL_length]; omega
    rw [List.getElem?_append_left z]
    have e : l.length - 1 - (k + 1) = l.length - 1 - 1 - k := by omega
    rw [e]
    exact ih
theorem isort_mid {lo hi x : Rat} (h : lo ≤ hi) : (isort [lo, hi, x])[1]? = some (rmax lo (rmin hi x)) := by
  unfold rmin rmax
  by_cases c1 : x < hi
  · by_cases c2 : lo < x
    · have e : isort [lo, hi, x] = [lo, x, hi] := isort_of (by simp [Srt]; grind) (List.Perm.cons _ (List.Perm.swap _ _ _))
      rw [e, if_pos c1, if_pos c2]
      rfl
    · have e : isort [lo, hi, x] = [x, lo, hi] := isort_of (by simp [Srt]; grind) ((List.Perm.swap _ _ _).trans (List.Perm.cons _ (List.Perm.swap _ _ _)))
      rw [e, if_pos c1, if_neg c2]
      rfl
  · have e : isort [lo, hi, x] = [lo, hi, x] := isort_of (by simp [Srt]; grind) (List.Perm.refl _)
    rw [e, if_neg c1]
    by_cases c2 : lo < hi
    · rw [if_pos c2]; rfl
    · rw [if_neg c2]
      have : lo = hi := by grind
      rw [this]; rfl

/-! ### terms -/
inductive Tm where
  | bid (p : Nat)
  | fixed (q : Rat)
  | mean (ws : List Int) (ts : List Tm)
  | least (ts : List Tm)
  | greatest (ts : List Tm)
  | ranked (k : Nat) (ts : List Tm)
  | between (lo hi : Rat) (t : Tm)
def meanD (ws : List Int) (ds : List PyData) : List PyData := List.zipWith (fun w d => .tuple [.int w, d]) ws ds
mutual
def Tm.data : Tm → PyData
  | .bid p => .tuple [.str "bid", .int (p : Int)]
  | .fixed q => .tuple [.str "fixed", qd q]
  | .mean ws ts => .tuple [.str "mean", .tuple (meanD ws (Tm.datas ts))]
  | .least ts => .tuple [.str "least", .tuple (Tm.datas ts)]
  | .greatest ts => .tuple [.str "greatest", .tuple (Tm.datas ts)]
  | .ranked k ts => .tuple [.str "ranked", .int (k : Int), .tuple (Tm.datas ts)]
  | .between lo hi t => .tuple [.str "between", qd lo, qd hi, t.data]
def Tm.datas : List Tm → List PyData
  | [] => []
  | t :: ts => t.data :: Tm.datas ts
end
theorem datas_map : ∀ ts : List Tm, Tm.datas ts = ts.map Tm.data
  | [] => rfl
  | t :: ts => by rw [Tm.datas, datas_map ts]; rfl
/-- the weighted sum -/
def wavg (ws : List Int) (qs : List Rat) : Rat := (List.zipWith (fun (w : Int) (q : Rat) => (w : Rat) * q) ws qs).sum / ((ws.sum : Int) : Rat)
mutual
def Tm.val (b : List Rat) : Tm → Rat
  | .bid p => b.getD p 0
  | .fixed q => q
  | .mean ws ts => wavg ws (Tm.vals b ts)
  | .least ts => minL (Tm.vals b ts)
  | .greatest ts => maxL (Tm.vals b ts)
  | .ranked k ts => kthG (k - 1) (Tm.vals b ts)
  | .between lo hi t => rmax lo (rmin hi (t.val b))
def Tm.vals (b : List Rat) : List Tm → List Rat
  | [] => []
  | t :: ts => t.val b :: Tm.vals b ts
end
theorem vals_map (b : List Rat) : ∀ ts : List Tm, Tm.vals b ts = ts.map (Tm.val b)
  | [] => rfl
  | t :: ts => by rw [Tm.vals, vals_map b ts]; rfl
/-! s: a bound of the bits of a bid and of a fixed number -/
mutual
def Tm.wt (s : Nat) : Tm → Nat
  | .bid _ => s
  | .fixed _ => s
  | .mean _ ts => Tm.wts s ts + 12
  | .least ts => Tm.wts s ts
  | .greatest ts => Tm.wts s ts
  | .ranked _ ts => Tm.wts s ts
  | .between _ _ t => t.wt s + s + s
def Tm.wts (s : Nat) : List Tm → Nat
  | [] => 0
  | t :: ts => t.wt s + 8 + Tm.wts s ts
end
mutual
def Tm.dep : Tm → Nat
  | .bid _ => 1
  | .fixed _ => 1
  | .mean _ ts => Tm.deps ts + 1
  | .least ts => Tm.deps ts + 1
  | .greatest ts => Tm.deps ts + 1
  | .ranked _ ts => Tm.deps ts + 1
  | .between _ _ t => t.dep + 1
def Tm.deps : List Tm → Nat
  | [] => 0
  | t :: ts => max t.dep (Tm.deps ts)
end
mutual
def Tm.cnt : Tm → Nat
  | .bid _ => 1
  | .fixed _ => 1
  | .mean _ ts => Tm.cnts ts + 1
  | .least ts => Tm.cnts ts + 1
  | .greatest ts => Tm.cnts ts + 1
  | .ranked _ ts => Tm.cnts ts + 1
  | .between _ _ t => t.cnt + 1
def Tm.cnts : List Tm → Nat
  | [] => 0
  | t :: ts => t.cnt + Tm.cnts ts
end
/-! right terms for n people, of any size; their numbers have at most s bits -/
mutual
def Tm.Ok (n s : Nat) : Tm → Prop
  | .bid p => p < n
  | .fixed q => NumOk s q
  | .mean ws ts => ws.length = ts.length ∧ ts ≠ [] ∧ ts.length ≤ 8 ∧ (∀ w ∈ ws, 1 ≤ w ∧ w ≤ 99) ∧ Tm.Oks n s ts
  | .least ts => ts ≠ [] ∧ ts.length ≤ 8 ∧ Tm.Oks n s ts
  | .greatest ts => ts ≠ [] ∧ ts.length ≤ 8 ∧ Tm.Oks n s ts
  | .ranked k ts => 1 ≤ k ∧ k ≤ ts.length ∧ ts.length ≤ 8 ∧ Tm.Oks n s ts
  | .between lo hi t => NumOk s lo ∧ NumOk s hi ∧ lo ≤ hi ∧ t.Ok n s
def Tm.Oks (n s : Nat) : List Tm → Prop
  | [] => True
  | t :: ts => t.Ok n s ∧ Tm.Oks n s ts
end
theorem oks_iff (n s : Nat) : ∀ ts : List Tm, Tm.Oks n s ts ↔ ∀ t ∈ ts, t.Ok n s
  | [] => by simp [Tm.Oks]
  | t :: ts => by rw [Tm.Oks, oks_iff n s ts]; simp
theorem wts_mem {s : Nat} : ∀ {ts : List Tm} {t : Tm}, t ∈ ts → t.wt s + 8 ≤ Tm.wts s ts
  | [], _, h => by cases h
  | u :: ts, t, h => by
    rw [Tm.wts]
    rcases List.mem_cons.mp h with e | e
    · subst e; omega
    · have := wts_mem (s := s) e; omega
theorem deps_mem : ∀ {ts : List Tm} {t : Tm}, t ∈ ts → t.dep ≤ Tm.deps ts
  | [], _, h => by cases h
  | u :: ts, t, h => by
    rw [Tm.deps]
    rcases List.mem_cons.mp h with e | e
    · subst e; omega
    · have := deps_mem e; omega
theorem deps_le {d : Nat} : ∀ {ts : List Tm}, (∀ t ∈ ts, t.dep ≤ d) → Tm.deps ts ≤ d
  | [], _ => by simp [Tm.deps]
  | u :: ts, h => by
    rw [Tm.deps]
    have a := h u List.mem_cons_self
    have b := deps_le (ts := ts) fun t ht => h t (List.mem_cons_of_mem _ ht)
    omega
theorem cnts_le {c : Nat} : ∀ {ts : List Tm}, (∀ t ∈ ts, t.cnt ≤ c) → Tm.cnts ts ≤ ts.length * c
  | [], _ => by simp [Tm.cnts]
  | u :: ts, h => by
    rw [Tm.cnts, List.length_cons, Nat.succ_mul]
    have a := h u List.mem_cons_self
    have b := cnts_le (ts := ts) fun t ht => h t (List.mem_cons_of_mem _ ht)
    omega
theorem wts_le {s c : Nat} : ∀ {ts : List Tm}, (∀ t ∈ ts, t.wt s ≤ c) → Tm.wts s ts ≤ ts.length * (c + 8)
  | [], _ => by simp [Tm.wts]
  | u :: ts, h => by
    rw [Tm.wts, List.length_cons, Nat.succ_mul]
    have a := h u List.mem_cons_self
    have b := wts_le (ts := ts) fun t ht => h t (List.mem_cons_of_mem _ ht)
    omega
end CB

set_option Elab.async false
set_option linter.all false
set_option maxRecDepth 100000
set_option maxHeartbeats 4000000
namespace CB
open PySem PySem.Spec PyProof.Rows L2
open C8 (Cal Met Mak pe_c pe_mk pe_mt pe_mt0 pe_gc CalAt)
section
variable {P : Program} {w : World} {K : PySem.W.Frag} {mg : Str → Option Value} {base : Heap}
abbrev n__law_sorted : List Str := ["_law_numbers", "_law_found", "_law_number_here", "_law_at", "_law_other"]
theorem sc__law_sorted : FnScope ["_law_numbers", "_law_found", "_law_number_here", "_law_at", "_law_other"] ["_law_numbers"] (defScope s__law_sorted) := ⟨rfl, rfl, rfl, by decide +kernel, rfl, by decide +kernel, by decide +kernel⟩
def sp__law_sorted (K : PySem.W.Frag) : Sp := fun vs H Q _ => ∃ (a : Addr) (us : List V) (qs : List Rat), vs = [.ref a] ∧ SqL K H a us ∧ RQ K H us qs ∧ (∀ q ∈ qs, Sz 9000 q) ∧ qs.length ≤ 100 ∧
  ∀ (p : Addr) (ys : List V) (H' : Hp), H p = none → Same H H' → H' p = some (.lst ys) → RQ K H' ys (isort qs) → Q (.ref p) H'
theorem insq_mem {l : List Rat} {q x : Rat} (h : x ∈ insq l q) : x = q ∨ x ∈ l := List.mem_cons.mp ((insq_perm l q).mem_iff.mp h)
theorem foldl_insq_mem {l : List Rat} {x : Rat} (h : x ∈ l.foldl insq []) : x ∈ l := (isort_perm l).mem_iff.mp h
theorem ok__law_sorted (F : FnD K mg "_law_sorted" s__law_sorted) (c__law_less : Cal P w K mg base 1 "_law_less" (sp_is_less K) []) (T_len : mg "len" = none) : Cal P w K mg base 2 "_law_sorted" (sp__law_sorted K) [] := by
  refine calOf F sc__law_sorted (fun _ _ _ _ _ _ us hl => match us, hl with | [_], _ => rfl) (fun vs H Q E h => ?_) (fun cdv f A outer s H vs Q E hr h => ?_)
  · obtain ⟨_, _, _, rfl, _⟩ := h
    rfl
  · obtain ⟨a, us, qs, rfl, hS, hu, hz, hn, k⟩ := h
    refine ⟨_, (pss_cons (ps_set (i := 1) sc__law_sorted.nd rfl (Or.inl rfl) (pe_lst pa_nil))
    (pss_cons (ps_for PassesOwn.never rfl (pi_list (pv 0)) (pg_name (i := 2) sc__law_sorted.nd rfl (Or.inr rfl)) (pss_cons (ps_set (i := 3) sc__law_sorted.nd rfl (Or.inl rfl) (pe_callB call_len_seq (by rfl) T_len PySem.boot_len (pa_cons (pe_lc (own := [("_law_other", 4)]) (by rfl) sc__law_sorted.nd (pi_list (pv 1)) (blkOk_by (own := [("_law_other", 4)]) (N := ["_law_numbers", "_law_found", "_law_number_here", "_law_at", "_law_other"]) (sc := defScope s__law_sorted) (by decide +kernel)) (fun _ _ _ _ _ => (pg_name (i := 4) sc__law_sorted.nd rfl (Or.inl rfl))) (fun _ _ _ _ _ => (pts_one (pt_not (pt_val (pe_c c__law_less hr (by first | decide | omega) rfl (pa_cons (pv 2) (pa_cons (pv 4) pa_nil))))))) (fun _ _ _ _ _ => (pv 4))) pa_nil)))
    (pss_one (ps_expr (pe_bm PySem.F.plainAttrs_list PySem.F.slot_list_insert PySem.F.type_list_insert mt_insert (pv 1) (pa_cons (pv 3) (pa_cons (pv 2) pa_nil)))))))
    (pss_one (ps_ret (pv 1))))), ?_⟩
    refine ⟨Nat.zero_le _, fun l hl => ?_⟩
    have s0 := same_new (o := .lst []) hl
    refine ⟨_, rfl, a, rfl, ⟨_, s0.seq hS⟩, for_list (K := K) (a := a) (xs := us) (fun i σ H' => ∃ (x y : Option V) (ys : List V), σ = [some (.ref a), some (.ref l), x, y, none] ∧ H' l = some (.lst ys) ∧ RQ K H' ys ((qs.take i).foldl insq []) ∧ Same H H')
      ⟨none, none, [], rfl, upd_same, .nil, s0⟩ (fun i σ H' _ ⟨_, _, _, _, _, _, s5⟩ => s5.seq hS) ?_ ?_⟩
    · rintro i v σ H' hi ⟨_, _, ys, rfl, h1, h2, s5⟩
      obtain ⟨q, hq, rq⟩ := hu.getV hi
      have rq' := rq.mono (Same.kt s5)
      have zq := hz q (List.mem_of_getElem? hq)
      have hlen : ((qs.take i).foldl insq []).length ≤ 100 := by
        have : (isort (qs.take i)).length = (qs.take i).length := isort_length _
        have e : ((qs.take i).foldl insq []).length = (qs.take i).length := this
        rw [e, List.length_take]
        omega
      have hyl : ys.length ≤ 100 := by rw [h2.length]; exact hlen
      refine ⟨_, rfl, l, rfl, ⟨_, SqL.of h1⟩, fun D hD => ?_⟩
      refine lc_list (K := K) (a := l) (xs := ys) (fun j H'' => ∃ zs : List V, H'' D = some (.lst zs) ∧ zs.length = ((((qs.take i).foldl insq []).take j).filter fun x => !decide (q < x)).length ∧ Same H' H'')
        ⟨[], upd_same, by simp, same_new hD⟩ (fun j H'' _ ⟨_, _, _, s6⟩ => s6.seq (SqL.of h1)) ?_ ?_
      · rintro j y H'' hj ⟨zs, g1, g2, g3⟩
        obtain ⟨x, hx, rx⟩ := h2.getV hj
        have xm : x ∈ qs := List.mem_of_mem_take (foldl_insq_mem (List.mem_of_getElem? hx))
        have tk : (((qs.take i).foldl insq []).take (j + 1)) = (((qs.take i).foldl insq []).take j) ++ [x] := take_succ' hx
        refine ⟨rfl, _, rfl, _, rfl, _, _, _, _, _, _, rfl, rq'.mono (Same.kt g3), rx.mono (Same.kt g3), zq, hz x xm, by omega, _, rfl, ?_⟩
        by_cases c : q < x
        · rw [decide_eq_true c]
          refine ⟨zs, g1, ?_, g3⟩
          rw [tk, List.filter_append, List.filter_cons_of_neg (by simp [c]), g2]
          simp
        · rw [decide_eq_false c]
          have zl : zs.length ≤ 100 := by
            rw [g2]
            refine Nat.le_trans (List.length_filter_le _ _) ?_
            rw [List.length_take]
            omega
          refine ⟨_, rfl, zs, g1, small1000 (by omega), zs ++ [y], upd_same, ?_, Same.mut g3 hD⟩
          rw [tk, List.filter_append, List.filter_cons_of_pos (by simp [c]), List.length_append, List.length_append, g2]
          rfl
      · rintro H'' ⟨zs, g1, g2, g3⟩
        rw [h2.length, List.take_length] at g2
        have cle := cntLe_le q ((qs.take i).foldl insq [])
        have ec : zs.length = cntLe q ((qs.take i).foldl insq []) := g2
        refine ⟨_, _, rfl, .inl (SqL.of g1), ?_⟩
        have hl2 := g3 _ _ h1
        refine ⟨_, rfl, .inl ⟨rfl, _, SqL.of hl2⟩, _, rfl, _, rfl, l, ys, _, v, rfl, rfl, hl2, small1000 (by omega), by omega, by omega, ?_⟩
        refine ⟨_, _, _, rfl, upd_same, ?_, Same.mut (s5.trans g3) hl⟩
        have e1 : (qs.take (i + 1)).foldl insq [] = insq ((qs.take i).foldl insq []) q := by
          rw [take_succ' hq, List.foldl_append]
          rfl
        rw [e1]
        have h2' : RQ K H'' ys ((qs.take i).foldl insq []) := RpAll.mono (Same.kt g3) h2
        have rq2 := rq'.mono (Same.kt g3)
        refine RpAll.mono (KT.updl hl2) ?_
        show RpAll K H'' _ ((insq _ q).map qd)
        unfold insq
        rw [Int.toNat_natCast, ec, List.map_append, List.map_append, List.map_take, List.map_drop]
        exact RpAll.append (RpAll.append (RpAll.take _ h2') (.cons rq2.rp .nil)) (RpAll.drop _ h2')
    · rintro σ H' ⟨_, _, ys, rfl, h1, h2, s5⟩
      have e : us.length = qs.length := hu.length
      rw [e, List.take_length] at h2
      exact ⟨_, rfl, k l ys H' hl s5 h1 h2⟩
end
end CB

set_option Elab.async false
set_option linter.all false
set_option maxRecDepth 100000
set_option maxHeartbeats 4000000
namespace CB
open PySem PySem.Spec PyProof.Rows L2
open C8 (Cal Met Mak pe_c pe_mk pe_mt pe_mt0 pe_gc CalAt)
section
variable {P : Program} {w : World} {K : PySem.W.Frag} {mg : Str → Option Value} {base : Heap}
/-- how many terms, how many bits a drawn term has at most -/
def cB : Nat → Nat
  | 0 => 1
  | d + 1 => 1 + 3 * cB d
def wB (s : Nat) : Nat → Nat
  | 0 => s
  | d + 1 => 3 * (wB s d + 8) + 12 + 2 * s
/-- a finer bound -/
def wC (s : Nat) : Nat → Nat
  | 0 => s
  | d + 1 => max (3 * (wC s d + 8) + 12) (wC s d + 2 * s)
theorem wC_ge (s d : Nat) : s ≤ wC s d := by
  induction d with
  | zero => exact Nat.le_refl _
  | succ d ih => show s ≤ max (3 * (wC s d + 8) + 12) (wC s d + 2 * s); omega
theorem cB_pos (d : Nat) : 1 ≤ cB d := by cases d <;> simp [cB]
theorem wB_ge (s d : Nat) : s ≤ wB s d := by cases d <;> simp [wB] <;> omega
/-- a drawn term, nested at most d + 1 deep -/
structure Drawn (n d : Nat) (t : Tm) : Prop where
  ok : t.Ok n 20
  dep : t.dep ≤ d + 1
  cnt : t.cnt ≤ cB d
  wt : ∀ s, t.wt s ≤ wB s d
  wt2 : ∀ s, t.wt s ≤ wC s d
abbrev n__law_term : List Str := ["_law_dice_here", "_law_people_here", "_law_deep", "_law_means", "_law_kind", "_law_parts", "_law_ends", "_law_k", "_law_part"]
theorem sc__law_term : FnScope ["_law_dice_here", "_law_people_here", "_law_deep", "_law_means", "_law_kind", "_law_parts", "_law_ends", "_law_k", "_law_part"] ["_law_dice_here", "_law_people_here", "_law_deep", "_law_means"] (defScope s__law_term) := ⟨rfl, rfl, rfl, by decide +kernel, rfl, by decide +kernel, by decide +kernel⟩
def sp__law_term (K : PySem.W.Frag) (d : Nat) : Sp := fun vs H Q _ => ∃ (da : Addr × Addr) (n : Nat) (m : Bool), vs = [.ref da.1, .int (n : Int), .int ((d : Int) + 1), .bl m] ∧ Dice H da ∧ 1 ≤ n ∧ n ≤ 6 ∧
  ∀ (v : V) (t : Tm) (H' : Hp), Rp K H' v t.data → Drawn n d t → Dice H' da → KD da.1 H H' → Q v H'
abbrev RTs (K : PySem.W.Frag) (H : Hp) (vs : List V) (ts : List Tm) : Prop := RpAll K H vs (Tm.datas ts)
theorem RTs.snoc {K : PySem.W.Frag} {H : Hp} {vs : List V} {ts : List Tm} {v : V} {t : Tm} (h : RTs K H vs ts) (r : Rp K H v t.data) : RTs K H (vs ++ [v]) (ts ++ [t]) := by
  show RpAll K H (vs ++ [v]) (Tm.datas (ts ++ [t]))
  have h' : RpAll K H vs (Tm.datas ts) := h
  rw [datas_map] at h' ⊢
  rw [List.map_append]
  exact RpAll.append h' (.cons r .nil)
theorem RTs.length {K : PySem.W.Frag} {H : Hp} {vs : List V} {ts : List Tm} (h : RTs K H vs ts) : vs.length = ts.length := by
  have h' : RpAll K H vs (Tm.datas ts) := h
  rw [h'.length, datas_map, List.length_map]
theorem RTs.get {K : PySem.W.Frag} {H : Hp} {vs : List V} {ts : List Tm} {i : Nat} {t : Tm} (h : RTs K H vs ts) (e : ts[i]? = some t) : ∃ v, vs[i]? = some v ∧ Rp K H v t.data := by
  have h' : RpAll K H vs (Tm.datas ts) := h
  rw [datas_map] at h'
  exact RpAll.get h' (by rw [List.getElem?_map, e]; rfl)
theorem RTs.getV {K : PySem.W.Frag} {H : Hp} {vs : List V} {ts : List Tm} {i : Nat} {v : V} (h : RTs K H vs ts) (e : vs[i]? = some v) : ∃ t, ts[i]? = some t ∧ Rp K H v t.data := by
  have h' : RpAll K H vs (Tm.datas ts) := h
  rw [datas_map] at h'
  obtain ⟨d, h1, h2⟩ := RpAll.getV h' e
  rw [List.getElem?_map] at h1
  cases c : ts[i]? with
  | none => rw [c] at h1; cases h1
  | some t =>
    rw [c] at h1
    cases h1
    exact ⟨t, rfl, h2⟩
theorem parts_ok {n d : Nat} {ts : List Tm} (h : ∀ t ∈ ts, Drawn n d t) (h1 : 1 ≤ ts.length) (h3 : ts.length ≤ 3) :
    Tm.Oks n 20 ts ∧ ts ≠ [] ∧ Tm.deps ts ≤ d + 1 ∧ Tm.cnts ts ≤ 3 * cB d ∧ (∀ s, Tm.wts s ts ≤ 3 * (wB s d + 8)) ∧ ∀ s, Tm.wts s ts ≤ 3 * (wC s d + 8) := by
  refine ⟨(oks_iff _ _ _).mpr fun t ht => (h t ht).ok, (by intro e; subst e; simp at h1), deps_le fun t ht => (h t ht).dep, ?_, fun s => ?_, fun s => ?_⟩
  · exact Nat.le_trans (cnts_le fun t ht => (h t ht).cnt) (Nat.mul_le_mul_right _ h3)
  · exact Nat.le_trans (wts_le fun t ht => (h t ht).wt s) (Nat.mul_le_mul_right _ h3)
  · exact Nat.le_trans (wts_le fun t ht => (h t ht).wt2 s) (Nat.mul_le_mul_right _ h3)
theorem meanD_length (ws : List Int) (ds : List PyData) (h : ws.length = ds.length) : (meanD ws ds).length = ds.length := by
  unfold meanD
  rw [List.length_zipWith, h, Nat.min_self]
/-- the promise of a call that goes less than D + 1 deep -/
def spT (K : PySem.W.Frag) (D : Nat) : Sp := fun vs H Q E => ∃ d, d < D ∧ sp__law_term K d vs H Q E
theorem ok__law_term (F : FnD K mg "_law_term" s__law_term) (c__law_draw : Cal P w K mg base 1 "_law_draw" sp__law_draw []) (c__law_number : Cal P w K mg base 2 "_law_number" (sp__law_number K) [])
    (c__law_sorted : Cal P w K mg base 2 "_law_sorted" (sp__law_sorted K) []) (T_len : mg "len" = none) (T_range : mg "range" = none) (T_tuple : mg "tuple" = none) : ∀ D : Nat, Cal P w K mg base (D + 4) "_law_term" (spT K D) [] := by
  intro D
  induction D with
  | zero => exact calOf (k := 3) F sc__law_term (fun _ _ _ _ _ _ us hl => match us, hl with | [_, _, _, _], _ => rfl) (fun vs H Q E h => by obtain ⟨d, h, _⟩ := h; cases h) (fun cdv f A outer s H vs Q E hr h => by obtain ⟨d, h, _⟩ := h; cases h)
  | succ D ih =>
    have c__law_term := ih
    refine calOf (k := D + 4) F sc__law_term (fun _ _ _ _ _ _ us hl => match us, hl with | [_, _, _, _], _ => rfl) (fun vs H Q E h => ?_) (fun cdv f A outer s H vs Q E hr h => ?_)
    · obtain ⟨_, _, _, _, _, rfl, _⟩ := h
      rfl
    · obtain ⟨d, hdD, da, n, m, rfl, hd, hn1, hn6, k⟩ := h
      refine ⟨_, (pss_cons (ps_set (i := 4) sc__law_term.nd rfl (Or.inl rfl) (pe_c c__law_draw hr (by first | decide | omega) rfl (pa_cons (pv 0) (pa_cons pe_int pa_nil))))
    (C8.pss_cut (ps_if (PW.pt (pw_or (pt_cmpR op_eq (pv 2) pe_int (nomark _)) (pw_or1 (pt_cmpR op_eq (pv 4) pe_int (nomark _))))) (pss_cons (ps_if (pt_cmpR op_eq (pe_c c__law_draw hr (by first | decide | omega) rfl (pa_cons (pv 0) (pa_cons pe_int pa_nil))) pe_int (nomark _)) (pss_one (ps_ret (pe_tup (pa_cons pe_str (pa_cons (pe_c c__law_number hr (by first | decide | omega) rfl (pa_cons (pv 0) pa_nil)) pa_nil))))) pss_nil)
    (pss_one (ps_ret (pe_tup (pa_cons pe_str (pa_cons (pe_c c__law_draw hr (by first | decide | omega) rfl (pa_cons (pv 0) (pa_cons (pv 1) pa_nil))) pa_nil)))))) pss_nil)
    (pss_cons (ps_setLc (i := 5) (own := [("_law_k", 7)]) (by rfl) sc__law_term.nd rfl rfl (sw_true rfl rfl rfl (by decide +kernel)) (pi_range1 (by rfl) T_range (pa_cons (pe_op op_add pe_int (pe_c c__law_draw hr (by first | decide | omega) rfl (pa_cons (pv 0) (pa_cons pe_int pa_nil)))) pa_nil)) (blkOk_by (own := [("_law_k", 7)]) (N := ["_law_dice_here", "_law_people_here", "_law_deep", "_law_means", "_law_kind", "_law_parts", "_law_ends", "_law_k", "_law_part"]) (sc := defScope s__law_term) (by decide +kernel)) (fun _ _ _ _ _ => (pg_name (i := 7) sc__law_term.nd rfl (Or.inl rfl))) (fun _ _ _ _ _ => pts_nil) (fun _ _ _ _ _ => (pe_c c__law_term hr (by first | decide | omega) rfl (pa_cons (pv 0) (pa_cons (pv 1) (pa_cons (pe_op op_sub (pv 2) pe_int) (pa_cons (pv 3) pa_nil)))))))
    (pss_cons (ps_if (pt_cmpR op_eq (pv 4) pe_int (nomark _)) (pss_cons (ps_set (i := 6) sc__law_term.nd rfl (Or.inl rfl) (pe_c c__law_sorted hr (by first | decide | omega) rfl (pa_cons (pe_lst (pa_cons (pe_c c__law_number hr (by first | decide | omega) rfl (pa_cons (pv 0) pa_nil)) (pa_cons (pe_c c__law_number hr (by first | decide | omega) rfl (pa_cons (pv 0) pa_nil)) pa_nil))) pa_nil)))
    (pss_one (ps_ret (pe_tup (pa_cons pe_str (pa_cons (pe_ix ix_list (pv 6) pe_int (fun _ _ => rfl)) (pa_cons (pe_ix ix_list (pv 6) pe_int (fun _ _ => rfl)) (pa_cons (pe_ix ix_list (pv 5) pe_int (fun _ _ => rfl)) pa_nil)))))))) pss_nil)
    (pss_cons (ps_if (pt_cmpR op_eq (pv 4) pe_int (nomark _)) (pss_one (ps_ret (pe_tup (pa_cons pe_str (pa_cons (pe_callTy call_tuple_of (by rfl) T_tuple (by decide +kernel) (pa_cons (pv 5) pa_nil)) pa_nil))))) pss_nil)
    (pss_cons (ps_if (pt_cmpR op_eq (pv 4) pe_int (nomark _)) (pss_one (ps_ret (pe_tup (pa_cons pe_str (pa_cons (pe_callTy call_tuple_of (by rfl) T_tuple (by decide +kernel) (pa_cons (pv 5) pa_nil)) pa_nil))))) pss_nil)
    (pss_cons (ps_if (PW.pt (pw_or (pt_cmpR op_eq (pv 4) pe_int (nomark _)) (pw_or1 (pt_not (pt_val (pv 3)))))) (pss_one (ps_ret (pe_tup (pa_cons pe_str (pa_cons (pe_op op_add pe_int (pe_c c__law_draw hr (by first | decide | omega) rfl (pa_cons (pv 0) (pa_cons (pe_callB call_len_seq (by rfl) T_len PySem.boot_len (pa_cons (pv 5) pa_nil)) pa_nil)))) (pa_cons (pe_callTy call_tuple_of (by rfl) T_tuple (by decide +kernel) (pa_cons (pv 5) pa_nil)) pa_nil)))))) pss_nil)
    (pss_one (ps_ret (pe_tup (pa_cons pe_str (pa_cons (pe_callTy call_tuple_of (by rfl) T_tuple (by decide +kernel) (pa_cons (pe_lc (own := [("_law_part", 8)]) (by rfl) sc__law_term.nd (pi_list (pv 5)) (blkOk_by (own := [("_law_part", 8)]) (N := ["_law_dice_here", "_law_people_here", "_law_deep", "_law_means", "_law_kind", "_law_parts", "_law_ends", "_law_k", "_law_part"]) (sc := defScope s__law_term) (by decide +kernel)) (fun _ _ _ _ _ => (pg_name (i := 8) sc__law_term.nd rfl (Or.inl rfl))) (fun _ _ _ _ _ => pts_nil) (fun _ _ _ _ _ => (pe_tup (pa_cons (pe_op op_add pe_int (pe_c c__law_draw hr (by first | decide | omega) rfl (pa_cons (pv 0) (pa_cons pe_int pa_nil)))) (pa_cons (pv 8) pa_nil))))) pa_nil)) pa_nil)))))))))))), ?_⟩
      refine ⟨_, rfl, da, 8, rfl, hd, by decide, by decide, fun kind H1 kd0 kd1 d1 e1 => ?_⟩
      have fin : ∀ (v : V) (t : Tm) (H' : Hp), Rp K H' v t.data → Drawn n d t → Dice H' da → KD da.1 H1 H' → Q v H' := fun v t H' a b c e => k v t H' a b c (e1.trans e)
      clear k hd e1
      have nd : ∀ {D : Addr} {H' : Hp}, Dice H' da → H' D = none → D ≠ da.1 ∧ D ≠ da.2 := fun a b => a.ne b
      refine ⟨fun σ H' => σ = [some (.ref da.1), some (.int (n : Int)), some (.int ((d : Int) + 1)), some (.bl m), some (.int kind), none, none, none, none] ∧ H' = H1 ∧ d ≠ 0, ?_, ?_⟩
      · -- a bid or a fixed number
        refine ⟨_, rfl, rfl, _, rfl, ?_⟩
        refine (fun leaf => ite2 (fun _ => leaf) (fun c1 => ⟨_, rfl, rfl, _, rfl, ite2 (fun _ => leaf) (fun c2 => ⟨rfl, rfl, fun z => c1 (decide_eq_true (by rw [z]; rfl))⟩)⟩)) ?_
        refine ⟨_, rfl, da, 5, rfl, d1, by decide, by decide, fun r H2 _ _ d2 e2 => ⟨rfl, _, rfl, ite2 (fun _ => ?_) (fun _ => ?_)⟩⟩
        · refine ⟨_, rfl, da, rfl, d2, fun v q H3 nq rq d3 e3 => ⟨(by show 2 ≤ sizeLine; decide), fun p hp => ?_⟩⟩
          refine fin _ (.fixed q) _ (.tup (SqT.of upd_same) (.cons (.str _) (.cons (rq.mono (Same.kt (same_new hp))).rp .nil))) ⟨nq, by show 1 ≤ d + 1; omega, cB_pos d, fun s => wB_ge s d, fun s => wC_ge s d⟩ (d3.same (same_new hp)) ((e2.trans e3).new hp)
        · refine ⟨_, rfl, _, rfl, da, (n : Int), rfl, d2, by omega, by omega, fun r3 H3 g0 g1 d3 e3 => ⟨(by show 2 ≤ sizeLine; decide), fun p hp => ?_⟩⟩
          have er : ((r3.toNat : Nat) : Int) = r3 := Int.toNat_of_nonneg g0
          refine fin _ (.bid r3.toNat) _ (.tup (SqT.of upd_same) (.cons (.str _) (.cons (by rw [er]; exact .int _) .nil))) ⟨(by show r3.toNat < n; omega), by show 1 ≤ d + 1; omega, cB_pos d, fun s => wB_ge s d, fun s => wC_ge s d⟩ (d3.same (same_new hp)) ((e2.trans e3).new hp)
      · rintro σ H' ⟨rfl, rfl, hd0⟩
        obtain ⟨d', rfl⟩ : ∃ d', d = d' + 1 := ⟨d - 1, by omega⟩
        refine ⟨_, rfl, da, 3, rfl, d1, by decide, by decide, fun r H2 r0 r1 d2 e2 => ⟨_, _, rfl, rfl, _, rfl, by omega, by omega, fun D hD => ?_⟩⟩
        have nD := nd d2 hD
        refine lc_range (lo := 0) (n := (1 + r).toNat) (fun i H' => ∃ (ys : List V) (ts : List Tm), H' D = some (.lst ys) ∧ ts.length = i ∧ RTs K H' ys ts ∧ (∀ t ∈ ts, Drawn n d' t) ∧ Dice H' da ∧ KD da.1 H2 H')
          ⟨[], [], upd_same, rfl, .nil, by simp, d2.same (same_new hD), Same.kd (same_new hD)⟩ ?_ ?_
        · rintro i H' hi ⟨ys, ts, h1, h2, h3, h4, h5, h6⟩
          have ea : ((d' + 1 : Nat) : Int) + 1 - 1 = (d' : Int) + 1 := by omega
          refine ⟨rfl, _, rfl, _, rfl, _, rfl, _, _, rfl, rfl, _, rfl, d', by omega, da, n, m, congrArg (fun z => [V.ref da.1, V.int (n : Int), V.int z, V.bl m]) ea, h5, hn1, hn6, fun v t H3 rt dt d3 e3 => ?_⟩
          have hD3 := e3 D _ nD.1 h1
          refine ⟨ys, hD3, small1000 (by rw [h3.length, h2]; omega), ys ++ [v], ts ++ [t], upd_same, by simp [h2], RpAll.mono (KT.updl hD3) (RTs.snoc (RpAll.mono (h5.kt e3) h3) rt), ?_, d3.upd nD, (h6.trans e3).mut hD⟩
          intro x hx
          rcases List.mem_append.mp hx with h | h
          · exact h4 x h
          · rw [List.mem_singleton.mp h]
            exact dt
        · rintro H3 ⟨ys, ts, h1, h2, h3, h4, d3, e3⟩
          have e13 := e2.trans e3
          obtain ⟨po, pne, pdep, pcnt, pwt, pwt2⟩ := parts_ok h4 (by omega) (by omega)
          have tl : ts.length ≤ 3 := by omega
          have hyl := h3.length
          have tup : ∀ (p : Addr) (H' : Hp), KT H3 H' → H' p = some (.tup ys) → Rp K H' (.ref p) (.tuple (Tm.datas ts)) := fun p H' e hp => .tup (SqT.of hp) (RpAll.mono e h3)
          have drawn : ∀ t : Tm, t.Ok n 20 → t.dep ≤ d' + 1 + 1 → t.cnt ≤ 3 * cB d' + 1 → (∀ s, t.wt s ≤ 3 * (wB s d' + 8) + 12 + 2 * s) → (∀ s, t.wt s ≤ max (3 * (wC s d' + 8) + 12) (wC s d' + 2 * s)) → Drawn n (d' + 1) t := fun t a b c e e2 => ⟨a, b, by show _ ≤ 1 + 3 * cB d'; omega, e, e2⟩
          -- between
          refine ⟨_, rfl, rfl, _, rfl, ite2 (fun _ => ?_) (fun _ => ?_)⟩
          · refine ⟨_, rfl, da, rfl, d3, fun v1 q1 H4 nq1 rq1 d4 e4 => ⟨_, rfl, da, rfl, d4, fun v2 q2 H5 nq2 rq2 d5 e5 => ⟨(by show 2 ≤ sizeLine; decide), fun p hp => ?_⟩⟩⟩
            have s6 := same_new (o := .lst [v1, v2]) hp
            have rq1' := (rq1.mono (d4.kt e5)).mono (Same.kt s6)
            have rq2' := rq2.mono (Same.kt s6)
            refine ⟨p, [v1, v2], [q1, q2], rfl, SqL.of upd_same, .cons rq1'.rp (.cons rq2'.rp .nil), ?_, by show 2 ≤ 100; decide, fun pl zs H6 hpl s7 hz rz => ?_⟩
            · intro q hq
              rcases List.mem_cons.mp hq with h | h
              · rw [h]; exact nq1.2.2.mono (by omega)
              · rw [List.mem_singleton.mp h]; exact nq2.2.2.mono (by omega)
            have all : ∀ q ∈ isort [q1, q2], NumOk 20 q := by
              intro q hq
              rcases List.mem_cons.mp ((isort_perm [q1, q2]).mem_iff.mp hq) with h | h
              · rw [h]; exact nq1
              · rw [List.mem_singleton.mp h]; exact nq2
            have hlen : (isort [q1, q2]).length = 2 := isort_length _
            obtain ⟨lo, hlo⟩ : ∃ lo, (isort [q1, q2])[0]? = some lo := ⟨_, List.getElem?_eq_getElem (by omega)⟩
            obtain ⟨hi, hhi⟩ : ∃ hi, (isort [q1, q2])[1]? = some hi := ⟨_, List.getElem?_eq_getElem (by omega)⟩
            obtain ⟨u0, z0, ru0⟩ := RQ.get rz hlo
            obtain ⟨u1, z1, ru1⟩ := RQ.get rz hhi
            obtain ⟨t0, ht0⟩ : ∃ t0, ts[0]? = some t0 := ⟨_, List.getElem?_eq_getElem (by omega)⟩
            have e35 : KD da.1 H3 H5 := e4.trans e5
            have kt35 : KT H3 H6 := ((d3.kt e4).trans (d4.kt e5)).trans (Same.kt (s6.trans s7))
            have hD6 : H6 D = some (.lst ys) := (s6.trans s7) D _ (e35 D _ nD.1 h1)
            obtain ⟨w0, y0, rw0⟩ := h3.get ht0
            refine ⟨_, rfl, _, _, _, _, rfl, rfl, SqL.of hz, at_of (j := 0) rfl z0, _, rfl, _, _, _, _, rfl, rfl, SqL.of hz, at_of (j := 1) rfl z1, _, rfl, _, _, _, _, rfl, rfl, SqL.of hD6, at_of (j := 0) rfl y0, (by show 4 ≤ sizeLine; decide), fun p4 hp4 => ?_⟩
            have s8 := same_new (o := .tup [.str "between", u0, u1, w0]) hp4
            have mt0 := List.mem_of_getElem? ht0
            have g0 := h4 t0 mt0
            refine fin _ (.between lo hi t0) _ (.tup (SqT.of upd_same) (.cons (.str _) (.cons (ru0.mono (Same.kt s8)).rp (.cons (ru1.mono (Same.kt s8)).rp (.cons ((rw0.mono kt35).mono (Same.kt s8)) .nil))))) ?_ (((d5.same s6).same s7).same s8) ((((e13.trans e35).trans (Same.kd (s6.trans s7))).new hp4))
            refine drawn _ ⟨all lo (List.mem_of_getElem? hlo), all hi (List.mem_of_getElem? hhi), srt_get_le (isort_srt _) hlo hhi (by omega), g0.ok⟩ ?_ ?_ ?_ ?_
            · show t0.dep + 1 ≤ _
              have := g0.dep
              omega
            · show t0.cnt + 1 ≤ _
              have := g0.cnt
              have := cB_pos d'
              omega
            · intro s
              show t0.wt s + s + s ≤ _
              have := g0.wt s
              omega
            · intro s
              show t0.wt s + s + s ≤ _
              have := g0.wt2 s
              omega
          -- least
          refine ⟨_, rfl, rfl, _, rfl, ite2 (fun _ => ?_) (fun _ => ?_)⟩
          · refine ⟨_, rfl, D, ys, rfl, .inl ⟨SqL.of h1, fun l hl => ⟨(by show 2 ≤ sizeLine; decide), fun p hp => ?_⟩⟩⟩
            have s4 := same_new (o := .tup ys) hl
            have s5 := same_new (o := .tup [.str "least", .ref l]) hp
            refine fin _ (.least ts) _ (.tup (SqT.of upd_same) (.cons (.str _) (.cons (tup l _ (Same.kt (s4.trans s5)) (s5 _ _ upd_same)) .nil))) ?_ (d3.same (s4.trans s5)) (e13.trans (Same.kd (s4.trans s5)))
            exact drawn _ ⟨pne, by omega, po⟩ (by show Tm.deps ts + 1 ≤ _; omega) (by show Tm.cnts ts + 1 ≤ _; omega) (fun s => by show Tm.wts s ts ≤ _; have := pwt s; omega) (fun s => by show Tm.wts s ts ≤ _; have := pwt2 s; omega)
          refine ⟨_, rfl, rfl, _, rfl, ite2 (fun _ => ?_) (fun _ => ?_)⟩
          · refine ⟨_, rfl, D, ys, rfl, .inl ⟨SqL.of h1, fun l hl => ⟨(by show 2 ≤ sizeLine; decide), fun p hp => ?_⟩⟩⟩
            have s4 := same_new (o := .tup ys) hl
            have s5 := same_new (o := .tup [.str "greatest", .ref l]) hp
            refine fin _ (.greatest ts) _ (.tup (SqT.of upd_same) (.cons (.str _) (.cons (tup l _ (Same.kt (s4.trans s5)) (s5 _ _ upd_same)) .nil))) ?_ (d3.same (s4.trans s5)) (e13.trans (Same.kd (s4.trans s5)))
            exact drawn _ ⟨pne, by omega, po⟩ (by show Tm.deps ts + 1 ≤ _; omega) (by show Tm.cnts ts + 1 ≤ _; omega) (fun s => by show Tm.wts s ts ≤ _; have := pwt s; omega) (fun s => by show Tm.wts s ts ≤ _; have := pwt2 s; omega)
          -- ranked
          refine ⟨_, rfl, rfl, _, rfl, ?_⟩
          refine (fun rank => ite2 (fun _ => rank) (fun _ => ⟨_, rfl, _, rfl, ite2 (fun _ => rank) (fun _ => ?mean)⟩)) ?rank
          case mean =>
            -- mean
            refine ⟨_, rfl, D, rfl, ⟨_, SqL.of h1⟩, fun D2 hD2 => ?_⟩
            have nD2 := nd d3 hD2
            have nDD : D ≠ D2 := ne_of_none h1 hD2
            refine lc_list (K := K) (a := D) (xs := ys) (fun i H' => ∃ (zs : List V) (ws : List Int), H' D2 = some (.lst zs) ∧ ws.length = i ∧ RpAll K H' zs (meanD ws (Tm.datas (ts.take i))) ∧ (∀ w ∈ ws, 1 ≤ w ∧ w ≤ 99) ∧ Dice H' da ∧ KD da.1 H3 H' ∧ H' D = some (.lst ys))
              ⟨[], [], upd_same, rfl, .nil, by simp, d3.same (same_new hD2), Same.kd (same_new hD2), by rw [upd_ne nDD]; exact h1⟩ (fun i H' _ ⟨_, _, _, _, _, _, _, _, g⟩ => SqL.of g) ?_ ?_
            · rintro i y H' hi ⟨zs, ws, g1, g2, g3, g4, g5, g6, g7⟩
              obtain ⟨t, ht, rt⟩ := h3.getV hi
              refine ⟨rfl, _, rfl, da, 5, rfl, g5, by decide, by decide, fun x H5 x0 x1 d5 e5 => ⟨_, _, rfl, rfl, _, rfl, (by show 2 ≤ sizeLine; decide), fun p hp => ?_⟩⟩
              have s6 := same_new (o := .tup [.int (1 + x), y]) hp
              have hD5 := e5 D2 _ nD2.1 g1
              have hD6 := s6 _ _ hD5
              have kt36 : KT H3 H5 := (d3.kt g6).trans (g5.kt e5)
              have zl : zs.length ≤ 3 := by
                rw [g3.length]
                unfold meanD
                rw [List.length_zipWith, g2]
                have := (List.getElem?_eq_some_iff.mp hi).1
                omega
              have nDp : D ≠ p := ne_of_none (e5 D _ nD.1 g7) hp
              refine ⟨zs, hD6, small1000 (by omega), zs ++ [.ref p], ws ++ [1 + x], upd_same, by simp [g2], ?_, ?_, (d5.same s6).upd nD2, ((g6.trans e5).trans (Same.kd s6)).mut hD2, ?_⟩
              · refine RpAll.mono (KT.updl hD6) ?_
                have e1 : ts.take (i + 1) = ts.take i ++ [t] := take_succ' ht
                have e2 : meanD (ws ++ [1 + x]) (Tm.datas (ts.take (i + 1))) = meanD ws (Tm.datas (ts.take i)) ++ [.tuple [.int (1 + x), t.data]] := by
                  rw [e1, datas_map, datas_map, List.map_append]
                  unfold meanD
                  rw [List.zipWith_append]
                  · rfl
                  · rw [List.length_map, List.length_take, g2]
                    have := (List.getElem?_eq_some_iff.mp ht).1
                    omega
                rw [e2]
                exact RpAll.append (RpAll.mono ((g5.kt e5).trans (Same.kt s6)) g3) (.cons (.tup (SqT.of upd_same) (.cons (.int _) (.cons ((rt.mono kt36).mono (Same.kt s6)) .nil))) .nil)
              · intro w hw
                rcases List.mem_append.mp hw with h | h
                · exact g4 w h
                · rw [List.mem_singleton.mp h]
                  omega
              · rw [upd_ne nDD]
                exact s6 _ _ (e5 D _ nD.1 g7)
            · rintro H4 ⟨zs, ws, g1, g2, g3, g4, d4, e4, g7⟩
              rw [hyl, List.take_length] at g3
              refine ⟨D2, zs, rfl, .inl ⟨SqL.of g1, fun l hl => ⟨(by show 2 ≤ sizeLine; decide), fun p hp => ?_⟩⟩⟩
              have s4 := same_new (o := .tup zs) hl
              have s5 := same_new (o := .tup [.str "mean", .ref l]) hp
              refine fin _ (.mean ws ts) _ (.tup (SqT.of upd_same) (.cons (.str _) (.cons (.tup (SqT.of (s5 _ _ upd_same)) (RpAll.mono (Same.kt (s4.trans s5)) g3)) .nil))) ?_ (d4.same (s4.trans s5)) ((e13.trans e4).trans (Same.kd (s4.trans s5)))
              exact drawn _ ⟨by rw [g2, hyl], pne, by omega, g4, po⟩ (by show Tm.deps ts + 1 ≤ _; omega) (by show Tm.cnts ts + 1 ≤ _; omega) (fun s => by show Tm.wts s ts + 12 ≤ _; have := pwt s; omega) (fun s => by show Tm.wts s ts + 12 ≤ _; have := pwt2 s; omega)
          case rank =>
            refine ⟨_, rfl, _, rfl, D, ys, rfl, .inl (SqL.of h1), da, (ys.length : Int), rfl, d3, by omega, by omega, fun x H4 x0 x1 d4 e4 => ⟨_, _, rfl, rfl, _, rfl, D, ys, rfl, .inl ⟨SqL.of (e4 D _ nD.1 h1), fun l hl => ⟨(by show 3 ≤ sizeLine; decide), fun p hp => ?_⟩⟩⟩⟩
            have s4 := same_new (o := .tup ys) hl
            have s5 := same_new (o := .tup [.str "ranked", .int (1 + x), .ref l]) hp
            have er : (((1 + x).toNat : Nat) : Int) = 1 + x := Int.toNat_of_nonneg (by omega)
            refine fin _ (.ranked (1 + x).toNat ts) _ (.tup (SqT.of upd_same) (.cons (.str _) (.cons (by rw [er]; exact .int _) (.cons (tup l _ ((d3.kt e4).trans (Same.kt (s4.trans s5))) (s5 _ _ upd_same)) .nil)))) ?_ (d4.same (s4.trans s5)) ((e13.trans e4).trans (Same.kd (s4.trans s5)))
            exact drawn _ ⟨by omega, by omega, by omega, po⟩ (by show Tm.deps ts + 1 ≤ _; omega) (by show Tm.cnts ts + 1 ≤ _; omega) (fun s => by show Tm.wts s ts ≤ _; have := pwt s; omega) (fun s => by show Tm.wts s ts ≤ _; have := pwt2 s; omega)
end
end CB

set_option Elab.async false
set_option linter.all false
set_option maxRecDepth 100000
set_option maxHeartbeats 4000000
namespace CB
open PySem PySem.Spec PyProof.Rows L2
open C8 (Cal Met Mak pe_c pe_mk pe_mt pe_mt0 pe_gc CalAt)
section
variable {P : Program} {w : World} {K : PySem.W.Frag} {mg : Str → Option Value} {base : Heap}
/-- a drawn rule's term: small enough to be constructed -/
structure RuleTm (n : Nat) (t : Tm) : Prop where
  ok : t.Ok n 20
  dep : t.dep ≤ 8
  cnt : t.cnt ≤ 60
  wt : ∀ s, t.wt s ≤ 59 * s + 556
def sp__law_rule_parts (K : PySem.W.Frag) : Sp := fun vs H Q _ => ∃ (da : Addr × Addr) (most : Nat), vs = [.ref da.1, .int (most : Int)] ∧ Dice H da ∧ 1 ≤ most ∧ most ≤ 6 ∧
  ∀ (v : V) (n : Nat) (t : Tm) (H' : Hp), 1 ≤ n → n ≤ most → Rp K H' v (.tuple [.int (n : Int), t.data]) → RuleTm n t → Dice H' da → KD da.1 H H' → Q v H'
def bidsOf (n : Nat) : List Tm := (List.range n).map Tm.bid
theorem oks_bids {n m s : Nat} (h : m ≤ n) : Tm.Oks n s (bidsOf m) := (oks_iff _ _ _).mpr fun t ht => by
  obtain ⟨p, hp, rfl⟩ := List.mem_map.mp ht
  have := List.mem_range.mp hp
  show p < n
  omega
theorem bidsOf_length (n : Nat) : (bidsOf n).length = n := by simp [bidsOf]
theorem bids_dep (n : Nat) : Tm.deps (bidsOf n) ≤ 1 := deps_le fun t ht => by
  obtain ⟨p, hp, rfl⟩ := List.mem_map.mp ht
  exact Nat.le_refl _
theorem bids_cnt (n : Nat) : Tm.cnts (bidsOf n) ≤ n := by
  have := cnts_le (c := 1) (ts := bidsOf n) fun t ht => by
    obtain ⟨p, hp, rfl⟩ := List.mem_map.mp ht
    exact Nat.le_refl _
  rw [bidsOf_length] at this
  omega
theorem bids_wt (n s : Nat) : Tm.wts s (bidsOf n) ≤ n * (s + 8) := by
  have := wts_le (s := s) (c := s) (ts := bidsOf n) fun t ht => by
    obtain ⟨p, hp, rfl⟩ := List.mem_map.mp ht
    exact Nat.le_refl _
  rw [bidsOf_length] at this
  exact this
end
end CB

set_option Elab.async false
set_option linter.all false
set_option maxRecDepth 100000
set_option maxHeartbeats 4000000
namespace CB
open PySem PySem.Spec PyProof.Rows L2
open C8 (Cal Met Mak pe_c pe_mk pe_mt pe_mt0 pe_gc CalAt)
section
variable {P : Program} {w : World} {K : PySem.W.Frag} {mg : Str → Option Value} {base : Heap}
abbrev n_is_integer : List Str := ["thing"]
theorem sc_is_integer : FnScope ["thing"] ["thing"] (defScope s_is_integer) := ⟨rfl, rfl, rfl, by decide +kernel, rfl, by decide +kernel, by decide +kernel⟩
def sp_is_integer : Sp := fun vs H Q _ => ∃ i : Int, vs = [.int i] ∧ Q (.bl true) H
theorem ok_is_integer (F : FnD K mg "is_integer" s_is_integer) (T_isinstance : mg "isinstance" = none) (T_int : mg "int" = none) (T_bool : mg "bool" = none) : Cal P w K mg base 1 "is_integer" sp_is_integer [] := by
  refine calOf F sc_is_integer (fun _ _ _ _ _ _ us hl => match us, hl with | [_], _ => rfl) (fun vs H Q E h => ?_) (fun cdv f A outer s H vs Q E hr h => ?_)
  · obtain ⟨_, rfl, _⟩ := h
    rfl
  · obtain ⟨i, rfl, k⟩ := h
    refine ⟨_, (pss_one (ps_ret (pe_and (pe_callB call_isi (by rfl) T_isinstance (by decide +kernel) (pa_cons (pv 0) (pa_cons (pe_ty (n := "int") (by rfl) T_int (by decide +kernel)) pa_nil))) (pe_one (pe_not (pe_callB call_isi (by rfl) T_isinstance (by decide +kernel) (pa_cons (pv 0) (pa_cons (pe_ty (n := "bool") (by rfl) T_bool (by decide +kernel)) pa_nil)))))))), ?_⟩
    exact ⟨_, rfl, _, _, _, _, true, rfl, .ty _, .base (.int i), kit_ty (by decide +kernel), _, rfl, _, rfl, _, _, _, _, false, rfl, .ty _, .base (.int i), kit_ty (by decide +kernel), _, rfl, k⟩
abbrev n_is_number : List Str := ["thing", "top", "bottom"]
theorem sc_is_number : FnScope ["thing", "top", "bottom"] ["thing"] (defScope s_is_number) := ⟨rfl, rfl, rfl, by decide +kernel, rfl, by decide +kernel, by decide +kernel⟩
def sp_is_number (K : PySem.W.Frag) : Sp := fun vs H Q _ => ∃ (v : V) (q : Rat), vs = [v] ∧ RF K H v q ∧ 0 ≤ q ∧ q ≤ 1 ∧ Q (.bl true) H
theorem num_facts {q : Rat} (h0 : 0 ≤ q) (h1 : q ≤ 1) : 0 ≤ q.num ∧ q.num ≤ (q.den : Int) := by
  have a := (Rat.le_iff 0 q).mp h0
  have b := (Rat.le_iff q 1).mp h1
  have ea : (0 : Rat).num = 0 := rfl
  have eb : (0 : Rat).den = 1 := rfl
  have ec : (1 : Rat).num = 1 := rfl
  have ed : (1 : Rat).den = 1 := rfl
  rw [ea, eb] at a
  rw [ec, ed] at b
  omega
theorem ok_is_number (F : FnD K mg "is_number" s_is_number) (c_is_integer : Cal P w K mg base 1 "is_integer" sp_is_integer []) (T_isinstance : mg "isinstance" = none) (T_tuple : mg "tuple" = none) (T_len : mg "len" = none) (g_gcd : mg "gcd" = some (.builtin "math.gcd")) : Cal P w K mg base 2 "is_number" (sp_is_number K) [] := by
  refine calOf F sc_is_number (fun _ _ _ _ _ _ us hl => match us, hl with | [_], _ => rfl) (fun vs H Q E h => ?_) (fun cdv f A outer s H vs Q E hr h => ?_)
  · obtain ⟨_, _, rfl, _⟩ := h
    rfl
  · obtain ⟨v, q, rfl, ⟨p, rfl, hp⟩, h0, h1, k⟩ := h
    obtain ⟨n0, n1⟩ := num_facts h0 h1
    have dp := den_pos q
    have red : Nat.gcd q.num.natAbs ((q.den : Int)).natAbs = 1 := q.reduced
    refine ⟨_, (pss_cons (ps_if (pt_not (PW.pt (pw_and (pt_val (pe_callB call_isi (by rfl) T_isinstance (by decide +kernel) (pa_cons (pv 0) (pa_cons (pe_ty (n := "tuple") (by rfl) T_tuple (by decide +kernel)) pa_nil)))) (pw_and1 (pt_cmpR op_eq (pe_callB call_len_seq (by rfl) T_len PySem.boot_len (pa_cons (pv 0) pa_nil)) pe_int (nomark _)))))) (pss_one (ps_ret pe_bl)) pss_nil)
    (pss_cons (ps_asg (pv 0) (pg_tup rfl (pgs_cons (pg_name (i := 1) sc_is_number.nd rfl (Or.inl rfl)) (pgs_cons (pg_name (i := 2) sc_is_number.nd rfl (Or.inl rfl)) pgs_nil))))
    (pss_cons (ps_if (pt_not (PW.pt (pw_and (pt_val (pe_c c_is_integer hr (by first | decide | omega) rfl (pa_cons (pv 1) pa_nil))) (pw_and1 (pt_val (pe_c c_is_integer hr (by first | decide | omega) rfl (pa_cons (pv 2) pa_nil))))))) (pss_one (ps_ret pe_bl)) pss_nil)
    (pss_one (ps_ret (pe_and (pe_cmpR op_ge (pv 2) pe_int (nomark _)) (pe_and (pe_chain op_le op_le pe_int (pv 1) (pv 2)) (pe_one (pe_cmpR op_eq (pe_callBfun cr_gcd (by rfl) g_gcd (pa_cons (pv 1) (pa_cons (pv 2) pa_nil))) pe_int (nomark _)))))))))), ?_⟩
    refine ⟨_, rfl, _, _, _, _, true, rfl, .ty _, tyT hp, kit_ty (by decide +kernel), _, rfl, _, rfl, p, _, rfl, .inr hp, rfl, _, rfl, ?_⟩
    refine ⟨_, rfl, p, _, rfl, hp, rfl, _, _, rfl, _, _, rfl, rfl, ?_⟩
    refine ⟨_, rfl, _, rfl, _, rfl, _, rfl, _, rfl, _, rfl, ?_⟩
    refine ⟨_, rfl, _, _, rfl, rfl, _, rfl, ite2 (fun _ => ?_) (fun c => absurd (decide_eq_true (show (1 : Int) ≤ (q.den : Int) by omega)) c)⟩
    refine ⟨_, rfl, _, _, rfl, rfl, _, rfl, ite2 (fun _ => ?_) (fun c => absurd (decide_eq_true n0) c)⟩
    refine ⟨_, rfl, _, _, rfl, rfl, _, rfl, ite2 (fun _ => ?_) (fun c => absurd (decide_eq_true n1) c)⟩
    refine ⟨_, rfl, _, rfl, _, _, rfl, rfl, ?_⟩
    rw [red]
    exact k
abbrev n_is_person : List Str := ["thing", "people"]
theorem sc_is_person : FnScope ["thing", "people"] ["thing", "people"] (defScope s_is_person) := ⟨rfl, rfl, rfl, by decide +kernel, rfl, by decide +kernel, by decide +kernel⟩
def sp_is_person : Sp := fun vs H Q _ => ∃ p n : Int, vs = [.int p, .int n] ∧ 0 ≤ p ∧ p < n ∧ Q (.bl true) H
theorem ok_is_person (F : FnD K mg "is_person" s_is_person) (c_is_integer : Cal P w K mg base 1 "is_integer" sp_is_integer []) : Cal P w K mg base 2 "is_person" sp_is_person [] := by
  refine calOf F sc_is_person (fun _ _ _ _ _ _ us hl => match us, hl with | [_, _], _ => rfl) (fun vs H Q E h => ?_) (fun cdv f A outer s H vs Q E hr h => ?_)
  · obtain ⟨_, _, rfl, _⟩ := h
    rfl
  · obtain ⟨p, n, rfl, h0, h1, k⟩ := h
    refine ⟨_, (pss_one (ps_ret (pe_and (pe_c c_is_integer hr (by first | decide | omega) rfl (pa_cons (pv 0) pa_nil)) (pe_one (pe_chain op_le op_lt pe_int (pv 0) (pv 1)))))), ?_⟩
    refine ⟨_, rfl, _, rfl, _, rfl, _, rfl, _, _, rfl, rfl, _, rfl, ite2 (fun _ => ?_) (fun c => absurd (decide_eq_true h0) c)⟩
    refine ⟨_, rfl, _, _, rfl, rfl, ?_⟩
    show Q (V.bl (decide (p < n))) H
    rw [decide_eq_true h1]
    exact k
abbrev n_is_weight : List Str := ["thing"]
theorem sc_is_weight : FnScope ["thing"] ["thing"] (defScope s_is_weight) := ⟨rfl, rfl, rfl, by decide +kernel, rfl, by decide +kernel, by decide +kernel⟩
def sp_is_weight : Sp := fun vs H Q _ => ∃ p : Int, vs = [.int p] ∧ 1 ≤ p ∧ p ≤ 99 ∧ Q (.bl true) H
theorem ok_is_weight (F : FnD K mg "is_weight" s_is_weight) (c_is_integer : Cal P w K mg base 1 "is_integer" sp_is_integer []) (g_MOST_WEIGHT : ∃ u, mg "MOST_WEIGHT" = some u ∧ RelV (.int 99) u) : Cal P w K mg base 2 "is_weight" sp_is_weight [] := by
  refine calOf F sc_is_weight (fun _ _ _ _ _ _ us hl => match us, hl with | [_], _ => rfl) (fun vs H Q E h => ?_) (fun cdv f A outer s H vs Q E hr h => ?_)
  · obtain ⟨_, rfl, _⟩ := h
    rfl
  · obtain ⟨p, rfl, h0, h1, k⟩ := h
    refine ⟨_, (pss_one (ps_ret (pe_and (pe_c c_is_integer hr (by first | decide | omega) rfl (pa_cons (pv 0) pa_nil)) (pe_one (pe_chain op_le op_le pe_int (pv 0) (pe_gc rfl g_MOST_WEIGHT)))))), ?_⟩
    refine ⟨_, rfl, _, rfl, _, rfl, _, rfl, _, _, rfl, rfl, _, rfl, ite2 (fun _ => ?_) (fun c => absurd (decide_eq_true h0) c)⟩
    refine ⟨_, _, rfl, rfl, ?_⟩
    show Q (V.bl (decide (p ≤ 99))) H
    rw [decide_eq_true h1]
    exact k
abbrev n_is_weighted : List Str := ["thing"]
theorem sc_is_weighted : FnScope ["thing"] ["thing"] (defScope s_is_weighted) := ⟨rfl, rfl, rfl, by decide +kernel, rfl, by decide +kernel, by decide +kernel⟩
def sp_is_weighted (K : PySem.W.Frag) : Sp := fun vs H Q _ => ∃ (a : Addr) (p : Int) (x : V), vs = [.ref a] ∧ SqT K H a [.int p, x] ∧ 1 ≤ p ∧ p ≤ 99 ∧ Q (.bl true) H
theorem ok_is_weighted (F : FnD K mg "is_weighted" s_is_weighted) (c_is_weight : Cal P w K mg base 2 "is_weight" sp_is_weight []) (T_isinstance : mg "isinstance" = none) (T_tuple : mg "tuple" = none) (T_len : mg "len" = none) : Cal P w K mg base 3 "is_weighted" (sp_is_weighted K) [] := by
  refine calOf F sc_is_weighted (fun _ _ _ _ _ _ us hl => match us, hl with | [_], _ => rfl) (fun vs H Q E h => ?_) (fun cdv f A outer s H vs Q E hr h => ?_)
  · obtain ⟨_, _, _, rfl, _⟩ := h
    rfl
  · obtain ⟨a, p, x, rfl, ha, h0, h1, k⟩ := h
    refine ⟨_, (pss_one (ps_ret (pe_and (pe_callB call_isi (by rfl) T_isinstance (by decide +kernel) (pa_cons (pv 0) (pa_cons (pe_ty (n := "tuple") (by rfl) T_tuple (by decide +kernel)) pa_nil))) (pe_and (pe_cmpR op_eq (pe_callB call_len_seq (by rfl) T_len PySem.boot_len (pa_cons (pv 0) pa_nil)) pe_int (nomark _)) (pe_one (pe_c c_is_weight hr (by first | decide | omega) rfl (pa_cons (pe_ix ix_tup (pv 0) pe_int (fun _ _ => rfl)) pa_nil))))))), ?_⟩
    exact ⟨_, rfl, _, _, _, _, true, rfl, .ty _, tyT ha, kit_ty (by decide +kernel), _, rfl, _, rfl, a, _, rfl, .inr ha, rfl, _, rfl, _, rfl, _, _, _, _, rfl, rfl, ha, rfl, p, rfl, h0, h1, k⟩
abbrev n_are_some : List Str := ["thing"]
theorem sc_are_some : FnScope ["thing"] ["thing"] (defScope s_are_some) := ⟨rfl, rfl, rfl, by decide +kernel, rfl, by decide +kernel, by decide +kernel⟩
def sp_are_some (K : PySem.W.Frag) : Sp := fun vs H Q _ => ∃ (a : Addr) (xs : List V), vs = [.ref a] ∧ SqT K H a xs ∧ 1 ≤ xs.length ∧ xs.length ≤ 8 ∧ Q (.bl true) H
theorem ok_are_some (F : FnD K mg "are_some" s_are_some) (T_isinstance : mg "isinstance" = none) (T_tuple : mg "tuple" = none) (T_len : mg "len" = none) (g_MOST_PARTS : ∃ u, mg "MOST_PARTS" = some u ∧ RelV (.int 8) u) : Cal P w K mg base 1 "are_some" (sp_are_some K) [] := by
  refine calOf F sc_are_some (fun _ _ _ _ _ _ us hl => match us, hl with | [_], _ => rfl) (fun vs H Q E h => ?_) (fun cdv f A outer s H vs Q E hr h => ?_)
  · obtain ⟨_, _, rfl, _⟩ := h
    rfl
  · obtain ⟨a, xs, rfl, ha, h0, h1, k⟩ := h
    refine ⟨_, (pss_one (ps_ret (pe_and (pe_callB call_isi (by rfl) T_isinstance (by decide +kernel) (pa_cons (pv 0) (pa_cons (pe_ty (n := "tuple") (by rfl) T_tuple (by decide +kernel)) pa_nil))) (pe_one (pe_chain op_le op_le pe_int (pe_callB call_len_seq (by rfl) T_len PySem.boot_len (pa_cons (pv 0) pa_nil)) (pe_gc rfl g_MOST_PARTS)))))), ?_⟩
    refine ⟨_, rfl, _, _, _, _, true, rfl, .ty _, tyT ha, kit_ty (by decide +kernel), _, rfl, _, rfl, a, _, rfl, .inr ha, _, _, rfl, rfl, _, rfl, ite2 (fun _ => ?_) (fun c => absurd (decide_eq_true (show (1 : Int) ≤ (xs.length : Int) by omega)) c)⟩
    refine ⟨_, _, rfl, rfl, ?_⟩
    show Q (V.bl (decide ((xs.length : Int) ≤ 8))) H
    rw [decide_eq_true (show (xs.length : Int) ≤ 8 by omega)]
    exact k
abbrev n_are_bounds : List Str := ["low", "high"]
theorem sc_are_bounds : FnScope ["low", "high"] ["low", "high"] (defScope s_are_bounds) := ⟨rfl, rfl, rfl, by decide +kernel, rfl, by decide +kernel, by decide +kernel⟩
def sp_are_bounds (K : PySem.W.Frag) : Sp := fun vs H Q _ => ∃ (v1 v2 : V) (a b : Rat) (s : Nat), vs = [v1, v2] ∧ RF K H v1 a ∧ RF K H v2 b ∧ NumOk s a ∧ NumOk s b ∧ a ≤ b ∧ s ≤ 9000 ∧ Q (.bl true) H
theorem ok_are_bounds (F : FnD K mg "are_bounds" s_are_bounds) (c_is_number : Cal P w K mg base 2 "is_number" (sp_is_number K) []) (c_is_less : Cal P w K mg base 1 "is_less" (sp_is_less K) []) : Cal P w K mg base 3 "are_bounds" (sp_are_bounds K) [] := by
  refine calOf F sc_are_bounds (fun _ _ _ _ _ _ us hl => match us, hl with | [_, _], _ => rfl) (fun vs H Q E h => ?_) (fun cdv f A outer s H vs Q E hr h => ?_)
  · obtain ⟨_, _, _, _, _, rfl, _⟩ := h
    rfl
  · obtain ⟨v1, v2, a, b, sz, rfl, r1, r2, na, nb, hab, hs, k⟩ := h
    refine ⟨_, (pss_one (ps_ret (pe_and (pe_c c_is_number hr (by first | decide | omega) rfl (pa_cons (pv 0) pa_nil)) (pe_and (pe_c c_is_number hr (by first | decide | omega) rfl (pa_cons (pv 1) pa_nil)) (pe_one (pe_not (pe_c c_is_less hr (by first | decide | omega) rfl (pa_cons (pv 1) (pa_cons (pv 0) pa_nil))))))))), ?_⟩
    refine ⟨_, rfl, v1, a, rfl, r1, na.1, na.2.1, _, rfl, _, rfl, v2, b, rfl, r2, nb.1, nb.2.1, _, rfl, _, rfl, _, rfl, v2, v1, b, a, sz, sz, rfl, r2, r1, nb.2.2, na.2.2, by omega, _, rfl, ?_⟩
    rw [decide_eq_false (by grind)]
    exact k
end
end CB

set_option Elab.async false
set_option linter.all false
set_option maxRecDepth 100000
set_option maxHeartbeats 4000000
namespace CB
open PySem PySem.Spec PyProof.Rows L2
open C8 (Cal Met Mak pe_c pe_mk pe_mt pe_mt0 pe_gc CalAt)
section
variable {P : Program} {w : World} {K : PySem.W.Frag} {mg : Str → Option Value} {base : Heap}
/-! ### how terms stand -/
theorem rp1 {H : Hp} {v : V} {d1 : PyData} (h : Rp K H v (.tuple [d1])) : ∃ a x, v = .ref a ∧ SqT K H a [x] ∧ Rp K H x d1 := by
  obtain ⟨a, xs, rfl, h1, h2⟩ := h.tupI
  obtain ⟨x, r, rfl, h3, h4⟩ := h2.consI
  have e := h4.nilI
  subst e
  exact ⟨a, x, rfl, h1, h3⟩
theorem rp2 {H : Hp} {v : V} {d1 d2 : PyData} (h : Rp K H v (.tuple [d1, d2])) : ∃ a x y, v = .ref a ∧ SqT K H a [x, y] ∧ Rp K H x d1 ∧ Rp K H y d2 := by
  obtain ⟨a, xs, rfl, h1, h2⟩ := h.tupI
  obtain ⟨x, r, rfl, h3, h4⟩ := h2.consI
  obtain ⟨y, r2, rfl, h5, h6⟩ := h4.consI
  have e := h6.nilI
  subst e
  exact ⟨a, x, y, rfl, h1, h3, h5⟩
theorem rp3 {H : Hp} {v : V} {d1 d2 d3 : PyData} (h : Rp K H v (.tuple [d1, d2, d3])) : ∃ a x y z, v = .ref a ∧ SqT K H a [x, y, z] ∧ Rp K H x d1 ∧ Rp K H y d2 ∧ Rp K H z d3 := by
  obtain ⟨a, xs, rfl, h1, h2⟩ := h.tupI
  obtain ⟨x, r, rfl, h3, h4⟩ := h2.consI
  obtain ⟨y, r2, rfl, h5, h6⟩ := h4.consI
  obtain ⟨z, r3, rfl, h7, h8⟩ := h6.consI
  have e := h8.nilI
  subst e
  exact ⟨a, x, y, z, rfl, h1, h3, h5, h7⟩
theorem rp4 {H : Hp} {v : V} {d1 d2 d3 d4 : PyData} (h : Rp K H v (.tuple [d1, d2, d3, d4])) : ∃ a x y z u, v = .ref a ∧ SqT K H a [x, y, z, u] ∧ Rp K H x d1 ∧ Rp K H y d2 ∧ Rp K H z d3 ∧ Rp K H u d4 := by
  obtain ⟨a, xs, rfl, h1, h2⟩ := h.tupI
  obtain ⟨x, r, rfl, h3, h4⟩ := h2.consI
  obtain ⟨y, r2, rfl, h5, h6⟩ := h4.consI
  obtain ⟨z, r3, rfl, h7, h8⟩ := h6.consI
  obtain ⟨u, r4, rfl, h9, h10⟩ := h8.consI
  have e := h10.nilI
  subst e
  exact ⟨a, x, y, z, u, rfl, h1, h3, h5, h7, h9⟩
theorem t_bid {H : Hp} {v : V} {p : Nat} (h : Rp K H v (Tm.bid p).data) : ∃ a, v = .ref a ∧ SqT K H a [.str "bid", .int (p : Int)] := by
  obtain ⟨a, x, y, rfl, h1, h2, h3⟩ := rp2 h
  have e1 := h2.strI; have e2 := h3.intI
  subst e1 e2
  exact ⟨a, rfl, h1⟩
theorem t_fixed {H : Hp} {v : V} {q : Rat} (h : Rp K H v (Tm.fixed q).data) : ∃ a x, v = .ref a ∧ SqT K H a [.str "fixed", x] ∧ RF K H x q := by
  obtain ⟨a, x, y, rfl, h1, h2, h3⟩ := rp2 h
  have e1 := h2.strI
  subst e1
  exact ⟨a, y, rfl, h1, PF.of h3⟩
theorem t_mean {H : Hp} {v : V} {ws : List Int} {ts : List Tm} (h : Rp K H v (Tm.mean ws ts).data) : ∃ a b us, v = .ref a ∧ SqT K H a [.str "mean", .ref b] ∧ SqT K H b us ∧ RpAll K H us (meanD ws (Tm.datas ts)) := by
  obtain ⟨a, x, y, rfl, h1, h2, h3⟩ := rp2 h
  have e1 := h2.strI
  subst e1
  obtain ⟨b, us, rfl, h4, h5⟩ := h3.tupI
  exact ⟨a, b, us, rfl, h1, h4, h5⟩
theorem t_least {H : Hp} {v : V} {ts : List Tm} (h : Rp K H v (Tm.least ts).data) : ∃ a b us, v = .ref a ∧ SqT K H a [.str "least", .ref b] ∧ SqT K H b us ∧ RTs K H us ts := by
  obtain ⟨a, x, y, rfl, h1, h2, h3⟩ := rp2 h
  have e1 := h2.strI
  subst e1
  obtain ⟨b, us, rfl, h4, h5⟩ := h3.tupI
  exact ⟨a, b, us, rfl, h1, h4, h5⟩
theorem t_greatest {H : Hp} {v : V} {ts : List Tm} (h : Rp K H v (Tm.greatest ts).data) : ∃ a b us, v = .ref a ∧ SqT K H a [.str "greatest", .ref b] ∧ SqT K H b us ∧ RTs K H us ts := by
  obtain ⟨a, x, y, rfl, h1, h2, h3⟩ := rp2 h
  have e1 := h2.strI
  subst e1
  obtain ⟨b, us, rfl, h4, h5⟩ := h3.tupI
  exact ⟨a, b, us, rfl, h1, h4, h5⟩
theorem t_ranked {H : Hp} {v : V} {k : Nat} {ts : List Tm} (h : Rp K H v (Tm.ranked k ts).data) : ∃ a b us, v = .ref a ∧ SqT K H a [.str "ranked", .int (k : Int), .ref b] ∧ SqT K H b us ∧ RTs K H us ts := by
  obtain ⟨a, x, y, z, rfl, h1, h2, h3, h4⟩ := rp3 h
  have e1 := h2.strI; have e2 := h3.intI
  subst e1 e2
  obtain ⟨b, us, rfl, h4, h5⟩ := h4.tupI
  exact ⟨a, b, us, rfl, h1, h4, h5⟩
theorem t_between {H : Hp} {v : V} {lo hi : Rat} {t : Tm} (h : Rp K H v (Tm.between lo hi t).data) : ∃ a x y z, v = .ref a ∧ SqT K H a [.str "between", x, y, z] ∧ RF K H x lo ∧ RF K H y hi ∧ Rp K H z t.data := by
  obtain ⟨a, x, y, z, u, rfl, h1, h2, h3, h4, h5⟩ := rp4 h
  have e1 := h2.strI
  subst e1
  exact ⟨a, y, z, u, rfl, h1, PF.of h3, PF.of h4, h5⟩
/-- the i-th part of a mean -/
theorem meanD_get {ws : List Int} {ts : List Tm} {i : Nat} {d : PyData} (h : (meanD ws (Tm.datas ts))[i]? = some d) : ∃ z t, ws[i]? = some z ∧ ts[i]? = some t ∧ d = .tuple [.int z, t.data] := by
  unfold meanD at h
  rw [datas_map, List.getElem?_zipWith] at h
  cases e1 : ws[i]? with
  | none => rw [e1] at h; simp at h
  | some z =>
    cases e2 : ts[i]? with
    | none => rw [e1, List.getElem?_map, e2] at h; simp at h
    | some t =>
      rw [e1, List.getElem?_map, e2] at h
      simp at h
      exact ⟨z, t, rfl, rfl, h.symm⟩
theorem mean_part {H : Hp} {us : List V} {ws : List Int} {ts : List Tm} {i : Nat} {v : V} (h : RpAll K H us (meanD ws (Tm.datas ts))) (e : us[i]? = some v) :
    ∃ a z t x, v = .ref a ∧ ws[i]? = some z ∧ ts[i]? = some t ∧ SqT K H a [.int z, x] ∧ Rp K H x t.data := by
  obtain ⟨d, h1, h2⟩ := RpAll.getV h e
  obtain ⟨z, t, e1, e2, rfl⟩ := meanD_get h1
  obtain ⟨a, x, y, rfl, g1, g2, g3⟩ := rp2 h2
  have e3 := g2.intI
  subst e3
  exact ⟨a, z, t, y, rfl, e1, e2, g1, g3⟩
def Tm.children : Tm → List Tm
  | .bid _ => []
  | .fixed _ => []
  | .mean _ ts => ts
  | .least ts => ts
  | .greatest ts => ts
  | .ranked _ ts => ts
  | .between _ _ t => [t]
abbrev n_inner_terms : List Str := ["term", "word", "_", "inner"]
theorem sc_inner_terms : FnScope ["term", "word", "_", "inner"] ["term"] (defScope s_inner_terms) := ⟨rfl, rfl, rfl, by decide +kernel, rfl, by decide +kernel, by decide +kernel⟩
def sp_inner_terms (K : PySem.W.Frag) : Sp := fun vs H Q _ => ∃ (v : V) (t : Tm), vs = [v] ∧ Rp K H v t.data ∧ (∀ ws ts, t = .mean ws ts → ws.length = ts.length ∧ ts.length ≤ 8) ∧
  ∀ (p : Addr) (us : List V) (H' : Hp), Same H H' → SqT K H' p us → RTs K H' us t.children → Q (.ref p) H'
theorem ok_inner_terms (F : FnD K mg "inner_terms" s_inner_terms) (T_tuple : mg "tuple" = none) : Cal P w K mg base 1 "inner_terms" (sp_inner_terms K) [] := by
  refine calOf F sc_inner_terms (fun _ _ _ _ _ _ us hl => match us, hl with | [_], _ => rfl) (fun vs H Q E h => ?_) (fun cdv f A outer s H vs Q E hr h => ?_)
  · obtain ⟨_, _, rfl, _⟩ := h
    rfl
  · obtain ⟨v, t, rfl, rt, hm, k⟩ := h
    refine ⟨_, (pss_cons (ps_set (i := 1) sc_inner_terms.nd rfl (Or.inl rfl) (pe_ix ix_tup (pv 0) pe_int (fun _ _ => rfl)))
    (pss_cons (ps_if (pt_cmpR op_in_seq (pv 1) (pe_tup (pa_cons pe_str (pa_cons pe_str pa_nil))) rfl) (pss_one (ps_ret (pe_tup pa_nil))) pss_nil)
    (pss_cons (ps_if (pt_cmpR op_eq (pv 1) pe_str (nomark _)) (pss_one (ps_ret (pe_callTy call_tuple_of (by rfl) T_tuple (by decide +kernel) (pa_cons (pe_lc (own := [("_", 2), ("inner", 3)]) (g := (gTup K 2 (gCons (gName 2) (gCons (gName 3) gNil)))) (by rfl) sc_inner_terms.nd (pi_tup (pe_ix ix_tup (pv 0) pe_int (fun _ _ => rfl))) (blkOk_by (own := [("_", 2), ("inner", 3)]) (N := ["term", "word", "_", "inner"]) (sc := defScope s_inner_terms) (by decide +kernel)) (fun _ _ _ _ _ => (pg_tup rfl (pgs_cons (pg_name (i := 2) sc_inner_terms.nd rfl (Or.inl rfl)) (pgs_cons (pg_name (i := 3) sc_inner_terms.nd rfl (Or.inl rfl)) pgs_nil)))) (fun _ _ _ _ _ => pts_nil) (fun _ _ _ _ _ => (pv 3))) pa_nil)))) pss_nil)
    (pss_cons (ps_if (pt_cmpR op_eq (pv 1) pe_str (nomark _)) (pss_one (ps_ret (pe_tup (pa_cons (pe_ix ix_tup (pv 0) pe_int (fun _ _ => rfl)) pa_nil)))) pss_nil)
    (pss_one (ps_ret (pe_ix ix_tup (pv 0) (pe_un un_neg pe_int) (fun _ _ => rfl)))))))), ?_⟩
    cases t with
    | bid p =>
      obtain ⟨a, rfl, ha⟩ := t_bid rt
      refine ⟨_, rfl, _, _, _, _, rfl, rfl, ha, rfl, _, rfl, (by show 2 ≤ sizeLine; decide), fun q hq => ⟨q, _, rfl, .inr (SqT.of upd_same), rfl, rfl, _, rfl, ?_⟩⟩
      refine ite2 (fun _ => ⟨Nat.zero_le _, fun r hr2 => k r [] _ ((same_new hq).trans (same_new hr2)) (SqT.of upd_same) .nil⟩) (fun c => absurd (by decide +kernel) c)
    | fixed q =>
      obtain ⟨a, x, rfl, ha, _⟩ := t_fixed rt
      refine ⟨_, rfl, _, _, _, _, rfl, rfl, ha, rfl, _, rfl, (by show 2 ≤ sizeLine; decide), fun q hq => ⟨q, _, rfl, .inr (SqT.of upd_same), rfl, rfl, _, rfl, ?_⟩⟩
      refine ite2 (fun _ => ⟨Nat.zero_le _, fun r hr2 => k r [] _ ((same_new hq).trans (same_new hr2)) (SqT.of upd_same) .nil⟩) (fun c => absurd (by decide +kernel) c)
    | mean ws ts =>
      obtain ⟨a, b, us, rfl, ha, hb, hu⟩ := t_mean rt
      obtain ⟨wl, tl⟩ := hm ws ts rfl
      refine ⟨_, rfl, _, _, _, _, rfl, rfl, ha, rfl, _, rfl, (by show 2 ≤ sizeLine; decide), fun q hq => ⟨q, _, rfl, .inr (SqT.of upd_same), rfl, rfl, _, rfl, ?_⟩⟩
      refine ite2 (fun c => absurd c (by decide +kernel)) (fun _ => ?_)
      have s1 := same_new (o := .tup [.str "bid", .str "fixed"]) hq
      refine ⟨_, rfl, rfl, _, rfl, ite2 (fun _ => ?_) (fun c => absurd (by decide +kernel) c)⟩
      have ha1 := (Same.kt s1).sq ha
      have hb1 := (Same.kt s1).sq hb
      have hu1 := RpAll.mono (Same.kt s1) hu
      refine ⟨_, rfl, _, _, _, _, rfl, rfl, ha1, rfl, b, rfl, ⟨_, hb1⟩, fun D hD => ?_⟩
      have ul : us.length = ts.length := by rw [hu.length, meanD_length _ _ (by rw [datas_map, List.length_map]; exact wl), datas_map, List.length_map]
      refine it_tup (K := K) (a := b) (xs := us) (fun i H' => ∃ zs : List V, H' D = some (.lst zs) ∧ RTs K H' zs (ts.take i) ∧ Same (upd H q (.tup [.str "bid", .str "fixed"])) H')
        ⟨[], upd_same, by simp [RTs, Tm.datas]; exact .nil, same_new hD⟩ (fun i H' ⟨_, _, _, s5⟩ => (Same.kt s5).sq hb1) ?_ ?_
      · rintro i x H' hx ⟨zs, g1, g2, g3⟩
        obtain ⟨c, z, t, y, rfl, e1, e2, p1, p2⟩ := mean_part hu1 hx
        have zl : zs.length ≤ 8 := by rw [g2.length, List.length_take]; omega
        refine ⟨c, _, rfl, (Same.kt g3).sq p1, rfl, _, _, rfl, _, _, rfl, rfl, rfl, _, rfl, zs, g1, small1000 (by omega), zs ++ [y], upd_same, ?_, Same.mut g3 hD⟩
        rw [take_succ' e2]
        exact RpAll.mono (KT.updl g1) (RTs.snoc g2 (p2.mono (Same.kt g3)))
      · rintro H' ⟨zs, g1, g2, g3⟩
        rw [ul, List.take_length] at g2
        refine ⟨D, zs, rfl, .inl ⟨SqL.of g1, fun l hl => ?_⟩⟩
        exact k l zs _ ((s1.trans g3).trans (same_new hl)) (SqT.of upd_same) (RpAll.mono (Same.kt (same_new hl)) g2)
    | least ts =>
      obtain ⟨a, b, us, rfl, ha, hb, hu⟩ := t_least rt
      refine ⟨_, rfl, _, _, _, _, rfl, rfl, ha, rfl, _, rfl, (by show 2 ≤ sizeLine; decide), fun q hq => ⟨q, _, rfl, .inr (SqT.of upd_same), rfl, rfl, _, rfl, ?_⟩⟩
      refine ite2 (fun c => absurd c (by decide +kernel)) (fun _ => ?_)
      have s1 := Same.kt (same_new (o := .tup [.str "bid", .str "fixed"]) hq)
      refine ⟨_, rfl, rfl, _, rfl, ite2 (fun c => absurd c (by decide +kernel)) (fun _ => ?_)⟩
      refine ⟨_, rfl, rfl, _, rfl, ite2 (fun c => absurd c (by decide +kernel)) (fun _ => ?_)⟩
      exact ⟨_, rfl, _, rfl, _, _, _, _, rfl, rfl, s1.sq ha, rfl, k b us _ (same_new hq) (s1.sq hb) (RpAll.mono s1 hu)⟩
    | greatest ts =>
      obtain ⟨a, b, us, rfl, ha, hb, hu⟩ := t_greatest rt
      refine ⟨_, rfl, _, _, _, _, rfl, rfl, ha, rfl, _, rfl, (by show 2 ≤ sizeLine; decide), fun q hq => ⟨q, _, rfl, .inr (SqT.of upd_same), rfl, rfl, _, rfl, ?_⟩⟩
      refine ite2 (fun c => absurd c (by decide +kernel)) (fun _ => ?_)
      have s1 := Same.kt (same_new (o := .tup [.str "bid", .str "fixed"]) hq)
      refine ⟨_, rfl, rfl, _, rfl, ite2 (fun c => absurd c (by decide +kernel)) (fun _ => ?_)⟩
      refine ⟨_, rfl, rfl, _, rfl, ite2 (fun c => absurd c (by decide +kernel)) (fun _ => ?_)⟩
      exact ⟨_, rfl, _, rfl, _, _, _, _, rfl, rfl, s1.sq ha, rfl, k b us _ (same_new hq) (s1.sq hb) (RpAll.mono s1 hu)⟩
    | ranked r ts =>
      obtain ⟨a, b, us, rfl, ha, hb, hu⟩ := t_ranked rt
      refine ⟨_, rfl, _, _, _, _, rfl, rfl, ha, rfl, _, rfl, (by show 2 ≤ sizeLine; decide), fun q hq => ⟨q, _, rfl, .inr (SqT.of upd_same), rfl, rfl, _, rfl, ?_⟩⟩
      refine ite2 (fun c => absurd c (by decide +kernel)) (fun _ => ?_)
      have s1 := Same.kt (same_new (o := .tup [.str "bid", .str "fixed"]) hq)
      refine ⟨_, rfl, rfl, _, rfl, ite2 (fun c => absurd c (by decide +kernel)) (fun _ => ?_)⟩
      refine ⟨_, rfl, rfl, _, rfl, ite2 (fun c => absurd c (by decide +kernel)) (fun _ => ?_)⟩
      exact ⟨_, rfl, _, rfl, _, _, _, _, rfl, rfl, s1.sq ha, rfl, k b us _ (same_new hq) (s1.sq hb) (RpAll.mono s1 hu)⟩
    | between lo hi t =>
      obtain ⟨a, x, y, z, rfl, ha, _, _, hz⟩ := t_between rt
      refine ⟨_, rfl, _, _, _, _, rfl, rfl, ha, rfl, _, rfl, (by show 2 ≤ sizeLine; decide), fun q hq => ⟨q, _, rfl, .inr (SqT.of upd_same), rfl, rfl, _, rfl, ?_⟩⟩
      refine ite2 (fun c => absurd c (by decide +kernel)) (fun _ => ?_)
      have s0 := same_new (o := .tup [.str "bid", .str "fixed"]) hq
      have s1 := Same.kt s0
      refine ⟨_, rfl, rfl, _, rfl, ite2 (fun c => absurd c (by decide +kernel)) (fun _ => ?_)⟩
      refine ⟨_, rfl, rfl, _, rfl, ite2 (fun _ => ?_) (fun c => absurd (by decide +kernel) c)⟩
      refine ⟨_, rfl, _, _, _, _, rfl, rfl, s1.sq ha, rfl, (by show 1 ≤ sizeLine; decide), fun l hl => k l [z] _ (s0.trans (same_new hl)) (SqT.of upd_same) ?_⟩
      exact .cons ((hz.mono s1).mono (Same.kt (same_new hl))) .nil
end
end CB

set_option Elab.async false
set_option linter.all false
set_option maxRecDepth 100000
set_option maxHeartbeats 4000000
namespace CB
open PySem PySem.Spec PyProof.Rows L2
open C8 (Cal Met Mak pe_c pe_mk pe_mt pe_mt0 pe_gc CalAt)
section
variable {P : Program} {w : World} {K : PySem.W.Frag} {mg : Str → Option Value} {base : Heap}
abbrev n_is_formed : List Str := ["thing", "people", "word", "part"]
theorem sc_is_formed : FnScope ["thing", "people", "word", "part"] ["thing", "people"] (defScope s_is_formed) := ⟨rfl, rfl, rfl, by decide +kernel, rfl, by decide +kernel, by decide +kernel⟩
def sp_is_formed (K : PySem.W.Frag) : Sp := fun vs H Q _ => ∃ (v : V) (n s : Nat) (t : Tm), vs = [v, .int (n : Int)] ∧ Rp K H v t.data ∧ t.Ok n s ∧ s ≤ 9000 ∧ ∀ H', Same H H' → Q (.bl true) H'
theorem ok_is_formed (F : FnD K mg "is_formed" s_is_formed) (c_is_integer : Cal P w K mg base 1 "is_integer" sp_is_integer []) (c_is_number : Cal P w K mg base 2 "is_number" (sp_is_number K) []) (c_is_person : Cal P w K mg base 2 "is_person" sp_is_person []) (c_is_weighted : Cal P w K mg base 3 "is_weighted" (sp_is_weighted K) [])
    (c_are_some : Cal P w K mg base 1 "are_some" (sp_are_some K) []) (c_are_bounds : Cal P w K mg base 3 "are_bounds" (sp_are_bounds K) []) (T_isinstance : mg "isinstance" = none) (T_tuple : mg "tuple" = none) (T_str : mg "str" = none) (T_len : mg "len" = none) (T_all : mg "all" = none) : Cal P w K mg base 4 "is_formed" (sp_is_formed K) [] := by
  refine calOf F sc_is_formed (fun _ _ _ _ _ _ us hl => match us, hl with | [_, _], _ => rfl) (fun vs H Q E h => ?_) (fun cdv f A outer s H vs Q E hr h => ?_)
  · obtain ⟨_, _, _, _, rfl, _⟩ := h
    rfl
  · obtain ⟨v, n, sz, t, rfl, rt, hok, hs, k⟩ := h
    refine ⟨_, (pss_cons (ps_if (pt_not (PW.pt (pw_and (pt_val (pe_callB call_isi (by rfl) T_isinstance (by decide +kernel) (pa_cons (pv 0) (pa_cons (pe_ty (n := "tuple") (by rfl) T_tuple (by decide +kernel)) pa_nil)))) (pw_and (pt_cmpR op_ge (pe_callB call_len_seq (by rfl) T_len PySem.boot_len (pa_cons (pv 0) pa_nil)) pe_int (nomark _)) (pw_and1 (pt_val (pe_callB call_isi (by rfl) T_isinstance (by decide +kernel) (pa_cons (pe_ix ix_tup (pv 0) pe_int (fun _ _ => rfl)) (pa_cons (pe_ty (n := "str") (by rfl) T_str (by decide +kernel)) pa_nil))))))))) (pss_one (ps_ret pe_bl)) pss_nil)
    (pss_cons (ps_set (i := 2) sc_is_formed.nd rfl (Or.inl rfl) (pe_ix ix_tup (pv 0) pe_int (fun _ _ => rfl)))
    (pss_cons (ps_if (pt_cmpR op_eq (pv 2) pe_str (nomark _)) (pss_one (ps_ret (pe_and (pe_cmpR op_eq (pe_callB call_len_seq (by rfl) T_len PySem.boot_len (pa_cons (pv 0) pa_nil)) pe_int (nomark _)) (pe_and (pe_c c_are_some hr (by first | decide | omega) rfl (pa_cons (pe_ix ix_tup (pv 0) pe_int (fun _ _ => rfl)) pa_nil)) (pe_and (pe_c c_is_integer hr (by first | decide | omega) rfl (pa_cons (pe_ix ix_tup (pv 0) pe_int (fun _ _ => rfl)) pa_nil)) (pe_one (pe_chain op_le op_le pe_int (pe_ix ix_tup (pv 0) pe_int (fun _ _ => rfl)) (pe_callB call_len_seq (by rfl) T_len PySem.boot_len (pa_cons (pe_ix ix_tup (pv 0) pe_int (fun _ _ => rfl)) pa_nil))))))))) pss_nil)
    (pss_cons (ps_if (pt_cmpR op_eq (pv 2) pe_str (nomark _)) (pss_one (ps_ret (pe_and (pe_cmpR op_eq (pe_callB call_len_seq (by rfl) T_len PySem.boot_len (pa_cons (pv 0) pa_nil)) pe_int (nomark _)) (pe_one (pe_c c_are_bounds hr (by first | decide | omega) rfl (pa_cons (pe_ix ix_tup (pv 0) pe_int (fun _ _ => rfl)) (pa_cons (pe_ix ix_tup (pv 0) pe_int (fun _ _ => rfl)) pa_nil))))))) pss_nil)
    (pss_cons (ps_if (pt_cmpR op_gt (pe_callB call_len_seq (by rfl) T_len PySem.boot_len (pa_cons (pv 0) pa_nil)) pe_int (nomark _)) (pss_one (ps_ret pe_bl)) pss_nil)
    (pss_cons (ps_if (pt_cmpR op_eq (pv 2) pe_str (nomark _)) (pss_one (ps_ret (pe_c c_is_person hr (by first | decide | omega) rfl (pa_cons (pe_ix ix_tup (pv 0) pe_int (fun _ _ => rfl)) (pa_cons (pv 1) pa_nil))))) pss_nil)
    (pss_cons (ps_if (pt_cmpR op_eq (pv 2) pe_str (nomark _)) (pss_one (ps_ret (pe_c c_is_number hr (by first | decide | omega) rfl (pa_cons (pe_ix ix_tup (pv 0) pe_int (fun _ _ => rfl)) pa_nil)))) pss_nil)
    (pss_cons (ps_if (pt_cmpR op_eq (pv 2) pe_str (nomark _)) (pss_one (ps_ret (pe_and (pe_c c_are_some hr (by first | decide | omega) rfl (pa_cons (pe_ix ix_tup (pv 0) pe_int (fun _ _ => rfl)) pa_nil)) (pe_one (pe_callB (cr_all rfl) (by rfl) T_all (by decide +kernel) (pa_cons (pe_lc (own := [("part", 3)]) (by rfl) sc_is_formed.nd (pi_tup (pe_ix ix_tup (pv 0) pe_int (fun _ _ => rfl))) (blkOk_by (own := [("part", 3)]) (N := ["thing", "people", "word", "part"]) (sc := defScope s_is_formed) (by decide +kernel)) (fun _ _ _ _ _ => (pg_name (i := 3) sc_is_formed.nd rfl (Or.inl rfl))) (fun _ _ _ _ _ => pts_nil) (fun _ _ _ _ _ => (pe_c c_is_weighted hr (by first | decide | omega) rfl (pa_cons (pv 3) pa_nil)))) pa_nil)))))) pss_nil)
    (pss_one (ps_ret (pe_and (pe_cmpR op_in_seq (pv 2) (pe_tup (pa_cons pe_str (pa_cons pe_str pa_nil))) rfl) (pe_one (pe_c c_are_some hr (by first | decide | omega) rfl (pa_cons (pe_ix ix_tup (pv 0) pe_int (fun _ _ => rfl)) pa_nil)))))))))))))), ?_⟩
    cases t with
    | bid p =>
      obtain ⟨a, rfl, ha⟩ := t_bid rt
      refine ⟨_, rfl, _, _, _, _, true, rfl, .ty _, tyT ha, kit_ty (by decide +kernel), _, rfl, _, rfl, a, _, rfl, .inr ha, _, _, rfl, rfl, _, rfl, ite2 (fun _ => ?_) (fun c => absurd rfl c)⟩
      refine ⟨_, rfl, _, _, _, _, rfl, rfl, ha, rfl, _, _, _, _, true, rfl, .ty _, .base (.str _), kit_ty (by decide +kernel), _, rfl, _, rfl, _, _, _, _, rfl, rfl, ha, rfl, ?_⟩
      refine ⟨_, rfl, rfl, _, rfl, ite2 (fun c => absurd c (by decide +kernel)) (fun _ => ?_)⟩
      refine ⟨_, rfl, rfl, _, rfl, ite2 (fun c => absurd c (by decide +kernel)) (fun _ => ?_)⟩
      refine ⟨_, rfl, a, _, rfl, .inr ha, _, _, rfl, rfl, _, rfl, ite2 (fun c => nomatch (show false = true from c)) (fun _ => ?_)⟩
      refine ⟨_, rfl, rfl, _, rfl, ite2 (fun _ => ?_) (fun c => absurd (by decide +kernel) c)⟩
      exact ⟨_, rfl, _, _, _, _, rfl, rfl, ha, rfl, _, rfl, _, _, rfl, by omega, (by have : p < n := hok; omega), k _ (Same.refl _)⟩
    | fixed q =>
      obtain ⟨a, x, rfl, ha, hx⟩ := t_fixed rt
      have hn : NumOk sz q := hok
      refine ⟨_, rfl, _, _, _, _, true, rfl, .ty _, tyT ha, kit_ty (by decide +kernel), _, rfl, _, rfl, a, _, rfl, .inr ha, _, _, rfl, rfl, _, rfl, ite2 (fun _ => ?_) (fun c => absurd rfl c)⟩
      refine ⟨_, rfl, _, _, _, _, rfl, rfl, ha, rfl, _, _, _, _, true, rfl, .ty _, .base (.str _), kit_ty (by decide +kernel), _, rfl, _, rfl, _, _, _, _, rfl, rfl, ha, rfl, ?_⟩
      refine ⟨_, rfl, rfl, _, rfl, ite2 (fun c => absurd c (by decide +kernel)) (fun _ => ?_)⟩
      refine ⟨_, rfl, rfl, _, rfl, ite2 (fun c => absurd c (by decide +kernel)) (fun _ => ?_)⟩
      refine ⟨_, rfl, a, _, rfl, .inr ha, _, _, rfl, rfl, _, rfl, ite2 (fun c => nomatch (show false = true from c)) (fun _ => ?_)⟩
      refine ⟨_, rfl, rfl, _, rfl, ite2 (fun c => absurd c (by decide +kernel)) (fun _ => ?_)⟩
      refine ⟨_, rfl, rfl, _, rfl, ite2 (fun _ => ?_) (fun c => absurd (by decide +kernel) c)⟩
      exact ⟨_, rfl, _, _, _, _, rfl, rfl, ha, rfl, _, q, rfl, hx, hn.1, hn.2.1, k _ (Same.refl _)⟩
    | mean ws ts =>
      obtain ⟨a, b, us, rfl, ha, hb, hu⟩ := t_mean rt
      obtain ⟨wl, tne, tl, hw, ho⟩ := hok
      have ul : us.length = ts.length := by rw [hu.length, meanD_length _ _ (by rw [datas_map, List.length_map]; exact wl), datas_map, List.length_map]
      refine ⟨_, rfl, _, _, _, _, true, rfl, .ty _, tyT ha, kit_ty (by decide +kernel), _, rfl, _, rfl, a, _, rfl, .inr ha, _, _, rfl, rfl, _, rfl, ite2 (fun _ => ?_) (fun c => absurd rfl c)⟩
      refine ⟨_, rfl, _, _, _, _, rfl, rfl, ha, rfl, _, _, _, _, true, rfl, .ty _, .base (.str _), kit_ty (by decide +kernel), _, rfl, _, rfl, _, _, _, _, rfl, rfl, ha, rfl, ?_⟩
      refine ⟨_, rfl, rfl, _, rfl, ite2 (fun c => absurd c (by decide +kernel)) (fun _ => ?_)⟩
      refine ⟨_, rfl, rfl, _, rfl, ite2 (fun c => absurd c (by decide +kernel)) (fun _ => ?_)⟩
      refine ⟨_, rfl, a, _, rfl, .inr ha, _, _, rfl, rfl, _, rfl, ite2 (fun c => nomatch (show false = true from c)) (fun _ => ?_)⟩
      refine ⟨_, rfl, rfl, _, rfl, ite2 (fun c => absurd c (by decide +kernel)) (fun _ => ?_)⟩
      refine ⟨_, rfl, rfl, _, rfl, ite2 (fun c => absurd c (by decide +kernel)) (fun _ => ?_)⟩
      refine ⟨_, rfl, rfl, _, rfl, ite2 (fun _ => ?_) (fun c => absurd (by decide +kernel) c)⟩
      refine ⟨_, rfl, _, _, _, _, rfl, rfl, ha, rfl, b, us, rfl, hb, by have := List.length_pos_iff.mpr tne; omega, by omega, _, rfl, ?_⟩
      refine ⟨_, rfl, _, _, _, _, rfl, rfl, ha, rfl, b, rfl, ⟨_, hb⟩, fun D hD => ?_⟩
      refine it_tup (K := K) (a := b) (xs := us) (fun i H' => ∃ zs : List Bool, H' D = some (.lst (zs.map V.bl)) ∧ zs.length = i ∧ (∀ z ∈ zs, z = true) ∧ Same H H')
        ⟨[], upd_same, rfl, by simp, same_new hD⟩ (fun i H' ⟨_, _, _, _, s5⟩ => (Same.kt s5).sq hb) ?_ ?_
      · rintro i x H' hx ⟨zs, g1, g2, g3, g4⟩
        obtain ⟨c, z, t, y, rfl, e1, e2, p1, p2⟩ := mean_part hu hx
        have hz := hw z (List.mem_of_getElem? e1)
        have hi := (List.getElem?_eq_some_iff.mp hx).1
        refine ⟨rfl, _, rfl, c, z, y, rfl, (Same.kt g4).sq p1, hz.1, hz.2, _, g1, by rw [List.length_map, g2]; exact small1000 (by omega), zs ++ [true], by rw [List.map_append]; exact upd_same, by simp [g2], ?_, Same.mut g4 hD⟩
        intro q hq
        rcases List.mem_append.mp hq with h | h
        · exact g3 q h
        · exact List.mem_singleton.mp h
      · rintro H' ⟨zs, g1, g2, g3, g4⟩
        refine ⟨D, zs, rfl, SqL.of g1, ?_⟩
        have ea : zs.all id = true := List.all_eq_true.mpr g3
        rw [ea]
        exact k _ g4
    | least ts =>
      obtain ⟨a, b, us, rfl, ha, hb, hu⟩ := t_least rt
      have hok : ts ≠ [] ∧ ts.length ≤ 8 ∧ Tm.Oks n sz ts := hok
      have hu : RTs K H us ts := hu
      refine ⟨_, rfl, _, _, _, _, true, rfl, .ty _, tyT ha, kit_ty (by decide +kernel), _, rfl, _, rfl, a, _, rfl, .inr ha, _, _, rfl, rfl, _, rfl, ite2 (fun _ => ?_) (fun c => absurd rfl c)⟩
      refine ⟨_, rfl, _, _, _, _, rfl, rfl, ha, rfl, _, _, _, _, true, rfl, .ty _, .base (.str _), kit_ty (by decide +kernel), _, rfl, _, rfl, _, _, _, _, rfl, rfl, ha, rfl, ?_⟩
      refine ⟨_, rfl, rfl, _, rfl, ite2 (fun c => absurd c (by decide +kernel)) (fun _ => ?_)⟩
      refine ⟨_, rfl, rfl, _, rfl, ite2 (fun c => absurd c (by decide +kernel)) (fun _ => ?_)⟩
      refine ⟨_, rfl, a, _, rfl, .inr ha, _, _, rfl, rfl, _, rfl, ite2 (fun c => nomatch (show false = true from c)) (fun _ => ?_)⟩
      refine ⟨_, rfl, rfl, _, rfl, ite2 (fun c => absurd c (by decide +kernel)) (fun _ => ?_)⟩
      refine ⟨_, rfl, rfl, _, rfl, ite2 (fun c => absurd c (by decide +kernel)) (fun _ => ?_)⟩
      refine ⟨_, rfl, rfl, _, rfl, ite2 (fun c => absurd c (by decide +kernel)) (fun _ => ?_)⟩
      refine ⟨_, rfl, (by show 2 ≤ sizeLine; decide), fun q hq => ⟨q, _, rfl, .inr (SqT.of upd_same), rfl, rfl, _, rfl, ite2 (fun _ => ?_) (fun c => absurd (by decide +kernel) c)⟩⟩
      have s1 := Same.kt (same_new (o := .tup [.str "least", .str "greatest"]) hq)
      have ul : us.length = ts.length := hu.length
      exact ⟨_, rfl, _, _, _, _, rfl, rfl, s1.sq ha, rfl, b, us, rfl, s1.sq hb, by have := List.length_pos_iff.mpr hok.1; omega, by have := hok.2.1; omega, k _ (same_new hq)⟩
    | greatest ts =>
      obtain ⟨a, b, us, rfl, ha, hb, hu⟩ := t_greatest rt
      have hok : ts ≠ [] ∧ ts.length ≤ 8 ∧ Tm.Oks n sz ts := hok
      have hu : RTs K H us ts := hu
      refine ⟨_, rfl, _, _, _, _, true, rfl, .ty _, tyT ha, kit_ty (by decide +kernel), _, rfl, _, rfl, a, _, rfl, .inr ha, _, _, rfl, rfl, _, rfl, ite2 (fun _ => ?_) (fun c => absurd rfl c)⟩
      refine ⟨_, rfl, _, _, _, _, rfl, rfl, ha, rfl, _, _, _, _, true, rfl, .ty _, .base (.str _), kit_ty (by decide +kernel), _, rfl, _, rfl, _, _, _, _, rfl, rfl, ha, rfl, ?_⟩
      refine ⟨_, rfl, rfl, _, rfl, ite2 (fun c => absurd c (by decide +kernel)) (fun _ => ?_)⟩
      refine ⟨_, rfl, rfl, _, rfl, ite2 (fun c => absurd c (by decide +kernel)) (fun _ => ?_)⟩
      refine ⟨_, rfl, a, _, rfl, .inr ha, _, _, rfl, rfl, _, rfl, ite2 (fun c => nomatch (show false = true from c)) (fun _ => ?_)⟩
      refine ⟨_, rfl, rfl, _, rfl, ite2 (fun c => absurd c (by decide +kernel)) (fun _ => ?_)⟩
      refine ⟨_, rfl, rfl, _, rfl, ite2 (fun c => absurd c (by decide +kernel)) (fun _ => ?_)⟩
      refine ⟨_, rfl, rfl, _, rfl, ite2 (fun c => absurd c (by decide +kernel)) (fun _ => ?_)⟩
      refine ⟨_, rfl, (by show 2 ≤ sizeLine; decide), fun q hq => ⟨q, _, rfl, .inr (SqT.of upd_same), rfl, rfl, _, rfl, ite2 (fun _ => ?_) (fun c => absurd (by decide +kernel) c)⟩⟩
      have s1 := Same.kt (same_new (o := .tup [.str "least", .str "greatest"]) hq)
      have ul : us.length = ts.length := hu.length
      exact ⟨_, rfl, _, _, _, _, rfl, rfl, s1.sq ha, rfl, b, us, rfl, s1.sq hb, by have := List.length_pos_iff.mpr hok.1; omega, by have := hok.2.1; omega, k _ (same_new hq)⟩
    | ranked r ts =>
      obtain ⟨a, b, us, rfl, ha, hb, hu⟩ := t_ranked rt
      obtain ⟨r1, r2, tl, ho⟩ := hok
      have ul : us.length = ts.length := RTs.length hu
      refine ⟨_, rfl, _, _, _, _, true, rfl, .ty _, tyT ha, kit_ty (by decide +kernel), _, rfl, _, rfl, a, _, rfl, .inr ha, _, _, rfl, rfl, _, rfl, ite2 (fun _ => ?_) (fun c => absurd rfl c)⟩
      refine ⟨_, rfl, _, _, _, _, rfl, rfl, ha, rfl, _, _, _, _, true, rfl, .ty _, .base (.str _), kit_ty (by decide +kernel), _, rfl, _, rfl, _, _, _, _, rfl, rfl, ha, rfl, ?_⟩
      refine ⟨_, rfl, rfl, _, rfl, ite2 (fun _ => ?_) (fun c => absurd (by decide +kernel) c)⟩
      refine ⟨_, rfl, a, _, rfl, .inr ha, rfl, _, rfl, ite2 (fun _ => ?_) (fun c => absurd rfl c)⟩
      refine ⟨_, rfl, _, _, _, _, rfl, rfl, ha, rfl, b, us, rfl, hb, by omega, by omega, _, rfl, ?_⟩
      refine ⟨_, rfl, _, _, _, _, rfl, rfl, ha, rfl, _, rfl, _, rfl, ?_⟩
      refine ⟨_, rfl, _, _, _, _, rfl, rfl, ha, rfl, _, _, rfl, rfl, _, rfl, ite2 (fun _ => ?_) (fun c => absurd (decide_eq_true (show (1 : Int) ≤ (r : Int) by omega)) c)⟩
      refine ⟨_, rfl, _, _, _, _, rfl, rfl, ha, rfl, b, us, rfl, .inr hb, _, _, rfl, rfl, ?_⟩
      show Q (V.bl (decide ((r : Int) ≤ (us.length : Int)))) H
      rw [decide_eq_true (show (r : Int) ≤ (us.length : Int) by omega)]
      exact k _ (Same.refl _)
    | between lo hi t =>
      obtain ⟨a, x, y, z, rfl, ha, hx, hy, hz⟩ := t_between rt
      obtain ⟨n1, n2, hl, ho⟩ := hok
      refine ⟨_, rfl, _, _, _, _, true, rfl, .ty _, tyT ha, kit_ty (by decide +kernel), _, rfl, _, rfl, a, _, rfl, .inr ha, _, _, rfl, rfl, _, rfl, ite2 (fun _ => ?_) (fun c => absurd rfl c)⟩
      refine ⟨_, rfl, _, _, _, _, rfl, rfl, ha, rfl, _, _, _, _, true, rfl, .ty _, .base (.str _), kit_ty (by decide +kernel), _, rfl, _, rfl, _, _, _, _, rfl, rfl, ha, rfl, ?_⟩
      refine ⟨_, rfl, rfl, _, rfl, ite2 (fun c => absurd c (by decide +kernel)) (fun _ => ?_)⟩
      refine ⟨_, rfl, rfl, _, rfl, ite2 (fun _ => ?_) (fun c => absurd (by decide +kernel) c)⟩
      refine ⟨_, rfl, a, _, rfl, .inr ha, rfl, _, rfl, ite2 (fun _ => ?_) (fun c => absurd rfl c)⟩
      exact ⟨_, rfl, _, _, _, _, rfl, rfl, ha, rfl, _, rfl, _, _, _, _, rfl, rfl, ha, rfl, _, _, lo, hi, sz, rfl, hx, hy, n1, n2, hl, hs, k _ (Same.refl _)⟩
end
end CB

set_option Elab.async false
set_option linter.all false
set_option maxRecDepth 100000
set_option maxHeartbeats 4000000
namespace CB
open PySem PySem.Spec PyProof.Rows L2
open C8 (Cal Met Mak pe_c pe_mk pe_mt pe_mt0 pe_gc CalAt)
section
variable {P : Program} {w : World} {K : PySem.W.Frag} {mg : Str → Option Value} {base : Heap}
theorem dep_children (t : Tm) : t.dep = Tm.deps t.children + 1 := by
  cases t <;> simp [Tm.dep, Tm.children, Tm.deps]
theorem cnt_children (t : Tm) : t.cnt = Tm.cnts t.children + 1 := by
  cases t <;> simp [Tm.cnt, Tm.children, Tm.cnts]
theorem ok_children {n s : Nat} {t : Tm} (h : t.Ok n s) : Tm.Oks n s t.children := by
  cases t with
  | bid p => trivial
  | fixed q => trivial
  | mean ws ts => exact h.2.2.2.2
  | least ts => exact h.2.2
  | greatest ts => exact h.2.2
  | ranked k ts => exact h.2.2.2
  | between lo hi t => exact ⟨h.2.2.2, trivial⟩
theorem deps_append : ∀ (a b : List Tm), Tm.deps (a ++ b) = max (Tm.deps a) (Tm.deps b)
  | [], b => by simp [Tm.deps]
  | t :: a, b => by rw [List.cons_append, Tm.deps, Tm.deps, deps_append a b]; omega
theorem cnts_append : ∀ (a b : List Tm), Tm.cnts (a ++ b) = Tm.cnts a + Tm.cnts b
  | [], b => by simp [Tm.cnts]
  | t :: a, b => by rw [List.cons_append, Tm.cnts, Tm.cnts, cnts_append a b]; omega
theorem deps_flat : ∀ {ts : List Tm}, ts ≠ [] → Tm.deps (ts.flatMap Tm.children) + 1 = Tm.deps ts
  | [], h => absurd rfl h
  | [t], _ => by
    rw [List.flatMap_cons, List.flatMap_nil, List.append_nil, Tm.deps, Tm.deps, dep_children t]
    omega
  | t :: u :: ts, _ => by
    have ih := deps_flat (ts := u :: ts) (by simp)
    rw [List.flatMap_cons, deps_append, Tm.deps, dep_children t]
    omega
theorem cnts_flat : ∀ (ts : List Tm), Tm.cnts (ts.flatMap Tm.children) + ts.length = Tm.cnts ts
  | [] => by simp [Tm.cnts]
  | t :: ts => by
    have ih := cnts_flat ts
    rw [List.flatMap_cons, cnts_append, Tm.cnts, cnt_children t, List.length_cons]
    omega
theorem len_cnts : ∀ (ts : List Tm), ts.length ≤ Tm.cnts ts
  | [] => by simp [Tm.cnts]
  | t :: ts => by
    have ih := len_cnts ts
    have := cnt_children t
    rw [Tm.cnts, List.length_cons]
    omega
theorem oks_flat {n s : Nat} {ts : List Tm} (h : Tm.Oks n s ts) : Tm.Oks n s (ts.flatMap Tm.children) := (oks_iff _ _ _).mpr fun t ht => by
  obtain ⟨u, hu, h2⟩ := List.mem_flatMap.mp ht
  exact (oks_iff _ _ _).mp (ok_children ((oks_iff _ _ _).mp h u hu)) t h2
theorem mean_of_ok {n s : Nat} {t : Tm} (h : t.Ok n s) : ∀ ws ts, t = .mean ws ts → ws.length = ts.length ∧ ts.length ≤ 8 := fun ws ts e => by
  subst e
  exact ⟨h.1, h.2.2.1⟩
abbrev n_is_term : List Str := ["thing", "people", "level", "many", "depth", "term", "inner"]
theorem sc_is_term : FnScope ["thing", "people", "level", "many", "depth", "term", "inner"] ["thing", "people"] (defScope s_is_term) := ⟨rfl, rfl, rfl, by decide +kernel, rfl, by decide +kernel, by decide +kernel⟩
def sp_is_term (K : PySem.W.Frag) : Sp := fun vs H Q _ => ∃ (v : V) (n s : Nat) (t : Tm), vs = [v, .int (n : Int)] ∧ Rp K H v t.data ∧ t.Ok n s ∧ s ≤ 9000 ∧ t.dep ≤ 8 ∧ t.cnt ≤ 60 ∧ ∀ H', Same H H' → Q (.bl true) H'
theorem ok_is_term (F : FnD K mg "is_term" s_is_term) (c_is_formed : Cal P w K mg base 4 "is_formed" (sp_is_formed K) []) (c_inner_terms : Cal P w K mg base 1 "inner_terms" (sp_inner_terms K) []) (T_len : mg "len" = none) (T_all : mg "all" = none)
    (g_MOST_DEEP : ∃ u, mg "MOST_DEEP" = some u ∧ RelV (.int 8) u) (g_MOST_TERMS : ∃ u, mg "MOST_TERMS" = some u ∧ RelV (.int 60) u) : Cal P w K mg base 5 "is_term" (sp_is_term K) [] := by
  refine calOf F sc_is_term (fun _ _ _ _ _ _ us hl => match us, hl with | [_, _], _ => rfl) (fun vs H Q E h => ?_) (fun cdv f A outer s H vs Q E hr h => ?_)
  · obtain ⟨_, _, _, _, rfl, _⟩ := h
    rfl
  · obtain ⟨v, n, sz, t, rfl, rt, hok, hs, hdep, hcnt, k⟩ := h
    refine ⟨_, (pss_cons (ps_set (i := 2) sc_is_term.nd rfl (Or.inl rfl) (pe_lst (pa_cons (pv 0) pa_nil)))
    (pss_cons (ps_set (i := 3) sc_is_term.nd rfl (Or.inl rfl) pe_int)
    (pss_cons (ps_set (i := 4) sc_is_term.nd rfl (Or.inl rfl) pe_int)
    (pss_cons (ps_while PassesOwn.never (pt_truth (pv 2) (by intro _; rfl)) (pss_cons (ps_aug (i := 4) sc_is_term.nd rfl (Or.inl rfl) pe_int ip_add)
    (pss_cons (ps_aug (i := 3) sc_is_term.nd rfl (Or.inl rfl) (pe_callB call_len_seq (by rfl) T_len PySem.boot_len (pa_cons (pv 2) pa_nil)) ip_add)
    (pss_cons (ps_if (PW.pt (pw_or (pt_cmpR op_gt (pv 4) (pe_gc rfl g_MOST_DEEP) (nomark _)) (pw_or1 (pt_cmpR op_gt (pv 3) (pe_gc rfl g_MOST_TERMS) (nomark _))))) (pss_one (ps_ret pe_bl)) pss_nil)
    (pss_cons (ps_if (pt_not (pt_val (pe_callB (cr_all rfl) (by rfl) T_all (by decide +kernel) (pa_cons (pe_lc (own := [("term", 5)]) (by rfl) sc_is_term.nd (pi_list (pv 2)) (blkOk_by (own := [("term", 5)]) (N := ["thing", "people", "level", "many", "depth", "term", "inner"]) (sc := defScope s_is_term) (by decide +kernel)) (fun _ _ _ _ _ => (pg_name (i := 5) sc_is_term.nd rfl (Or.inl rfl))) (fun _ _ _ _ _ => pts_nil) (fun _ _ _ _ _ => (pe_c c_is_formed hr (by first | decide | omega) rfl (pa_cons (pv 5) (pa_cons (pv 1) pa_nil))))) pa_nil)))) (pss_one (ps_ret pe_bl)) pss_nil)
    (pss_one (ps_setLc2 (i := 2) (own := [("term", 5), ("inner", 6)]) (wi1 := iTup K (tCall (sp_inner_terms K) [] C8.E0 (tCons (tVar 5) tNil))) (by rfl) sc_is_term.nd rfl rfl (sw_true rfl rfl rfl (by decide +kernel)) (pi_list (pv 2)) (blkOk_by (own := [("term", 5), ("inner", 6)]) (N := ["thing", "people", "level", "many", "depth", "term", "inner"]) (sc := defScope s_is_term) (by decide +kernel)) (vs1 := [6]) (by decide) (fun _ _ _ _ _ => (pg_name (i := 5) sc_is_term.nd rfl (Or.inl rfl))) (fun _ _ _ _ _ => pts_nil) (fun _ _ _ _ _ => (pi_tup (pe_c c_inner_terms hr (by first | decide | omega) rfl (pa_cons (pv 5) pa_nil)))) (fun _ _ _ _ _ => (pg_name (i := 6) sc_is_term.nd rfl (Or.inl rfl))) (fun _ _ _ _ _ => pts_nil) (fun _ _ _ _ _ => (pv 6)))))))))
    (pss_one (ps_ret pe_bl)))))), ?_⟩
    refine ⟨_, rfl, (by show 1 ≤ sizeLine; decide), fun L0 hL0 => ?_⟩
    have s0 := same_new (o := .lst [v]) hL0
    refine ⟨fun m σ H' => ∃ (L : Addr) (us : List V) (ts : List Tm) (many depth : Int), σ = [some v, some (.int (n : Int)), some (.ref L), some (.int many), some (.int depth), none, none] ∧ H' L = some (.lst us) ∧ RTs K H' us ts ∧ Tm.Oks n sz ts ∧ Same H H' ∧
        0 ≤ many ∧ many + (Tm.cnts ts : Int) ≤ 60 ∧ 0 ≤ depth ∧ depth + (Tm.deps ts : Int) ≤ 8 ∧ m = Tm.deps ts,
      ⟨_, L0, [v], [t], 0, 0, rfl, upd_same, .cons (rt.mono (Same.kt s0)) .nil, ⟨hok, trivial⟩, s0, by omega, by simp [Tm.cnts]; omega, by omega, by simp [Tm.deps]; omega, rfl⟩, ?_⟩
    rintro m σ H1 ⟨L, us, ts, many, depth, rfl, hL, hu, ho, s1, m0, m1, d0, d1, rfl⟩
    have ul : us.length = ts.length := RTs.length hu
    refine ⟨_, rfl, _, .inl ⟨us, SqL.of hL, rfl⟩, ?_⟩
    refine ite2 (fun c => ?_) (fun _ => k _ s1)
    have hne : ts ≠ [] := by
      intro e
      subst e
      have : us = [] := List.eq_nil_of_length_eq_zero ul
      subst this
      cases c
    have df := deps_flat hne
    have cf := cnts_flat ts
    have lc := len_cnts ts
    refine ⟨fun σ' H' => ∃ (L : Addr) (us' : List V) (many depth : Int), σ' = [some v, some (.int (n : Int)), some (.ref L), some (.int many), some (.int depth), none, none] ∧ H' L = some (.lst us') ∧ RTs K H' us' (ts.flatMap Tm.children) ∧ Same H H' ∧
        0 ≤ many ∧ many + (Tm.cnts (ts.flatMap Tm.children) : Int) ≤ 60 ∧ 0 ≤ depth ∧ depth + (Tm.deps (ts.flatMap Tm.children) : Int) ≤ 8,
      fun σ' H' ⟨L, us', many, depth, a1, a2, a3, a4, a5, a6, a7, a8⟩ => ⟨_, by omega, L, us', _, many, depth, a1, a2, a3, oks_flat ho, a4, a5, a6, a7, a8, rfl⟩, ?_⟩
    refine ⟨_, rfl, _, _, rfl, rfl, _, rfl, _, rfl, L, us, rfl, .inl (SqL.of hL), _, _, rfl, rfl, ?_⟩
    have lp := List.length_pos_iff.mpr hne
    refine ⟨_, rfl, _, _, rfl, rfl, _, rfl, ite2 (fun c => absurd (of_decide_eq_true c) (show ¬ (8 : Int) < depth + 1 by omega)) (fun _ => ?_)⟩
    refine ⟨_, rfl, _, _, rfl, rfl, _, rfl, ite2 (fun c => absurd (of_decide_eq_true c) (show ¬ (60 : Int) < many + (us.length : Int) by omega)) (fun _ => ?_)⟩
    refine ⟨_, rfl, L, rfl, ⟨_, SqL.of hL⟩, fun D hD => ?_⟩
    have hDL : L ≠ D := ne_of_none hL hD
    refine it_list (K := K) (a := L) (xs := us) (fun i H' => ∃ zs : List Bool, H' D = some (.lst (zs.map V.bl)) ∧ zs.length = i ∧ (∀ z ∈ zs, z = true) ∧ Same H1 H')
      ⟨[], upd_same, rfl, by simp, same_new hD⟩ (fun i H' ⟨_, _, _, _, s5⟩ => s5.seq (SqL.of hL)) ?_ ?_
    · rintro i x H' hx ⟨zs, g1, g2, g3, g4⟩
      obtain ⟨u, hu1, ru⟩ := RTs.getV hu hx
      have hi := (List.getElem?_eq_some_iff.mp hx).1
      refine ⟨rfl, _, rfl, _, rfl, x, n, sz, u, rfl, ru.mono (Same.kt g4), (oks_iff _ _ _).mp ho u (List.mem_of_getElem? hu1), hs, fun H2 s6 => ⟨_, s6 _ _ g1, by rw [List.length_map, g2]; exact small1000 (by omega), zs ++ [true], by rw [List.map_append]; exact upd_same, by simp [g2], ?_, Same.mut (g4.trans s6) hD⟩⟩
      intro q hq
      rcases List.mem_append.mp hq with h | h
      · exact g3 q h
      · exact List.mem_singleton.mp h
    · rintro H2 ⟨zs, g1, g2, g3, s2⟩
      refine ⟨D, zs, rfl, SqL.of g1, ?_⟩
      have ea : zs.all id = true := List.all_eq_true.mpr g3
      rw [ea]
      refine ⟨_, rfl, ?_⟩
      have hL2 := s2 _ _ hL
      have hu2 : RTs K H2 us ts := RpAll.mono (Same.kt s2) hu
      refine ⟨_, rfl, L, rfl, ⟨_, SqL.of hL2⟩, fun D2 hD2 => ?_⟩
      refine it_list (K := K) (a := L) (xs := us) (fun i H' => ∃ zs : List V, H' D2 = some (.lst zs) ∧ RTs K H' zs ((ts.take i).flatMap Tm.children) ∧ Same H2 H')
        ⟨[], upd_same, by simp [RTs, Tm.datas]; exact .nil, same_new hD2⟩ (fun i H' ⟨_, _, _, s5⟩ => s5.seq (SqL.of hL2)) ?_ ?_
      · rintro i x H3 hx ⟨zs, b1, b2, b3⟩
        obtain ⟨u, hu1, ru⟩ := RTs.getV hu2 hx
        have hou := (oks_iff _ _ _).mp ho u (List.mem_of_getElem? hu1)
        refine ⟨rfl, _, rfl, x, u, rfl, ru.mono (Same.kt b3), mean_of_ok hou, fun p ws H4 s4 hp hw => ⟨p, rfl, ⟨_, hp⟩, ?_⟩⟩
        have tk : ts.take (i + 1) = ts.take i ++ [u] := take_succ' hu1
        have fl : (ts.take (i + 1)).flatMap Tm.children = (ts.take i).flatMap Tm.children ++ u.children := by
          rw [tk, List.flatMap_append, List.flatMap_cons, List.flatMap_nil, List.append_nil]
        have small : ((ts.take i).flatMap Tm.children ++ u.children).length ≤ 60 := by
          rw [← fl]
          have h1 := len_cnts ((ts.take (i + 1)).flatMap Tm.children)
          have h2 := cnts_flat (ts.take (i + 1))
          have h3 : Tm.cnts (ts.take (i + 1)) ≤ Tm.cnts ts := by
            have e : Tm.cnts ts = Tm.cnts (ts.take (i + 1)) + Tm.cnts (ts.drop (i + 1)) := by rw [← cnts_append, List.take_append_drop]
            omega
          omega
        rw [List.length_append] at small
        have wl : ws.length = u.children.length := RTs.length hw
        refine it_tup (K := K) (a := p) (xs := ws) (fun j H' => ∃ zs : List V, H' D2 = some (.lst zs) ∧ RTs K H' zs ((ts.take i).flatMap Tm.children ++ u.children.take j) ∧ Same H2 H' ∧ KT H4 H')
          ⟨zs, s4 _ _ b1, by rw [List.take_zero, List.append_nil]; exact RpAll.mono (Same.kt s4) b2, b3.trans s4, KT.refl _⟩ (fun j H' ⟨_, _, _, _, s5⟩ => s5.sq hp) ?_ ?_
        · rintro j y H5 hy ⟨zs, q1, q2, q3, q4⟩
          obtain ⟨c, hc, rc⟩ := RTs.getV hw hy
          have zl : zs.length ≤ 60 := by
            have := RTs.length q2
            rw [this, List.length_append, List.length_take]
            omega
          refine ⟨rfl, _, rfl, zs, q1, small1000 (by omega), zs ++ [y], upd_same, ?_, Same.mut q3 hD2, q4.trans (KT.updl q1)⟩
          rw [take_succ' hc, ← List.append_assoc]
          exact RpAll.mono (KT.updl q1) (RTs.snoc q2 (rc.mono q4))
        · rintro H5 ⟨zs, q1, q2, q3, q4⟩
          rw [wl, List.take_length] at q2
          exact ⟨zs, q1, by rw [fl]; exact q2, q3⟩
      · rintro H3 ⟨zs, b1, b2, b3⟩
        rw [ul, List.take_length] at b2
        exact ⟨D2, zs, many + (us.length : Int), depth + 1, rfl, b1, b2, (s1.trans s2).trans b3, by omega, by omega, by omega, by omega⟩
end
end CB

set_option Elab.async false
set_option linter.all false
set_option maxRecDepth 100000
set_option maxHeartbeats 4000000
namespace CB
open PySem PySem.Spec PyProof.Rows L2
open C8 (Cal Met Mak pe_c pe_mk pe_mt pe_mt0 pe_gc CalAt)
section
variable {P : Program} {w : World} {K : PySem.W.Frag} {mg : Str → Option Value} {base : Heap}
abbrev n_is_people : List Str := ["thing"]
theorem sc_is_people : FnScope ["thing"] ["thing"] (defScope s_is_people) := ⟨rfl, rfl, rfl, by decide +kernel, rfl, by decide +kernel, by decide +kernel⟩
def sp_is_people : Sp := fun vs H Q _ => ∃ p : Int, vs = [.int p] ∧ 1 ≤ p ∧ p ≤ 6 ∧ Q (.bl true) H
theorem ok_is_people (F : FnD K mg "is_people" s_is_people) (c_is_integer : Cal P w K mg base 1 "is_integer" sp_is_integer []) (g_MOST_PEOPLE : ∃ u, mg "MOST_PEOPLE" = some u ∧ RelV (.int 6) u) : Cal P w K mg base 2 "is_people" sp_is_people [] := by
  refine calOf F sc_is_people (fun _ _ _ _ _ _ us hl => match us, hl with | [_], _ => rfl) (fun vs H Q E h => ?_) (fun cdv f A outer s H vs Q E hr h => ?_)
  · obtain ⟨_, rfl, _⟩ := h
    rfl
  · obtain ⟨p, rfl, h0, h1, k⟩ := h
    refine ⟨_, (pss_one (ps_ret (pe_and (pe_c c_is_integer hr (by first | decide | omega) rfl (pa_cons (pv 0) pa_nil)) (pe_one (pe_chain op_le op_le pe_int (pv 0) (pe_gc rfl g_MOST_PEOPLE)))))), ?_⟩
    refine ⟨_, rfl, _, rfl, _, rfl, _, rfl, _, _, rfl, rfl, _, rfl, ite2 (fun _ => ?_) (fun c => absurd (decide_eq_true h0) c)⟩
    refine ⟨_, _, rfl, rfl, ?_⟩
    show Q (V.bl (decide (p ≤ 6))) H
    rw [decide_eq_true h1]
    exact k
abbrev n_Rule___init__ : List Str := ["self", "people", "term"]
theorem sc_Rule___init__ : FnScope ["self", "people", "term"] ["self", "people", "term"] (defScope s_Rule___init__) := ⟨rfl, rfl, rfl, by decide +kernel, rfl, by decide +kernel, by decide +kernel⟩
/-- a rule: an instance with its people and its term -/
def ruleF (n : Nat) (v : V) : List (Str × V) := [(("people" : Str), V.int (n : Int)), (("term" : Str), v)]
theorem ruleF_put (n : Nat) (v : V) : putF "term" v (putF "people" (.int (n : Int)) []) = ruleF n v := by
  show (if ("people" : Str) = "term" then [(("people" : Str), v)] else (("people" : Str), V.int (n : Int)) :: putF "term" v []) = ruleF n v
  rw [if_neg (by decide +kernel)]
  rfl
theorem ruleF_people (n : Nat) (v : V) : (ruleF n v).lookup ("people" : Str) = some (.int (n : Int)) := by
  rw [← ruleF_put, lookup_putF, if_neg (by decide +kernel), lookup_putF, if_pos rfl]
theorem ruleF_term (n : Nat) (v : V) : (ruleF n v).lookup ("term" : Str) = some v := by
  rw [← ruleF_put, lookup_putF, if_pos rfl]
def RuleAt (K : PySem.W.Frag) (C : Addr) (H : Hp) (a : Addr) (n : Nat) (t : Tm) : Prop := ∃ dx v, H a = some (.ins C dx (ruleF n v)) ∧ Rp K H v t.data
def sp_Rule (K : PySem.W.Frag) (C : Addr) : Sp := fun vs H Q _ => ∃ (p dx : Addr) (v : V) (n s : Nat) (t : Tm), vs = [.ref p, .int (n : Int), v] ∧ H p = some (.ins C dx []) ∧ Rp K H v t.data ∧ t.Ok n s ∧ s ≤ 9000 ∧ t.dep ≤ 8 ∧ t.cnt ≤ 60 ∧ 1 ≤ n ∧ n ≤ 6 ∧
  ∀ H', (∀ b o, b ≠ p → H b = some o → H' b = some o) → H' p = some (.ins C dx (ruleF n v)) → Q .non H'
theorem ok_Rule {C : Addr} (F : MkD K mg "Rule" C "Rule.__init__" s_Rule___init__) (hc : Cls K C) (n1 : NoAttr K C "people") (n2 : NoAttr K C "term") (c_is_people : Cal P w K mg base 2 "is_people" sp_is_people []) (c_is_term : Cal P w K mg base 5 "is_term" (sp_is_term K) []) : Mak P w K mg base 6 "Rule" C (sp_Rule K C) [] := by
  refine makOf F sc_Rule___init__ (fun _ _ _ _ _ _ us hl => match us, hl with | [_, _, _], _ => rfl) (fun vs H Q E h => ?_) (fun cdv f A outer s H vs Q E hr h => ?_)
  · obtain ⟨_, _, _, _, _, _, rfl, _⟩ := h
    rfl
  · obtain ⟨p, dx, v, n, sz, t, rfl, hp, rt, ho, hs, hd, hcn, hn1, hn6, k⟩ := h
    refine ⟨_, (pss_cons (ps_if (pt_not (pt_val (pe_c c_is_people hr (by first | decide | omega) rfl (pa_cons (pv 1) pa_nil)))) (pss_one ps_never) pss_nil)
    (pss_cons (ps_if (pt_not (pt_val (pe_c c_is_term hr (by first | decide | omega) rfl (pa_cons (pv 2) (pa_cons (pv 1) pa_nil))))) (pss_one ps_never) pss_nil)
    (pss_cons (ps_fld (pv 0) (pv 1) rfl)
    (pss_one (ps_fld (pv 0) (pv 2) rfl))))), ?_⟩
    refine ⟨_, rfl, (n : Int), rfl, by omega, by omega, _, rfl, _, rfl, _, rfl, v, n, sz, t, rfl, rt, ho, hs, hd, hcn, fun H1 s1 => ⟨_, rfl, ?_⟩⟩
    refine ⟨_, rfl, _, rfl, p, C, dx, _, rfl, s1 _ _ hp, hc, n1, (by show 0 < 1000; decide), _, rfl, _, rfl, p, C, dx, _, rfl, upd_same, hc, n2, (by show 1 < 1000; decide), ?_⟩
    refine k _ (fun b o hb e => ?_) ?_
    · rw [upd_ne hb, upd_ne hb]
      exact s1 _ _ e
    · rw [upd_same, ruleF_put]
/-! ### the ways of numbers -/
abbrev n_Numbers_fixed : List Str := ["self", "number"]
theorem sc_Numbers_fixed : FnScope ["self", "number"] ["self", "number"] (defScope s_Numbers_fixed) := ⟨rfl, rfl, rfl, by decide +kernel, rfl, by decide +kernel, by decide +kernel⟩
abbrev n_Numbers_mean : List Str := ["self", "weights", "numbers"]
theorem sc_Numbers_mean : FnScope ["self", "weights", "numbers"] ["self", "weights", "numbers"] (defScope s_Numbers_mean) := ⟨rfl, rfl, rfl, by decide +kernel, rfl, by decide +kernel, by decide +kernel⟩
abbrev n_Numbers_lesser : List Str := ["self", "one", "other"]
theorem sc_Numbers_lesser : FnScope ["self", "one", "other"] ["self", "one", "other"] (defScope s_Numbers_lesser) := ⟨rfl, rfl, rfl, by decide +kernel, rfl, by decide +kernel, by decide +kernel⟩
abbrev n_Numbers_greater : List Str := ["self", "one", "other"]
theorem sc_Numbers_greater : FnScope ["self", "one", "other"] ["self", "one", "other"] (defScope s_Numbers_greater) := ⟨rfl, rfl, rfl, by decide +kernel, rfl, by decide +kernel, by decide +kernel⟩
def sp_fixed (C : Addr) : Sp := fun vs H Q _ => ∃ (a : Addr) (v : V), vs = [.ref a, v] ∧ Q v H
theorem ok_fixed {C : Addr} (F : MtD K C "fixed" "Numbers.fixed" s_Numbers_fixed) : Met P w K mg base 1 C "fixed" (sp_fixed C) [] := by
  refine metOf F sc_Numbers_fixed (fun _ _ _ _ _ _ us hl => match us, hl with | [_, _], _ => rfl) (fun vs H Q E h => ?_) (fun cdv f A outer s H vs Q E hr h => ?_)
  · obtain ⟨_, _, rfl, _⟩ := h
    rfl
  · obtain ⟨a, v, rfl, k⟩ := h
    refine ⟨_, (pss_one (ps_ret (pv 1))), ?_⟩
    exact ⟨_, rfl, k⟩
def sp_self (sp : Sp) : Sp := fun vs H Q E => ∃ (a : Addr) (us : List V), vs = .ref a :: us ∧ us.length = 2 ∧ sp us H Q E
theorem ok_mean {C : Addr} (F : MtD K C "mean" "Numbers.mean" s_Numbers_mean) (c_mean_of : Cal P w K mg base 3 "mean_of" (sp_mean_of K) []) : Met P w K mg base 4 C "mean" (sp_self (sp_mean_of K)) [] := by
  refine metOf F sc_Numbers_mean (fun _ _ _ _ _ _ us hl => match us, hl with | [_, _, _], _ => rfl) (fun vs H Q E h => ?_) (fun cdv f A outer s H vs Q E hr h => ?_)
  · obtain ⟨_, us, rfl, hl, _⟩ := h
    rw [List.length_cons, hl]
    rfl
  · obtain ⟨a, us, rfl, hl, a1, a2, vs2, L, rfl, h⟩ := h
    refine ⟨_, (pss_one (ps_ret (pe_c c_mean_of hr (by first | decide | omega) rfl (pa_cons (pv 1) (pa_cons (pv 2) pa_nil))))), ?_⟩
    exact ⟨_, rfl, _, rfl, a1, a2, vs2, L, rfl, h⟩
theorem ok_nlesser {C : Addr} (F : MtD K C "lesser" "Numbers.lesser" s_Numbers_lesser) (c_lesser_amounts : Cal P w K mg base 2 "lesser_amounts" (sp_lesser K) []) : Met P w K mg base 3 C "lesser" (sp_self (sp_lesser K)) [] := by
  refine metOf F sc_Numbers_lesser (fun _ _ _ _ _ _ us hl => match us, hl with | [_, _, _], _ => rfl) (fun vs H Q E h => ?_) (fun cdv f A outer s H vs Q E hr h => ?_)
  · obtain ⟨_, us, rfl, hl, _⟩ := h
    rw [List.length_cons, hl]
    rfl
  · obtain ⟨a, us, rfl, hl, v1, v2, x, y, m, n, rfl, h⟩ := h
    refine ⟨_, (pss_one (ps_ret (pe_c c_lesser_amounts hr (by first | decide | omega) rfl (pa_cons (pv 1) (pa_cons (pv 2) pa_nil))))), ?_⟩
    exact ⟨_, rfl, _, rfl, v1, v2, x, y, m, n, rfl, h⟩
theorem ok_ngreater {C : Addr} (F : MtD K C "greater" "Numbers.greater" s_Numbers_greater) (c_greater_amounts : Cal P w K mg base 2 "greater_amounts" (sp_greater K) []) : Met P w K mg base 3 C "greater" (sp_self (sp_greater K)) [] := by
  refine metOf F sc_Numbers_greater (fun _ _ _ _ _ _ us hl => match us, hl with | [_, _, _], _ => rfl) (fun vs H Q E h => ?_) (fun cdv f A outer s H vs Q E hr h => ?_)
  · obtain ⟨_, us, rfl, hl, _⟩ := h
    rw [List.length_cons, hl]
    rfl
  · obtain ⟨a, us, rfl, hl, v1, v2, x, y, m, n, rfl, h⟩ := h
    refine ⟨_, (pss_one (ps_ret (pe_c c_greater_amounts hr (by first | decide | omega) rfl (pa_cons (pv 1) (pa_cons (pv 2) pa_nil))))), ?_⟩
    exact ⟨_, rfl, _, rfl, v1, v2, x, y, m, n, rfl, h⟩
/-! ### the least, the greatest, the k-th -/
theorem cut1 {v : V} {vs : List V} : cutV (v :: vs) (some 1) none = vs := by
  unfold cutV
  show ((v :: vs).drop (HT.sIx (v :: vs).length 0 (some ((1 : Nat) : Int)))).take ((v :: vs).length - HT.sIx (v :: vs).length 0 (some ((1 : Nat) : Int))) = vs
  rw [HT.sIx_nat, List.length_cons, Nat.min_eq_left (by omega)]
  show vs.take (vs.length + 1 - 1) = vs
  rw [Nat.add_sub_cancel, List.take_length]
def sp_pick (K : PySem.W.Frag) (C : Addr) (pick : List Rat → Rat) : Sp := fun vs H Q _ => ∃ (a b dx : Addr) (us : List V) (qs : List Rat), vs = [.ref a, .ref b] ∧ SqL K H a us ∧ H b = some (.ins C dx []) ∧ RQ K H us qs ∧ qs ≠ [] ∧ (∀ q ∈ qs, Sz 9000 q) ∧
  ∀ v H', Same H H' → RF K H' v (pick qs) → Q v H'
theorem sz_rmin {k : Nat} {a b : Rat} (h1 : Sz k a) (h2 : Sz k b) : Sz k (rmin a b) := by unfold rmin; split <;> assumption
theorem sz_rmax {k : Nat} {a b : Rat} (h1 : Sz k a) (h2 : Sz k b) : Sz k (rmax a b) := by unfold rmax; split <;> assumption
abbrev n_least_of : List Str := ["things", "ways", "found", "thing"]
theorem sc_least_of : FnScope ["things", "ways", "found", "thing"] ["things", "ways"] (defScope s_least_of) := ⟨rfl, rfl, rfl, by decide +kernel, rfl, by decide +kernel, by decide +kernel⟩
theorem ok_least_of {C : Addr} (F : FnD K mg "least_of" s_least_of) (m_lesser : Met P w K mg base 3 C "lesser" (sp_self (sp_lesser K)) []) : Cal P w K mg base 4 "least_of" (sp_pick K C minL) [] := by
  refine calOf F sc_least_of (fun _ _ _ _ _ _ us hl => match us, hl with | [_, _], _ => rfl) (fun vs H Q E h => ?_) (fun cdv f A outer s H vs Q E hr h => ?_)
  · obtain ⟨_, _, _, _, _, rfl, _⟩ := h
    rfl
  · obtain ⟨a, b, dx, us, qs, rfl, hS, hb, hu, hne, hz, k⟩ := h
    cases qs with
    | nil => exact absurd rfl hne
    | cons q qs =>
      obtain ⟨v, vs, rfl, rq, hv⟩ := RpAll.consI hu
      refine ⟨_, (pss_cons (ps_set (i := 2) sc_least_of.nd rfl (Or.inl rfl) (pe_ix ix_list (pv 0) pe_int (fun _ _ => rfl)))
    (pss_cons (ps_for PassesOwn.never rfl (pi_list (pe_slice sl_list (pv 0) (po_some pe_int) po_none)) (pg_name (i := 3) sc_least_of.nd rfl (Or.inl rfl)) (pss_one (ps_set (i := 2) sc_least_of.nd rfl (Or.inl rfl) (pe_mt m_lesser hr (by first | decide | omega) (pv 1) (pa_cons (pv 2) (pa_cons (pv 3) pa_nil))))))
    (pss_one (ps_ret (pv 2))))), ?_⟩
      refine ⟨_, rfl, a, _, 0, v, rfl, rfl, hS, at_of (j := 0) rfl rfl, ?_⟩
      refine ⟨_, rfl, _, rfl, a, _, rfl, hS, fun p hp => ?_⟩
      rw [cut1]
      have s1 := same_new (o := .lst vs) hp
      refine ⟨p, rfl, ⟨_, SqL.of upd_same⟩, for_list (K := K) (a := p) (xs := vs) (fun i σ H' => ∃ (x : V) (y : Option V), σ = [some (.ref a), some (.ref b), some x, y] ∧ RF K H' x ((qs.take i).foldl rmin q) ∧ Sz 9000 ((qs.take i).foldl rmin q) ∧ Same (upd H p (.lst vs)) H')
        ⟨v, none, rfl, (PF.of rq).mono (Same.kt s1), hz q List.mem_cons_self, Same.refl _⟩ (fun i σ H' _ ⟨_, _, _, _, _, s5⟩ => s5.seq (SqL.of upd_same)) ?_ ?_⟩
      · rintro i y σ H' hi ⟨x, _, rfl, r1, z1, s5⟩
        obtain ⟨q2, e2, r2⟩ := RQ.getV (qs := qs) hv hi
        have zq := hz q2 (List.mem_cons_of_mem _ (List.mem_of_getElem? e2))
        have tk := take_succ' e2
        refine ⟨_, rfl, b, dx, [], rfl, s5 _ _ (s1 _ _ hb), rfl, _, rfl, _, rfl, b, [x, y], rfl, rfl, x, y, _, q2, 9000, 9000, rfl, r1, r2.mono (Same.kt (s1.trans s5)), z1, zq, by omega, fun v3 r3 => ?_⟩
        refine ⟨v3, _, rfl, ?_, ?_, s5⟩
        · rw [tk, List.foldl_append]
          exact r3
        · rw [tk, List.foldl_append]
          exact sz_rmin z1 zq
      · rintro σ H' ⟨x, _, rfl, r1, z1, s5⟩
        have hl : vs.length = qs.length := RQ.length (qs := qs) hv
        rw [hl, List.take_length] at r1
        exact ⟨_, rfl, k x H' (s1.trans s5) r1⟩
abbrev n_greatest_of : List Str := ["things", "ways", "found", "thing"]
theorem sc_greatest_of : FnScope ["things", "ways", "found", "thing"] ["things", "ways"] (defScope s_greatest_of) := ⟨rfl, rfl, rfl, by decide +kernel, rfl, by decide +kernel, by decide +kernel⟩
theorem ok_greatest_of {C : Addr} (F : FnD K mg "greatest_of" s_greatest_of) (m_greater : Met P w K mg base 3 C "greater" (sp_self (sp_greater K)) []) : Cal P w K mg base 4 "greatest_of" (sp_pick K C maxL) [] := by
  refine calOf F sc_greatest_of (fun _ _ _ _ _ _ us hl => match us, hl with | [_, _], _ => rfl) (fun vs H Q E h => ?_) (fun cdv f A outer s H vs Q E hr h => ?_)
  · obtain ⟨_, _, _, _, _, rfl, _⟩ := h
    rfl
  · obtain ⟨a, b, dx, us, qs, rfl, hS, hb, hu, hne, hz, k⟩ := h
    cases qs with
    | nil => exact absurd rfl hne
    | cons q qs =>
      obtain ⟨v, vs, rfl, rq, hv⟩ := RpAll.consI hu
      refine ⟨_, (pss_cons (ps_set (i := 2) sc_greatest_of.nd rfl (Or.inl rfl) (pe_ix ix_list (pv 0) pe_int (fun _ _ => rfl)))
    (pss_cons (ps_for PassesOwn.never rfl (pi_list (pe_slice sl_list (pv 0) (po_some pe_int) po_none)) (pg_name (i := 3) sc_greatest_of.nd rfl (Or.inl rfl)) (pss_one (ps_set (i := 2) sc_greatest_of.nd rfl (Or.inl rfl) (pe_mt m_greater hr (by first | decide | omega) (pv 1) (pa_cons (pv 2) (pa_cons (pv 3) pa_nil))))))
    (pss_one (ps_ret (pv 2))))), ?_⟩
      refine ⟨_, rfl, a, _, 0, v, rfl, rfl, hS, at_of (j := 0) rfl rfl, ?_⟩
      refine ⟨_, rfl, _, rfl, a, _, rfl, hS, fun p hp => ?_⟩
      rw [cut1]
      have s1 := same_new (o := .lst vs) hp
      refine ⟨p, rfl, ⟨_, SqL.of upd_same⟩, for_list (K := K) (a := p) (xs := vs) (fun i σ H' => ∃ (x : V) (y : Option V), σ = [some (.ref a), some (.ref b), some x, y] ∧ RF K H' x ((qs.take i).foldl rmax q) ∧ Sz 9000 ((qs.take i).foldl rmax q) ∧ Same (upd H p (.lst vs)) H')
        ⟨v, none, rfl, (PF.of rq).mono (Same.kt s1), hz q List.mem_cons_self, Same.refl _⟩ (fun i σ H' _ ⟨_, _, _, _, _, s5⟩ => s5.seq (SqL.of upd_same)) ?_ ?_⟩
      · rintro i y σ H' hi ⟨x, _, rfl, r1, z1, s5⟩
        obtain ⟨q2, e2, r2⟩ := RQ.getV (qs := qs) hv hi
        have zq := hz q2 (List.mem_cons_of_mem _ (List.mem_of_getElem? e2))
        have tk := take_succ' e2
        refine ⟨_, rfl, b, dx, [], rfl, s5 _ _ (s1 _ _ hb), rfl, _, rfl, _, rfl, b, [x, y], rfl, rfl, x, y, _, q2, 9000, 9000, rfl, r1, r2.mono (Same.kt (s1.trans s5)), z1, zq, by omega, fun v3 r3 => ?_⟩
        refine ⟨v3, _, rfl, ?_, ?_, s5⟩
        · rw [tk, List.foldl_append]
          exact r3
        · rw [tk, List.foldl_append]
          exact sz_rmax z1 zq
      · rintro σ H' ⟨x, _, rfl, r1, z1, s5⟩
        have hl : vs.length = qs.length := RQ.length (qs := qs) hv
        rw [hl, List.take_length] at r1
        exact ⟨_, rfl, k x H' (s1.trans s5) r1⟩
abbrev n_kth_greatest : List Str := ["k", "things", "ways", "_", "top", "left", "thing"]
theorem sc_kth_greatest : FnScope ["k", "things", "ways", "_", "top", "left", "thing"] ["k", "things", "ways"] (defScope s_kth_greatest) := ⟨rfl, rfl, rfl, by decide +kernel, rfl, by decide +kernel, by decide +kernel⟩
theorem bub_snoc (x : Rat) : ∀ (l : List Rat) (t : Rat), bub t (l ++ [x]) = ((bub t l).1 ++ [rmin (bub t l).2 x], rmax (bub t l).2 x)
  | [], t => rfl
  | y :: l, t => by
    have ih := bub_snoc x l (rmax t y)
    show (rmin t y :: (bub (rmax t y) (l ++ [x])).1, (bub (rmax t y) (l ++ [x])).2) = _
    rw [ih]
    rfl
def itB : Nat → List Rat → List Rat
  | 0, l => l
  | i + 1, l => bubL (itB i l)
theorem itB_in : ∀ (i : Nat) (l : List Rat), itB i (bubL l) = bubL (itB i l)
  | 0, l => rfl
  | i + 1, l => by show bubL (itB i (bubL l)) = bubL (bubL (itB i l)); rw [itB_in i l]
theorem kthG_itB : ∀ (k : Nat) (l : List Rat), kthG k l = maxL (itB k l)
  | 0, l => rfl
  | k + 1, l => by show kthG k (bubL l) = maxL (bubL (itB k l)); rw [kthG_itB k, itB_in]
theorem itB_length : ∀ (i : Nat) (l : List Rat), (itB i l).length = l.length - i
  | 0, l => rfl
  | i + 1, l => by show (bubL (itB i l)).length = _; rw [bubL_length, itB_length i l]; omega
theorem bubL_mem {l : List Rat} {x : Rat} (h : x ∈ bubL l) : x ∈ l := by
  cases l with
  | nil => cases h
  | cons y l => exact (bub_perm l y).mem_iff.mp (List.mem_append_left _ h)
theorem itB_mem : ∀ (i : Nat) {l : List Rat} {x : Rat}, x ∈ itB i l → x ∈ l
  | 0, _, _, h => h
  | i + 1, _, _, h => itB_mem i (bubL_mem h)
def sp_kth (K : PySem.W.Frag) (C : Addr) : Sp := fun vs H Q _ => ∃ (a b dx : Addr) (us : List V) (qs : List Rat) (k : Nat), vs = [.int ((k : Int) + 1), .ref a, .ref b] ∧ SqL K H a us ∧ H b = some (.ins C dx []) ∧ RQ K H us qs ∧ k < qs.length ∧ qs.length ≤ 8 ∧ (∀ q ∈ qs, Sz 9000 q) ∧
  ∀ v H', Same H H' → RF K H' v (kthG k qs) → Q v H'
theorem ok_kth_greatest {C : Addr} (F : FnD K mg "kth_greatest" s_kth_greatest) (m_lesser : Met P w K mg base 3 C "lesser" (sp_self (sp_lesser K)) []) (m_greater : Met P w K mg base 3 C "greater" (sp_self (sp_greater K)) []) (c_greatest_of : Cal P w K mg base 4 "greatest_of" (sp_pick K C maxL) [])
    (T_range : mg "range" = none) : Cal P w K mg base 5 "kth_greatest" (sp_kth K C) [] := by
  refine calOf F sc_kth_greatest (fun _ _ _ _ _ _ us hl => match us, hl with | [_, _, _], _ => rfl) (fun vs H Q E h => ?_) (fun cdv f A outer s H vs Q E hr h => ?_)
  · obtain ⟨_, _, _, _, _, _, rfl, _⟩ := h
    rfl
  · obtain ⟨a, b, dx, us, qs, k, rfl, hS, hb, hu, hk, hl8, hz, kk⟩ := h
    refine ⟨_, (pss_cons (ps_for PassesOwn.never rfl (pi_range1 (by rfl) T_range (pa_cons (pe_op op_sub (pv 0) pe_int) pa_nil)) (pg_name (i := 3) sc_kth_greatest.nd rfl (Or.inl rfl)) (pss_cons (ps_set (i := 4) sc_kth_greatest.nd rfl (Or.inl rfl) (pe_ix ix_list (pv 1) pe_int (fun _ _ => rfl)))
    (pss_cons (ps_set (i := 5) sc_kth_greatest.nd rfl (Or.inl rfl) (pe_lst pa_nil))
    (pss_cons (ps_for PassesOwn.never rfl (pi_list (pe_slice sl_list (pv 1) (po_some pe_int) po_none)) (pg_name (i := 6) sc_kth_greatest.nd rfl (Or.inl rfl)) (pss_cons (ps_expr (pe_bm PySem.F.plainAttrs_list PySem.F.slot_list_append PySem.F.type_list_append mt_append (pv 5) (pa_cons (pe_mt m_lesser hr (by first | decide | omega) (pv 2) (pa_cons (pv 4) (pa_cons (pv 6) pa_nil))) pa_nil)))
    (pss_one (ps_set (i := 4) sc_kth_greatest.nd rfl (Or.inl rfl) (pe_mt m_greater hr (by first | decide | omega) (pv 2) (pa_cons (pv 4) (pa_cons (pv 6) pa_nil)))))))
    (pss_one (ps_set (i := 1) sc_kth_greatest.nd rfl (Or.inl rfl) (pv 5)))))))
    (pss_one (ps_ret (pe_c c_greatest_of hr (by first | decide | omega) rfl (pa_cons (pv 1) (pa_cons (pv 2) pa_nil)))))), ?_⟩
    have ek : (k : Int) + 1 - 1 = (k : Int) := by omega
    refine ⟨_, rfl, _, _, rfl, rfl, _, rfl, by show -(2 ^ 62) ≤ (k : Int) + 1 - 1; omega, by show (k : Int) + 1 - 1 < 2 ^ 62; omega, ?_⟩
    refine for_range (lo := 0) (n := ((k : Int) + 1 - 1).toNat) (fun i σ H' => ∃ (a' : Addr) (us' : List V) (x y z u : Option V), σ = [some (.int ((k : Int) + 1)), some (.ref a'), some (.ref b), x, y, z, u] ∧ SqL K H' a' us' ∧ RQ K H' us' (itB i qs) ∧ Same H H')
      ⟨a, us, none, none, none, none, rfl, hS, hu, Same.refl _⟩ ?_ ?_
    · rintro i σ H1 hi ⟨a', us', _, _, _, _, rfl, hS1, hu1, s1⟩
      have hi' : i < k := by omega
      have il := itB_length i qs
      have zi : ∀ q ∈ itB i qs, Sz 9000 q := fun q h => hz q (itB_mem i h)
      cases eq : itB i qs with
      | nil =>
        rw [eq] at il
        simp at il
        omega
      | cons q qs' =>
        rw [eq] at hu1 zi il
        obtain ⟨v, vs, rfl, rq, hv⟩ := RpAll.consI hu1
        have hvl : vs.length = qs'.length := RQ.length (qs := qs') hv
        rw [List.length_cons] at il
        refine ⟨_, rfl, a', _, 0, v, rfl, rfl, hS1, at_of (j := 0) rfl rfl, ?_⟩
        refine ⟨Nat.zero_le _, fun l hl => ?_⟩
        have s2 := same_new (o := .lst []) hl
        refine ⟨_, rfl, _, rfl, a', _, rfl, s2.seq hS1, fun p hp => ?_⟩
        rw [cut1]
        have s3 := same_new (o := .lst vs) hp
        have nlp : l ≠ p := ne_of_none upd_same hp
        have hbq := hv
        refine ⟨p, rfl, ⟨_, SqL.of upd_same⟩, for_list (K := K) (a := p) (xs := vs) (fun j σ H' => ∃ (x : V) (u : Option V) (ys : List V), σ = [some (.int ((k : Int) + 1)), some (.ref a'), some (.ref b), some (.int (0 + (i : Int))), some x, some (.ref l), u] ∧ H' l = some (.lst ys) ∧ RQ K H' ys (bub q (qs'.take j)).1 ∧
            RF K H' x (bub q (qs'.take j)).2 ∧ Sz 9000 (bub q (qs'.take j)).2 ∧ Same H1 H' ∧ H' p = some (.lst vs) ∧ KT H1 H')
          ⟨v, _, [], rfl, by rw [upd_ne nlp]; exact upd_same, .nil, (PF.of rq).mono (Same.kt (s2.trans s3)), zi q List.mem_cons_self, s2.trans s3, upd_same, Same.kt (s2.trans s3)⟩ (fun j σ H' _ ⟨_, _, _, _, _, _, _, _, _, g, _⟩ => SqL.of g) ?_ ?_⟩
        · rintro j y σ H' hj ⟨x, _, ys, rfl, g1, g2, g3, g4, g5, g6, g7⟩
          obtain ⟨q2, e2, r2⟩ := RQ.getV (qs := qs') hv hj
          have zq := zi q2 (List.mem_cons_of_mem _ (List.mem_of_getElem? e2))
          have bs := bub_snoc q2 (qs'.take j) q
          have tk := take_succ' e2
          have ry := r2.mono g7
          have hj2 := (List.getElem?_eq_some_iff.mp hj).1
          have yl : ys.length ≤ 8 := by rw [RQ.length g2, bub_length, List.length_take]; omega
          have hb1 := g5 _ _ (s1 _ _ hb)
          refine ⟨_, rfl, .inl ⟨rfl, _, SqL.of g1⟩, _, rfl, b, dx, [], rfl, hb1, rfl, _, rfl, _, rfl, b, [x, y], rfl, rfl, x, y, _, q2, 9000, 9000, rfl, g3, ry, g4, zq, by omega, fun v3 r3 => ?_⟩
          refine ⟨l, ys, _, rfl, rfl, g1, small1000 (by omega), ?_⟩
          have hbl : b ≠ l := ne_of hb1 g1 (by intro z; cases z)
          refine ⟨_, rfl, b, dx, [], rfl, by rw [upd_ne hbl]; exact hb1, rfl, _, rfl, _, rfl, b, [x, y], rfl, rfl, x, y, _, q2, 9000, 9000, rfl, g3.mono (KT.updl g1), ry.mono (KT.updl g1), g4, zq, by omega, fun v4 r4 => ?_⟩
          refine ⟨v4, _, ys ++ [v3], rfl, upd_same, ?_, ?_, ?_, Same.mut g5 hl, by rw [upd_ne nlp.symm]; exact g6, g7.trans (KT.updl g1)⟩
          · rw [tk, bs]
            exact RpAll.mono (KT.updl g1) (RQ.snoc g2 r3)
          · rw [tk, bs]
            exact r4
          · rw [tk, bs]
            exact sz_rmax g4 zq
        · rintro σ H' ⟨x, _, ys, rfl, g1, g2, g3, g4, g5, g6, g7⟩
          rw [hvl, List.take_length] at g2
          refine ⟨_, rfl, l, ys, _, _, _, _, rfl, SqL.of g1, ?_, s1.trans g5⟩
          show RQ K H' ys (bubL (itB i qs))
          rw [eq]
          exact g2
    · rintro σ H1 ⟨a', us', _, _, _, _, rfl, hS1, hu1, s1⟩
      have en : ((k : Int) + 1 - 1).toNat = k := by omega
      rw [en] at hu1
      have il := itB_length k qs
      refine ⟨_, rfl, _, rfl, a', b, dx, us', itB k qs, rfl, hS1, s1 _ _ hb, hu1, ?_, fun q h => hz q (itB_mem k h), fun v H' s2 r => ?_⟩
      · intro e
        rw [e] at il
        simp at il
        omega
      · rw [← kthG_itB] at r
        exact kk v H' (s1.trans s2) r
end
end CB

set_option Elab.async false
set_option linter.all false
set_option maxRecDepth 100000
set_option maxHeartbeats 4000000
namespace CB
open PySem PySem.Spec PyProof.Rows L2
open C8 (Cal Met Mak pe_c pe_mk pe_mt pe_mt0 pe_gc CalAt)
section
variable {P : Program} {w : World} {K : PySem.W.Frag} {mg : Str → Option Value} {base : Heap}
/-! ### the sizes of values -/
/-- the parts of a mean of terms -/
def mparts (s : Nat) (bs : List Rat) (ws : List Int) (ts : List Tm) : List MPart := List.zipWith (fun w t => (w, t.val bs, t.wt s)) ws ts
theorem mparts_ws (s : Nat) (bs : List Rat) : ∀ {ws : List Int} {ts : List Tm}, ws.length = ts.length → (mparts s bs ws ts).map (fun x => x.1) = ws
  | [], [], _ => rfl
  | w :: ws, t :: ts, h => by
    have ih := mparts_ws s bs (ws := ws) (ts := ts) (by simpa using h)
    show w :: (mparts s bs ws ts).map (fun x => x.1) = w :: ws
    rw [ih]
theorem mparts_qs (s : Nat) (bs : List Rat) : ∀ {ws : List Int} {ts : List Tm}, ws.length = ts.length → (mparts s bs ws ts).map (fun x => x.2.1) = Tm.vals bs ts
  | [], [], _ => rfl
  | w :: ws, t :: ts, h => by
    have ih := mparts_qs s bs (ws := ws) (ts := ts) (by simpa using h)
    show t.val bs :: (mparts s bs ws ts).map (fun x => x.2.1) = _
    rw [ih, Tm.vals]
theorem mparts_sz (s : Nat) (bs : List Rat) : ∀ {ws : List Int} {ts : List Tm}, ws.length = ts.length → wsz (mparts s bs ws ts) = Tm.wts s ts
  | [], [], _ => rfl
  | w :: ws, t :: ts, h => by
    have ih := mparts_sz s bs (ws := ws) (ts := ts) (by simpa using h)
    show (t.wt s + 8) + wsz (mparts s bs ws ts) = _
    rw [ih, Tm.wts]
theorem mparts_avg (s : Nat) (bs : List Rat) {ws : List Int} {ts : List Tm} (h : ws.length = ts.length) : wsum (mparts s bs ws ts) / ((wtot (mparts s bs ws ts) : Int) : Rat) = wavg ws (Tm.vals bs ts) := by
  have e1 : wtot (mparts s bs ws ts) = ws.sum := by
    unfold wtot
    rw [mparts_ws s bs h]
  have e2 : wsum (mparts s bs ws ts) = (List.zipWith (fun (w : Int) (q : Rat) => (w : Rat) * q) ws (Tm.vals bs ts)).sum := by
    clear e1
    induction ws generalizing ts with
    | nil =>
      cases ts with
      | nil => rfl
      | cons t ts => simp at h
    | cons w ws ih =>
      cases ts with
      | nil => simp at h
      | cons t ts =>
        have := ih (ts := ts) (by simpa using h)
        show wsum ((w, t.val bs, t.wt s) :: mparts s bs ws ts) = _
        rw [wsum_cons, this, Tm.vals]
        simp
  rw [e1, e2]
  rfl
theorem mparts_mem {s : Nat} {bs : List Rat} {ws : List Int} {ts : List Tm} {x : MPart} (h : x ∈ mparts s bs ws ts) : x.1 ∈ ws ∧ ∃ t ∈ ts, x.2 = (t.val bs, t.wt s) := by
  induction ws generalizing ts with
  | nil => cases h
  | cons w ws ih =>
    cases ts with
    | nil => cases h
    | cons t ts =>
      rcases List.mem_cons.mp (show x ∈ (w, t.val bs, t.wt s) :: mparts s bs ws ts from h) with e | e
      · subst e
        exact ⟨List.mem_cons_self, t, List.mem_cons_self, rfl⟩
      · obtain ⟨h1, u, h2, h3⟩ := ih e
        exact ⟨List.mem_cons_of_mem _ h1, u, List.mem_cons_of_mem _ h2, h3⟩
theorem mparts_length {s : Nat} {bs : List Rat} {ws : List Int} {ts : List Tm} (h : ws.length = ts.length) : (mparts s bs ws ts).length = ts.length := by
  unfold mparts
  rw [List.length_zipWith, h, Nat.min_self]
theorem minL_sz {k : Nat} {l : List Rat} (h : l ≠ []) (hz : ∀ q ∈ l, Sz k q) : Sz k (minL l) := hz _ (minL_mem h).1
theorem maxL_sz {k : Nat} {l : List Rat} (h : l ≠ []) (hz : ∀ q ∈ l, Sz k q) : Sz k (maxL l) := hz _ (maxL_mem h).1
theorem kthG_mem {k : Nat} {l : List Rat} (h : k < l.length) : kthG k l ∈ l := by
  have e := kthG_isort k l h
  exact (isort_perm l).mem_iff.mp (List.mem_of_getElem? e)
theorem vals_length (bs : List Rat) (ts : List Tm) : (Tm.vals bs ts).length = ts.length := by rw [vals_map, List.length_map]
theorem vals_ne {bs : List Rat} {ts : List Tm} (h : ts ≠ []) : Tm.vals bs ts ≠ [] := by
  intro e
  have := vals_length bs ts
  rw [e] at this
  exact h (List.eq_nil_of_length_eq_zero this.symm)
mutual
theorem val_sz {n s : Nat} {bs : List Rat} (hb : ∀ q ∈ bs, Sz s q) (hn : bs.length = n) : ∀ {t : Tm}, t.Ok n s → Sz (t.wt s) (t.val bs)
  | .bid p, h => by
    have hp : p < bs.length := by rw [hn]; exact h
    show Sz s (bs.getD p 0)
    rw [List.getD_eq_getElem?_getD, List.getElem?_eq_getElem hp]
    exact hb _ (List.getElem_mem hp)
  | .fixed q, h => h.2.2
  | .mean ws ts, h => by
    obtain ⟨wl, tne, tl, hw, ho⟩ := h
    have hz := vals_sz hb hn ho
    have z := wmean_sz (L := mparts s bs ws ts) (fun x hx => ?_) ?_ ?_
    · rw [mparts_avg s bs wl, mparts_sz s bs wl] at z
      exact z
    · obtain ⟨h1, t, h2, h3⟩ := mparts_mem hx
      have g := hw _ h1
      rw [MOk, h3]
      exact ⟨g.1, g.2, hz t h2⟩
    · intro e
      have := mparts_length (s := s) (bs := bs) wl
      rw [e] at this
      exact tne (List.eq_nil_of_length_eq_zero this.symm)
    · rw [mparts_length wl]
      exact tl
  | .least ts, h => by
    obtain ⟨tne, tl, ho⟩ := h
    have hz := vals_sz hb hn ho
    refine minL_sz (vals_ne tne) fun q hq => ?_
    rw [vals_map] at hq
    obtain ⟨t, ht, rfl⟩ := List.mem_map.mp hq
    exact (hz t ht).mono (by have := wts_mem (s := s) ht; show _ ≤ Tm.wts s ts; omega)
  | .greatest ts, h => by
    obtain ⟨tne, tl, ho⟩ := h
    have hz := vals_sz hb hn ho
    refine maxL_sz (vals_ne tne) fun q hq => ?_
    rw [vals_map] at hq
    obtain ⟨t, ht, rfl⟩ := List.mem_map.mp hq
    exact (hz t ht).mono (by have := wts_mem (s := s) ht; show _ ≤ Tm.wts s ts; omega)
  | .ranked k ts, h => by
    obtain ⟨k1, k2, tl, ho⟩ := h
    have hz := vals_sz hb hn ho
    have m := kthG_mem (k := k - 1) (l := Tm.vals bs ts) (by rw [vals_length]; omega)
    rw [vals_map] at m
    obtain ⟨t, ht, e⟩ := List.mem_map.mp m
    show Sz (Tm.wts s ts) (kthG (k - 1) (Tm.vals bs ts))
    rw [vals_map, ← e]
    exact (hz t ht).mono (by have := wts_mem (s := s) ht; omega)
  | .between lo hi t, h => by
    obtain ⟨n1, n2, hl, ho⟩ := h
    have z := val_sz hb hn ho
    show Sz (t.wt s + s + s) (rmax lo (rmin hi (t.val bs)))
    exact sz_rmax (n1.2.2.mono (by omega)) (sz_rmin (n2.2.2.mono (by omega)) (z.mono (by omega)))
theorem vals_sz {n s : Nat} {bs : List Rat} (hb : ∀ q ∈ bs, Sz s q) (hn : bs.length = n) : ∀ {ts : List Tm}, Tm.Oks n s ts → ∀ t ∈ ts, Sz (t.wt s) (t.val bs)
  | [], _, _, h => by cases h
  | u :: ts, ho, t, h => by
    rcases List.mem_cons.mp h with e | e
    · rw [e]
      exact val_sz hb hn ho.1
    · exact vals_sz hb hn ho.2 t e
end
abbrev n_worked : List Str := ["term", "bids", "ways", "word", "inner", "part", "weight", "_"]
theorem sc_worked : FnScope ["term", "bids", "ways", "word", "inner", "part", "weight", "_"] ["term", "bids", "ways"] (defScope s_worked) := ⟨rfl, rfl, rfl, by decide +kernel, rfl, by decide +kernel, by decide +kernel⟩
def Tm.word : Tm → Str
  | .bid _ => "bid"
  | .fixed _ => "fixed"
  | .mean _ _ => "mean"
  | .least _ => "least"
  | .greatest _ => "greatest"
  | .ranked _ _ => "ranked"
  | .between _ _ _ => "between"
theorem t_head {H : Hp} {v : V} {t : Tm} (h : Rp K H v t.data) : ∃ a r, v = .ref a ∧ SqT K H a (.str t.word :: r) := by
  cases t with
  | bid p => obtain ⟨a, rfl, ha⟩ := t_bid h; exact ⟨a, _, rfl, ha⟩
  | fixed q => obtain ⟨a, x, rfl, ha, _⟩ := t_fixed h; exact ⟨a, _, rfl, ha⟩
  | mean ws ts => obtain ⟨a, x, _, rfl, ha, _⟩ := t_mean h; exact ⟨a, _, rfl, ha⟩
  | least ts => obtain ⟨a, x, _, rfl, ha, _⟩ := t_least h; exact ⟨a, _, rfl, ha⟩
  | greatest ts => obtain ⟨a, x, _, rfl, ha, _⟩ := t_greatest h; exact ⟨a, _, rfl, ha⟩
  | ranked k ts => obtain ⟨a, x, _, rfl, ha, _⟩ := t_ranked h; exact ⟨a, _, rfl, ha⟩
  | between lo hi t => obtain ⟨a, x, y, z, rfl, ha, _⟩ := t_between h; exact ⟨a, _, rfl, ha⟩
theorem kids_wt {s : Nat} {t u : Tm} (h : u ∈ t.children) : u.wt s ≤ t.wt s := by
  cases t with
  | bid p => cases h
  | fixed q => cases h
  | mean ws ts => have h' : u ∈ ts := h; have := wts_mem (s := s) h'; show _ ≤ Tm.wts s ts + 12; omega
  | least ts => have h' : u ∈ ts := h; have := wts_mem (s := s) h'; show _ ≤ Tm.wts s ts; omega
  | greatest ts => have h' : u ∈ ts := h; have := wts_mem (s := s) h'; show _ ≤ Tm.wts s ts; omega
  | ranked k ts => have h' : u ∈ ts := h; have := wts_mem (s := s) h'; show _ ≤ Tm.wts s ts; omega
  | between lo hi t => rw [List.mem_singleton.mp h]; show _ ≤ t.wt s + s + s; omega
theorem kids_len {n s : Nat} {t : Tm} (h : t.Ok n s) : t.children.length ≤ 8 := by
  cases t with
  | bid p => exact Nat.zero_le _
  | fixed q => exact Nat.zero_le _
  | mean ws ts => exact h.2.2.1
  | least ts => exact h.2.1
  | greatest ts => exact h.2.1
  | ranked k ts => exact h.2.2.1
  | between lo hi t => show 1 ≤ 8; omega
/-- bids: a tuple of numbers -/
def Bids (K : PySem.W.Frag) (H : Hp) (ab : Addr) (n s : Nat) (bs : List Rat) : Prop := ∃ us, SqT K H ab us ∧ RQ K H us bs ∧ bs.length = n ∧ ∀ q ∈ bs, NumOk s q
theorem Bids.mono {H H' : Hp} {ab : Addr} {n s : Nat} {bs : List Rat} (h : Bids K H ab n s bs) (e : KT H H') : Bids K H' ab n s bs := by
  obtain ⟨us, h1, h2, h3, h4⟩ := h
  exact ⟨us, e.sq h1, RpAll.mono e h2, h3, h4⟩
def spW (K : PySem.W.Frag) (C : Addr) (D : Nat) : Sp := fun vs H Q _ => ∃ (v : V) (ab b dx : Addr) (n s : Nat) (bs : List Rat) (t : Tm), vs = [v, .ref ab, .ref b] ∧ Rp K H v t.data ∧ t.Ok n s ∧ s ≤ 9000 ∧ t.dep ≤ D ∧ t.wt s + 20 ≤ 9000 ∧ Bids K H ab n s bs ∧ H b = some (.ins C dx []) ∧
  ∀ v H', Same H H' → RF K H' v (t.val bs) → Q v H'
theorem ok_worked {C : Addr} (F : FnD K mg "worked" s_worked) (c_inner_terms : Cal P w K mg base 1 "inner_terms" (sp_inner_terms K) []) (m_fixed : Met P w K mg base 1 C "fixed" (sp_fixed C) []) (m_mean : Met P w K mg base 4 C "mean" (sp_self (sp_mean_of K)) [])
    (m_lesser : Met P w K mg base 3 C "lesser" (sp_self (sp_lesser K)) []) (m_greater : Met P w K mg base 3 C "greater" (sp_self (sp_greater K)) []) (c_least_of : Cal P w K mg base 4 "least_of" (sp_pick K C minL) []) (c_greatest_of : Cal P w K mg base 4 "greatest_of" (sp_pick K C maxL) [])
    (c_kth_greatest : Cal P w K mg base 5 "kth_greatest" (sp_kth K C) []) : ∀ D : Nat, Cal P w K mg base (D + 6) "worked" (spW K C D) [] := by
  intro D
  induction D with
  | zero => exact calOf (k := 5) F sc_worked (fun _ _ _ _ _ _ us hl => match us, hl with | [_, _, _], _ => rfl) (fun vs H Q E h => by obtain ⟨_, _, _, _, _, _, _, t, _, _, _, _, h, _⟩ := h; rw [dep_children t] at h; omega) (fun cdv f A outer s H vs Q E hr h => by obtain ⟨_, _, _, _, _, _, _, t, _, _, _, _, h, _⟩ := h; rw [dep_children t] at h; omega)
  | succ D ih =>
    have c_worked := ih
    refine calOf (k := D + 6) F sc_worked (fun _ _ _ _ _ _ us hl => match us, hl with | [_, _, _], _ => rfl) (fun vs H Q E h => ?_) (fun cdv f A outer s H vs Q E hr h => ?_)
    · obtain ⟨_, _, _, _, _, _, _, _, rfl, _⟩ := h
      rfl
    · obtain ⟨v, ab, b, dx, n, sz, bs, t, rfl, rt, ho, hsz, hdep, hwt, hB, hb, k⟩ := h
      have hdc := dep_children t
      have hno : ∀ f : Str, ([] : List (Str × V)).lookup f = none := fun _ => rfl
      obtain ⟨us, hB1, hB2, hB3, hB4⟩ := id hB
      refine ⟨_, (pss_cons (ps_set (i := 3) sc_worked.nd rfl (Or.inl rfl) (pe_ix ix_tup (pv 0) pe_int (fun _ _ => rfl)))
    (pss_cons (ps_if (pt_cmpR op_eq (pv 3) pe_str (nomark _)) (pss_one (ps_ret (pe_ix ix_tup (pv 1) (pe_ix ix_tup (pv 0) pe_int (fun _ _ => rfl)) (fun _ _ => rfl)))) pss_nil)
    (pss_cons (ps_if (pt_cmpR op_eq (pv 3) pe_str (nomark _)) (pss_one (ps_ret (pe_mt m_fixed hr (by first | decide | omega) (pv 2) (pa_cons (pe_ix ix_tup (pv 0) pe_int (fun _ _ => rfl)) pa_nil)))) pss_nil)
    (pss_cons (ps_setLc (i := 4) (own := [("part", 5)]) (by rfl) sc_worked.nd rfl rfl (sw_true rfl rfl rfl (by decide +kernel)) (pi_tup (pe_c c_inner_terms hr (by first | decide | omega) rfl (pa_cons (pv 0) pa_nil))) (blkOk_by (own := [("part", 5)]) (N := ["term", "bids", "ways", "word", "inner", "part", "weight", "_"]) (sc := defScope s_worked) (by decide +kernel)) (fun _ _ _ _ _ => (pg_name (i := 5) sc_worked.nd rfl (Or.inl rfl))) (fun _ _ _ _ _ => pts_nil) (fun _ _ _ _ _ => (pe_c c_worked hr (by first | decide | omega) rfl (pa_cons (pv 5) (pa_cons (pv 1) (pa_cons (pv 2) pa_nil))))))
    (pss_cons (ps_if (pt_cmpR op_eq (pv 3) pe_str (nomark _)) (pss_one (ps_ret (pe_mt m_mean hr (by first | decide | omega) (pv 2) (pa_cons (pe_lc (own := [("weight", 6), ("_", 7)]) (g := (gTup K 2 (gCons (gName 6) (gCons (gName 7) gNil)))) (by rfl) sc_worked.nd (pi_tup (pe_ix ix_tup (pv 0) pe_int (fun _ _ => rfl))) (blkOk_by (own := [("weight", 6), ("_", 7)]) (N := ["term", "bids", "ways", "word", "inner", "part", "weight", "_"]) (sc := defScope s_worked) (by decide +kernel)) (fun _ _ _ _ _ => (pg_tup rfl (pgs_cons (pg_name (i := 6) sc_worked.nd rfl (Or.inl rfl)) (pgs_cons (pg_name (i := 7) sc_worked.nd rfl (Or.inl rfl)) pgs_nil)))) (fun _ _ _ _ _ => pts_nil) (fun _ _ _ _ _ => (pv 6))) (pa_cons (pv 4) pa_nil))))) pss_nil)
    (pss_cons (ps_if (pt_cmpR op_eq (pv 3) pe_str (nomark _)) (pss_one (ps_ret (pe_mt m_greater hr (by first | decide | omega) (pv 2) (pa_cons (pe_mt m_fixed hr (by first | decide | omega) (pv 2) (pa_cons (pe_ix ix_tup (pv 0) pe_int (fun _ _ => rfl)) pa_nil)) (pa_cons (pe_mt m_lesser hr (by first | decide | omega) (pv 2) (pa_cons (pe_mt m_fixed hr (by first | decide | omega) (pv 2) (pa_cons (pe_ix ix_tup (pv 0) pe_int (fun _ _ => rfl)) pa_nil)) (pa_cons (pe_ix ix_list (pv 4) pe_int (fun _ _ => rfl)) pa_nil))) pa_nil))))) pss_nil)
    (pss_cons (ps_if (pt_cmpR op_eq (pv 3) pe_str (nomark _)) (pss_one (ps_ret (pe_c c_least_of hr (by first | decide | omega) rfl (pa_cons (pv 4) (pa_cons (pv 2) pa_nil))))) pss_nil)
    (pss_cons (ps_if (pt_cmpR op_eq (pv 3) pe_str (nomark _)) (pss_one (ps_ret (pe_c c_greatest_of hr (by first | decide | omega) rfl (pa_cons (pv 4) (pa_cons (pv 2) pa_nil))))) pss_nil)
    (pss_one (ps_ret (pe_c c_kth_greatest hr (by first | decide | omega) rfl (pa_cons (pe_ix ix_tup (pv 0) pe_int (fun _ _ => rfl)) (pa_cons (pv 4) (pa_cons (pv 2) pa_nil)))))))))))))), ?_⟩
      obtain ⟨a, r, rfl, ha⟩ := t_head rt
      refine ⟨_, rfl, _, _, _, _, rfl, rfl, ha, at_of (j := 0) rfl rfl, ?_⟩
      refine ⟨_, rfl, rfl, _, rfl, ite2 (fun c => ?_) (fun c1 => ?_)⟩
      · cases t with
        | bid p =>
          obtain ⟨a2, e, ha2⟩ := t_bid rt
          cases e
          have hp : p < bs.length := by rw [hB3]; exact ho
          obtain ⟨x, hx, rx⟩ := RQ.get hB2 (List.getElem?_eq_getElem hp)
          have ev : (Tm.bid p).val bs = bs[p] := by show bs.getD p 0 = _; rw [List.getD_eq_getElem?_getD, List.getElem?_eq_getElem hp]; rfl
          refine ⟨_, rfl, _, rfl, _, _, _, _, rfl, rfl, ha2, rfl, ab, us, _, x, rfl, rfl, hB1, at_of (j := p) rfl hx, k x _ (Same.refl _) ?_⟩
          rw [ev]
          exact rx
        | _ => exact absurd (of_decide_eq_true c) (by simp only [Tm.word]; decide +kernel)
      refine ⟨_, rfl, rfl, _, rfl, ite2 (fun c => ?_) (fun c2 => ?_)⟩
      · cases t with
        | fixed q =>
          obtain ⟨a2, x, e, ha2, hx⟩ := t_fixed rt
          cases e
          exact ⟨_, rfl, b, dx, [], rfl, hb, rfl, _, rfl, _, _, _, _, rfl, rfl, ha2, rfl, b, x, rfl, k x _ (Same.refl _) hx⟩
        | _ => exact absurd (of_decide_eq_true c) (by simp only [Tm.word]; decide +kernel)
      -- what comes of the terms within
      refine ⟨_, rfl, _, t, rfl, rt, mean_of_ok ho, fun p ws H1 s1 hp hw => ⟨p, rfl, ⟨_, hp⟩, fun L hL => ?_⟩⟩
      have kl := kids_len ho
      have hwl : ws.length = t.children.length := RTs.length hw
      refine it_tup (K := K) (a := p) (xs := ws) (fun i H' => ∃ zs : List V, H' L = some (.lst zs) ∧ RQ K H' zs (Tm.vals bs (t.children.take i)) ∧ Same H1 H')
        ⟨[], upd_same, by rw [List.take_zero]; exact .nil, same_new hL⟩ (fun i H' ⟨_, _, _, s5⟩ => (Same.kt s5).sq hp) ?_ ?_
      · rintro i x H' hx ⟨zs, g1, g2, g3⟩
        obtain ⟨u, hu, ru⟩ := RTs.getV hw hx
        have mu := List.mem_of_getElem? hu
        have ud := deps_mem mu
        have uw := kids_wt (s := sz) mu
        have zl : zs.length ≤ 8 := by rw [RQ.length g2, vals_length, List.length_take]; omega
        have kt := Same.kt (s1.trans g3)
        refine ⟨rfl, _, rfl, _, rfl, _, rfl, x, ab, b, dx, n, sz, bs, u, rfl, ru.mono (Same.kt g3), (oks_iff _ _ _).mp (ok_children ho) u mu, hsz, by omega, by omega, hB.mono kt, (s1.trans g3) _ _ hb, fun y H2 s2 ry => ?_⟩
        refine ⟨zs, s2 _ _ g1, small1000 (by omega), zs ++ [y], upd_same, ?_, Same.mut (g3.trans s2) hL⟩
        have e1 : Tm.vals bs (t.children.take (i + 1)) = Tm.vals bs (t.children.take i) ++ [u.val bs] := by
          rw [take_succ' hu, vals_map, vals_map, List.map_append]
          rfl
        rw [e1]
        exact RpAll.mono (KT.updl (s2 _ _ g1)) (RQ.snoc (RpAll.mono (Same.kt s2) g2) ry)
      · rintro H2 ⟨zs, g1, g2, g3⟩
        rw [hwl, List.take_length] at g2
        have s2 := s1.trans g3
        have hb2 := s2 _ _ hb
        have hz : ∀ q ∈ Tm.vals bs t.children, Sz 9000 q := by
          intro q hq
          rw [vals_map] at hq
          obtain ⟨u, hu, rfl⟩ := List.mem_map.mp hq
          have z := val_sz (fun q h => (hB4 q h).2.2) hB3 ((oks_iff _ _ _).mp (ok_children ho) u hu)
          have uw := kids_wt (s := sz) hu
          exact z.mono (by omega)
        cases t with
        | bid p => exact absurd (decide_eq_true rfl) c1
        | fixed q => exact absurd (decide_eq_true rfl) c2
        | mean ws2 ts =>
          obtain ⟨wl, tne, tl, hwb, hob⟩ := ho
          refine ⟨_, rfl, rfl, _, rfl, ite2 (fun _ => ?_) (fun c => absurd (decide_eq_true rfl) c)⟩
          obtain ⟨a2, b2, us2, e, ha2, hb3, hu2⟩ := t_mean rt
          cases e
          have ha3 := (Same.kt s2).sq ha2
          have hb4 := (Same.kt s2).sq hb3
          have hu3 := RpAll.mono (Same.kt s2) hu2
          have ul : us2.length = ts.length := by rw [hu2.length, meanD_length _ _ (by rw [datas_map, List.length_map]; exact wl), datas_map, List.length_map]
          refine ⟨_, rfl, b, dx, [], rfl, hb2, rfl, _, rfl, _, _, _, _, rfl, rfl, ha3, rfl, b2, rfl, ⟨_, hb4⟩, fun M hM => ?_⟩
          refine it_tup (K := K) (a := b2) (xs := us2) (fun i H' => H' M = some (.lst ((ws2.take i).map V.int)) ∧ Same H2 H')
            ⟨by rw [List.take_zero]; exact upd_same, same_new hM⟩ (fun i H' ⟨_, s5⟩ => (Same.kt s5).sq hb4) ?_ ?_
          · rintro i x H' hx ⟨q1, q2⟩
            obtain ⟨c, z, t, y, rfl, e1, e2, p1, p2⟩ := mean_part hu3 hx
            have hi := (List.getElem?_eq_some_iff.mp hx).1
            refine ⟨c, _, rfl, (Same.kt q2).sq p1, rfl, _, _, rfl, _, _, rfl, rfl, rfl, _, rfl, _, q1, by rw [List.length_map, List.length_take]; exact small1000 (by omega), ?_, Same.mut q2 hM⟩
            rw [take_succ' e1, List.map_append]
            exact upd_same
          · rintro H3 ⟨q1, q2⟩
            rw [ul, ← wl, List.take_length] at q1
            have nML : L ≠ M := ne_of_none g1 hM
            refine ⟨_, rfl, b, [.ref M, .ref L], rfl, rfl, M, L, zs, mparts sz bs ws2 ts, rfl, ?_, SqL.of (q2 _ _ g1), ?_, ?_, ?_, by rw [mparts_length wl]; exact tl, ?_, fun v H4 s4 r4 _ => ?_⟩
            · have e1 : (mparts sz bs ws2 ts).map (fun x => V.int x.1) = ws2.map V.int := by
                have e0 := congrArg (List.map V.int) (mparts_ws sz bs wl)
                rw [List.map_map] at e0
                exact e0
              rw [e1]
              exact SqL.of q1
            · have e1 : (mparts sz bs ws2 ts).map (fun x => qd x.2.1) = (Tm.vals bs ts).map qd := by
                have e0 := congrArg (List.map qd) (mparts_qs sz bs wl)
                rw [List.map_map] at e0
                exact e0
              rw [e1]
              exact RpAll.mono (Same.kt q2) g2
            · intro e
              have := mparts_length (s := sz) (bs := bs) wl
              rw [e] at this
              exact tne (List.eq_nil_of_length_eq_zero this.symm)
            · intro x hx
              obtain ⟨h1, t, h2, h3⟩ := mparts_mem hx
              have g := hwb _ h1
              rw [MOk, h3]
              exact ⟨g.1, g.2, vals_sz (fun q h => (hB4 q h).2.2) hB3 hob t h2⟩
            · rw [mparts_sz sz bs wl]
              have : Tm.wts sz ts + 12 + 20 ≤ 9000 := hwt
              omega
            · rw [mparts_avg sz bs wl] at r4
              exact k v H4 ((s2.trans q2).trans s4) r4
        | least ts =>
          refine ⟨_, rfl, rfl, _, rfl, ite2 (fun c => absurd (of_decide_eq_true c) (by simp only [Tm.word]; decide +kernel)) (fun _ => ?_)⟩
          refine ⟨_, rfl, rfl, _, rfl, ite2 (fun c => absurd (of_decide_eq_true c) (by simp only [Tm.word]; decide +kernel)) (fun _ => ?_)⟩
          refine ⟨_, rfl, rfl, _, rfl, ite2 (fun _ => ?_) (fun c => absurd (decide_eq_true rfl) c)⟩
          exact ⟨_, rfl, _, rfl, L, b, dx, zs, Tm.vals bs ts, rfl, SqL.of g1, hb2, g2, vals_ne ho.1, hz, fun v H3 s3 r3 => k v H3 (s2.trans s3) r3⟩
        | greatest ts =>
          refine ⟨_, rfl, rfl, _, rfl, ite2 (fun c => absurd (of_decide_eq_true c) (by simp only [Tm.word]; decide +kernel)) (fun _ => ?_)⟩
          refine ⟨_, rfl, rfl, _, rfl, ite2 (fun c => absurd (of_decide_eq_true c) (by simp only [Tm.word]; decide +kernel)) (fun _ => ?_)⟩
          refine ⟨_, rfl, rfl, _, rfl, ite2 (fun c => absurd (of_decide_eq_true c) (by simp only [Tm.word]; decide +kernel)) (fun _ => ?_)⟩
          refine ⟨_, rfl, rfl, _, rfl, ite2 (fun _ => ?_) (fun c => absurd (decide_eq_true rfl) c)⟩
          exact ⟨_, rfl, _, rfl, L, b, dx, zs, Tm.vals bs ts, rfl, SqL.of g1, hb2, g2, vals_ne ho.1, hz, fun v H3 s3 r3 => k v H3 (s2.trans s3) r3⟩
        | ranked kk ts =>
          obtain ⟨k1, k2, tl, hob⟩ := ho
          refine ⟨_, rfl, rfl, _, rfl, ite2 (fun c => absurd (of_decide_eq_true c) (by simp only [Tm.word]; decide +kernel)) (fun _ => ?_)⟩
          refine ⟨_, rfl, rfl, _, rfl, ite2 (fun c => absurd (of_decide_eq_true c) (by simp only [Tm.word]; decide +kernel)) (fun _ => ?_)⟩
          refine ⟨_, rfl, rfl, _, rfl, ite2 (fun c => absurd (of_decide_eq_true c) (by simp only [Tm.word]; decide +kernel)) (fun _ => ?_)⟩
          refine ⟨_, rfl, rfl, _, rfl, ite2 (fun c => absurd (of_decide_eq_true c) (by simp only [Tm.word]; decide +kernel)) (fun _ => ?_)⟩
          obtain ⟨a2, b2, us2, e, ha2, _, _⟩ := t_ranked rt
          cases e
          have ek : (kk : Int) = ((kk - 1 : Nat) : Int) + 1 := by omega
          refine ⟨_, rfl, _, _, _, _, rfl, rfl, (Same.kt s2).sq ha2, rfl, _, rfl, _, rfl, L, b, dx, zs, Tm.vals bs ts, kk - 1, congrArg (fun z => [V.int z, V.ref L, V.ref b]) ek, SqL.of g1, hb2, g2, by rw [vals_length]; omega, by rw [vals_length]; exact tl, hz, fun v H3 s3 r3 => k v H3 (s2.trans s3) r3⟩
        | between lo hi t =>
          obtain ⟨n1, n2, hl, hob⟩ := ho
          obtain ⟨a2, x, y, z, e, ha2, rx, ry, rz⟩ := t_between rt
          cases e
          have ha3 := (Same.kt s2).sq ha2
          refine ⟨_, rfl, rfl, _, rfl, ite2 (fun c => absurd (of_decide_eq_true c) (by simp only [Tm.word]; decide +kernel)) (fun _ => ?_)⟩
          refine ⟨_, rfl, rfl, _, rfl, ite2 (fun _ => ?_) (fun c => absurd (decide_eq_true rfl) c)⟩
          obtain ⟨x0, xs0, rfl, r0, rn⟩ := RpAll.consI (show RpAll K H2 zs (qd (t.val bs) :: []) from g2)
          have rf0 := PF.of r0
          have z0 := hz (t.val bs) List.mem_cons_self
          refine ⟨_, rfl, b, dx, [], rfl, hb2, rfl, _, rfl, b, dx, [], rfl, hb2, rfl, _, rfl, _, _, _, _, rfl, rfl, ha3, rfl, b, x, rfl, ?_⟩
          refine ⟨_, rfl, b, dx, [], rfl, hb2, rfl, _, rfl, b, dx, [], rfl, hb2, rfl, _, rfl, _, _, _, _, rfl, rfl, ha3, rfl, b, y, rfl, ?_⟩
          refine ⟨_, rfl, L, _, 0, x0, rfl, rfl, SqL.of g1, at_of (j := 0) rfl rfl, b, [y, x0], rfl, rfl, y, x0, hi, t.val bs, 9000, 9000, rfl, ry.mono (Same.kt s2), rf0, n2.2.2.mono (by omega), z0, by omega, fun v1 r1 => ?_⟩
          exact ⟨b, [x, v1], rfl, rfl, x, v1, lo, _, 9000, 9000, rfl, rx.mono (Same.kt s2), r1, n1.2.2.mono (by omega), sz_rmin (n2.2.2.mono (by omega)) z0, by omega, fun v2 r2 => k v2 H2 s2 r2⟩
end
end CB

set_option Elab.async false
set_option linter.all false
set_option maxRecDepth 100000
set_option maxHeartbeats 2000000
namespace CB
open PySem PySem.Spec PyProof.Rows L2
/-- a class with object's own __init__ -/
structure Mk0 (K : PySem.W.Frag) (C : Addr) : Prop where
  makes : PySem.W.makesIn K C = true
  init : PySem.W.findIn K (.ref C) "__init__" = some (some (.builtin "object.__init__"))
  top : PySem.W.mroIn K C (.type "object") = some true
  kp : PySem.W.keepIn K (.ref C) = true
section
variable {X : Cx} {C : Addr}
def tMk0 (C : Addr) : TE := fun _ H Q => ∀ x dx, H x = none → H dx = none → dx ≠ x → Q (.ref x) (upd (upd H dx (.own x)) x (.ins C dx []))
theorem run_mk0 {pins : List (Addr × Obj)} {σ : L2.St} {H : Hp} {s : Shared} {Q : VK} (M : Mk0 X.K C) (I : Inv X pins σ H s) (h : tMk0 C σ H Q) :
    wpAny (model X.prog X.w) X.A (call (.ref C) []) (EP X pins σ Q) X.xe s := by
  have hq := h (s.heap.objs.size + 1) s.heap.objs.size (I.hok.fresh (Nat.le_succ _)) (I.hok.fresh (Nat.le_refl _)) (Nat.ne_of_lt (Nat.lt_succ_self _))
  have I2 := Inv.made (C := C) I
  refine wpAny_call (make_map0 I.kIn M.makes M.init (fun self => PySem.W.Looks.of_pure (PySem.W.oi_bind self)) ?_)
  have e2 : ((s.heap.push PySem.W.emptyDict).push (PySem.W.instObj C s.heap.objs.size)).get? (s.heap.objs.size + 1) = some (PySem.W.instObj C s.heap.objs.size) := by
    have := Heap.get?_push_size (s.heap.push PySem.W.emptyDict) (o := PySem.W.instObj C s.heap.objs.size) rfl
    rwa [Heap.size_push] at this
  have t1 : PySem.W.Looks (model X.prog X.w) ((s.heap.push PySem.W.emptyDict).push (PySem.W.instObj C s.heap.objs.size)) (typeOf (.ref (s.heap.objs.size + 1))) (.ref C) := NwA.type_at e2 rfl
  have t2 : PySem.W.Looks (model X.prog X.w) ((s.heap.push PySem.W.emptyDict).push (PySem.W.instObj C s.heap.objs.size)) (isInstance (.ref (s.heap.objs.size + 1)) (.type "object")) true := t1.andThen (PySem.W.looks_mroIn I2.kIn M.top)
  refine codeAny_call_builtin PySem.W.oi_plain PySem.W.entry_oi (@PySem.W.check_slot (model X.prog X.w) _ _ _ "object.__init__" "object" "__init__" (.ref (s.heap.objs.size + 1)) [] [] _ PySem.W.oi_kind PySem.W.oi_split t2 (NwA.oi_args_any (.ref (s.heap.objs.size + 1)) [] []) ?_)
  rw [PySem.W.oi_run]
  exact wpAny_pure (And.intro rfl ⟨V.ref (s.heap.objs.size + 1), _, I2.tok _, rfl, hq⟩)
theorem pe_mk0 {x : Str} {p pos : Pos} (M : Mk0 X.K C) (hg : Gl X x) (hm : X.mg x = some (.ref C)) (hdb : (x == ("__debug__" : Str)) = false := by decide) : PE X (.Call (.Name x p) [] [] pos) (tMk0 C) := by
  refine ⟨fun pins s σ H Q I h => ?_⟩
  refine wpAny_Call_Name_kw (ld_glob I hg hm ?_ hdb)
  exact PySem.W.callWith_K0 I.kIn M.kp (run_mk0 M I h)
end
end CB

set_option Elab.async false
set_option linter.all false
set_option maxRecDepth 100000
set_option maxHeartbeats 4000000
namespace CB
open PySem PySem.Spec PyProof.Rows L2
open C8 (Cal Met Mak pe_c pe_mk pe_mt pe_mt0 pe_gc CalAt)
section
variable {P : Program} {w : World} {K : PySem.W.Frag} {mg : Str → Option Value} {base : Heap}
abbrev n_told_by : List Str := ["term", "bids"]
theorem sc_told_by : FnScope ["term", "bids"] ["term", "bids"] (defScope s_told_by) := ⟨rfl, rfl, rfl, by decide +kernel, rfl, by decide +kernel, by decide +kernel⟩
def sp_told_by (K : PySem.W.Frag) : Sp := fun vs H Q _ => ∃ (v : V) (ab : Addr) (n s : Nat) (bs : List Rat) (t : Tm), vs = [v, .ref ab] ∧ Rp K H v t.data ∧ t.Ok n s ∧ s ≤ 9000 ∧ t.dep ≤ 60 ∧ t.wt s + 20 ≤ 9000 ∧ Bids K H ab n s bs ∧
  ∀ v H', Same H H' → RF K H' v (t.val bs) → Q v H'
theorem ok_told_by {C : Addr} (F : FnD K mg "told_by" s_told_by) (c_worked : Cal P w K mg base 66 "worked" (spW K C 60) []) (M_Numbers : Mk0 K C) (g_Numbers : mg "Numbers" = some (.ref C)) : Cal P w K mg base 67 "told_by" (sp_told_by K) [] := by
  refine calOf F sc_told_by (fun _ _ _ _ _ _ us hl => match us, hl with | [_, _], _ => rfl) (fun vs H Q E h => ?_) (fun cdv f A outer s H vs Q E hr h => ?_)
  · obtain ⟨_, _, _, _, _, _, rfl, _⟩ := h
    rfl
  · obtain ⟨v, ab, n, sz, bs, t, rfl, rt, ho, hs, hd, hw, hB, k⟩ := h
    refine ⟨_, (pss_one (ps_ret (pe_c c_worked hr (by first | decide | omega) rfl (pa_cons (pv 0) (pa_cons (pv 1) (pa_cons (pe_mk0 M_Numbers rfl g_Numbers) pa_nil)))))), ?_⟩
    refine ⟨_, rfl, _, rfl, fun x dx nx ndx nex => ?_⟩
    have s1 : Same H (upd (upd H dx (.own x)) x (.ins C dx [])) := (same_new ndx).trans (same_new (by rw [upd_ne (Ne.symm nex)]; exact nx))
    exact ⟨v, ab, x, dx, n, sz, bs, t, rfl, rt.mono (Same.kt s1), ho, hs, hd, hw, hB.mono (Same.kt s1), upd_same, fun v H' s2 r => k v H' (s1.trans s2) r⟩
def sp_are_numbers (K : PySem.W.Frag) : Sp := fun vs H Q _ => ∃ (a : Addr) (n s : Nat) (bs : List Rat), vs = [.ref a, .int (n : Int)] ∧ Bids K H a n s bs ∧ n ≤ 1000 ∧ ∀ H', Same H H' → Q (.bl true) H'
def sp_need_bids (K : PySem.W.Frag) (C : Addr) : Sp := fun vs H Q _ => ∃ (r a : Addr) (n s : Nat) (t : Tm) (bs : List Rat), vs = [.ref r, .ref a] ∧ RuleAt K C H r n t ∧ Bids K H a n s bs ∧ n ≤ 6 ∧ ∀ H', Same H H' → Q .non H'
def sp_value (K : PySem.W.Frag) (C : Addr) : Sp := fun vs H Q _ => ∃ (r a : Addr) (n s : Nat) (t : Tm) (bs : List Rat), vs = [.ref r, .ref a] ∧ RuleAt K C H r n t ∧ t.Ok n s ∧ s ≤ 9000 ∧ t.dep ≤ 60 ∧ t.wt s + 20 ≤ 9000 ∧ Bids K H a n s bs ∧ n ≤ 6 ∧
  ∀ v H', Same H H' → RF K H' v (t.val bs) → Q v H'
theorem RuleAt.same {C : Addr} {H H' : Hp} {r : Addr} {n : Nat} {t : Tm} (h : RuleAt K C H r n t) (e : Same H H') : RuleAt K C H' r n t := by
  obtain ⟨dx, v, h1, h2⟩ := h
  exact ⟨dx, v, e _ _ h1, h2.mono (Same.kt e)⟩
end
end CB

set_option Elab.async false
set_option linter.all false
set_option maxRecDepth 100000
set_option maxHeartbeats 4000000
/-! terms mirrored -/
namespace CB
open PySem PySem.Spec PyProof.Rows L2
def flL (l : List Rat) : List Rat := l.map fun q => 1 - q
theorem flL_len (l : List Rat) : (flL l).length = l.length := List.length_map _
theorem flL_get {l : List Rat} {i : Nat} (h : i < l.length) : (flL l).getD i 0 = 1 - l.getD i 0 := by
  unfold flL
  rw [List.getD_eq_getElem?_getD, List.getD_eq_getElem?_getD, List.getElem?_map, List.getElem?_eq_getElem h]
  rfl
theorem isort_fl (l : List Rat) : isort (flL l) = flL (isort l).reverse := by
  refine isort_of ?_ ?_
  · unfold flL
    refine List.Pairwise.map _ (fun a b (h : b ≤ a) => by grind) ?_
    exact List.pairwise_reverse.mpr (isort_srt l)
  · unfold flL
    exact ((List.reverse_perm _).trans (isort_perm l)).map _
theorem kthG_fl {l : List Rat} {k : Nat} (h : k < l.length) : kthG k (flL l) = 1 - kthG (l.length - 1 - k) l := by
  have a := kthG_isort k (flL l) (by rw [flL_len]; exact h)
  have b := kthG_isort (l.length - 1 - k) l (by omega)
  rw [isort_fl, flL_len] at a
  unfold flL at a
  rw [List.getElem?_map, List.getElem?_reverse (by rw [isort_length]; omega), isort_length] at a
  rw [b] at a
  exact (Option.some.inj (show some (1 - kthG (l.length - 1 - k) l) = some (kthG k (flL l)) from a)).symm
theorem flL_ne {l : List Rat} (h : l ≠ []) : flL l ≠ [] := by
  intro e
  exact h (List.map_eq_nil_iff.mp e)
theorem maxL_fl {l : List Rat} (h : l ≠ []) : maxL (flL l) = 1 - minL l := by
  obtain ⟨a1, a2⟩ := maxL_mem (flL_ne h)
  obtain ⟨b1, b2⟩ := minL_mem h
  obtain ⟨x, hx, e⟩ := List.mem_map.mp a1
  have c := a2 (1 - minL l) (List.mem_map.mpr ⟨_, b1, rfl⟩)
  have d := b2 x hx
  grind
theorem minL_fl {l : List Rat} (h : l ≠ []) : minL (flL l) = 1 - maxL l := by
  obtain ⟨a1, a2⟩ := minL_mem (flL_ne h)
  obtain ⟨b1, b2⟩ := maxL_mem h
  obtain ⟨x, hx, e⟩ := List.mem_map.mp a1
  have c := a2 (1 - maxL l) (List.mem_map.mpr ⟨_, b1, rfl⟩)
  have d := b2 x hx
  grind
theorem wsum_fl : ∀ {ws : List Int} {qs : List Rat}, ws.length = qs.length → (List.zipWith (fun (w : Int) (q : Rat) => (w : Rat) * q) ws (flL qs)).sum = ((ws.sum : Int) : Rat) - (List.zipWith (fun (w : Int) (q : Rat) => (w : Rat) * q) ws qs).sum
  | [], [], _ => by
    show (0 : Rat) = ((0 : Int) : Rat) - 0
    grind
  | w :: ws, q :: qs, h => by
    have ih := wsum_fl (ws := ws) (qs := qs) (by simpa using h)
    show ((w : Rat) * (1 - q) + (List.zipWith (fun (w : Int) (q : Rat) => (w : Rat) * q) ws (flL qs)).sum) = _
    rw [ih, List.sum_cons, List.zipWith_cons_cons, List.sum_cons, Rat.intCast_add]
    grind
theorem wavg_fl {ws : List Int} {qs : List Rat} (h : ws.length = qs.length) (hs : ws.sum ≠ 0) : wavg ws (flL qs) = 1 - wavg ws qs := by
  unfold wavg
  rw [wsum_fl h]
  have ne : ((ws.sum : Int) : Rat) ≠ 0 := fun e => hs (Rat.intCast_inj.mp e)
  generalize (List.zipWith (fun (w : Int) (q : Rat) => (w : Rat) * q) ws qs).sum = a
  generalize ((ws.sum : Int) : Rat) = b at ne
  grind
theorem num_le_den {q : Rat} (h : q ≤ 1) : q.num ≤ (q.den : Int) := by
  have := (Rat.le_iff q 1).mp h
  simpa using this
theorem fl_divInt (q : Rat) : 1 - q = Rat.divInt ((q.den : Int) - q.num) (q.den : Int) := by
  have hd := den_pos q
  have e : Rat.divInt ((q.den : Int) - q.num) (q.den : Int) = Rat.divInt (q.den : Int) (q.den : Int) - Rat.divInt q.num (q.den : Int) := by
    rw [Rat.divInt_sub_divInt _ _ (by omega) (by omega), Rat.divInt_eq_divInt_iff (by omega) (by have := Int.mul_pos hd hd; omega)]
    grind
  rw [e, divInt_self', show Rat.divInt (q.den : Int) (q.den : Int) = 1 by
    rw [show (1 : Rat) = Rat.divInt 1 1 from rfl, Rat.divInt_eq_divInt_iff (by omega) (by omega)]; omega]
theorem NumOk.fl {s : Nat} {q : Rat} (h : NumOk s q) : NumOk s (1 - q) := by
  rw [fl_divInt]
  have hn : 0 ≤ q.num := Rat.num_nonneg.mpr h.1
  have hl := num_le_den h.2.1
  exact numOk_divInt (by omega) (by omega) (den_pos q) (by have := h.2.2.2; omega)
mutual
def Tm.mir : Tm → Tm
  | .bid p => .bid p
  | .fixed q => .fixed (1 - q)
  | .mean ws ts => .mean ws (Tm.mirs ts)
  | .least ts => .greatest (Tm.mirs ts)
  | .greatest ts => .least (Tm.mirs ts)
  | .ranked k ts => .ranked (ts.length + 1 - k) (Tm.mirs ts)
  | .between lo hi t => .between (1 - hi) (1 - lo) t.mir
def Tm.mirs : List Tm → List Tm
  | [] => []
  | t :: ts => t.mir :: Tm.mirs ts
end
theorem mirs_map : ∀ ts : List Tm, Tm.mirs ts = ts.map Tm.mir
  | [] => rfl
  | t :: ts => by rw [Tm.mirs, mirs_map ts]; rfl
theorem mirs_len (ts : List Tm) : (Tm.mirs ts).length = ts.length := by rw [mirs_map, List.length_map]
mutual
theorem mir_wt (s : Nat) : ∀ t : Tm, t.mir.wt s = t.wt s
  | .bid _ => rfl
  | .fixed _ => rfl
  | .mean ws ts => by show Tm.wts s (Tm.mirs ts) + 12 = Tm.wts s ts + 12; rw [mirs_wts s ts]
  | .least ts => mirs_wts s ts
  | .greatest ts => mirs_wts s ts
  | .ranked k ts => mirs_wts s ts
  | .between lo hi t => by show t.mir.wt s + s + s = t.wt s + s + s; rw [mir_wt s t]
theorem mirs_wts (s : Nat) : ∀ ts : List Tm, Tm.wts s (Tm.mirs ts) = Tm.wts s ts
  | [] => rfl
  | t :: ts => by show t.mir.wt s + 8 + Tm.wts s (Tm.mirs ts) = t.wt s + 8 + Tm.wts s ts; rw [mir_wt s t, mirs_wts s ts]
end
mutual
theorem mir_dep : ∀ t : Tm, t.mir.dep = t.dep
  | .bid _ => rfl
  | .fixed _ => rfl
  | .mean ws ts => by show Tm.deps (Tm.mirs ts) + 1 = Tm.deps ts + 1; rw [mirs_deps ts]
  | .least ts => by show Tm.deps (Tm.mirs ts) + 1 = Tm.deps ts + 1; rw [mirs_deps ts]
  | .greatest ts => by show Tm.deps (Tm.mirs ts) + 1 = Tm.deps ts + 1; rw [mirs_deps ts]
  | .ranked k ts => by show Tm.deps (Tm.mirs ts) + 1 = Tm.deps ts + 1; rw [mirs_deps ts]
  | .between lo hi t => by show t.mir.dep + 1 = t.dep + 1; rw [mir_dep t]
theorem mirs_deps : ∀ ts : List Tm, Tm.deps (Tm.mirs ts) = Tm.deps ts
  | [] => rfl
  | t :: ts => by show max t.mir.dep (Tm.deps (Tm.mirs ts)) = max t.dep (Tm.deps ts); rw [mir_dep t, mirs_deps ts]
end
mutual
theorem mir_cnt : ∀ t : Tm, t.mir.cnt = t.cnt
  | .bid _ => rfl
  | .fixed _ => rfl
  | .mean ws ts => by show Tm.cnts (Tm.mirs ts) + 1 = Tm.cnts ts + 1; rw [mirs_cnts ts]
  | .least ts => by show Tm.cnts (Tm.mirs ts) + 1 = Tm.cnts ts + 1; rw [mirs_cnts ts]
  | .greatest ts => by show Tm.cnts (Tm.mirs ts) + 1 = Tm.cnts ts + 1; rw [mirs_cnts ts]
  | .ranked k ts => by show Tm.cnts (Tm.mirs ts) + 1 = Tm.cnts ts + 1; rw [mirs_cnts ts]
  | .between lo hi t => by show t.mir.cnt + 1 = t.cnt + 1; rw [mir_cnt t]
theorem mirs_cnts : ∀ ts : List Tm, Tm.cnts (Tm.mirs ts) = Tm.cnts ts
  | [] => rfl
  | t :: ts => by show t.mir.cnt + Tm.cnts (Tm.mirs ts) = t.cnt + Tm.cnts ts; rw [mir_cnt t, mirs_cnts ts]
end
theorem mirs_ne {ts : List Tm} (h : ts ≠ []) : Tm.mirs ts ≠ [] := by
  intro e
  have := mirs_len ts
  rw [e] at this
  exact h (List.eq_nil_of_length_eq_zero this.symm)
mutual
theorem mir_ok {n s : Nat} : ∀ {t : Tm}, t.Ok n s → t.mir.Ok n s
  | .bid p, h => h
  | .fixed q, h => NumOk.fl h
  | .mean ws ts, h => ⟨by rw [mirs_len]; exact h.1, mirs_ne h.2.1, by rw [mirs_len]; exact h.2.2.1, h.2.2.2.1, mirs_ok h.2.2.2.2⟩
  | .least ts, h => ⟨mirs_ne h.1, by rw [mirs_len]; exact h.2.1, mirs_ok h.2.2⟩
  | .greatest ts, h => ⟨mirs_ne h.1, by rw [mirs_len]; exact h.2.1, mirs_ok h.2.2⟩
  | .ranked k ts, h => by
    obtain ⟨h1, h2, h3, h4⟩ := h
    exact ⟨by omega, by rw [mirs_len]; omega, by rw [mirs_len]; exact h3, mirs_ok h4⟩
  | .between lo hi t, h => by
    obtain ⟨h1, h2, h3, h4⟩ := h
    exact ⟨NumOk.fl h2, NumOk.fl h1, by grind, mir_ok h4⟩
theorem mirs_ok {n s : Nat} : ∀ {ts : List Tm}, Tm.Oks n s ts → Tm.Oks n s (Tm.mirs ts)
  | [], _ => trivial
  | t :: ts, h => ⟨mir_ok h.1, mirs_ok h.2⟩
end
mutual
theorem mir_mir {n s : Nat} : ∀ {t : Tm}, t.Ok n s → t.mir.mir = t
  | .bid p, h => rfl
  | .fixed q, h => by show Tm.fixed (1 - (1 - q)) = _; rw [show 1 - (1 - q) = q by grind]
  | .mean ws ts, h => by show Tm.mean ws (Tm.mirs (Tm.mirs ts)) = _; rw [mirs_mirs h.2.2.2.2]
  | .least ts, h => by show Tm.least (Tm.mirs (Tm.mirs ts)) = _; rw [mirs_mirs h.2.2]
  | .greatest ts, h => by show Tm.greatest (Tm.mirs (Tm.mirs ts)) = _; rw [mirs_mirs h.2.2]
  | .ranked k ts, h => by
    obtain ⟨h1, h2, h3, h4⟩ := h
    show Tm.ranked ((Tm.mirs ts).length + 1 - (ts.length + 1 - k)) (Tm.mirs (Tm.mirs ts)) = _
    rw [mirs_mirs h4, mirs_len, show ts.length + 1 - (ts.length + 1 - k) = k by omega]
  | .between lo hi t, h => by
    show Tm.between (1 - (1 - lo)) (1 - (1 - hi)) t.mir.mir = _
    rw [mir_mir h.2.2.2, show 1 - (1 - lo) = lo by grind, show 1 - (1 - hi) = hi by grind]
theorem mirs_mirs {n s : Nat} : ∀ {ts : List Tm}, Tm.Oks n s ts → Tm.mirs (Tm.mirs ts) = ts
  | [], _ => rfl
  | t :: ts, h => by show t.mir.mir :: Tm.mirs (Tm.mirs ts) = _; rw [mir_mir h.1, mirs_mirs h.2]
end
theorem sum_pos' : ∀ {ws : List Int}, ws ≠ [] → (∀ w ∈ ws, 1 ≤ w) → 0 < ws.sum
  | [], h, _ => absurd rfl h
  | [w], _, h => by have := h w List.mem_cons_self; simp; omega
  | w :: v :: ws, _, h => by
    have := sum_pos' (ws := v :: ws) (by simp) fun x hx => h x (List.mem_cons_of_mem _ hx)
    have := h w List.mem_cons_self
    rw [List.sum_cons]
    omega
mutual
theorem mir_val {n s : Nat} {bs : List Rat} (hb : bs.length = n) : ∀ {t : Tm}, t.Ok n s → t.mir.val (flL bs) = 1 - t.val bs
  | .bid p, h => flL_get (by rw [hb]; exact h)
  | .fixed q, h => rfl
  | .mean ws ts, h => by
    obtain ⟨h1, h2, h3, h4, h5⟩ := h
    show wavg ws (Tm.vals (flL bs) (Tm.mirs ts)) = 1 - wavg ws (Tm.vals bs ts)
    rw [mirs_vals hb h5]
    refine wavg_fl (by rw [vals_map, List.length_map]; exact h1) ?_
    have : 0 < ws.sum := sum_pos' (by intro e; rw [e] at h1; exact h2 (List.eq_nil_of_length_eq_zero h1.symm)) fun w hw => (h4 w hw).1
    omega
  | .least ts, h => by
    show maxL (Tm.vals (flL bs) (Tm.mirs ts)) = 1 - minL (Tm.vals bs ts)
    rw [mirs_vals hb h.2.2]
    exact maxL_fl (by rw [vals_map]; intro e; exact h.1 (List.map_eq_nil_iff.mp e))
  | .greatest ts, h => by
    show minL (Tm.vals (flL bs) (Tm.mirs ts)) = 1 - maxL (Tm.vals bs ts)
    rw [mirs_vals hb h.2.2]
    exact minL_fl (by rw [vals_map]; intro e; exact h.1 (List.map_eq_nil_iff.mp e))
  | .ranked k ts, h => by
    obtain ⟨h1, h2, h3, h4⟩ := h
    have vl : (Tm.vals bs ts).length = ts.length := by rw [vals_map, List.length_map]
    show kthG (ts.length + 1 - k - 1) (Tm.vals (flL bs) (Tm.mirs ts)) = 1 - kthG (k - 1) (Tm.vals bs ts)
    rw [mirs_vals hb h4, kthG_fl (by rw [vl]; omega), vl, show ts.length - 1 - (ts.length + 1 - k - 1) = k - 1 by omega]
  | .between lo hi t, h => by
    obtain ⟨h1, h2, h3, h4⟩ := h
    show rmax (1 - hi) (rmin (1 - lo) (t.mir.val (flL bs))) = 1 - rmax lo (rmin hi (t.val bs))
    rw [mir_val hb h4]
    unfold rmax rmin
    grind
theorem mirs_vals {n s : Nat} {bs : List Rat} (hb : bs.length = n) : ∀ {ts : List Tm}, Tm.Oks n s ts → Tm.vals (flL bs) (Tm.mirs ts) = flL (Tm.vals bs ts)
  | [], _ => rfl
  | t :: ts, h => by
    show t.mir.val (flL bs) :: Tm.vals (flL bs) (Tm.mirs ts) = (1 - t.val bs) :: flL (Tm.vals bs ts)
    rw [mir_val hb h.1, mirs_vals hb h.2]
end
end CB

set_option Elab.async false
set_option linter.all false
set_option maxRecDepth 100000
set_option maxHeartbeats 4000000
namespace CB
open PySem PySem.Spec PyProof.Rows L2
open C8 (Cal Met Mak pe_c pe_mk pe_mt pe_mt0 pe_gc CalAt)
open StX (pa_star)
section
variable {P : Program} {w : World} {K : PySem.W.Frag} {mg : Str → Option Value} {base : Heap}
abbrev n_minus : List Str := ["one", "other"]
theorem sc_minus : FnScope ["one", "other"] ["one", "other"] (defScope s_minus) := ⟨rfl, rfl, rfl, by decide +kernel, rfl, by decide +kernel, by decide +kernel⟩
/-- of raw pairs -/
def sp_minus (K : PySem.W.Frag) : Sp := fun vs H Q _ => ∃ (v1 v2 : V) (a b c d : Int) (m n : Nat), vs = [v1, v2] ∧ PF K H v1 a b ∧ PF K H v2 c d ∧ 0 < b ∧ 0 < d ∧ 
  a.natAbs < 2 ^ m ∧ b.natAbs < 2 ^ m ∧ c.natAbs < 2 ^ n ∧ d.natAbs < 2 ^ n ∧ m + n ≤ 9000 ∧ ∀ v H', Same H H' → RF K H' v (Rat.divInt a b - Rat.divInt c d) → Q v H'
theorem ok_minus (F : FnD K mg "minus" s_minus) (c_lowest : Cal P w K mg base 1 "lowest" (sp_lowest K) []) : Cal P w K mg base 2 "minus" (sp_minus K) [] := by
  refine calOf F sc_minus (fun _ _ _ _ _ _ us hl => match us, hl with | [_, _], _ => rfl) (fun vs H Q E h => ?_) (fun cdv f A outer s H vs Q E hr h => ?_)
  · obtain ⟨_, _, _, _, _, _, _, _, rfl, _⟩ := h
    rfl
  · obtain ⟨v1, v2, a, b, c, d, m, n, rfl, ⟨p1, rfl, h1⟩, ⟨p2, rfl, h2⟩, hb, hd, ha', hb', hc', hd', hmn, k⟩ := h
    refine ⟨_, (pss_one (ps_ret (pe_c c_lowest hr (by first | decide | omega) rfl (pa_cons (pe_op op_sub (pe_op op_mulW (pe_ix ix_tup (pv 0) pe_int (fun _ _ => rfl)) (pe_ix ix_tup (pv 1) pe_int (fun _ _ => rfl))) (pe_op op_mulW (pe_ix ix_tup (pv 1) pe_int (fun _ _ => rfl)) (pe_ix ix_tup (pv 0) pe_int (fun _ _ => rfl)))) (pa_cons (pe_op op_mulW (pe_ix ix_tup (pv 0) pe_int (fun _ _ => rfl)) (pe_ix ix_tup (pv 1) pe_int (fun _ _ => rfl))) pa_nil))))), ?_⟩
    refine ⟨_, rfl, _, _, _, _, rfl, rfl, h1, rfl, _, rfl, _, _, _, _, rfl, rfl, h2, rfl, _, _, rfl, rfl, wm ha' hd' (by omega), ?_⟩
    refine ⟨_, rfl, _, _, _, _, rfl, rfl, h2, rfl, _, rfl, _, _, _, _, rfl, rfl, h1, rfl, _, _, rfl, rfl, wm hc' hb' (by omega), _, _, rfl, rfl, ?_⟩
    refine ⟨_, rfl, _, _, _, _, rfl, rfl, h1, rfl, _, rfl, _, _, _, _, rfl, rfl, h2, rfl, _, _, rfl, rfl, wm hb' hd' (by omega), ?_⟩
    refine ⟨_, _, rfl, Int.mul_pos hb hd, Nat.lt_of_lt_of_le (wide_lt hb' hd') (Nat.pow_le_pow_right (by omega) hmn), fun v H' e r => k v H' e ?_⟩
    rw [Rat.divInt_sub_divInt _ _ (by omega) (by omega)]
    exact r
/-- one less a number -/
theorem minus_one {v1 v2 : V} {q : Rat} {s : Nat} {H : Hp} {Q : VK} (h1 : RF K H v1 1) (h2 : RF K H v2 q) (hq : Sz s q) (hs : s ≤ 8000) (k : ∀ v H', Same H H' → RF K H' v (1 - q) → Q v H') : sp_minus K [v1, v2] H Q C8.E0 := by
  refine ⟨v1, v2, 1, 1, q.num, (q.den : Int), 1, s, rfl, h1, h2, by decide, den_pos q, by decide, by decide, hq.1, hq.d, by omega, fun v H' e r => k v H' e ?_⟩
  rw [divInt_self'] at r
  exact r
def Tm.withK : Tm → List Tm → Tm
  | .bid p, _ => .bid p
  | .fixed q, _ => .fixed q
  | .mean ws _, us => .mean ws us
  | .least _, us => .least us
  | .greatest _, us => .greatest us
  | .ranked k _, us => .ranked k us
  | .between lo hi t, us => .between lo hi (us.headD t)
theorem walk_zipT {a b : Addr} {xs ys : List V} {n : Nat} (hn : n = min xs.length ys.length) : Walk (RZ.ItzT K a b) n (fun H => SqT K H a xs ∧ SqT K H b ys) (YPair (fun i => xs[i]?) (fun i => ys[i]?)) := by
  subst hn
  refine ⟨fun i _ hi q => ?_, fun _ q => ⟨xs, ys, q.1, q.2, by omega⟩, fun i H v H' _ q y => ?_⟩
  · have i1 : i < xs.length := by omega
    have i2 : i < ys.length := by omega
    exact ⟨xs, ys, _, _, q.1, q.2, List.getElem?_eq_getElem i1, List.getElem?_eq_getElem i2⟩
  · obtain ⟨T, x, z, e1, e2, e3, e4, e5⟩ := y
    exact ⟨T, x, z, e1, e2, e3, e4 xs q.1, e5 ys q.2⟩
theorem meanD_snoc {ws : List Int} {ds : List PyData} {i : Nat} {z : Int} {d : PyData} (e1 : ws[i]? = some z) (e2 : ds[i]? = some d) : meanD (ws.take (i + 1)) (ds.take (i + 1)) = meanD (ws.take i) (ds.take i) ++ [.tuple [.int z, d]] := by
  unfold meanD
  rw [take_succ' e1, take_succ' e2]
  have l1 : (ws.take i).length = (ds.take i).length := by
    have := (List.getElem?_eq_some_iff.mp e1).1
    have := (List.getElem?_eq_some_iff.mp e2).1
    rw [List.length_take, List.length_take]
    omega
  rw [List.zipWith_append l1]
  rfl
def sp_with_inner (K : PySem.W.Frag) : Sp := fun vs H Q _ => ∃ (v : V) (a : Addr) (us : List V) (t : Tm) (ts : List Tm), vs = [v, .ref a] ∧ Rp K H v t.data ∧ SqT K H a us ∧ RTs K H us ts ∧ ts.length = t.children.length ∧ t.children.length ≤ 8 ∧ (∀ ws ts', t = .mean ws ts' → ws.length = ts'.length) ∧
  ∀ v' H', Same H H' → Rp K H' v' (t.withK ts).data → Q v' H'
theorem none_bk {H H' : Hp} {p : Addr} (e : Same H H') (h : H' p = none) : H p = none := by
  cases c : H p with
  | none => rfl
  | some o => rw [e _ _ c] at h; cases h
theorem ruleF_put2 (n : Nat) (v u : V) : putF "term" v (ruleF n u) = ruleF n v := by
  show (if ("people" : Str) = "term" then _ else (("people" : Str), V.int (n : Int)) :: (if ("term" : Str) = "term" then [(("term" : Str), v)] else _)) = ruleF n v
  rw [if_neg (by decide +kernel), if_pos rfl]
  rfl
def sp_built (K : PySem.W.Frag) (C : Addr) : Sp := fun vs H Q _ => ∃ (v : V) (n : Nat) (t : Tm), vs = [.int (n : Int), v] ∧ 1 ≤ n ∧ n ≤ 6 ∧ Rp K H v t.data ∧ ∀ r H', Same H H' → H r = none → RuleAt K C H' r n t → Q (.ref r) H'
end
end CB

set_option Elab.async false
set_option linter.all false
set_option maxRecDepth 100000
set_option maxHeartbeats 4000000
namespace CB
open PySem PySem.Spec PyProof.Rows L2
open C8 (Cal Met Mak pe_c pe_mk pe_mt pe_mt0 pe_gc CalAt)
section
variable {P : Program} {w : World} {K : PySem.W.Frag} {mg : Str → Option Value} {base : Heap}
abbrev n__law_value : List Str := ["_law_term_here", "_law_bids", "_law_word", "_law_whole", "_law_weight", "_law_part", "_law_told"]
theorem sc__law_value : FnScope ["_law_term_here", "_law_bids", "_law_word", "_law_whole", "_law_weight", "_law_part", "_law_told"] ["_law_term_here", "_law_bids"] (defScope s__law_value) := ⟨rfl, rfl, rfl, by decide +kernel, rfl, by decide +kernel, by decide +kernel⟩
def spLV (K : PySem.W.Frag) (D : Nat) : Sp := fun vs H Q _ => ∃ (v : V) (ab : Addr) (n s : Nat) (bs : List Rat) (t : Tm), vs = [v, .ref ab] ∧ Rp K H v t.data ∧ t.Ok n s ∧ s ≤ 9000 ∧ t.dep ≤ D ∧ t.wt s + 20 ≤ 9000 ∧ Bids K H ab n s bs ∧
  ∀ v H', Same H H' → RF K H' v (t.val bs) → Q v H'
theorem psum_take {bs : List Rat} {ws : List Int} {ts : List Tm} {i : Nat} {z : Int} {t : Tm} (s : Nat) (e1 : ws[i]? = some z) (e2 : ts[i]? = some t) : (mparts s bs ws ts).take (i + 1) = (mparts s bs ws ts).take i ++ [(z, t.val bs, t.wt s)] := by
  refine take_succ' ?_
  unfold mparts
  rw [List.getElem?_zipWith, e1, e2]
theorem wsum_snoc (L : List MPart) (x : MPart) : wsum (L ++ [x]) = wsum L + ((x.1 : Int) : Rat) * x.2.1 := by simp [wsum, List.sum_append, Rat.add_zero]
theorem wsz_snoc (L : List MPart) (x : MPart) : wsz (L ++ [x]) = wsz L + (x.2.2 + 8) := by simp [wsz, List.sum_append]
theorem rat_one_mul (q : Rat) : ((1 : Int) : Rat) * q = q := by grind
theorem ok__law_value (F : FnD K mg "_law_value" s__law_value) (c__law_sum : Cal P w K mg base 2 "_law_sum" (sp__law_sum K) []) (c__law_product : Cal P w K mg base 2 "_law_product" (sp__law_product K) []) (c__law_sorted : Cal P w K mg base 2 "_law_sorted" (sp__law_sorted K) [])
    (T_len : mg "len" = none) (T_sum : mg "sum" = none) : ∀ D : Nat, Cal P w K mg base (D + 3) "_law_value" (spLV K D) [] := by
  intro D
  induction D with
  | zero => exact calOf (k := 2) F sc__law_value (fun _ _ _ _ _ _ us hl => match us, hl with | [_, _], _ => rfl) (fun vs H Q E h => by obtain ⟨_, _, _, _, _, t, _, _, _, _, h, _⟩ := h; rw [dep_children t] at h; omega) (fun cdv f A outer s H vs Q E hr h => by obtain ⟨_, _, _, _, _, t, _, _, _, _, h, _⟩ := h; rw [dep_children t] at h; omega)
  | succ D ih =>
    have c__law_value := ih
    refine calOf (k := D + 3) F sc__law_value (fun _ _ _ _ _ _ us hl => match us, hl with | [_, _], _ => rfl) (fun vs H Q E h => ?_) (fun cdv f A outer s H vs Q E hr h => ?_)
    · obtain ⟨_, _, _, _, _, _, rfl, _⟩ := h
      rfl
    · obtain ⟨v, ab, n, sz, bs, t, rfl, rt, ho, hsz, hdep, hwt, hB, k⟩ := h
      have hdc := dep_children t
      obtain ⟨us, hB1, hB2, hB3, hB4⟩ := id hB
      have hBz : ∀ q ∈ bs, Sz sz q := fun q h => (hB4 q h).2.2
      refine ⟨_, (pss_cons (ps_set (i := 2) sc__law_value.nd rfl (Or.inl rfl) (pe_ix ix_tup (pv 0) pe_int (fun _ _ => rfl)))
    (pss_cons (ps_if (pt_cmpR op_eq (pv 2) pe_str (nomark _)) (pss_one (ps_ret (pe_ix ix_tup (pv 1) (pe_ix ix_tup (pv 0) pe_int (fun _ _ => rfl)) (fun _ _ => rfl)))) pss_nil)
    (pss_cons (ps_if (pt_cmpR op_eq (pv 2) pe_str (nomark _)) (pss_one (ps_ret (pe_ix ix_tup (pv 0) pe_int (fun _ _ => rfl)))) pss_nil)
    (pss_cons (ps_if (pt_cmpR op_eq (pv 2) pe_str (nomark _)) (pss_cons (ps_set (i := 3) sc__law_value.nd rfl (Or.inl rfl) (pe_tup (pa_cons pe_int (pa_cons pe_int pa_nil))))
    (pss_cons (ps_for PassesOwn.never rfl (pi_tup (pe_ix ix_tup (pv 0) pe_int (fun _ _ => rfl))) (pg_tup rfl (pgs_cons (pg_name (i := 4) sc__law_value.nd rfl (Or.inl rfl)) (pgs_cons (pg_name (i := 5) sc__law_value.nd rfl (Or.inl rfl)) pgs_nil))) (pss_one (ps_set (i := 3) sc__law_value.nd rfl (Or.inl rfl) (pe_c c__law_sum hr (by first | decide | omega) rfl (pa_cons (pv 3) (pa_cons (pe_c c__law_product hr (by first | decide | omega) rfl (pa_cons (pe_tup (pa_cons (pv 4) (pa_cons pe_int pa_nil))) (pa_cons (pe_c c__law_value hr (by first | decide | omega) rfl (pa_cons (pv 5) (pa_cons (pv 1) pa_nil))) pa_nil))) (pa_cons pe_int pa_nil)))))))
    (pss_one (ps_ret (pe_c c__law_product hr (by first | decide | omega) rfl (pa_cons (pv 3) (pa_cons (pe_tup (pa_cons pe_int (pa_cons (pe_callB (cr_sum rfl) (by rfl) T_sum (by decide +kernel) (pa_cons (pe_lc (own := [("_law_weight", 4), ("_law_part", 5)]) (g := (gTup K 2 (gCons (gName 4) (gCons (gName 5) gNil)))) (by rfl) sc__law_value.nd (pi_tup (pe_ix ix_tup (pv 0) pe_int (fun _ _ => rfl))) (blkOk_by (own := [("_law_weight", 4), ("_law_part", 5)]) (N := ["_law_term_here", "_law_bids", "_law_word", "_law_whole", "_law_weight", "_law_part", "_law_told"]) (sc := defScope s__law_value) (by decide +kernel)) (fun _ _ _ _ _ => (pg_tup rfl (pgs_cons (pg_name (i := 4) sc__law_value.nd rfl (Or.inl rfl)) (pgs_cons (pg_name (i := 5) sc__law_value.nd rfl (Or.inl rfl)) pgs_nil)))) (fun _ _ _ _ _ => pts_nil) (fun _ _ _ _ _ => (pv 4))) pa_nil)) pa_nil))) pa_nil))))))) pss_nil)
    (pss_cons (ps_if (pt_cmpR op_eq (pv 2) pe_str (nomark _)) (pss_one (ps_ret (pe_ix ix_list (pe_c c__law_sorted hr (by first | decide | omega) rfl (pa_cons (pe_lst (pa_cons (pe_ix ix_tup (pv 0) pe_int (fun _ _ => rfl)) (pa_cons (pe_ix ix_tup (pv 0) pe_int (fun _ _ => rfl)) (pa_cons (pe_c c__law_value hr (by first | decide | omega) rfl (pa_cons (pe_ix ix_tup (pv 0) pe_int (fun _ _ => rfl)) (pa_cons (pv 1) pa_nil))) pa_nil)))) pa_nil)) pe_int (fun _ _ => rfl)))) pss_nil)
    (pss_cons (ps_set (i := 6) sc__law_value.nd rfl (Or.inl rfl) (pe_c c__law_sorted hr (by first | decide | omega) rfl (pa_cons (pe_lc (own := [("_law_part", 5)]) (by rfl) sc__law_value.nd (pi_tup (pe_ix ix_tup (pv 0) (pe_un un_neg pe_int) (fun _ _ => rfl))) (blkOk_by (own := [("_law_part", 5)]) (N := ["_law_term_here", "_law_bids", "_law_word", "_law_whole", "_law_weight", "_law_part", "_law_told"]) (sc := defScope s__law_value) (by decide +kernel)) (fun _ _ _ _ _ => (pg_name (i := 5) sc__law_value.nd rfl (Or.inl rfl))) (fun _ _ _ _ _ => pts_nil) (fun _ _ _ _ _ => (pe_c c__law_value hr (by first | decide | omega) rfl (pa_cons (pv 5) (pa_cons (pv 1) pa_nil))))) pa_nil)))
    (pss_cons (ps_if (pt_cmpR op_eq (pv 2) pe_str (nomark _)) (pss_one (ps_ret (pe_ix ix_list (pv 6) pe_int (fun _ _ => rfl)))) pss_nil)
    (pss_cons (ps_if (pt_cmpR op_eq (pv 2) pe_str (nomark _)) (pss_one (ps_ret (pe_ix ix_list (pv 6) (pe_un un_neg pe_int) (fun _ _ => rfl)))) pss_nil)
    (pss_one (ps_ret (pe_ix ix_list (pv 6) (pe_op op_sub (pe_callB call_len_seq (by rfl) T_len PySem.boot_len (pa_cons (pv 6) pa_nil)) (pe_ix ix_tup (pv 0) pe_int (fun _ _ => rfl))) (fun _ _ => rfl)))))))))))), ?_⟩
      obtain ⟨a, r, rfl, ha⟩ := t_head rt
      refine ⟨_, rfl, _, _, _, _, rfl, rfl, ha, at_of (j := 0) rfl rfl, ?_⟩
      refine ⟨_, rfl, rfl, _, rfl, ite2 (fun c => ?_) (fun c1 => ?_)⟩
      · cases t with
        | bid p =>
          obtain ⟨a2, e, ha2⟩ := t_bid rt
          cases e
          have hp : p < bs.length := by rw [hB3]; exact ho
          obtain ⟨x, hx, rx⟩ := RQ.get hB2 (List.getElem?_eq_getElem hp)
          have ev : (Tm.bid p).val bs = bs[p] := by show bs.getD p 0 = _; rw [List.getD_eq_getElem?_getD, List.getElem?_eq_getElem hp]; rfl
          refine ⟨_, rfl, _, rfl, _, _, _, _, rfl, rfl, ha2, rfl, ab, us, _, x, rfl, rfl, hB1, at_of (j := p) rfl hx, k x _ (Same.refl _) ?_⟩
          rw [ev]
          exact rx
        | _ => exact absurd (of_decide_eq_true c) (by simp only [Tm.word]; decide +kernel)
      refine ⟨_, rfl, rfl, _, rfl, ite2 (fun c => ?_) (fun c2 => ?_)⟩
      · cases t with
        | fixed q =>
          obtain ⟨a2, x, e, ha2, hx⟩ := t_fixed rt
          cases e
          exact ⟨_, rfl, _, _, _, _, rfl, rfl, ha2, rfl, k x _ (Same.refl _) hx⟩
        | _ => exact absurd (of_decide_eq_true c) (by simp only [Tm.word]; decide +kernel)
      refine ⟨_, rfl, rfl, _, rfl, ite2 (fun c => ?_) (fun c3 => ?_)⟩
      · cases t with
        | mean ws ts =>
          obtain ⟨a2, b2, us2, e, ha2, hb2, hu2⟩ := t_mean rt
          cases e
          obtain ⟨wl, tne, tl, hwb, hob⟩ := ho
          have hwts : Tm.wts sz ts + 12 + 20 ≤ 9000 := hwt
          have hd2 : Tm.deps ts + 1 ≤ D + 1 := by rw [hdc] at hdep; exact hdep
          have ul : us2.length = ts.length := by rw [hu2.length, meanD_length _ _ (by rw [datas_map, List.length_map]; exact wl), datas_map, List.length_map]
          have pl : (mparts sz bs ws ts).length = ts.length := mparts_length wl
          have pok : ∀ x ∈ mparts sz bs ws ts, MOk x := fun x hx => by
            obtain ⟨h1, t, h2, h3⟩ := mparts_mem hx
            have g := hwb _ h1
            rw [MOk, h3]
            exact ⟨g.1, g.2, vals_sz hBz hB3 hob t h2⟩
          have psz := mparts_sz sz bs wl
          refine ⟨(by show 2 ≤ sizeLine; decide), fun p0 hp0 => ?_⟩
          have s0 := same_new (o := .tup [.int 0, .int 1]) hp0
          refine ⟨_, rfl, _, _, _, _, rfl, rfl, (Same.kt s0).sq ha2, rfl, b2, rfl, ⟨_, (Same.kt s0).sq hb2⟩, for_tup (K := K) (a := b2) (xs := us2) (fun i σ H' => ∃ (vw : V) (x y : Option V), σ = [some (.ref a), some (.ref ab), some (.str "mean"), some vw, x, y, none] ∧ Same H H' ∧ RF K H' vw (wsum ((mparts sz bs ws ts).take i)))
            ⟨.ref p0, none, none, rfl, s0, zero_rf (SqT.of upd_same)⟩ (fun i σ H' _ ⟨_, _, _, _, s5, _⟩ => (Same.kt s5).sq hb2) ?_ ?_⟩
          · rintro i x σ H' hx ⟨vw, _, _, rfl, s5, r5⟩
            obtain ⟨c, z, t, y, rfl, e1, e2, p1, p2⟩ := mean_part hu2 hx
            have hz := hwb z (List.mem_of_getElem? e1)
            have mt := List.mem_of_getElem? e2
            have kt5 := Same.kt s5
            have tdp := deps_mem mt
            have twt := wts_mem (s := sz) mt
            refine ⟨c, _, rfl, kt5.sq p1, rfl, _, _, rfl, _, _, rfl, rfl, ?_⟩
            refine ⟨_, rfl, _, rfl, (by show 2 ≤ sizeLine; decide), fun p1 hp1 => ?_⟩
            have s1 := same_new (o := .tup [.int z, .int 1]) hp1
            have hzt := vals_sz hBz hB3 hob t mt
            refine ⟨_, rfl, _, rfl, y, ab, n, sz, bs, t, rfl, (p2.mono kt5).mono (Same.kt s1), (oks_iff _ _ _).mp hob t mt, hsz, by omega, by omega, (hB.mono kt5).mono (Same.kt s1), fun u H2 s2 ru => ?_⟩
            have hw7 : z.natAbs < 2 ^ 7 := by omega
            refine ⟨.ref p1, u, z, 1, _, _, 7, t.wt sz, rfl, ⟨p1, rfl, (Same.kt s2).sq (SqT.of upd_same)⟩, ru, by omega, den_pos _, hw7, by decide, hzt.1, hzt.d, by omega, fun u2 H3 s3 r3 => ?_⟩
            rw [divInt_self', ← int_rat] at r3
            have pt := psum_take (bs := bs) sz e1 e2
            have le := wsz_take_le (L := mparts sz bs ws ts) (i := i + 1)
            rw [psz] at le
            have lz : wsz ((mparts sz bs ws ts).take (i + 1)) = wsz ((mparts sz bs ws ts).take i) + (t.wt sz + 8) := by rw [pt, wsz_snoc]
            have zs : Sz (wsz ((mparts sz bs ws ts).take i) + 1) (wsum ((mparts sz bs ws ts).take i)) := wsum_sz fun x hx => pok x (List.mem_of_mem_take hx)
            have zp : Sz (7 + t.wt sz) (((z : Int) : Rat) * t.val bs) := by
              rw [mul_divInt]
              exact divInt_sz (den_pos _) (wide_lt hw7 hzt.1) (Nat.lt_of_lt_of_le hzt.d (Nat.pow_le_pow_right (by omega) (by omega)))
            refine ⟨vw, u2, _, _, _, _, 1, _, _, rfl, r5.mono (Same.kt ((s1.trans s2).trans s3)), r3, den_pos _, den_pos _, .inl rfl, zs.1, zs.d, zp.1, zp.d, by omega, fun u3 H4 s4 r4 => ?_⟩
            rw [divInt_self', divInt_self', rat_one_mul] at r4
            refine ⟨u3, _, _, rfl, s5.trans (((s1.trans s2).trans s3).trans s4), ?_⟩
            rw [pt, wsum_snoc]
            exact r4
          · rintro σ H' ⟨vw, _, _, rfl, s5, r5⟩
            rw [ul, ← pl, List.take_length] at r5
            have kt5 := Same.kt s5
            have wb := wtot_bound pok
            have ewt : wtot (mparts sz bs ws ts) = ws.sum := by unfold wtot; rw [mparts_ws sz bs wl]
            have l1 := List.length_pos_iff.mpr tne
            refine ⟨_, rfl, _, rfl, _, _, _, _, rfl, rfl, kt5.sq ha2, rfl, b2, rfl, ⟨_, kt5.sq hb2⟩, fun M hM => ?_⟩
            refine it_tup (K := K) (a := b2) (xs := us2) (fun i H2 => H2 M = some (.lst ((ws.take i).map V.int)) ∧ Same H' H2)
              ⟨by rw [List.take_zero]; exact upd_same, same_new hM⟩ (fun i H2 ⟨_, s6⟩ => (Same.kt (s5.trans s6)).sq hb2) ?_ ?_
            · rintro i x H2 hx ⟨q1, q2⟩
              obtain ⟨c, z, t, y, rfl, e1, e2, p1, p2⟩ := mean_part hu2 hx
              have hi := (List.getElem?_eq_some_iff.mp hx).1
              refine ⟨c, _, rfl, (Same.kt (s5.trans q2)).sq p1, rfl, _, _, rfl, _, _, rfl, rfl, rfl, _, rfl, _, q1, by rw [List.length_map, List.length_take]; exact small1000 (by omega), ?_, Same.mut q2 hM⟩
              rw [take_succ' e1, List.map_append]
              exact upd_same
            · rintro H2 ⟨q1, q2⟩
              rw [ul, ← wl, List.take_length] at q1
              refine ⟨M, ws, rfl, SqL.of q1, (by show 2 ≤ sizeLine; decide), fun p hp => ?_⟩
              have s7 := same_new (o := .tup [.int 1, .int ws.sum]) hp
              have zs : Sz (wsz (mparts sz bs ws ts) + 1) (wsum (mparts sz bs ws ts)) := wsum_sz pok
              rw [psz] at zs
              refine ⟨vw, .ref p, _, _, 1, ws.sum, _, 10, rfl, r5.mono (Same.kt (q2.trans s7)), ⟨p, rfl, SqT.of upd_same⟩, den_pos _, by omega, zs.1, zs.d, by decide, by omega, by omega, fun u H3 s8 r8 => ?_⟩
              rw [divInt_self'] at r8
              refine k u H3 ((s5.trans q2).trans (s7.trans s8)) ?_
              have em : wsum (mparts sz bs ws ts) * Rat.divInt 1 ws.sum = (Tm.mean ws ts).val bs := by
                show _ = wavg ws (Tm.vals bs ts)
                rw [← mparts_avg sz bs wl, ewt]
                have e1 : Rat.divInt 1 ws.sum = 1 / ((ws.sum : Int) : Rat) := by rw [Rat.divInt_eq_div]; rfl
                rw [e1]
                grind
              rw [← em]
              exact r8
        | _ => exact absurd (of_decide_eq_true c) (by simp only [Tm.word]; decide +kernel)
      refine ⟨_, rfl, rfl, _, rfl, ite2 (fun c => ?_) (fun c4 => ?_)⟩
      · cases t with
        | between lo hi t =>
          obtain ⟨n1, n2, hl, hob⟩ := ho
          obtain ⟨a2, x, y, z, e, ha2, rx, ry, rz⟩ := t_between rt
          cases e
          have hw2 : t.wt sz + sz + sz + 20 ≤ 9000 := hwt
          have hd2 : t.dep + 1 ≤ D + 1 := hdep
          have hzt := val_sz hBz hB3 hob
          refine ⟨_, rfl, _, _, _, _, rfl, rfl, ha2, rfl, _, rfl, _, _, _, _, rfl, rfl, ha2, rfl, _, rfl, _, _, _, _, rfl, rfl, ha2, rfl, _, rfl, z, ab, n, sz, bs, t, rfl, rz, hob, hsz, by omega, by omega, hB, fun u H1 s1 ru => ?_⟩
          refine ⟨(by show 3 ≤ sizeLine; decide), fun p hp => ?_⟩
          have s2 := same_new (o := .lst [x, y, u]) hp
          have kt1 := Same.kt (s1.trans s2)
          refine ⟨p, [x, y, u], [lo, hi, t.val bs], rfl, SqL.of upd_same, .cons (rx.mono kt1).rp (.cons (ry.mono kt1).rp (.cons (ru.mono (Same.kt s2)).rp .nil)), ?_, (by show 3 ≤ 100; decide), fun pl ys H2 _ s3 hys rys => ?_⟩
          · intro q hq
            rcases List.mem_cons.mp hq with h | h
            · rw [h]; exact n1.2.2.mono hsz
            · rcases List.mem_cons.mp h with h | h
              · rw [h]; exact n2.2.2.mono hsz
              · rw [List.mem_singleton.mp h]; exact hzt.mono (by omega)
          obtain ⟨v1, e1, r1⟩ := RQ.get rys (isort_mid (x := t.val bs) hl)
          exact ⟨pl, _, 1, v1, rfl, rfl, SqL.of hys, at_of (j := 1) rfl e1, k v1 H2 ((s1.trans s2).trans s3) r1⟩
        | _ => exact absurd (of_decide_eq_true c) (by simp only [Tm.word]; decide +kernel)
      -- least, greatest, ranked
      have kids : ∃ b2 us2, SqT K H b2 us2 ∧ RTs K H us2 t.children ∧ ∃ r2, SqT K H a (.str t.word :: (r2 ++ [V.ref b2])) ∧ t.children ≠ [] ∧ r2.length ≤ 1 := by
        cases t with
        | bid p => exact absurd (decide_eq_true rfl) c1
        | fixed q => exact absurd (decide_eq_true rfl) c2
        | mean ws ts => exact absurd (decide_eq_true rfl) c3
        | between lo hi t => exact absurd (decide_eq_true rfl) c4
        | least ts => obtain ⟨a2, b2, us2, e, ha2, hb2, hu2⟩ := t_least rt; cases e; exact ⟨b2, us2, hb2, hu2, [], ha2, ho.1, Nat.zero_le _⟩
        | greatest ts => obtain ⟨a2, b2, us2, e, ha2, hb2, hu2⟩ := t_greatest rt; cases e; exact ⟨b2, us2, hb2, hu2, [], ha2, ho.1, Nat.zero_le _⟩
        | ranked kk ts =>
          obtain ⟨a2, b2, us2, e, ha2, hb2, hu2⟩ := t_ranked rt
          cases e
          refine ⟨b2, us2, hb2, hu2, [V.int (kk : Int)], ha2, ?_, Nat.le_refl _⟩
          intro e
          have h1 := ho.1
          have h2 := ho.2.1
          have e' : ts = [] := e
          rw [e'] at h2
          simp at h2
          omega
      obtain ⟨b2, us2, hb2, hu2, r2, ha3, cne, rl⟩ := kids
      have hlast : atI (V.str t.word :: (r2 ++ [V.ref b2])) (-1) = some (V.ref b2) := by
        cases r2 with
        | nil => rfl
        | cons y r2 =>
          have : r2 = [] := by simpa using rl
          subst this
          rfl
      have cl8 := kids_len ho
      have ul : us2.length = t.children.length := RTs.length hu2
      refine ⟨_, rfl, _, rfl, _, _, _, _, rfl, rfl, ha3, hlast, b2, rfl, ⟨_, hb2⟩, fun L hL => ?_⟩
      refine it_tup (K := K) (a := b2) (xs := us2) (fun i H' => ∃ zs : List V, H' L = some (.lst zs) ∧ RQ K H' zs (Tm.vals bs (t.children.take i)) ∧ Same H H')
        ⟨[], upd_same, by rw [List.take_zero]; exact .nil, same_new hL⟩ (fun i H' ⟨_, _, _, s5⟩ => (Same.kt s5).sq hb2) ?_ ?_
      · rintro i x H' hx ⟨zs, g1, g2, g3⟩
        obtain ⟨u, hu, ru⟩ := RTs.getV hu2 hx
        have mu := List.mem_of_getElem? hu
        have ud := deps_mem mu
        have uw := kids_wt (s := sz) mu
        have zl : zs.length ≤ 8 := by rw [RQ.length g2, vals_length, List.length_take]; omega
        refine ⟨rfl, _, rfl, _, rfl, x, ab, n, sz, bs, u, rfl, ru.mono (Same.kt g3), (oks_iff _ _ _).mp (ok_children ho) u mu, hsz, by omega, by omega, hB.mono (Same.kt g3), fun y H2 s2 ry => ?_⟩
        refine ⟨zs, s2 _ _ g1, small1000 (by omega), zs ++ [y], upd_same, ?_, Same.mut (g3.trans s2) hL⟩
        have e1 : Tm.vals bs (t.children.take (i + 1)) = Tm.vals bs (t.children.take i) ++ [u.val bs] := by
          rw [take_succ' hu, vals_map, vals_map, List.map_append]
          rfl
        rw [e1]
        exact RpAll.mono (KT.updl (s2 _ _ g1)) (RQ.snoc (RpAll.mono (Same.kt s2) g2) ry)
      · rintro H1 ⟨zs, g1, g2, g3⟩
        rw [ul, List.take_length] at g2
        have hz : ∀ q ∈ Tm.vals bs t.children, Sz 9000 q := by
          intro q hq
          rw [vals_map] at hq
          obtain ⟨u, hu, rfl⟩ := List.mem_map.mp hq
          have z := val_sz hBz hB3 ((oks_iff _ _ _).mp (ok_children ho) u hu)
          have uw := kids_wt (s := sz) hu
          exact z.mono (by omega)
        have vl := vals_length bs t.children
        have vne : Tm.vals bs t.children ≠ [] := vals_ne cne
        refine ⟨L, zs, _, rfl, SqL.of g1, g2, hz, by omega, fun pl ys H2 _ s3 hys rys => ?_⟩
        have s2 := g3.trans s3
        have yl : ys.length = t.children.length := by rw [RQ.length rys, isort_length, vl]
        have yp : 0 < ys.length := by rw [yl]; exact List.length_pos_iff.mpr cne
        cases t with
        | bid p => exact absurd (decide_eq_true rfl) c1
        | fixed q => exact absurd (decide_eq_true rfl) c2
        | mean ws ts => exact absurd (decide_eq_true rfl) c3
        | between lo hi t => exact absurd (decide_eq_true rfl) c4
        | least ts =>
          refine ⟨_, rfl, rfl, _, rfl, ite2 (fun _ => ?_) (fun c => absurd (decide_eq_true rfl) c)⟩
          obtain ⟨v1, e1, r1⟩ := RQ.get rys (isort_first vne)
          exact ⟨_, rfl, pl, _, 0, v1, rfl, rfl, SqL.of hys, at_of (j := 0) rfl e1, k v1 H2 s2 r1⟩
        | greatest ts =>
          refine ⟨_, rfl, rfl, _, rfl, ite2 (fun c => absurd (of_decide_eq_true c) (by simp only [Tm.word]; decide +kernel)) (fun _ => ?_)⟩
          refine ⟨_, rfl, rfl, _, rfl, ite2 (fun _ => ?_) (fun c => absurd (decide_eq_true rfl) c)⟩
          obtain ⟨v1, e1, r1⟩ := RQ.get rys (isort_last vne)
          have e2 : atI ys (-1) = some v1 := by
            unfold atI ixN
            rw [if_neg (by omega), if_pos (by omega)]
            have e3 : (-1 + (ys.length : Int)).toNat = (Tm.vals bs (Tm.greatest ts).children).length - 1 := by rw [vl, ← yl]; omega
            show ys[(-1 + (ys.length : Int)).toNat]? = some v1
            rw [e3]
            exact e1
          exact ⟨_, rfl, _, rfl, pl, _, -1, v1, rfl, rfl, SqL.of hys, e2, k v1 H2 s2 r1⟩
        | ranked kk ts =>
          refine ⟨_, rfl, rfl, _, rfl, ite2 (fun c => absurd (of_decide_eq_true c) (by simp only [Tm.word]; decide +kernel)) (fun _ => ?_)⟩
          refine ⟨_, rfl, rfl, _, rfl, ite2 (fun c => absurd (of_decide_eq_true c) (by simp only [Tm.word]; decide +kernel)) (fun _ => ?_)⟩
          obtain ⟨a2, b3, us3, e, ha4, _, _⟩ := t_ranked rt
          cases e
          obtain ⟨k1, k2, tl, hob⟩ := ho
          have vl2 : (Tm.vals bs ts).length = ts.length := vals_length bs ts
          have yl2 : ys.length = ts.length := yl
          obtain ⟨v1, e1, r1⟩ := RQ.get rys (kthG_isort (kk - 1) (Tm.vals bs ts) (by rw [vl2]; omega))
          refine ⟨_, rfl, _, rfl, pl, ys, rfl, .inl (SqL.of hys), _, rfl, _, _, _, _, rfl, rfl, (Same.kt s2).sq ha4, rfl, _, _, rfl, rfl, pl, _, _, v1, rfl, rfl, SqL.of hys, at_of (j := (Tm.vals bs ts).length - 1 - (kk - 1)) (by rw [vl2]; show (ys.length : Int) - (kk : Int) = _; omega) e1, k v1 H2 s2 r1⟩
end
end CB

set_option Elab.async false
set_option linter.all false
set_option maxRecDepth 100000
set_option maxHeartbeats 4000000
namespace CB
/-! ### numbers that rise, by a step at most -/
def Nr (s x y : Rat) : Prop := x ≤ y ∧ y ≤ x + s
def NrL (s : Rat) : List Rat → List Rat → Prop
  | [], [] => True
  | x :: l, y :: m => Nr s x y ∧ NrL s l m
  | _, _ => False
theorem rmin_nr {s a b c d : Rat} (h : Nr s a b) (g : Nr s c d) : Nr s (rmin a c) (rmin b d) := by
  obtain ⟨h1, h2⟩ := h
  obtain ⟨g1, g2⟩ := g
  unfold Nr rmin
  constructor <;> (repeat' split) <;> grind
theorem rmax_nr {s a b c d : Rat} (h : Nr s a b) (g : Nr s c d) : Nr s (rmax a c) (rmax b d) := by
  obtain ⟨h1, h2⟩ := h
  obtain ⟨g1, g2⟩ := g
  unfold Nr rmax
  constructor <;> (repeat' split) <;> grind
theorem nr_refl {s : Rat} (h : 0 ≤ s) (x : Rat) : Nr s x x := ⟨by grind, by grind⟩
theorem foldl_rmin_nr {s : Rat} : ∀ {l m : List Rat} {x y : Rat}, NrL s l m → Nr s x y → Nr s (l.foldl rmin x) (m.foldl rmin y)
  | [], [], _, _, _, h => h
  | _ :: l, _ :: m, _, _, hl, h => foldl_rmin_nr (l := l) (m := m) hl.2 (rmin_nr h hl.1)
  | [], _ :: _, _, _, hl, _ => hl.elim
  | _ :: _, [], _, _, hl, _ => hl.elim
theorem foldl_rmax_nr {s : Rat} : ∀ {l m : List Rat} {x y : Rat}, NrL s l m → Nr s x y → Nr s (l.foldl rmax x) (m.foldl rmax y)
  | [], [], _, _, _, h => h
  | _ :: l, _ :: m, _, _, hl, h => foldl_rmax_nr (l := l) (m := m) hl.2 (rmax_nr h hl.1)
  | [], _ :: _, _, _, hl, _ => hl.elim
  | _ :: _, [], _, _, hl, _ => hl.elim
theorem minL_nr {s : Rat} (hs : 0 ≤ s) : ∀ {l m : List Rat}, NrL s l m → Nr s (minL l) (minL m)
  | [], [], _ => nr_refl hs 0
  | _ :: _, _ :: _, hl => foldl_rmin_nr hl.2 hl.1
  | [], _ :: _, hl => hl.elim
  | _ :: _, [], hl => hl.elim
theorem maxL_nr {s : Rat} (hs : 0 ≤ s) : ∀ {l m : List Rat}, NrL s l m → Nr s (maxL l) (maxL m)
  | [], [], _ => nr_refl hs 0
  | _ :: _, _ :: _, hl => foldl_rmax_nr hl.2 hl.1
  | [], _ :: _, hl => hl.elim
  | _ :: _, [], hl => hl.elim
theorem bub_nr {s : Rat} : ∀ {l m : List Rat} {x y : Rat}, NrL s l m → Nr s x y → NrL s (bub x l).1 (bub y m).1
  | [], [], _, _, _, _ => trivial
  | _ :: _, _ :: _, _, _, hl, h => ⟨rmin_nr h hl.1, bub_nr hl.2 (rmax_nr h hl.1)⟩
  | [], _ :: _, _, _, hl, _ => hl.elim
  | _ :: _, [], _, _, hl, _ => hl.elim
theorem bubL_nr {s : Rat} : ∀ {l m : List Rat}, NrL s l m → NrL s (bubL l) (bubL m)
  | [], [], _ => trivial
  | _ :: _, _ :: _, hl => bub_nr hl.2 hl.1
  | [], _ :: _, hl => hl.elim
  | _ :: _, [], hl => hl.elim
theorem kthG_nr {s : Rat} (hs : 0 ≤ s) : ∀ (k : Nat) {l m : List Rat}, NrL s l m → Nr s (kthG k l) (kthG k m)
  | 0, _, _, h => maxL_nr hs h
  | k + 1, _, _, h => kthG_nr hs k (bubL_nr h)
theorem wsum_nr {s : Rat} : ∀ {ws : List Int} {l m : List Rat}, ws.length = l.length → (∀ w ∈ ws, 1 ≤ w) → NrL s l m →
    (List.zipWith (fun (w : Int) (q : Rat) => (w : Rat) * q) ws l).sum ≤ (List.zipWith (fun (w : Int) (q : Rat) => (w : Rat) * q) ws m).sum ∧
    (List.zipWith (fun (w : Int) (q : Rat) => (w : Rat) * q) ws m).sum ≤ (List.zipWith (fun (w : Int) (q : Rat) => (w : Rat) * q) ws l).sum + ((ws.sum : Int) : Rat) * s
  | [], [], [], _, _, _ => by constructor <;> (simp; try grind)
  | w :: ws, x :: l, y :: m, hl, hw, h => by
    obtain ⟨i1, i2⟩ := wsum_nr (by simpa using hl) (fun w hw' => hw w (List.mem_cons_of_mem _ hw')) h.2
    obtain ⟨⟨g1, g2⟩, _⟩ := h
    have w1 : (0 : Rat) ≤ (w : Rat) := by
      have := hw w List.mem_cons_self
      have : (0 : Int) ≤ w := by omega
      exact_mod_cast this
    simp only [List.zipWith_cons_cons, List.sum_cons]
    have a1 := Rat.mul_le_mul_of_nonneg_left g1 w1
    have a2 := Rat.mul_le_mul_of_nonneg_left g2 w1
    have e : (((w + ws.sum : Int)) : Rat) * s = (w : Rat) * s + ((ws.sum : Int) : Rat) * s := by rw [Rat.intCast_add]; grind
    rw [e]
    constructor <;> grind
  | [], _ :: _, _, hl, _, _ => by simp at hl
  | _ :: _, [], _, hl, _, _ => by simp at hl
  | [], [], _ :: _, _, _, h => h.elim
  | _ :: _, _ :: _, [], _, _, h => h.elim
theorem sum_pos : ∀ {ws : List Int}, ws ≠ [] → (∀ w ∈ ws, 1 ≤ w) → 0 < ws.sum
  | [], h, _ => absurd rfl h
  | [w], _, hw => by have := hw w List.mem_cons_self; simp; omega
  | w :: v :: ws, _, hw => by
    have a := sum_pos (ws := v :: ws) (by simp) fun x hx => hw x (List.mem_cons_of_mem _ hx)
    have := hw w List.mem_cons_self
    rw [List.sum_cons]
    omega
theorem wavg_nr {s : Rat} {ws : List Int} {l m : List Rat} (e : ws.length = l.length) (hn : ws ≠ []) (hw : ∀ w ∈ ws, 1 ≤ w) (h : NrL s l m) : Nr s (wavg ws l) (wavg ws m) := by
  obtain ⟨h1, h2⟩ := wsum_nr e hw h
  have hp : (0 : Rat) < ((ws.sum : Int) : Rat) := by exact_mod_cast sum_pos hn hw
  unfold Nr wavg
  rw [Rat.div_def, Rat.div_def]
  have hv : (0 : Rat) ≤ (((ws.sum : Int) : Rat))⁻¹ := Rat.le_of_lt (Rat.inv_pos.mpr hp)
  have hi : ((ws.sum : Int) : Rat) * (((ws.sum : Int) : Rat))⁻¹ = 1 := Rat.mul_inv_cancel _ (by grind)
  have a1 := Rat.mul_le_mul_of_nonneg_right h1 hv
  have a2 := Rat.mul_le_mul_of_nonneg_right h2 hv
  refine ⟨a1, ?_⟩
  generalize (((ws.sum : Int) : Rat))⁻¹ = v at *
  generalize ((ws.sum : Int) : Rat) = W at *
  have : W * s * v = s := by rw [Rat.mul_comm W s, Rat.mul_assoc, hi, Rat.mul_one]
  rw [Rat.add_mul, this] at a2
  exact a2
theorem nrL_get {s : Rat} (hs : 0 ≤ s) : ∀ {l m : List Rat} (p : Nat), NrL s l m → Nr s (l.getD p 0) (m.getD p 0)
  | [], [], _, _ => by simpa using nr_refl hs 0
  | _ :: _, _ :: _, 0, h => by simpa using h.1
  | _ :: l, _ :: m, p + 1, h => by simpa using nrL_get hs p h.2
  | [], _ :: _, _, h => h.elim
  | _ :: _, [], _, h => h.elim
theorem vals_len (b : List Rat) : ∀ ts : List Tm, (Tm.vals b ts).length = ts.length
  | [] => rfl
  | t :: ts => by rw [Tm.vals, List.length_cons, vals_len b ts]; rfl
mutual
theorem val_nr {s : Rat} (hs : 0 ≤ s) {n z : Nat} {b c : List Rat} (h : NrL s b c) : ∀ (t : Tm), t.Ok n z → Nr s (t.val b) (t.val c)
  | .bid p, _ => nrL_get hs p h
  | .fixed q, _ => nr_refl hs q
  | .mean ws ts, ho => wavg_nr (by rw [vals_len]; exact ho.1) (by
      intro e
      have h1 := ho.1
      rw [e] at h1
      exact ho.2.1 (List.eq_nil_of_length_eq_zero h1.symm)) (fun w hw => (ho.2.2.2.1 w hw).1) (vals_nr hs h ts ho.2.2.2.2)
  | .least ts, ho => minL_nr hs (vals_nr hs h ts ho.2.2)
  | .greatest ts, ho => maxL_nr hs (vals_nr hs h ts ho.2.2)
  | .ranked k ts, ho => kthG_nr hs (k - 1) (vals_nr hs h ts ho.2.2.2)
  | .between lo hi t, ho => rmax_nr (nr_refl hs lo) (rmin_nr (nr_refl hs hi) (val_nr hs h t ho.2.2.2))
theorem vals_nr {s : Rat} (hs : 0 ≤ s) {n z : Nat} {b c : List Rat} (h : NrL s b c) : ∀ (ts : List Tm), Tm.Oks n z ts → NrL s (Tm.vals b ts) (Tm.vals c ts)
  | [], _ => trivial
  | t :: ts, ho => ⟨val_nr hs h t ho.1, vals_nr hs h ts ho.2⟩
end
/-! ### terms without fixed numbers and bounds -/
mutual
def Tm.fix : Tm → Bool
  | .bid _ => false
  | .fixed _ => true
  | .mean _ ts => Tm.fixs ts
  | .least ts => Tm.fixs ts
  | .greatest ts => Tm.fixs ts
  | .ranked _ ts => Tm.fixs ts
  | .between _ _ _ => true
def Tm.fixs : List Tm → Bool
  | [] => false
  | t :: ts => t.fix || Tm.fixs ts
end
def AllQ (q : Rat) (l : List Rat) : Prop := ∀ x ∈ l, x = q
theorem minL_all {q : Rat} {l : List Rat} (hn : l ≠ []) (h : AllQ q l) : minL l = q := h _ (minL_mem hn).1
theorem maxL_all {q : Rat} {l : List Rat} (hn : l ≠ []) (h : AllQ q l) : maxL l = q := h _ (maxL_mem hn).1
theorem kthG_all {q : Rat} {l : List Rat} {k : Nat} (hk : k < l.length) (h : AllQ q l) : kthG k l = q :=
  h _ ((isort_perm l).mem_iff.mp (List.mem_of_getElem? (kthG_isort k l hk)))
theorem wsum_all {q : Rat} : ∀ {ws : List Int} {l : List Rat}, ws.length = l.length → AllQ q l → (List.zipWith (fun (w : Int) (q : Rat) => (w : Rat) * q) ws l).sum = ((ws.sum : Int) : Rat) * q
  | [], [], _, _ => by simp
  | w :: ws, x :: l, e, h => by
    simp only [List.zipWith_cons_cons, List.sum_cons]
    rw [wsum_all (by simpa using e) (fun y hy => h y (List.mem_cons_of_mem _ hy)), h x List.mem_cons_self, Rat.intCast_add]
    grind
  | [], _ :: _, e, _ => by simp at e
  | _ :: _, [], e, _ => by simp at e
theorem wavg_all {q : Rat} {ws : List Int} {l : List Rat} (e : ws.length = l.length) (hn : ws ≠ []) (hw : ∀ w ∈ ws, 1 ≤ w) (h : AllQ q l) : wavg ws l = q := by
  have hp : (0 : Rat) < ((ws.sum : Int) : Rat) := by exact_mod_cast sum_pos hn hw
  unfold wavg
  rw [wsum_all e h, Rat.div_def, Rat.mul_comm _ q, Rat.mul_assoc, Rat.mul_inv_cancel _ (by grind), Rat.mul_one]
theorem vals_nil {b : List Rat} {ts : List Tm} (h : ts ≠ []) : Tm.vals b ts ≠ [] := by
  intro e
  have := vals_len b ts
  rw [e] at this
  exact h (List.eq_nil_of_length_eq_zero this.symm)
mutual
theorem val_all {n z : Nat} {b : List Rat} {q : Rat} (hl : b.length = n) (h : AllQ q b) : ∀ (t : Tm), t.Ok n z → t.fix = false → t.val b = q
  | .bid p, ho, _ => by
    have hp : p < b.length := by rw [hl]; exact ho
    show b.getD p 0 = q
    rw [List.getD_eq_getElem?_getD, List.getElem?_eq_getElem hp]
    exact h _ (List.getElem_mem hp)
  | .fixed _, _, e => absurd e (by simp [Tm.fix])
  | .mean ws ts, ho, e => wavg_all (by rw [vals_len]; exact ho.1) (by
      intro e
      have h1 := ho.1
      rw [e] at h1
      exact ho.2.1 (List.eq_nil_of_length_eq_zero h1.symm)) (fun w hw => (ho.2.2.2.1 w hw).1) (vals_all hl h ts ho.2.2.2.2 e)
  | .least ts, ho, e => minL_all (vals_nil ho.1) (vals_all hl h ts ho.2.2 e)
  | .greatest ts, ho, e => maxL_all (vals_nil ho.1) (vals_all hl h ts ho.2.2 e)
  | .ranked k ts, ho, e => kthG_all (by rw [vals_len]; have := ho.1; have := ho.2.1; omega) (vals_all hl h ts ho.2.2.2 e)
  | .between _ _ _, _, e => absurd e (by simp [Tm.fix])
theorem vals_all {n z : Nat} {b : List Rat} {q : Rat} (hl : b.length = n) (h : AllQ q b) : ∀ (ts : List Tm), Tm.Oks n z ts → Tm.fixs ts = false → AllQ q (Tm.vals b ts)
  | [], _, _ => fun x hx => by cases hx
  | t :: ts, ho, e => fun x hx => by
    have e' : (t.fix || Tm.fixs ts) = false := e
    rw [Bool.or_eq_false_iff] at e'
    rcases List.mem_cons.mp hx with hx | hx
    · rw [hx]; exact val_all hl h t ho.1 e'.1
    · exact vals_all hl h ts ho.2 e'.2 x hx
end
end CB

set_option Elab.async false
set_option linter.all false
set_option maxRecDepth 100000
set_option maxHeartbeats 4000000
namespace CB
/-! ### bids with those of some persons put to a number; outcomes -/
def put (ps : List Nat) (x : Rat) (bs : List Rat) : List Rat := bs.mapIdx fun i b => if i ∈ ps then x else b
theorem put_len (ps : List Nat) (x : Rat) (bs : List Rat) : (put ps x bs).length = bs.length := by simp [put]
theorem put_get {ps : List Nat} {x b : Rat} {bs : List Rat} {i : Nat} (h : bs[i]? = some b) : (put ps x bs)[i]? = some (if i ∈ ps then x else b) := by simp [put, h]
theorem put_mem {ps : List Nat} {x : Rat} {bs : List Rat} {q : Rat} (h : q ∈ put ps x bs) : q = x ∨ q ∈ bs := by
  obtain ⟨i, hi⟩ := List.mem_iff_getElem?.mp h
  have hl : i < bs.length := by
    have := (List.getElem?_eq_some_iff.mp hi).1
    rwa [put_len] at this
  rw [put_get (List.getElem?_eq_getElem hl)] at hi
  have e := Option.some.inj hi
  by_cases c : i ∈ ps
  · rw [if_pos c] at e; exact .inl e.symm
  · rw [if_neg c] at e; exact .inr (e ▸ List.getElem_mem hl)
/-- those of ls who wish at least what p wishes -/
def eager (ws : List Rat) (ls : List Nat) (p : Nat) : List Nat := ls.filter fun o => !decide (ws.getD o 0 < ws.getD p 0)
def stepG (t : Tm) (ws low : List Rat) (ls : List Nat) (f : Rat) (p : Nat) : Rat := rmax f (rmin (ws.getD p 0) (t.val (put (eager ws ls p) 1 low)))
def outG (t : Tm) (ws bs : List Rat) (ls : List Nat) : Rat := ls.foldl (stepG t ws (put ls 0 bs) ls) (t.val (put ls 0 bs))
def outc (t : Tm) (n : Nat) (ws : List Rat) : Rat := outG t ws ws (List.range n)
end CB

set_option Elab.async false
set_option linter.all false
set_option maxRecDepth 100000
set_option maxHeartbeats 4000000
/-! enumerate of a tuple -/
namespace CB
open PySem PySem.Spec PyProof.Rows L2
open AutoSeq1 (wpAny_loadPart')
theorem enum_new_tup (a : Addr) (xs : Array Value) (m : Nat) (z : Option Addr) (y : Array (Option Value)) :
    Meets (Builtin.«enumerate.__new__» ⟨[.type "enumerate", .ref a], []⟩) (fun _ R s => s.heap.get? a = some { cls := .type "tuple", dict := z, data := .seq xs m, slots := y } ∧
      R (.ok (.ret (.ref (s.heap.push { cls := .type "tuple_iterator", data := .fields #[.ref a, .int 0 0] }).objs.size)))
        { s with heap := (s.heap.push { cls := .type "tuple_iterator", data := .fields #[.ref a, .int 0 0] }).push { cls := .type "enumerate", data := .fields #[.none, .bool false, .ref s.heap.objs.size, rawInt 0, .none, .none] } }) :=
  .of_wp fun prog w A R s z0 => by
    obtain ⟨q1, q2, q3, q4, q5⟩ := s; obtain ⟨z1, z0⟩ := z0
    have z2 := sub_enumerate
    have z3 : Heap.IsTuple (Shared.heap ⟨q1, q2, q3, q4, q5⟩) a xs := ⟨_, z1, rfl, m, rfl⟩
    wp_walk using wpAny_loadPart' z1
    refine wpAny_stack_any fun st => wpAny_pure ?_
    split
    · rename_i c _ _ _ _ _
      cases (c == Value.type "enumerate")
      · wp_walk using wpAny_loadPart' z1, wpAny_pyIter_tuple z3
        exact ⟨_, rfl, z0⟩
      · wp_walk using wpAny_loadPart' z1, wpAny_pyIter_tuple z3
        exact ⟨_, rfl, z0⟩
    · wp_walk using wpAny_loadPart' z1, wpAny_pyIter_tuple z3
      exact ⟨_, rfl, z0⟩
section
variable {prog : Program} {w : World} {A : Around} {E : Value → Shared → Prop} {s : Shared}
theorem call_enum_tup {a : Addr} {xs : Array Value} {Q : Value → Shared → Prop} (hT : s.heap.IsTuple a xs)
    (h : ∀ h', IsEnum h' (s.heap.objs.size + 1) s.heap.objs.size 0 .none → h'.IsTupleIter s.heap.objs.size a 0 → h'.objs.size = s.heap.objs.size + 2 →
      (∀ b o, s.heap.get? b = some o → h'.get? b = some o) → Q (.ref (s.heap.objs.size + 1)) { s with heap := h' }) :
    wpAny (model prog w) A (call (.type "enumerate") [.ref a]) Q E s := by
  obtain ⟨⟨c, z1, z2, z3⟩, hl, hc, n, hd⟩ := hT
  replace hc : c = .type "tuple" := hc
  replace hd : z2 = .seq xs n := hd
  subst hc hd
  refine callType_new F.called_enumerate (by decide) (F.typeCall_enumerate_1 _) (F.newCall_enumerate_1 _) (fun obj => F.args_object_init_2 obj _) F.entry_enumerate_new
    (enum_new_tup a xs n z1 z3) ⟨hl, ?_⟩
  have hz : (s.heap.push { cls := .type "tuple_iterator", data := .fields #[.ref a, .int 0 0] }).objs.size = s.heap.objs.size + 1 := Heap.size_push ..
  show _ ∧ _
  rw [hz]
  have he := Heap.get?_push_size (s.heap.push { cls := .type "tuple_iterator", data := .fields #[.ref a, .int 0 0] })
      (o := { cls := .type "enumerate", data := .fields #[.none, .bool false, .ref s.heap.objs.size, rawInt 0, .none, .none] }) rfl
  rw [hz] at he
  refine ⟨⟨_, he, rfl⟩, h _ he ⟨_, Heap.get?_push_of_some _ (Heap.get?_push_size _ rfl), rfl, rfl⟩ (by rw [Heap.size_push, hz]) fun b o x => Heap.get?_push_of_some _ (Heap.get?_push_of_some _ x)⟩
end
theorem enum_end_tup {prog : Program} {w : World} {A : Around} {E : Value → Shared → Prop} {s : Shared} {e it a : Addr} {i : Nat} {xs : Array Value} {old : Value} {Q : Option Value → Shared → Prop} (hh : A.handled = none)
    (z1 : IsEnum s.heap e it i old) (z2 : s.heap.IsTupleIter it a i) (z3 : s.heap.IsTuple a xs) (z4 : xs[i]? = none) (q : ∀ h', Heap.ExtBut it s.heap h' → Q none { s with heap := h' }) : wpAny (model prog w) A (pyNext (.ref e)) Q E s := by
  have z5 : s.TypeIs (.ref e) "enumerate" := ⟨_, z1, rfl⟩
  unfold pyNext
  refine wpAny_bind (wpAny_attempt (wpAny_callSpecial?_slot (name := Str.ofString "__next__") z5 F.slot_enumerate_next (wpAny_call_entry F.slot_enumerate_next z5 F.entry_enumerate_next ?_ (F.args_enumerate_next_1 _))))
  show wpAny _ _ (field (.ref e) 2 >>= fun _ => _) _ _ _
  refine wpAny_bind (wpAny_field z1 rfl (x := .ref it) rfl (wpAny_bind (wpAny_nextOf_tuple_end hh z2 z3 z4 fun h' x y1 y2 => ?_)))
  obtain ⟨o, y3, y4⟩ := y2
  exact wpAny_bind (wpAny_isInstance (T := "StopIteration") (b := true) ⟨o, y3, y4⟩ isSubtype_stop (wpAny_pure (q _ y1)))
def IteT (K : PySem.W.Frag) (a : Addr) : It :=
  ⟨fun i H => ∃ (xs : List V) (x : V), SqT K H a xs ∧ xs[i]? = some x,
   fun i H v H' => ∃ T x, v = .ref T ∧ H T = none ∧ H' = upd H T (.tup [.int (i : Nat), x]) ∧ ∀ xs, SqT K H a xs → xs[i]? = some x,
   fun i H => ∃ xs : List V, SqT K H a xs ∧ xs.length ≤ i⟩
theorem turn_enumT {P : Program} {w : World} {K : PySem.W.Frag} {elts : List Expr} {kk : Nat} {tpos : Pos} (a e it : Addr) (ea : e ≠ a) (ai : a ≠ it) (ei : e ≠ it) :
    Turn P w K (.Tuple elts kk tpos) (IteT K a) [e, it] e (fun i h => (∃ old, IsEnum h e it ((i : Nat) : Int) old) ∧ h.IsTupleIter it a i) where
  mem := by simp
  obj := fun i h st b hb => by
    obtain ⟨⟨old, he⟩, ⟨o, ho, hc, hd⟩⟩ := st
    have e' : b = e ∨ b = it := by simpa using hb
    rcases e' with z | z
    · rw [z]; exact ⟨_, he, fun v q => nomatch q⟩
    · rw [z]; exact ⟨o, ho, fun v q => by rw [hd] at q; cases q⟩
  keep := fun i h h' st k => let ⟨⟨old, he⟩, hi⟩ := st; ⟨⟨old, k e (by simp) _ he⟩, hi.at fun o q => k it (by simp) o q⟩
  item := by
    intro X hP hw hK hc i pins s σ H E I hf st hg
    subst hP hw hK
    obtain ⟨⟨old, he⟩, hit⟩ := st
    obtain ⟨xs, x, hq, hx⟩ := hg
    obtain ⟨its, rv, pt, hz⟩ := I.tuple hq
    obtain ⟨u, hu, ru⟩ := rv.get hx
    have hel : e < s.heap.objs.size := Heap.lt_size he
    have hil : it < s.heap.objs.size := by obtain ⟨_, q, _⟩ := hit; exact Heap.lt_size q
    have li : i < its.toArray.size := by
      have := (List.getElem?_eq_some_iff.mp hu).1
      simpa using this
    refine wpAny_pyNext_enum_itemD (Draws.tuple (A := X.A.in1) (show X.A.in1.handled = none from I.ok.hd hc) it a ai its.toArray) he ⟨hit, pt⟩ li ei (by simp [ei, ea]) fun u' h' tk hP' ho hst hT hsz hk => ?_
    have eu : u' = u := by
      have h1 : its.toArray[i]? = some u := by simpa using hu
      exact Option.some.inj (hP'.symm.trans h1)
    subst eu
    refine ⟨_, rfl, wpAny_letOwnedTupleGo_enum (s := { s with heap := h', toks := tk + 1 }) ho fun h'' he' sb => ?_⟩
    have hT2 : h''.get? s.heap.objs.size = some { cls := .type "tuple", data := .seq #[.int i tk, u'] } := (sb.2 _ (Nat.ne_of_gt hel)).trans hT
    have new : ObjOk X.prog X.w (upd H s.heap.objs.size (.tup [.int (i : Nat), x])) h'' s.heap.objs.size (.tup [.int (i : Nat), x]) :=
      ⟨by show 2 ≤ sizeLine; decide, [.int i tk, u'], .cons ⟨_, rfl⟩ (.cons ru .nil), ⟨_, hT2, rfl, _, rfl⟩⟩
    have I1 : Inv X pins σ (upd H s.heap.objs.size (.tup [.int (i : Nat), x])) { s with heap := h'', toks := tk + 1 } :=
      I.turnedNew (ch := [e, it]) (fun b ob hb q => (sb.2 b (fun z => hb (by simp [z]))).trans (hk b ob (fun z => hb (by simp [z])) (fun z => hb (by simp [z])) q)) hf (Nat.le_refl _) new
    refine ⟨.ref s.heap.objs.size, _, I1, rfl, ⟨_, x, rfl, I.hok.fresh (Nat.le_refl _), rfl, fun ys hy => by rw [I.tuple_inj hy hq]; exact hx⟩, ⟨⟨u', ?_⟩, hst.1.at fun o q => (sb.2 it (Ne.symm ei)).trans q⟩, fun b hb => ?_⟩
    · have e1 : ((i + 1 : Nat) : Int) = (i : Int) + 1 := by omega
      rw [e1]
      exact he'
    · have hb' : b < s.heap.objs.size := by
        have e' : b = e ∨ b = it := by simpa using hb
        rcases e' with z | z
        · rw [z]; exact hel
        · rw [z]; exact hil
      rw [upd_ne (Nat.ne_of_lt hb')]
      exact (hf b hb).1
  done := by
    intro X hP hw hK hc i pins s σ H E I hf st hg
    subst hP hw hK
    obtain ⟨⟨old, he⟩, hit⟩ := st
    obtain ⟨xs, hq, hx⟩ := hg
    obtain ⟨its, rv, pt, hz⟩ := I.tuple hq
    obtain ⟨f0, f1, f2, f3, f4, f5⟩ := hf it (by simp)
    have hl := rv.length
    exact enum_end_tup (I.ok.hd hc) he hit pt (by simp; omega) fun h' eb => ⟨rfl, I.turned (t' := s.toks) (fun b o hb q => eb b o hb q) f0 f1 f3 f4 f5⟩
  self := fun A i s Q E st h => let ⟨⟨_, he⟩, _⟩ := st; wpAny_pyIter_enum he h
def iEnumT (K : PySem.W.Frag) (ta : TA) : TI := fun σ H R => ta σ H fun vs H1 => ∃ a xs, vs = [.ref a] ∧ SqT K H1 a xs ∧ R (IteT K a) H1
theorem pi_enumT {X : Cx} {e : Expr} {ta : TA} {p pos tpos : Pos} {elts : List Expr} {kk : Nat} (hg : Gl X "enumerate") (hm : X.mg "enumerate" = none) (ha : PA X [e] ta) (hs : starEach [e] X.env = [(false, eval e X.env)] := by rfl) :
    PI X (.Tuple elts kk tpos) (.Call (.Name "enumerate" p) [e] [] pos) (iEnumT X.K ta) := by
  refine ⟨fun pins s σ H R I h => ?_⟩
  refine Call_ (ld_blt I hg hm boot_enumerate (PyProof.Rows.callWith_type1
    (thn (ha.run pos pins s σ H _ I h) fun us s1 ⟨vs, H1, I1, r1, q1⟩ => ?_) hs rfl))
  obtain ⟨a, xs, ex, hq, q⟩ := q1
  subst ex
  cases r1 with
  | cons r rr =>
    cases rr
    cases r
    obtain ⟨its, rv, pt, hz⟩ := I1.tuple hq
    have la : a < s1.heap.objs.size := by obtain ⟨o, ho, _⟩ := pt; exact Heap.lt_size ho
    refine call_enum_tup pt fun h' he hit hsz hk => wpAny_pyIter_enum he ?_
    have I2 : Inv X pins σ H1 { s1 with heap := h' } := I1.kept (t' := s1.toks) hk
    refine ⟨s1.heap.objs.size + 1, [s1.heap.objs.size + 1, s1.heap.objs.size], _, _, H1, rfl, I2, turn_enumT a (s1.heap.objs.size + 1) s1.heap.objs.size (Nat.ne_of_gt (Nat.lt_succ_of_lt la)) (Nat.ne_of_lt la) (Nat.succ_ne_self _), ⟨⟨.none, he⟩, hit⟩, fun b hb => ?_, q⟩
    have e' : b = s1.heap.objs.size + 1 ∨ b = s1.heap.objs.size := by simpa using hb
    have hle : s1.heap.objs.size ≤ b := by
      rcases e' with z | z
      · rw [z]; exact Nat.le_succ _
      · rw [z]; exact Nat.le_refl _
    exact I1.fpOk hle (I1.hok.fresh hle)
/-- going through the pairs of a tuple's places and items, in a comprehension -/
theorem it_enumT {K : PySem.W.Frag} {a : Addr} {xs : List V} {H0 : Hp} {Qd : Hp → Prop} {Body : (Hp → Prop) → V → Hp → Prop} (Pv : Nat → Hp → Prop) (h0 : Pv 0 H0) (hl : ∀ i H, Pv i H → SqT K H a xs)
    (hs : ∀ i x T H, xs[i]? = some x → Pv i H → H T = none → Body (Pv (i + 1)) (.ref T) (upd H T (.tup [.int ((i : Nat) : Int), x]))) (hd : ∀ H, Pv xs.length H → Qd H) :
    ∃ W : Nat → Nat → Hp → Prop, (∃ m, W 0 m H0) ∧ ∀ i m H, W i m H → ((IteT K a).stop i H ∧ Qd H) ∨
      ((IteT K a).go i H ∧ ∃ N : Hp → Prop, (∀ H', N H' → ∃ m', m' < m ∧ W (i + 1) m' H') ∧ ∀ x H', (IteT K a).yld i H x H' → Body N x H') := by
  refine ⟨fun i m H => i + m = xs.length ∧ Pv i H, ⟨xs.length, Nat.zero_add _, h0⟩, fun i m H h => ?_⟩
  obtain ⟨e, p⟩ := h
  have q := hl i H p
  cases m with
  | zero =>
    have e' : i = xs.length := e
    subst e'
    exact .inl ⟨⟨xs, q, Nat.le_refl _⟩, hd H p⟩
  | succ m =>
    have c : i < xs.length := by omega
    have g : xs[i]? = some xs[i] := List.getElem?_eq_getElem c
    refine .inr ⟨⟨xs, _, q, g⟩, Pv (i + 1), fun H' p' => ⟨m, Nat.lt_succ_self m, by omega, p'⟩, fun v H' y => ?_⟩
    obtain ⟨T, x', rfl, hT, rfl, f⟩ := y
    exact hs i x' T H (f xs q) p hT
end CB

set_option Elab.async false
set_option linter.all false
set_option maxRecDepth 100000
set_option maxHeartbeats 4000000
/-! a tuple, once or oftener -/
namespace CB
open PySem PySem.Spec PyProof.Rows L2
theorem tup_once (a : Addr) (xs : Array Value) (m : Nat) (q : Option Addr) (z : Array (Option Value)) (u : Tok) :
    Meets (Builtin.«tuple.__mul__» ⟨[.ref a, .int 1 u], []⟩)
      (fun _ R s => s.heap.get? a = some { cls := .type "tuple", dict := q, data := .seq xs m, slots := z } ∧ R (.ok (.ret (Value.ref a))) s) :=
  .of_wp fun prog w A R s z1 => by
    obtain ⟨s1, s2, s3, s4, s5⟩ := s
    obtain ⟨z2, z1⟩ := z1
    have z3 := AutoSeq1.idx_int
    have z4 : (decide ((1 : Int) < -(2 ^ 63)) || decide ((1 : Int) ≥ 2 ^ 63)) = false := by decide
    have z5 : (xs.isEmpty || (1 : Int) == 1) = true := by simp
    wp_walk using wpAny_loadPart' z2
    repeat (first
      | (refine wpAny_ite_false (decide_eq_false (fun h => absurd (z4.symm.trans h) Bool.false_ne_true)) ?_
         wp_walk using wpAny_loadPart' z2)
      | (refine wpAny_ite_true (decide_eq_true z5) ?_
         wp_walk using wpAny_loadPart' z2))
    exact ⟨_, rfl, z1⟩
section
variable {X : Cx}
def rRepN (K : PySem.W.Frag) : R2 := fun x y H Q => ∃ (a : Addr) (k : Nat) (xs : List V), x = .ref a ∧ y = .int (k : Int) ∧ SqT K H a xs ∧ xs ≠ [] ∧ 1 ≤ k ∧ k ≤ 1000 ∧ xs.length ≤ 1000 ∧
  (k = 1 → Q (.ref a) H) ∧ (2 ≤ k → ∀ p, H p = none → Q (.ref p) (upd H p (.tup (List.replicate k xs).flatten)))
theorem op_repN : OpR X (binaryOp .Mult) (rRepN X.K) := by
  intro pins s σ H x y v u Q I rx ry h
  obtain ⟨a, k, xs, rfl, rfl, hT, hne, k1, k2, hz, q1, q2⟩ := h
  by_cases c : k = 1
  · subst c
    cases rx
    obtain ⟨t, rfl⟩ := ry
    obtain ⟨its, r, ⟨⟨cls, dd, data, sl⟩, ho, hc, n, hd⟩, hs⟩ := I.tuple hT
    simp only at hc hd
    subst hc hd
    refine wpAny_binaryOp_repeat_ref (T := "tuple") (U := "int") (by decide) ⟨_, ho, rfl⟩ (fun s' => typeIs_int s' _ t)
      noFill_tuple_mul F.fills_int_mul F.slot_int_rmul repeat_tuple F.slot_int_index.lookup
      (call_meets F.slot_int_rmul (typeIs_int s _ t) F.entry_int_rmul (F.args_int_rmul_2 _ _)
        (int_rmul_tuple _ t a its.toArray n dd sl)
        ⟨ho, rfl, ⟨_, ho, rfl⟩, call_meets F.slot_tuple_mul ⟨_, ho, rfl⟩ F.entry_tuple_mul (F.args_tuple_mul_2 _ _) (tup_once a its.toArray n dd sl t) ⟨ho, ?_⟩⟩)
    exact ⟨.ref a, _, I, rfl, q1 rfl⟩
  · exact op_repT pins s σ H _ _ v u Q I rx ry ⟨a, (k : Int), xs, rfl, rfl, hT, hne, by omega, by omega, hz, fun p hp => by
      have := q2 (by omega) p hp
      rw [Int.toNat_natCast]
      exact this⟩
end
end CB

set_option Elab.async false
set_option linter.all false
set_option maxRecDepth 100000
set_option maxHeartbeats 4000000
namespace CB
/-! ### the outcome, from both sides -/
def end01 (n : Nat) (ps : List Nat) : List Rat := put ps 1 (List.replicate n 0)
theorem end01_len (n : Nat) (ps : List Nat) : (end01 n ps).length = n := by unfold end01; rw [put_len, List.length_replicate]
theorem end01_get {n i : Nat} {ps : List Nat} (h : i < n) : (end01 n ps)[i]? = some (if i ∈ ps then 1 else 0) := put_get (by rw [List.getElem?_replicate, if_pos h])
theorem put_range {ws : List Rat} {n : Nat} (h : ws.length = n) : put (List.range n) 0 ws = List.replicate n 0 := by
  apply List.ext_getElem?
  intro i
  by_cases c : i < n
  · rw [put_get (List.getElem?_eq_getElem (by omega)), if_pos (List.mem_range.mpr c), List.getElem?_replicate, if_pos c]
  · rw [List.getElem?_eq_none (by rw [put_len]; omega), List.getElem?_eq_none (by rw [List.length_replicate]; omega)]
theorem end01_nil (n : Nat) : end01 n [] = List.replicate n 0 := by
  apply List.ext_getElem?
  intro i
  by_cases c : i < n
  · rw [end01_get c, List.getElem?_replicate, if_pos c]
    simp
  · rw [List.getElem?_eq_none (by rw [end01_len]; omega), List.getElem?_eq_none (by rw [List.length_replicate]; omega)]
theorem nrL_of {s : Rat} : ∀ {l m : List Rat}, l.length = m.length → (∀ (i : Nat) (x y : Rat), l[i]? = some x → m[i]? = some y → Nr s x y) → NrL s l m
  | [], [], _, _ => trivial
  | x :: l, y :: m, e, h => ⟨h 0 x y rfl rfl, nrL_of (l := l) (m := m) (by simpa using e) fun i a b h1 h2 => h (i + 1) a b h1 h2⟩
  | [], _ :: _, e, _ => by simp at e
  | _ :: _, [], e, _ => by simp at e
theorem end01_nr {n : Nat} {S E : List Nat} (h : ∀ p ∈ S, p ∈ E) : NrL 1 (end01 n S) (end01 n E) := by
  refine nrL_of (by rw [end01_len, end01_len]) fun i x y hx hy => ?_
  have il : i < n := by have := (List.getElem?_eq_some_iff.mp hx).1; rwa [end01_len] at this
  rw [end01_get il] at hx hy
  cases hx
  cases hy
  unfold Nr
  by_cases c : i ∈ S
  · rw [if_pos c, if_pos (h i c)]
    constructor <;> grind
  · rw [if_neg c]
    split <;> constructor <;> grind
theorem val_sub {n z : Nat} {t : Tm} (ho : t.Ok n z) {S E : List Nat} (h : ∀ p ∈ S, p ∈ E) : t.val (end01 n S) ≤ t.val (end01 n E) := (val_nr (by grind) (end01_nr h) t ho).1
theorem foldl_stepG (t : Tm) (ws low : List Rat) (ls : List Nat) : ∀ (l : List Nat) (f : Rat), f ≤ l.foldl (stepG t ws low ls) f ∧ (∀ p ∈ l, rmin (ws.getD p 0) (t.val (put (eager ws ls p) 1 low)) ≤ l.foldl (stepG t ws low ls) f) ∧
    (l.foldl (stepG t ws low ls) f = f ∨ ∃ p ∈ l, l.foldl (stepG t ws low ls) f = rmin (ws.getD p 0) (t.val (put (eager ws ls p) 1 low)))
  | [], f => ⟨by show f ≤ f; grind, by simp, .inl rfl⟩
  | q :: l, f => by
    obtain ⟨h1, h2, h3⟩ := foldl_stepG t ws low ls l (stepG t ws low ls f q)
    have m : f ≤ stepG t ws low ls f q ∧ rmin (ws.getD q 0) (t.val (put (eager ws ls q) 1 low)) ≤ stepG t ws low ls f q ∧ (stepG t ws low ls f q = f ∨ stepG t ws low ls f q = rmin (ws.getD q 0) (t.val (put (eager ws ls q) 1 low))) := by
      unfold stepG rmax
      split <;> refine ⟨?_, ?_, ?_⟩ <;> grind
    rw [List.foldl_cons]
    refine ⟨by grind, fun p hp => ?_, ?_⟩
    · rcases List.mem_cons.mp hp with e | e
      · rw [e]; grind
      · exact h2 p e
    · rcases h3 with e | ⟨p, hp, e⟩
      · rcases m.2.2 with e' | e'
        · exact .inl (e.trans e')
        · exact .inr ⟨q, List.mem_cons_self, e.trans e'⟩
      · exact .inr ⟨p, List.mem_cons_of_mem _ hp, e⟩
theorem least_of_list (f : Nat → Rat) : ∀ {S : List Nat}, S ≠ [] → ∃ p ∈ S, ∀ o ∈ S, f p ≤ f o
  | [], h => absurd rfl h
  | [p], _ => ⟨p, List.mem_cons_self, fun o ho => by rw [List.mem_singleton.mp ho]; grind⟩
  | p :: q :: S, _ => by
    obtain ⟨r, hr, h⟩ := least_of_list f (S := q :: S) (by simp)
    by_cases c : f p ≤ f r
    · exact ⟨p, List.mem_cons_self, fun o ho => by
        rcases List.mem_cons.mp ho with e | e
        · rw [e]; grind
        · have := h o e; grind⟩
    · exact ⟨r, List.mem_cons_of_mem _ hr, fun o ho => by
        rcases List.mem_cons.mp ho with e | e
        · rw [e]; grind
        · exact h o e⟩
theorem outc_eq {t : Tm} {n : Nat} {ws : List Rat} (h : ws.length = n) : outc t n ws = (List.range n).foldl (stepG t ws (List.replicate n 0) (List.range n)) (t.val (List.replicate n 0)) := by
  unfold outc outG
  rw [put_range h]
/-- what a lot can hold -/
theorem outc_ge {t : Tm} {n z : Nat} {ws : List Rat} (ho : t.Ok n z) (hw : ws.length = n) {S : List Nat} (hS : ∀ p ∈ S, p < n) {x : Rat} (h1 : x ≤ t.val (end01 n S)) (h2 : ∀ p ∈ S, x ≤ ws.getD p 0) : x ≤ outc t n ws := by
  rw [outc_eq hw]
  obtain ⟨f1, f2, _⟩ := foldl_stepG t ws (List.replicate n 0) (List.range n) (List.range n) (t.val (List.replicate n 0))
  by_cases c : S = []
  · rw [c, end01_nil] at h1
    grind
  · obtain ⟨p, hp, hm⟩ := least_of_list (fun p => ws.getD p 0) c
    have g := f2 p (List.mem_range.mpr (hS p hp))
    have sub : ∀ o ∈ S, o ∈ eager ws (List.range n) p := fun o ho' => List.mem_filter.mpr ⟨List.mem_range.mpr (hS o ho'), by
      have := hm o ho'
      rw [Bool.not_eq_true', decide_eq_false_iff_not]
      grind⟩
    have v : t.val (end01 n S) ≤ t.val (put (eager ws (List.range n) p) 1 (List.replicate n 0)) := val_sub ho sub
    have w := h2 p hp
    have : x ≤ rmin (ws.getD p 0) (t.val (put (eager ws (List.range n) p) 1 (List.replicate n 0))) := by
      unfold rmin
      split <;> grind
    grind
theorem outc_at {t : Tm} {n : Nat} {ws : List Rat} (hw : ws.length = n) : ∃ S : List Nat, (∀ p ∈ S, p < n) ∧ outc t n ws ≤ t.val (end01 n S) ∧ (∀ p ∈ S, outc t n ws ≤ ws.getD p 0) ∧ (outc t n ws = t.val (end01 n S) ∨ ∃ p, p < n ∧ outc t n ws = ws.getD p 0) := by
  obtain ⟨_, _, f3⟩ := foldl_stepG t ws (List.replicate n 0) (List.range n) (List.range n) (t.val (List.replicate n 0))
  rw [← outc_eq hw] at f3
  rcases f3 with e | ⟨p, hp, e⟩
  · exact ⟨[], by simp, by rw [e, end01_nil]; grind, by simp, .inl (by rw [e, end01_nil])⟩
  · have m : outc t n ws ≤ ws.getD p 0 ∧ outc t n ws ≤ t.val (put (eager ws (List.range n) p) 1 (List.replicate n 0)) ∧ (outc t n ws = t.val (put (eager ws (List.range n) p) 1 (List.replicate n 0)) ∨ outc t n ws = ws.getD p 0) := by
      rw [e]
      unfold rmin
      split <;> refine ⟨?_, ?_, ?_⟩ <;> grind
    refine ⟨eager ws (List.range n) p, fun o ho => List.mem_range.mp (List.mem_filter.mp ho).1, m.2.1, fun o ho => ?_, ?_⟩
    · have h := (List.mem_filter.mp ho).2
      rw [Bool.not_eq_true', decide_eq_false_iff_not] at h
      grind
    · rcases m.2.2 with e | e
      · exact .inl e
      · exact .inr ⟨p, List.mem_range.mp hp, e⟩
theorem getD_mem {ws : List Rat} {p : Nat} (h : p < ws.length) : ws.getD p 0 ∈ ws := by
  rw [List.getD_eq_getElem?_getD, List.getElem?_eq_getElem h]
  exact List.getElem_mem h
/-- with higher wishes it is never lower, and rises no more than they do -/
theorem outc_nr {t : Tm} {n z : Nat} {ws vs : List Rat} {s : Rat} (ho : t.Ok n z) (hs : 0 ≤ s) (hw : ws.length = n) (hv : vs.length = n) (h : NrL s ws vs) : Nr s (outc t n ws) (outc t n vs) := by
  constructor
  · obtain ⟨S, h1, h2, h3, _⟩ := outc_at (t := t) hw
    exact outc_ge ho hv h1 h2 fun p hp => by have := (nrL_get hs p h).1; have := h3 p hp; grind
  · obtain ⟨S, h1, h2, h3, _⟩ := outc_at (t := t) hv
    have := outc_ge ho hw h1 (x := outc t n vs - s) (by grind) fun p hp => by have := (nrL_get hs p h).2; have := h3 p hp; grind
    grind
/-- wishes moved on their own side of it -/
theorem outc_moved {t : Tm} {n z : Nat} {ws vs : List Rat} {c : Rat} (ho : t.Ok n z) (hw : ws.length = n) (hv : vs.length = n) (hc : outc t n ws = c)
    (h : ∀ p, p < n → vs.getD p 0 = ws.getD p 0 ∨ (ws.getD p 0 < c ∧ vs.getD p 0 < c) ∨ (c < ws.getD p 0 ∧ c < vs.getD p 0)) : outc t n vs = c := by
  have a : c ≤ outc t n vs := by
    obtain ⟨S, h1, h2, h3, _⟩ := outc_at (t := t) hw
    rw [hc] at h2 h3
    refine outc_ge ho hv h1 h2 fun p hp => ?_
    have := h3 p hp
    rcases h p (h1 p hp) with e | e | e
    · grind
    · grind
    · grind
  have b : outc t n vs ≤ c := by
    refine Classical.byContradiction fun hn => ?_
    have hlt : c < outc t n vs := by grind
    obtain ⟨S, h1, h2, h3, _⟩ := outc_at (t := t) hv
    by_cases e : S = []
    · subst e
      have := outc_ge (t := t) ho hw (S := []) (x := outc t n vs) (by simp) h2 (by simp)
      grind
    · have key : ∃ y : Rat, c < y ∧ y ≤ outc t n vs ∧ ∀ p ∈ S, y ≤ ws.getD p 0 := by
        obtain ⟨p, hp, hm⟩ := least_of_list (fun p => ws.getD p 0) e
        have g : c < ws.getD p 0 := by
          have := h3 p hp
          rcases h p (h1 p hp) with e | e | e <;> grind
        by_cases d : outc t n vs ≤ ws.getD p 0
        · exact ⟨outc t n vs, hlt, by grind, fun o ho => by have := hm o ho; grind⟩
        · exact ⟨ws.getD p 0, g, by grind, fun o ho => hm o ho⟩
      obtain ⟨y, y1, y2, y3⟩ := key
      have := outc_ge (t := t) ho hw (S := S) (x := y) h1 (by grind) y3
      grind
  grind
theorem outc_const {t : Tm} {n z : Nat} {c : Rat} (ho : t.Ok n z) : outc t n (List.replicate n c) = rmax (t.val (end01 n [])) (rmin (t.val (end01 n (List.range n))) c) := by
  have hw : (List.replicate n c).length = n := List.length_replicate
  have gd : ∀ p, p < n → (List.replicate n c).getD p 0 = c := fun p hp => by
    rw [List.getD_eq_getElem?_getD, List.getElem?_replicate, if_pos hp]
    rfl
  have t01 : t.val (end01 n []) ≤ t.val (end01 n (List.range n)) := val_sub ho (by simp)
  obtain ⟨S, h1, h2, h3, _⟩ := outc_at (t := t) hw
  have a1 := outc_ge (t := t) ho hw (S := []) (x := t.val (end01 n [])) (by simp) (by grind) (by simp)
  have a2 := outc_ge (t := t) ho hw (S := List.range n) (x := rmin (t.val (end01 n (List.range n))) c) (fun p hp => List.mem_range.mp hp) (by unfold rmin; split <;> grind) (fun p hp => by rw [gd p (List.mem_range.mp hp)]; unfold rmin; split <;> grind)
  have b : outc t n (List.replicate n c) ≤ rmax (t.val (end01 n [])) (rmin (t.val (end01 n (List.range n))) c) := by
    by_cases e : S = []
    · subst e
      unfold rmax
      split <;> grind
    · obtain ⟨p, hp⟩ : ∃ p, p ∈ S := List.exists_mem_of_ne_nil S e
      have u := h3 p hp
      rw [gd p (h1 p hp)] at u
      have v : t.val (end01 n S) ≤ t.val (end01 n (List.range n)) := val_sub ho fun p hp => List.mem_range.mpr (h1 p hp)
      unfold rmax rmin
      (repeat' split) <;> grind
  unfold rmax at b ⊢
  split at b <;> grind
end CB

set_option Elab.async false
set_option linter.all false
set_option maxRecDepth 100000
set_option maxHeartbeats 4000000
/-! sorted of a list of tuples of ints, all of one length; of length 0 there is at most one -/
namespace CB
open PySem PySem.Spec PyProof.Rows L2
section
open TS
variable {prog : Program} {w : World} {A : Around} {E : Value → Shared → Prop} {s : Shared}
theorem sort_few {a : Addr} {vs : List Value} {n : Nat} {P : PySem.Fin → Shared → Prop} (ho : s.heap.get? a = some (seqObj "list" vs.toArray n)) (h1 : vs.length ≤ 1)
    (h : ∀ out : Array Value, out.toList.Perm vs → P (.done (.ret .none)) { s with heap := sortedHeap s.heap a vs out }) :
    wpAny (model prog w) A (Builtin.«list.sort» ⟨[.ref a], []⟩) P E s := by
  refine SK.plain_sort (r := fun _ => 0) ho (by omega) (fun h2 Q hQ => absurd h2 (by omega)) fun ps out h1 h2 h3 => ?_
  obtain ⟨p, o⟩ := out_rank (r := fun _ => 0) h1 h2 h3
  exact h out p
theorem sorted_few {l : Addr} {vs : List Value} {Q : Value → Shared → Prop} (hl : s.heap.IsList l vs.toArray) (h1 : vs.length ≤ 1)
    (h : ∀ out : Array Value, out.toList.Perm vs → Q (.ref (s.heap.objs.size + 1)) { s with heap := sortedAll s.heap vs out }) :
    wpAny (model prog w) A (call (.builtin "sorted") [.ref l]) Q E s := by
  refine Calls.call_function_entry kind_sorted plain_sorted entry_sorted (args_sorted1 _) ?_
  unfold Builtin.«sorted»
  refine wpAny_bind (m := checkCount "sorted" 1 1 _) (wpAny_pure ?_)
  refine wpAny_bind (collect_list hl ?_ (by rw [sizeLine_eq]; omega))
  refine wpAny_bind (wpAny_newList ?_ (by rw [sizeLine_eq]; omega))
  have hsz : ((s.heap.push (seqObj "list" #[] 0)).update s.heap.objs.size (Obj.mapSeq (· ++ vs.toArray))).objs.size = s.heap.objs.size + 1 := by
    rw [Heap.size_update, size_push']
  have hoL : (((s.heap.push (seqObj "list" #[] 0)).update s.heap.objs.size (Obj.mapSeq (· ++ vs.toArray))).push (seqObj "list" vs.toArray 0)).get? (s.heap.objs.size + 1) = some (seqObj "list" vs.toArray 0) := by
    rw [← hsz]; exact Heap.get?_push_size _ rfl
  show wpAny _ _ _ _ _ { s with heap := ((s.heap.push (seqObj "list" #[] 0)).update s.heap.objs.size (Obj.mapSeq (· ++ vs.toArray))).push (seqObj "list" vs.toArray 0) }
  rw [hsz]
  refine wpAny_bind (wpAny_holding (wpAny_call_entry slot_list_sort ⟨_, hoL, rfl⟩ entry_list_sort (sort_few hoL h1 fun out a1 => ⟨_, rfl, ?_⟩) (args_list_sort _)))
  exact wpAny_pure ⟨_, rfl, h out a1⟩
end
section
variable {X : Cx}
/-- sorted(xs), xs a list of fewer than 64 tuples of d ints in [0, B); of d = 0 at most one -/
def rSortL (K : PySem.W.Frag) (B : Int) : List V → Hp → VK → Prop := fun vs H Q => ∃ (a : Addr) (xs : List V) (d : Nat), vs = [V.ref a] ∧ SqL K H a xs ∧ xs.length < 64 ∧ (∀ x ∈ xs, ∃ ns, TupI K H x ns ∧ ns.length = d ∧ TS.Bd B ns) ∧ (d = 0 → xs.length ≤ 1) ∧
  ∀ (ys : List V) (p : Addr), ys.Perm xs → ys.Pairwise (fun x y => ∀ n m, TupI K H x n → TupI K H y m → TS.code B n ≤ TS.code B m) → H p = none → Q (.ref p) (upd H p (.lst ys))
theorem cr_sortL {B : Int} : CallR X (.builtin "sorted") (rSortL X.K B) := by
  intro pins s σ H vs us Q I r h
  obtain ⟨a, xs, d, rfl, hs, h64, hx, h0, q⟩ := h
  by_cases hd : 1 ≤ d
  · exact cr_sortT (d := d) (B := B) hd pins s σ H _ us Q I r ⟨a, xs, rfl, hs, h64, hx, q⟩
  · have h1 := h0 (by omega)
    obtain ⟨its, rv, hl, hz⟩ := I.list hs
    rw [Vals.ref1 r]
    obtain ⟨e1, e2⟩ := bkV_refs rv fun x m => by
      obtain ⟨ns, ⟨t, e, _⟩, _⟩ := hx x m
      exact ⟨t, e⟩
    refine sorted_few hl.isList (by rw [← rv.length]; exact h1) fun out h1' => ?_
    obtain ⟨ep, he'⟩ := PyProof.Rows.sortedAll_at s.heap its out
    have h3 : ∀ u ∈ out.toList, ∃ a, u = Value.ref a := fun u hu => e2 u (h1'.mem_iff.mp hu)
    have hp : (out.toList.map bkV).Perm xs := by
      rw [e1]
      exact h1'.map bkV
    have hlen : (out.toList.map bkV).length ≤ sizeLine := by
      rw [hp.length_eq]
      exact hz
    refine ⟨.ref _, upd H (s.heap.objs.size + 1) (.lst (out.toList.map bkV)), I.laid (t' := s.toks) (fun _ _ => PyProof.Rows.sortedAll_old) (Nat.le_succ _) ⟨hlen, out.toList, ep, bkV_vals h3, he'⟩, rfl, q _ _ hp ?_ (I.hok.fresh (Nat.le_succ _))⟩
    have hl1 : (out.toList.map bkV).length ≤ 1 := by rw [hp.length_eq]; exact h1
    match he : out.toList.map bkV, hl1 with
    | [], _ => exact .nil
    | [x], _ => exact List.pairwise_singleton _ _
end
end CB

set_option Elab.async false
set_option linter.all false
set_option maxRecDepth 100000
set_option maxHeartbeats 4000000
/-! lots, and the outcome by all lots -/
namespace CB
open PySem PySem.Spec PyProof.Rows L2
/-- persons, as numbers -/
def pI (ps : List Nat) : List Int := ps.map fun (p : Nat) => ((p : Nat) : Int)
def pV (ps : List Nat) : List V := (pI ps).map V.int
theorem pV_len (ps : List Nat) : (pV ps).length = ps.length := by simp [pV, pI]
theorem pV_get {ps : List Nat} {i : Nat} {x : V} (h : (pV ps)[i]? = some x) : ∃ p, ps[i]? = some p ∧ x = .int (p : Int) := by
  unfold pV pI at h
  rw [List.getElem?_map, List.getElem?_map] at h
  cases e : ps[i]? with
  | none => rw [e] at h; cases h
  | some p => rw [e] at h; cases h; exact ⟨p, rfl, rfl⟩
theorem pV_flat (ps : List Nat) : (pV ps).all flatV = true := by
  unfold pV
  rw [List.all_map]
  exact List.all_eq_true.mpr fun _ _ => rfl
theorem pV_in (ps : List Nat) (i : Nat) : inV (.int (i : Int)) (pV ps) = decide (i ∈ ps) := by
  unfold inV pV pI
  rw [List.any_map, List.any_map]
  rw [Bool.eq_iff_iff, List.any_eq_true, decide_eq_true_iff]
  constructor
  · rintro ⟨x, hx, e⟩
    have e' : ((x : Nat) : Int) = (i : Int) := by simpa [eqV] using e
    have : x = i := by omega
    exact this ▸ hx
  · intro h
    exact ⟨i, h, by simp [eqV]⟩
theorem rgV_pV (n : Nat) : rgV 0 (n : Int) = pV (List.range n) := by
  unfold rgV pV pI
  rw [List.map_map, show ((n : Int) - 0).toNat = n by omega]
  exact List.map_congr_left fun i _ => by simp
theorem pV_snoc (ps : List Nat) (p : Nat) : pV (ps ++ [p]) = pV ps ++ [V.int (p : Int)] := by simp [pV, pI]
theorem pI_inj {a b : List Nat} (h : pI a = pI b) : a = b := by
  induction a generalizing b with
  | nil => cases b with
    | nil => rfl
    | cons y b => simp [pI] at h
  | cons x a ih => cases b with
    | nil => simp [pI] at h
    | cons y b =>
      have h1 : ((x : Nat) : Int) = (y : Int) ∧ pI a = pI b := by simpa [pI] using h
      rw [ih h1.2, show x = y by omega]
inductive LotsAt (K : PySem.W.Frag) (H : Hp) : List V → List (List Nat) → Prop
  | nil : LotsAt K H [] []
  | cons {x : V} {xs : List V} {l : List Nat} {ls : List (List Nat)} : TupI K H x (pI l) → LotsAt K H xs ls → LotsAt K H (x :: xs) (l :: ls)
section
variable {K : PySem.W.Frag} {H H' : Hp}
theorem tupI_mono (e : KT H H') {x : V} {ns : List Int} (h : TupI K H x ns) : TupI K H' x ns := by
  obtain ⟨t, rfl, h⟩ := h
  exact ⟨t, rfl, e.sq h⟩
theorem LotsAt.mono (e : KT H H') : ∀ {xs : List V} {L : List (List Nat)}, LotsAt K H xs L → LotsAt K H' xs L
  | _, _, .nil => .nil
  | _, _, .cons h t => .cons (tupI_mono e h) (LotsAt.mono e t)
theorem LotsAt.append : ∀ {xs ys : List V} {L M : List (List Nat)}, LotsAt K H xs L → LotsAt K H ys M → LotsAt K H (xs ++ ys) (L ++ M)
  | _, _, _, _, .nil, h => h
  | _, _, _, _, .cons a b, h => .cons a (LotsAt.append b h)
theorem LotsAt.length : ∀ {xs : List V} {L : List (List Nat)}, LotsAt K H xs L → xs.length = L.length
  | _, _, .nil => rfl
  | _, _, .cons _ t => by simp [LotsAt.length t]
theorem LotsAt.getV : ∀ {xs : List V} {L : List (List Nat)} {i : Nat} {x : V}, LotsAt K H xs L → xs[i]? = some x → ∃ l, L[i]? = some l ∧ TupI K H x (pI l)
  | _, _, _, _, .nil, e => by simp at e
  | _, _, 0, _, .cons h _, e => by simp at e; subst e; exact ⟨_, rfl, h⟩
  | _, _, i + 1, x, .cons _ t, e => by
    obtain ⟨l, h1, h2⟩ := LotsAt.getV (i := i) (x := x) t (by simpa using e)
    exact ⟨l, by simpa using h1, h2⟩
theorem LotsAt.get : ∀ {xs : List V} {L : List (List Nat)} {i : Nat} {l : List Nat}, LotsAt K H xs L → L[i]? = some l → ∃ x, xs[i]? = some x ∧ TupI K H x (pI l)
  | _, _, _, _, .nil, e => by simp at e
  | _, _, 0, _, .cons h _, e => by simp at e; subst e; exact ⟨_, rfl, h⟩
  | _, _, i + 1, l, .cons _ t, e => by
    obtain ⟨x, h1, h2⟩ := LotsAt.get (i := i) (l := l) t (by simpa using e)
    exact ⟨x, by simpa using h1, h2⟩
theorem LotsAt.memV : ∀ {xs : List V} {L : List (List Nat)} {x : V}, LotsAt K H xs L → x ∈ xs → ∃ l ∈ L, TupI K H x (pI l) := fun h m => by
  obtain ⟨i, e⟩ := List.mem_iff_getElem?.mp m
  obtain ⟨l, e1, e2⟩ := h.getV e
  exact ⟨l, List.mem_of_getElem? e1, e2⟩
theorem LotsAt.perm {xs ys : List V} (p : xs.Perm ys) : ∀ {L : List (List Nat)}, LotsAt K H xs L → ∃ M, L.Perm M ∧ LotsAt K H ys M := by
  induction p with
  | nil => exact fun h => ⟨_, List.Perm.refl _, h⟩
  | cons x _ ih =>
    intro L h
    cases h with
    | cons h t =>
      obtain ⟨M, m1, m2⟩ := ih t
      exact ⟨_, m1.cons _, .cons h m2⟩
  | swap x y l =>
    intro L h
    cases h with
    | cons h t =>
      cases t with
      | cons h2 t => exact ⟨_, List.Perm.swap _ _ _, .cons h2 (.cons h t)⟩
  | trans _ _ ih1 ih2 =>
    intro L h
    obtain ⟨M, m1, m2⟩ := ih1 h
    obtain ⟨N, n1, n2⟩ := ih2 m2
    exact ⟨N, m1.trans n1, n2⟩
theorem LotsAt.pairs {B : Int} : ∀ {xs : List V} {L : List (List Nat)}, LotsAt K H xs L → xs.Pairwise (fun x y => ∀ n m, TupI K H x n → TupI K H y m → TS.code B n ≤ TS.code B m) → L.Pairwise fun a b => TS.code B (pI a) ≤ TS.code B (pI b)
  | _, _, .nil, _ => .nil
  | _, _, .cons h t, p => by
    obtain ⟨p1, p2⟩ := List.pairwise_cons.mp p
    refine List.pairwise_cons.mpr ⟨fun b hb => ?_, LotsAt.pairs t p2⟩
    obtain ⟨i, hi⟩ := List.mem_iff_getElem?.mp hb
    obtain ⟨y, hy, ty⟩ := t.get hi
    exact p1 y (List.mem_of_getElem? hy) _ _ h ty
theorem LotsAt.snoc {xs : List V} {L : List (List Nat)} {x : V} {l : List Nat} (h : LotsAt K H xs L) (t : TupI K H x (pI l)) : LotsAt K H (xs ++ [x]) (L ++ [l]) := h.append (.cons t .nil)
end
def subs : Nat → List (List Nat)
  | 0 => [[]]
  | n + 1 => subs n ++ (subs n).map fun l => l ++ [n]
theorem subs_len : ∀ n, (subs n).length = 2 ^ n
  | 0 => rfl
  | n + 1 => by rw [subs, List.length_append, List.length_map, subs_len n, Nat.pow_succ]; omega
theorem subs_lt : ∀ {n : Nat} {l : List Nat}, l ∈ subs n → ∀ p ∈ l, p < n
  | 0, l, h, p, hp => by rw [List.mem_singleton.mp h] at hp; cases hp
  | n + 1, l, h, p, hp => by
    rcases List.mem_append.mp h with h | h
    · have := subs_lt h p hp; omega
    · obtain ⟨m, hm, rfl⟩ := List.mem_map.mp h
      rcases List.mem_append.mp hp with hp | hp
      · have := subs_lt hm p hp; omega
      · rw [List.mem_singleton.mp hp]; omega
theorem subs_size : ∀ {n : Nat} {l : List Nat}, l ∈ subs n → l.length ≤ n
  | 0, l, h => by rw [List.mem_singleton.mp h]; exact Nat.le_refl _
  | n + 1, l, h => by
    rcases List.mem_append.mp h with h | h
    · have := subs_size h; omega
    · obtain ⟨m, hm, rfl⟩ := List.mem_map.mp h
      have := subs_size hm
      rw [List.length_append, List.length_singleton]; omega
theorem subs_filter (f : Nat → Bool) : ∀ n, (List.range n).filter f ∈ subs n
  | 0 => List.mem_singleton.mpr rfl
  | n + 1 => by
    have ih := subs_filter f n
    rw [List.range_succ, List.filter_append]
    cases e : f n with
    | true =>
      rw [List.filter_cons_of_pos e, List.filter_nil]
      exact List.mem_append_right _ (List.mem_map.mpr ⟨_, ih, rfl⟩)
    | false =>
      rw [List.filter_cons_of_neg (by rw [e]; decide), List.filter_nil, List.append_nil]
      exact List.mem_append_left _ ih
theorem subs_few : ∀ n, n ≤ 6 → ∀ i, i < 64 → ((subs n).filter fun l => decide (l.length = i)).length < 64 ∧ (i = 0 → ((subs n).filter fun l => decide (l.length = i)).length ≤ 1) := by
  decide +kernel
def LotsBy (L : List (List Nat)) : Prop := L.Pairwise fun a b => a.length < b.length ∨ (a.length = b.length ∧ TS.code 64 (pI a) ≤ TS.code 64 (pI b))
theorem pI_bd {n : Nat} {l : List Nat} (h : ∀ p ∈ l, p < n) (hn : n ≤ 6) : TS.Bd 64 (pI l) := fun m hm => by
  obtain ⟨p, hp, rfl⟩ := List.mem_map.mp hm
  have := h p hp
  show 0 ≤ ((p : Nat) : Int) ∧ ((p : Nat) : Int) < 64
  omega
/-- the outcome is the greatest, over all lots, of the least of the corner and of the wishes in the lot -/
def lotL (t : Tm) (n : Nat) (ws : List Rat) (l : List Nat) : List Rat := t.val (end01 n l) :: l.map fun p => ws.getD p 0
theorem end01_congr {n : Nat} {S E : List Nat} (h : ∀ p, p < n → (p ∈ S ↔ p ∈ E)) : end01 n S = end01 n E := by
  apply List.ext_getElem?
  intro i
  by_cases c : i < n
  · rw [end01_get c, end01_get c]
    simp only [h i c]
  · rw [List.getElem?_eq_none (by rw [end01_len]; omega), List.getElem?_eq_none (by rw [end01_len]; omega)]
theorem outc_lots {t : Tm} {n z : Nat} {ws : List Rat} {L : List (List Nat)} (ho : t.Ok n z) (hw : ws.length = n) (hL : L.Perm (subs n)) : maxL (L.map fun l => minL (lotL t n ws l)) = outc t n ws := by
  have ne : (L.map fun l => minL (lotL t n ws l)) ≠ [] := by
    intro e
    have := congrArg List.length e
    rw [List.length_map, hL.length_eq, subs_len] at this
    have := Nat.two_pow_pos n
    simp at *
  obtain ⟨m1, m2⟩ := maxL_mem ne
  have a : maxL (L.map fun l => minL (lotL t n ws l)) ≤ outc t n ws := by
    obtain ⟨l, hl, e⟩ := List.mem_map.mp m1
    rw [← e]
    have hs := hL.mem_iff.mp hl
    obtain ⟨_, q⟩ := minL_mem (l := lotL t n ws l) (by simp [lotL])
    exact outc_ge ho hw (subs_lt hs) (q _ List.mem_cons_self) fun p hp => q _ (List.mem_cons_of_mem _ (List.mem_map.mpr ⟨p, hp, rfl⟩))
  have b : outc t n ws ≤ maxL (L.map fun l => minL (lotL t n ws l)) := by
    obtain ⟨S, s1, s2, s3, _⟩ := outc_at (t := t) hw
    have hm := subs_filter (fun p => decide (p ∈ S)) n
    have e := end01_congr (n := n) (S := (List.range n).filter fun p => decide (p ∈ S)) (E := S) fun p hp => by
      rw [List.mem_filter, List.mem_range, decide_eq_true_iff]
      exact ⟨fun h => h.2, fun h => ⟨hp, h⟩⟩
    have g := m2 _ (List.mem_map.mpr ⟨_, hL.mem_iff.mpr hm, rfl⟩)
    obtain ⟨q, _⟩ := minL_mem (l := lotL t n ws ((List.range n).filter fun p => decide (p ∈ S))) (by simp [lotL])
    rcases List.mem_cons.mp q with h | h
    · rw [h, e] at g; grind
    · obtain ⟨p, hp, h⟩ := List.mem_map.mp h
      have hp2 := (List.mem_filter.mp hp).2
      have := s3 p (of_decide_eq_true hp2)
      rw [← h] at g; grind
  grind
/-- at wishes 1 on a lot, 0 elsewhere -/
theorem outc_end01 {t : Tm} {n z : Nat} (ho : t.Ok n z) {S : List Nat} (hS : ∀ p ∈ S, p < n) (h01 : ∀ E : List Nat, 0 ≤ t.val (end01 n E) ∧ t.val (end01 n E) ≤ 1) : outc t n (end01 n S) = t.val (end01 n S) := by
  have gd : ∀ p, p < n → (end01 n S).getD p 0 = if p ∈ S then 1 else 0 := fun p hp => by
    rw [List.getD_eq_getElem?_getD, end01_get hp]
    rfl
  have a := outc_ge (t := t) ho (end01_len n S) hS (x := t.val (end01 n S)) (by grind) fun p hp => by
    rw [gd p (hS p hp), if_pos hp]
    exact (h01 S).2
  obtain ⟨E, h1, h2, h3, h4⟩ := outc_at (t := t) (end01_len n S)
  have b : outc t n (end01 n S) ≤ t.val (end01 n S) := by
    by_cases c : ∀ p ∈ E, p ∈ S
    · have := val_sub ho c; grind
    · obtain ⟨p, hp⟩ := Classical.not_forall.mp c
      have hpE : p ∈ E := Classical.byContradiction fun h => hp fun h' => absurd h' h
      have hpS : ¬ p ∈ S := fun h => hp fun _ => h
      have := h3 p hpE
      rw [gd p (h1 p hpE), if_neg hpS] at this
      have := (h01 S).1
      grind
  grind
end CB

set_option Elab.async false
set_option linter.all false
set_option maxRecDepth 100000
set_option maxHeartbeats 4000000
namespace CB
/-! ### middles, person by person -/
def midQ (w a b : Rat) : Rat := rmax a (rmin b w)
def mids (t : Tm) (ws : List Rat) : List Nat → List Rat → Rat
  | [], b => t.val b
  | p :: L, b => midQ (ws.getD p 0) (mids t ws L (b.set p 0)) (mids t ws L (b.set p 1))
def fl (L S : List Nat) (b : List Rat) : List Rat := put S 1 (put L 0 b)
theorem fl_get {L S : List Nat} {b : List Rat} {i : Nat} {x : Rat} (h : b[i]? = some x) : (fl L S b)[i]? = some (if i ∈ S then 1 else if i ∈ L then 0 else x) := put_get (put_get h)
theorem fl_len (L S : List Nat) (b : List Rat) : (fl L S b).length = b.length := by unfold fl; rw [put_len, put_len]
theorem fl_ext {L S L' S' : List Nat} {b c : List Rat} (hl : b.length = c.length) (h : ∀ (i : Nat) (x y : Rat), b[i]? = some x → c[i]? = some y → (if i ∈ S then (1 : Rat) else if i ∈ L then 0 else x) = (if i ∈ S' then (1 : Rat) else if i ∈ L' then 0 else y)) : fl L S b = fl L' S' c := by
  apply List.ext_getElem?
  intro i
  by_cases d : i < b.length
  · have e1 : b[i]? = some b[i] := List.getElem?_eq_getElem d
    have e2 : c[i]? = some (c[i]'(by omega)) := List.getElem?_eq_getElem (by omega)
    rw [fl_get e1, fl_get e2, h i _ _ e1 e2]
  · rw [List.getElem?_eq_none (by rw [fl_len]; omega), List.getElem?_eq_none (by rw [fl_len]; omega)]
theorem fl_one {p : Nat} {L S : List Nat} {b : List Rat} (hp : p < b.length) (hn : p ∉ L) (hS : p ∈ S) : fl (p :: L) S b = fl L (S.filter fun o => o ≠ p) (b.set p 1) := by
  refine fl_ext (by rw [List.length_set]) fun i x y hx hy => ?_
  rw [List.getElem?_set] at hy
  by_cases c : i = p
  · subst c
    rw [if_pos rfl, if_pos hp] at hy
    cases hy
    rw [if_pos hS, if_neg (by simp), if_neg hn]
  · rw [if_neg (fun e => c e.symm)] at hy
    have e : x = y := Option.some.inj (hx.symm.trans hy)
    subst e
    have e1 : (i ∈ S.filter fun o => o ≠ p) ↔ i ∈ S := by simp [List.mem_filter, c]
    have e2 : i ∈ p :: L ↔ i ∈ L := by simp [c]
    by_cases d : i ∈ S
    · rw [if_pos d, if_pos (e1.mpr d)]
    · rw [if_neg d, if_neg (fun h => d (e1.mp h))]
      by_cases g : i ∈ L
      · rw [if_pos (e2.mpr g), if_pos g]
      · rw [if_neg (fun h => g (e2.mp h)), if_neg g]
theorem fl_zero {p : Nat} {L S : List Nat} {b : List Rat} (hp : p < b.length) (hS : p ∉ S) : fl (p :: L) S b = fl L S (b.set p 0) := by
  refine fl_ext (by rw [List.length_set]) fun i x y hx hy => ?_
  rw [List.getElem?_set] at hy
  by_cases c : i = p
  · subst c
    rw [if_pos rfl, if_pos hp] at hy
    cases hy
    rw [if_neg hS, if_neg hS, if_pos (by simp)]
    split <;> rfl
  · rw [if_neg (fun e => c e.symm)] at hy
    have e : x = y := Option.some.inj (hx.symm.trans hy)
    subst e
    have e2 : i ∈ p :: L ↔ i ∈ L := by simp [c]
    by_cases d : i ∈ S
    · rw [if_pos d, if_pos d]
    · rw [if_neg d, if_neg d]
      by_cases g : i ∈ L
      · rw [if_pos (e2.mpr g), if_pos g]
      · rw [if_neg (fun h => g (e2.mp h)), if_neg g]
theorem mid_mem {w a b : Rat} : a ≤ midQ w a b ∧ rmin b w ≤ midQ w a b ∧ (midQ w a b = a ∨ midQ w a b = rmin b w) := by
  unfold midQ rmax
  split <;> refine ⟨?_, ?_, ?_⟩ <;> grind
theorem mids_ge {t : Tm} {ws : List Rat} : ∀ (L : List Nat) (b : List Rat) (S : List Nat) (x : Rat), L.Nodup → (∀ p ∈ L, p < b.length) → (∀ p ∈ S, p ∈ L) → x ≤ t.val (fl L S b) → (∀ p ∈ S, x ≤ ws.getD p 0) → x ≤ mids t ws L b
  | [], b, S, x, _, _, hS, h1, _ => by
    have e : S = [] := by
      cases S with
      | nil => rfl
      | cons a l => exact absurd (hS a List.mem_cons_self) (by simp)
    subst e
    have : fl [] [] b = b := by
      apply List.ext_getElem?
      intro i
      by_cases d : i < b.length
      · rw [fl_get (List.getElem?_eq_getElem d), if_neg (by simp), if_neg (by simp), List.getElem?_eq_getElem d]
      · rw [List.getElem?_eq_none (by rw [fl_len]; omega), List.getElem?_eq_none (by omega)]
    rw [this] at h1
    exact h1
  | p :: L, b, S, x, hN, hL, hS, h1, h2 => by
    obtain ⟨n1, n2⟩ := List.nodup_cons.mp hN
    have hp := hL p List.mem_cons_self
    have hL' : ∀ c, ∀ q ∈ L, q < (b.set p c).length := fun c q hq => by rw [List.length_set]; exact hL q (List.mem_cons_of_mem _ hq)
    obtain ⟨m1, m2, _⟩ := mid_mem (w := ws.getD p 0) (a := mids t ws L (b.set p 0)) (b := mids t ws L (b.set p 1))
    show x ≤ midQ _ _ _
    by_cases c : p ∈ S
    · rw [fl_one hp n1 c] at h1
      have g := mids_ge L (b.set p 1) (S.filter fun o => o ≠ p) x n2 (hL' 1) (fun q hq => by
        have := List.mem_filter.mp hq
        rcases List.mem_cons.mp (hS q this.1) with e | e
        · exact absurd e (by simpa using this.2)
        · exact e) h1 (fun q hq => h2 q (List.mem_filter.mp hq).1)
      have g2 := h2 p c
      have : x ≤ rmin (mids t ws L (b.set p 1)) (ws.getD p 0) := by unfold rmin; split <;> grind
      grind
    · rw [fl_zero hp c] at h1
      have g := mids_ge L (b.set p 0) S x n2 (hL' 0) (fun q hq => by
        rcases List.mem_cons.mp (hS q hq) with e | e
        · exact absurd (e ▸ hq) c
        · exact e) h1 h2
      grind
theorem mids_at {t : Tm} {ws : List Rat} : ∀ (L : List Nat) (b : List Rat), L.Nodup → (∀ p ∈ L, p < b.length) → ∃ S : List Nat, (∀ p ∈ S, p ∈ L) ∧ mids t ws L b ≤ t.val (fl L S b) ∧ ∀ p ∈ S, mids t ws L b ≤ ws.getD p 0
  | [], b, _, _ => by
    refine ⟨[], by simp, ?_, by simp⟩
    have : fl [] [] b = b := by
      apply List.ext_getElem?
      intro i
      by_cases d : i < b.length
      · rw [fl_get (List.getElem?_eq_getElem d), if_neg (by simp), if_neg (by simp), List.getElem?_eq_getElem d]
      · rw [List.getElem?_eq_none (by rw [fl_len]; omega), List.getElem?_eq_none (by omega)]
    rw [this]
    show t.val b ≤ t.val b
    grind
  | p :: L, b, hN, hL => by
    obtain ⟨n1, n2⟩ := List.nodup_cons.mp hN
    have hp := hL p List.mem_cons_self
    have hL' : ∀ c, ∀ q ∈ L, q < (b.set p c).length := fun c q hq => by rw [List.length_set]; exact hL q (List.mem_cons_of_mem _ hq)
    obtain ⟨_, _, m3⟩ := mid_mem (w := ws.getD p 0) (a := mids t ws L (b.set p 0)) (b := mids t ws L (b.set p 1))
    have em : mids t ws (p :: L) b = midQ (ws.getD p 0) (mids t ws L (b.set p 0)) (mids t ws L (b.set p 1)) := rfl
    rcases m3 with e | e
    · obtain ⟨S, h1, h2, h3⟩ := mids_at (t := t) (ws := ws) L (b.set p 0) n2 (hL' 0)
      refine ⟨S, fun q hq => List.mem_cons_of_mem _ (h1 q hq), ?_, fun q hq => by rw [em, e]; exact h3 q hq⟩
      rw [fl_zero hp (fun h => n1 (h1 p h)), em, e]
      exact h2
    · obtain ⟨S, h1, h2, h3⟩ := mids_at (t := t) (ws := ws) L (b.set p 1) n2 (hL' 1)
      have le1 : rmin (mids t ws L (b.set p 1)) (ws.getD p 0) ≤ mids t ws L (b.set p 1) := by unfold rmin; split <;> grind
      have le2 : rmin (mids t ws L (b.set p 1)) (ws.getD p 0) ≤ ws.getD p 0 := by unfold rmin; split <;> grind
      have fs : (p :: S).filter (fun o => decide (o ≠ p)) = S.filter fun o => decide (o ≠ p) := by simp
      have fs2 : (S.filter fun o => decide (o ≠ p)) = S := List.filter_eq_self.mpr fun o ho => by
        have : o ≠ p := fun e => n1 (e ▸ h1 o ho)
        simpa using this
      refine ⟨p :: S, fun q hq => ?_, ?_, fun q hq => ?_⟩
      · rcases List.mem_cons.mp hq with e | e
        · rw [e]; exact List.mem_cons_self
        · exact List.mem_cons_of_mem _ (h1 q e)
      · have e2 := fl_one (b := b) (L := L) (S := p :: S) hp n1 List.mem_cons_self
        rw [fs, fs2] at e2
        rw [e2, em, e]
        grind
      · rw [em, e]
        rcases List.mem_cons.mp hq with e' | e'
        · rw [e']; exact le2
        · have := h3 q e'; grind
theorem fl_all {L S : List Nat} {b : List Rat} {n : Nat} (hb : b.length = n) (hL : ∀ p, p < n → p ∈ L) : fl L S b = end01 n S := by
  apply List.ext_getElem?
  intro i
  by_cases d : i < n
  · rw [fl_get (List.getElem?_eq_getElem (by omega)), end01_get d, if_pos (hL i d)]
  · rw [List.getElem?_eq_none (by rw [fl_len]; omega), List.getElem?_eq_none (by rw [end01_len]; omega)]
theorem mids_outc {t : Tm} {n z : Nat} {ws b : List Rat} {L : List Nat} (ho : t.Ok n z) (hw : ws.length = n) (hb : b.length = n) (hN : L.Nodup) (h1 : ∀ p ∈ L, p < n) (h2 : ∀ p, p < n → p ∈ L) : mids t ws L b = outc t n ws := by
  have hL : ∀ p ∈ L, p < b.length := fun p hp => by rw [hb]; exact h1 p hp
  have a : mids t ws L b ≤ outc t n ws := by
    obtain ⟨S, g1, g2, g3⟩ := mids_at (t := t) (ws := ws) L b hN hL
    rw [fl_all hb h2] at g2
    exact outc_ge ho hw (fun p hp => h1 p (g1 p hp)) g2 g3
  have c : outc t n ws ≤ mids t ws L b := by
    obtain ⟨S, g1, g2, g3, _⟩ := outc_at (t := t) hw
    exact mids_ge L b S _ hN hL (fun p hp => h2 p (g1 p hp)) (by rw [fl_all hb h2]; exact g2) g3
  grind
/-- of two ends, the lower is at most the higher -/
theorem mids_le {t : Tm} {n z : Nat} {ws : List Rat} (ho : t.Ok n z) {p : Nat} {L : List Nat} {b : List Rat} (hN : L.Nodup) (hL : ∀ q ∈ L, q < b.length) (hp : p ∉ L) : mids t ws L (b.set p 0) ≤ mids t ws L (b.set p 1) := by
  obtain ⟨S, g1, g2, g3⟩ := mids_at (t := t) (ws := ws) L (b.set p 0) hN (fun q hq => by rw [List.length_set]; exact hL q hq)
  refine mids_ge L (b.set p 1) S _ hN (fun q hq => by rw [List.length_set]; exact hL q hq) g1 ?_ g3
  have hp2 : p ∉ S := fun h => hp (g1 p h)
  have le : t.val (fl L S (b.set p 0)) ≤ t.val (fl L S (b.set p 1)) := by
    refine (val_nr (s := 1) (by grind) (nrL_of (by rw [fl_len, fl_len, List.length_set, List.length_set]) fun i x y hx hy => ?_) t ho).1
    have il : i < b.length := by have := (List.getElem?_eq_some_iff.mp hx).1; rwa [fl_len, List.length_set] at this
    by_cases c : i = p
    · subst c
      have e0 : (b.set i 0)[i]? = some 0 := by rw [List.getElem?_set, if_pos rfl, if_pos il]
      have e1 : (b.set i 1)[i]? = some 1 := by rw [List.getElem?_set, if_pos rfl, if_pos il]
      rw [fl_get e0, if_neg hp2, if_neg hp] at hx
      rw [fl_get e1, if_neg hp2, if_neg hp] at hy
      cases hx
      cases hy
      constructor <;> grind
    · have e0 : (b.set p 0)[i]? = some b[i] := by rw [List.getElem?_set, if_neg (fun e => c e.symm), List.getElem?_eq_getElem il]
      have e1 : (b.set p 1)[i]? = some b[i] := by rw [List.getElem?_set, if_neg (fun e => c e.symm), List.getElem?_eq_getElem il]
      rw [fl_get e0] at hx
      rw [fl_get e1] at hy
      have : x = y := Option.some.inj (hx.symm.trans hy)
      rw [this]
      exact nr_refl (by grind) y
  grind
/-- the outcome is the middle of a wish and the outcomes with it put to 0 and to 1 -/
theorem outc_mid {t : Tm} {n z p : Nat} {ws : List Rat} (ho : t.Ok n z) (hw : ws.length = n) (hq : ∀ q ∈ ws, 0 ≤ q ∧ q ≤ 1) (hp : p < n) : outc t n (ws.set p 0) ≤ outc t n (ws.set p 1) ∧ outc t n ws = midQ (ws.getD p 0) (outc t n (ws.set p 0)) (outc t n (ws.set p 1)) := by
  have l0 : (ws.set p 0).length = n := by rw [List.length_set]; exact hw
  have l1 : (ws.set p 1).length = n := by rw [List.length_set]; exact hw
  have wp : 0 ≤ ws.getD p 0 ∧ ws.getD p 0 ≤ 1 := hq _ (getD_mem (by omega))
  have gd : ∀ (c : Rat) (q : Nat), q < n → (ws.set p c).getD q 0 = if q = p then c else ws.getD q 0 := fun c q hqn => by
    rw [List.getD_eq_getElem?_getD, List.getD_eq_getElem?_getD, List.getElem?_set]
    by_cases e : q = p
    · rw [if_pos e.symm, if_pos e, if_pos (by omega)]
      rfl
    · rw [if_neg (fun h => e h.symm), if_neg e]
  have up : ∀ {vs us : List Rat}, vs.length = n → us.length = n → (∀ q, q < n → vs.getD q 0 ≤ us.getD q 0) → outc t n vs ≤ outc t n us := fun {vs us} h1 h2 h => by
    obtain ⟨S, g1, g2, g3, _⟩ := outc_at (t := t) h1
    exact outc_ge ho h2 g1 g2 fun q hq => by have := g3 q hq; have := h q (g1 q hq); grind
  have a0 : outc t n (ws.set p 0) ≤ outc t n ws := up l0 hw fun q hqn => by rw [gd 0 q hqn]; split <;> grind
  have a1 : outc t n ws ≤ outc t n (ws.set p 1) := up hw l1 fun q hqn => by rw [gd 1 q hqn]; split <;> grind
  refine ⟨by grind, ?_⟩
  have b1 : rmin (outc t n (ws.set p 1)) (ws.getD p 0) ≤ outc t n ws := by
    obtain ⟨S, g1, g2, g3, _⟩ := outc_at (t := t) l1
    have le1 : rmin (outc t n (ws.set p 1)) (ws.getD p 0) ≤ outc t n (ws.set p 1) := by unfold rmin; split <;> grind
    have le2 : rmin (outc t n (ws.set p 1)) (ws.getD p 0) ≤ ws.getD p 0 := by unfold rmin; split <;> grind
    refine outc_ge ho hw g1 (by grind) fun q hq => ?_
    have := g3 q hq
    rw [gd 1 q (g1 q hq)] at this
    by_cases e : q = p
    · rw [e]; exact le2
    · rw [if_neg e] at this; grind
  have b2 : outc t n ws ≤ outc t n (ws.set p 0) ∨ outc t n ws ≤ ws.getD p 0 := by
    obtain ⟨S, g1, g2, g3, _⟩ := outc_at (t := t) hw
    by_cases e : p ∈ S
    · exact .inr (g3 p e)
    · exact .inl (outc_ge ho l0 g1 g2 fun q hq => by
        rw [gd 0 q (g1 q hq), if_neg (fun h : q = p => e (h ▸ hq))]
        exact g3 q hq)
  unfold midQ rmax
  unfold rmin at b1 ⊢
  rcases b2 with e | e
  · (repeat' split at b1) <;> (repeat' split) <;> grind
  · (repeat' split at b1) <;> (repeat' split) <;> grind
end CB

set_option Elab.async false
set_option linter.all false
set_option maxRecDepth 100000
set_option maxHeartbeats 4000000
/-! values lie from 0 to 1 -/
namespace CB
def In01 (q : Rat) : Prop := 0 ≤ q ∧ q ≤ 1
theorem wsum_01 : ∀ {ws : List Int} {l : List Rat}, ws.length = l.length → (∀ w ∈ ws, 1 ≤ w) → (∀ q ∈ l, In01 q) →
    0 ≤ (List.zipWith (fun (w : Int) (q : Rat) => (w : Rat) * q) ws l).sum ∧ (List.zipWith (fun (w : Int) (q : Rat) => (w : Rat) * q) ws l).sum ≤ ((ws.sum : Int) : Rat)
  | [], [], _, _, _ => by simp
  | [], _ :: _, h, _, _ => by simp at h
  | _ :: _, [], h, _, _ => by simp at h
  | w :: ws, q :: l, h, hw, hq => by
    obtain ⟨i1, i2⟩ := wsum_01 (ws := ws) (l := l) (by simpa using h) (fun x hx => hw x (List.mem_cons_of_mem _ hx)) fun x hx => hq x (List.mem_cons_of_mem _ hx)
    have h1 := hw w List.mem_cons_self
    obtain ⟨q0, q1⟩ := hq q List.mem_cons_self
    have w0 : (0 : Rat) ≤ (w : Rat) := by
      have : ((0 : Int) : Rat) ≤ (w : Rat) := Rat.intCast_le_intCast.mpr (by omega)
      simpa using this
    have a := Rat.mul_nonneg w0 q0
    have b : (w : Rat) * q ≤ (w : Rat) * 1 := Rat.mul_le_mul_of_nonneg_left q1 w0
    have e : (((w :: ws).sum : Int) : Rat) = (w : Rat) + ((ws.sum : Int) : Rat) := by
      rw [List.sum_cons, Rat.intCast_add]
    rw [List.zipWith_cons_cons, List.sum_cons, e]
    constructor <;> grind
theorem wavg_01 {ws : List Int} {l : List Rat} (e : ws.length = l.length) (hn : ws ≠ []) (hw : ∀ w ∈ ws, 1 ≤ w) (h : ∀ q ∈ l, In01 q) : In01 (wavg ws l) := by
  obtain ⟨a, b⟩ := wsum_01 e hw h
  have hp : (0 : Rat) < ((ws.sum : Int) : Rat) := by exact_mod_cast sum_pos hn hw
  have hv : (0 : Rat) ≤ (((ws.sum : Int) : Rat))⁻¹ := Rat.le_of_lt (Rat.inv_pos.mpr hp)
  have hi : ((ws.sum : Int) : Rat) * (((ws.sum : Int) : Rat))⁻¹ = 1 := Rat.mul_inv_cancel _ (by grind)
  unfold wavg In01
  rw [Rat.div_def]
  have a1 := Rat.mul_nonneg a hv
  have a2 := Rat.mul_le_mul_of_nonneg_right b hv
  rw [hi] at a2
  exact ⟨a1, a2⟩
theorem rmm_01 {lo hi x : Rat} (h1 : In01 lo) (h2 : In01 hi) (h3 : In01 x) : In01 (rmax lo (rmin hi x)) := by
  unfold In01 rmax rmin at *
  (repeat' split) <;> grind
mutual
theorem val_01 {n z : Nat} {b : List Rat} (hl : b.length = n) (h : ∀ q ∈ b, In01 q) : ∀ (t : Tm), t.Ok n z → In01 (t.val b)
  | .bid p, ho => h _ (getD_mem (by rw [hl]; exact ho))
  | .fixed q, ho => ⟨ho.1, ho.2.1⟩
  | .mean ws ts, ho => wavg_01 (by rw [vals_len]; exact ho.1) (by
      intro e
      have := ho.1
      rw [e] at this
      exact ho.2.1 (List.eq_nil_of_length_eq_zero this.symm)) (fun w hw => (ho.2.2.2.1 w hw).1) (vals_01 hl h ts ho.2.2.2.2)
  | .least ts, ho => vals_01 hl h ts ho.2.2 _ (minL_mem (vals_nil ho.1)).1
  | .greatest ts, ho => vals_01 hl h ts ho.2.2 _ (maxL_mem (vals_nil ho.1)).1
  | .ranked k ts, ho => vals_01 hl h ts ho.2.2.2 _ (by
      have e := kthG_isort (k - 1) (Tm.vals b ts) (by rw [vals_len]; have := ho.1; have := ho.2.1; omega)
      exact (isort_perm _).mem_iff.mp (List.mem_of_getElem? e))
  | .between lo hi t, ho => rmm_01 ⟨ho.1.1, ho.1.2.1⟩ ⟨ho.2.1.1, ho.2.1.2.1⟩ (val_01 hl h t ho.2.2.2)
theorem vals_01 {n z : Nat} {b : List Rat} (hl : b.length = n) (h : ∀ q ∈ b, In01 q) : ∀ (ts : List Tm), Tm.Oks n z ts → ∀ q ∈ Tm.vals b ts, In01 q
  | [], _, q, hq => by cases hq
  | t :: ts, ho, q, hq => by
    rcases List.mem_cons.mp hq with e | e
    · rw [e]; exact val_01 hl h t ho.1
    · exact vals_01 hl h ts ho.2 q e
end
theorem end01_01 (n : Nat) (S : List Nat) : ∀ q ∈ end01 n S, In01 q := fun q hq => by
  rcases put_mem hq with e | e
  · rw [e]; unfold In01; constructor <;> decide
  · rw [(List.mem_replicate.mp e).2]; unfold In01; constructor <;> decide
theorem corner_01 {n z : Nat} {t : Tm} (ho : t.Ok n z) (S : List Nat) : In01 (t.val (end01 n S)) := val_01 (end01_len n S) (end01_01 n S) t ho
theorem outc_01 {n z : Nat} {t : Tm} {ws : List Rat} (ho : t.Ok n z) (hw : ws.length = n) (h : ∀ q ∈ ws, In01 q) : In01 (outc t n ws) := by
  obtain ⟨S, _, _, _, e⟩ := outc_at (t := t) hw
  rcases e with e | ⟨p, hp, e⟩
  · rw [e]; exact corner_01 ho S
  · rw [e]; exact h _ (getD_mem (by omega))
end CB

set_option Elab.async false
set_option linter.all false
set_option maxRecDepth 100000
set_option maxHeartbeats 4000000
/-! the outcome, held from both sides, is the only such number -/
namespace CB
def lessL (ws : List Rat) (c : Rat) (n : Nat) : List Nat := (List.range n).filter fun i => decide (ws.getD i 0 < c)
def justL (ws : List Rat) (c : Rat) (n : Nat) : List Nat := (List.range n).filter fun i => decide (ws.getD i 0 = c)
def moreL (ws : List Rat) (c : Rat) (n : Nat) : List Nat := (List.range n).filter fun i => decide (c < ws.getD i 0)
/-- those who wish at least so much -/
def wishL (ws : List Rat) (c : Rat) (n : Nat) : List Nat := (List.range n).filter fun i => !decide (ws.getD i 0 < c)
theorem filt_snoc (f : Nat → Bool) (i : Nat) : (List.range (i + 1)).filter f = (List.range i).filter f ++ if f i = true then [i] else [] := by
  rw [List.range_succ, List.filter_append]
  cases e : f i with
  | true => rw [List.filter_cons_of_pos e, List.filter_nil, if_pos rfl]
  | false => rw [List.filter_cons_of_neg (by rw [e]; decide), List.filter_nil, if_neg (by decide)]
theorem filt_len (f : Nat → Bool) (i : Nat) : ((List.range i).filter f).length ≤ i := by
  have := List.length_filter_le f (List.range i)
  rwa [List.length_range] at this
theorem getD_at {ws : List Rat} {p : Nat} (h : p < ws.length) : ws.getD p 0 = ws[p] := by rw [List.getD_eq_getElem?_getD, List.getElem?_eq_getElem h]; rfl
theorem moreL_mem {ws : List Rat} {c : Rat} {n p : Nat} : p ∈ moreL ws c n ↔ p < n ∧ c < ws.getD p 0 := by
  unfold moreL; rw [List.mem_filter, List.mem_range, decide_eq_true_iff]
theorem wishL_mem {ws : List Rat} {c : Rat} {n p : Nat} : p ∈ wishL ws c n ↔ p < n ∧ ¬ ws.getD p 0 < c := by
  unfold wishL; rw [List.mem_filter, List.mem_range, Bool.not_eq_true', decide_eq_false_iff_not]
/-- the two asks -/
def isOut (t : Tm) (n : Nat) (ws : List Rat) (y : Rat) : Bool := !decide (y < t.val (end01 n (moreL ws y n))) && !decide (t.val (end01 n (wishL ws y n)) < y)
theorem isOut_iff {t : Tm} {n z : Nat} {ws : List Rat} {y : Rat} (ho : t.Ok n z) (hw : ws.length = n) : isOut t n ws y = decide (y = outc t n ws) := by
  have key : (¬ y < t.val (end01 n (moreL ws y n)) ∧ ¬ t.val (end01 n (wishL ws y n)) < y) ↔ y = outc t n ws := by
    obtain ⟨S, s1, s2, s3, _⟩ := outc_at (t := t) hw
    constructor
    · rintro ⟨h1, h2⟩
      have a := outc_ge (t := t) ho hw (S := wishL ws y n) (x := y) (fun p hp => (wishL_mem.mp hp).1) (by grind) fun p hp => by have := (wishL_mem.mp hp).2; grind
      have b : outc t n ws ≤ y := by
        refine Classical.byContradiction fun hn => ?_
        have hlt : y < outc t n ws := by grind
        have sub := val_sub (t := t) ho (S := S) (E := moreL ws y n) fun p hp => moreL_mem.mpr ⟨s1 p hp, by have := s3 p hp; grind⟩
        grind
      grind
    · intro e
      refine ⟨fun h => ?_, fun h => ?_⟩
      · by_cases c : moreL ws y n = []
        · rw [c] at h
          have := outc_ge (t := t) ho hw (S := []) (x := t.val (end01 n [])) (by simp) (by grind) (by simp)
          grind
        · obtain ⟨p, hp, hm⟩ := least_of_list (fun p => ws.getD p 0) c
          have hp2 := (moreL_mem.mp hp).2
          have g := outc_ge (t := t) ho hw (S := moreL ws y n) (x := rmin (t.val (end01 n (moreL ws y n))) (ws.getD p 0)) (fun q hq => (moreL_mem.mp hq).1) (by unfold rmin; split <;> grind) fun q hq => by
            have := hm q hq
            unfold rmin
            split <;> grind
          unfold rmin at g
          split at g <;> grind
      · have sub := val_sub (t := t) ho (S := S) (E := wishL ws y n) fun p hp => wishL_mem.mpr ⟨s1 p hp, by have := s3 p hp; grind⟩
        grind
  unfold isOut
  by_cases h : y = outc t n ws
  · have k := key.mpr h
    rw [decide_eq_true h, decide_eq_false k.1, decide_eq_false k.2]
    rfl
  · rw [decide_eq_false h]
    cases c1 : decide (y < t.val (end01 n (moreL ws y n))) with
    | true => rfl
    | false =>
      cases c2 : decide (t.val (end01 n (wishL ws y n)) < y) with
      | true => rfl
      | false => exact absurd (key.mp ⟨of_decide_eq_false c1, of_decide_eq_false c2⟩) h
end CB

set_option Elab.async false
set_option linter.all false
set_option maxRecDepth 100000
set_option maxHeartbeats 4000000
/-! what comes out if some are still to bid -/
namespace CB
def mix (lo hi : List Rat) (ps : List Nat) : List Rat := lo.mapIdx fun i b => if i ∈ ps then hi.getD i 0 else b
theorem mix_len (lo hi : List Rat) (ps : List Nat) : (mix lo hi ps).length = lo.length := by simp [mix]
theorem mix_get {ps : List Nat} {b : Rat} {lo hi : List Rat} {i : Nat} (h : lo[i]? = some b) : (mix lo hi ps)[i]? = some (if i ∈ ps then hi.getD i 0 else b) := by simp [mix, h]
theorem mix_mem {ps : List Nat} {lo hi : List Rat} {q : Rat} (hl : hi.length = lo.length) (h : q ∈ mix lo hi ps) : q ∈ hi ∨ q ∈ lo := by
  obtain ⟨i, hi'⟩ := List.mem_iff_getElem?.mp h
  have il : i < lo.length := by
    have := (List.getElem?_eq_some_iff.mp hi').1
    rwa [mix_len] at this
  rw [mix_get (List.getElem?_eq_getElem il)] at hi'
  have e := Option.some.inj hi'
  by_cases c : i ∈ ps
  · rw [if_pos c] at e
    left
    rw [← e, List.getD_eq_getElem?_getD, List.getElem?_eq_getElem (by omega)]
    exact List.getElem_mem _
  · rw [if_neg c] at e
    exact .inr (e ▸ List.getElem_mem il)
theorem mix_ends (n : Nat) (ps : List Nat) : mix (List.replicate n 0) (List.replicate n 1) ps = put ps 1 (List.replicate n 0) := by
  apply List.ext_getElem?
  intro i
  by_cases c : i < n
  · have e : (List.replicate n (0 : Rat))[i]? = some 0 := by rw [List.getElem?_replicate, if_pos c]
    rw [mix_get e, put_get e]
    have e2 : (List.replicate n (1 : Rat)).getD i 0 = 1 := by rw [List.getD_eq_getElem?_getD, List.getElem?_replicate, if_pos c]; rfl
    rw [e2]
  · rw [List.getElem?_eq_none (by rw [mix_len, List.length_replicate]; omega), List.getElem?_eq_none (by rw [put_len, List.length_replicate]; omega)]
/-- what comes out between the low and the high bids of those of ls -/
def stepM (t : Tm) (ws lo hi : List Rat) (ls : List Nat) (f : Rat) (p : Nat) : Rat := rmax f (rmin (ws.getD p 0) (t.val (mix lo hi (eager ws ls p))))
def outM (t : Tm) (ws lo hi : List Rat) (ls : List Nat) : Rat := ls.foldl (stepM t ws lo hi ls) (t.val lo)
theorem outM_outc {t : Tm} {n : Nat} {ws : List Rat} (h : ws.length = n) : outM t ws (List.replicate n 0) (List.replicate n 1) (List.range n) = outc t n ws := by
  unfold outM outc outG
  rw [put_range h]
  congr 1
  funext f p
  unfold stepM stepG
  rw [mix_ends]
/-- bids lo at most hi, place by place -/
def LeL (lo hi : List Rat) : Prop := lo.length = hi.length ∧ ∀ i, lo.getD i 0 ≤ hi.getD i 0
theorem mix_nil (lo hi : List Rat) : mix lo hi [] = lo := by
  apply List.ext_getElem?
  intro i
  by_cases c : i < lo.length
  · rw [mix_get (List.getElem?_eq_getElem c), List.getElem?_eq_getElem c]
    simp
  · rw [List.getElem?_eq_none (by rw [mix_len]; omega), List.getElem?_eq_none (by omega)]
theorem mix_nr {n : Nat} {lo hi : List Rat} (hl : lo.length = n) (h : LeL lo hi) (h0 : ∀ q ∈ lo, In01 q) (h1 : ∀ q ∈ hi, In01 q) {S E : List Nat} (hs : ∀ p ∈ S, p ∈ E) : NrL 1 (mix lo hi S) (mix lo hi E) := by
  refine nrL_of (by rw [mix_len, mix_len]) fun i x y hx hy => ?_
  have il : i < lo.length := by have := (List.getElem?_eq_some_iff.mp hx).1; rwa [mix_len] at this
  rw [mix_get (List.getElem?_eq_getElem il)] at hx hy
  have a := h.2 i
  rw [getD_at il] at a
  have b0 := h0 _ (List.getElem_mem il)
  have c0 := h1 _ (getD_mem (show i < hi.length by have := h.1; omega))
  have ex := Option.some.inj hx
  have ey := Option.some.inj hy
  subst ex ey
  unfold In01 at b0 c0
  unfold Nr
  by_cases c : i ∈ S
  · rw [if_pos c, if_pos (hs i c)]
    constructor <;> grind
  · rw [if_neg c]
    by_cases d : i ∈ E
    · rw [if_pos d]; constructor <;> grind
    · rw [if_neg d]; constructor <;> grind
theorem mix_sub {n z : Nat} {t : Tm} (ho : t.Ok n z) {lo hi : List Rat} (hl : lo.length = n) (h : LeL lo hi) (h0 : ∀ q ∈ lo, In01 q) (h1 : ∀ q ∈ hi, In01 q) {S E : List Nat} (hs : ∀ p ∈ S, p ∈ E) : t.val (mix lo hi S) ≤ t.val (mix lo hi E) :=
  (val_nr (by grind) (mix_nr hl h h0 h1 hs) t ho).1
theorem foldl_stepM (t : Tm) (ws lo hi : List Rat) (ls : List Nat) : ∀ (l : List Nat) (f : Rat), f ≤ l.foldl (stepM t ws lo hi ls) f ∧ (∀ p ∈ l, rmin (ws.getD p 0) (t.val (mix lo hi (eager ws ls p))) ≤ l.foldl (stepM t ws lo hi ls) f) ∧
    (l.foldl (stepM t ws lo hi ls) f = f ∨ ∃ p ∈ l, l.foldl (stepM t ws lo hi ls) f = rmin (ws.getD p 0) (t.val (mix lo hi (eager ws ls p))))
  | [], f => ⟨by show f ≤ f; grind, by simp, .inl rfl⟩
  | q :: l, f => by
    obtain ⟨h1, h2, h3⟩ := foldl_stepM t ws lo hi ls l (stepM t ws lo hi ls f q)
    have m : f ≤ stepM t ws lo hi ls f q ∧ rmin (ws.getD q 0) (t.val (mix lo hi (eager ws ls q))) ≤ stepM t ws lo hi ls f q ∧ (stepM t ws lo hi ls f q = f ∨ stepM t ws lo hi ls f q = rmin (ws.getD q 0) (t.val (mix lo hi (eager ws ls q)))) := by
      unfold stepM rmax
      split <;> refine ⟨?_, ?_, ?_⟩ <;> grind
    rw [List.foldl_cons]
    refine ⟨by grind, fun p hp => ?_, ?_⟩
    · rcases List.mem_cons.mp hp with e | e
      · rw [e]; grind
      · exact h2 p e
    · rcases h3 with e | ⟨p, hp, e⟩
      · rcases m.2.2 with e' | e'
        · exact .inl (e.trans e')
        · exact .inr ⟨q, List.mem_cons_self, e.trans e'⟩
      · exact .inr ⟨p, List.mem_cons_of_mem _ hp, e⟩
theorem outM_ge {t : Tm} {n z : Nat} {ws lo hi : List Rat} {ls : List Nat} (ho : t.Ok n z) (hl : lo.length = n) (h : LeL lo hi) (h0 : ∀ q ∈ lo, In01 q) (h1 : ∀ q ∈ hi, In01 q) {S : List Nat} (hS : ∀ p ∈ S, p ∈ ls) {x : Rat} (k1 : x ≤ t.val (mix lo hi S)) (k2 : ∀ p ∈ S, x ≤ ws.getD p 0) : x ≤ outM t ws lo hi ls := by
  obtain ⟨f1, f2, _⟩ := foldl_stepM t ws lo hi ls ls (t.val lo)
  unfold outM
  by_cases c : S = []
  · rw [c, mix_nil] at k1
    grind
  · obtain ⟨p, hp, hm⟩ := least_of_list (fun p => ws.getD p 0) c
    have g := f2 p (hS p hp)
    have sub : ∀ o ∈ S, o ∈ eager ws ls p := fun o ho' => List.mem_filter.mpr ⟨hS o ho', by
      have := hm o ho'
      rw [Bool.not_eq_true', decide_eq_false_iff_not]
      grind⟩
    have v := mix_sub ho hl h h0 h1 sub
    have w := k2 p hp
    have : x ≤ rmin (ws.getD p 0) (t.val (mix lo hi (eager ws ls p))) := by
      unfold rmin
      split <;> grind
    grind
theorem outM_at (t : Tm) (ws lo hi : List Rat) (ls : List Nat) : ∃ S : List Nat, (∀ p ∈ S, p ∈ ls) ∧ outM t ws lo hi ls ≤ t.val (mix lo hi S) ∧ (∀ p ∈ S, outM t ws lo hi ls ≤ ws.getD p 0) ∧ (outM t ws lo hi ls = t.val (mix lo hi S) ∨ ∃ p ∈ ls, outM t ws lo hi ls = ws.getD p 0) := by
  obtain ⟨_, _, f3⟩ := foldl_stepM t ws lo hi ls ls (t.val lo)
  have f3' : outM t ws lo hi ls = t.val lo ∨ ∃ p ∈ ls, outM t ws lo hi ls = rmin (ws.getD p 0) (t.val (mix lo hi (eager ws ls p))) := f3
  rcases f3' with e | ⟨p, hp, e⟩
  · exact ⟨[], by simp, by rw [e, mix_nil]; grind, by simp, .inl (by rw [e, mix_nil])⟩
  · have m : outM t ws lo hi ls ≤ ws.getD p 0 ∧ outM t ws lo hi ls ≤ t.val (mix lo hi (eager ws ls p)) ∧ (outM t ws lo hi ls = t.val (mix lo hi (eager ws ls p)) ∨ outM t ws lo hi ls = ws.getD p 0) := by
      rw [e]
      unfold rmin
      split <;> refine ⟨?_, ?_, ?_⟩ <;> grind
    refine ⟨eager ws ls p, fun o ho => (List.mem_filter.mp ho).1, m.2.1, fun o ho => ?_, ?_⟩
    · have h := (List.mem_filter.mp ho).2
      rw [Bool.not_eq_true', decide_eq_false_iff_not] at h
      grind
    · rcases m.2.2 with e | e
      · exact .inl e
      · exact .inr ⟨p, hp, e⟩
/-- bids with those of ls at 1 in the lot, at 0 elsewhere -/
def endL (bs : List Rat) (ls lot : List Nat) : List Rat := bs.mapIdx fun i b => if i ∈ ls then (if i ∈ lot then 1 else 0) else b
theorem endL_len (bs : List Rat) (ls lot : List Nat) : (endL bs ls lot).length = bs.length := by simp [endL]
theorem endL_get {bs : List Rat} {ls lot : List Nat} {i : Nat} {b : Rat} (h : bs[i]? = some b) : (endL bs ls lot)[i]? = some (if i ∈ ls then (if i ∈ lot then 1 else 0) else b) := by simp [endL, h]
theorem endL_mem {bs : List Rat} {ls lot : List Nat} {q : Rat} (h : q ∈ endL bs ls lot) : q = 0 ∨ q = 1 ∨ q ∈ bs := by
  obtain ⟨i, hi⟩ := List.mem_iff_getElem?.mp h
  have il : i < bs.length := by have := (List.getElem?_eq_some_iff.mp hi).1; rwa [endL_len] at this
  rw [endL_get (List.getElem?_eq_getElem il)] at hi
  have e := Option.some.inj hi
  by_cases c : i ∈ ls
  · rw [if_pos c] at e
    by_cases d : i ∈ lot
    · rw [if_pos d] at e; exact .inr (.inl e.symm)
    · rw [if_neg d] at e; exact .inl e.symm
  · rw [if_neg c] at e; exact .inr (.inr (e ▸ List.getElem_mem il))
theorem mix_endL {bs : List Rat} {ls S : List Nat} : mix (put ls 0 bs) (put ls 1 bs) S = endL bs ls S := by
  apply List.ext_getElem?
  intro i
  by_cases c : i < bs.length
  · have e0 : (put ls 0 bs)[i]? = some (if i ∈ ls then 0 else bs[i]) := put_get (List.getElem?_eq_getElem c)
    have e1 : (put ls 1 bs)[i]? = some (if i ∈ ls then 1 else bs[i]) := put_get (List.getElem?_eq_getElem c)
    rw [mix_get e0, endL_get (List.getElem?_eq_getElem c), List.getD_eq_getElem?_getD, e1]
    congr 1
    by_cases d : i ∈ ls <;> by_cases f : i ∈ S <;> simp [d, f]
  · rw [List.getElem?_eq_none (by rw [mix_len, put_len]; omega), List.getElem?_eq_none (by rw [endL_len]; omega)]
theorem put_le (ls : List Nat) {bs : List Rat} (h : ∀ q ∈ bs, In01 q) : LeL (put ls 0 bs) (put ls 1 bs) := by
  refine ⟨by rw [put_len, put_len], fun i => ?_⟩
  by_cases c : i < bs.length
  · rw [List.getD_eq_getElem?_getD, put_get (List.getElem?_eq_getElem c), List.getD_eq_getElem?_getD, put_get (List.getElem?_eq_getElem c)]
    by_cases d : i ∈ ls
    · simp only [if_pos d, Option.getD_some]; grind
    · simp only [if_neg d, Option.getD_some]; grind
  · rw [List.getD_eq_getElem?_getD, List.getElem?_eq_none (by rw [put_len]; omega), List.getD_eq_getElem?_getD, List.getElem?_eq_none (by rw [put_len]; omega)]
    grind
theorem put_01 {ls : List Nat} {bs : List Rat} {x : Rat} (hx : In01 x) (h : ∀ q ∈ bs, In01 q) : ∀ q ∈ put ls x bs, In01 q := fun q hq => by
  rcases put_mem hq with e | e
  · rw [e]; exact hx
  · exact h q e
/-- what comes out behind bids -/
def outB (t : Tm) (ws bs : List Rat) (ls : List Nat) : Rat := outM t ws (put ls 0 bs) (put ls 1 bs) ls
def isHeld (t : Tm) (n : Nat) (ws bs : List Rat) (ls : List Nat) (y : Rat) : Bool := !decide (y < t.val (endL bs ls (moreL ws y n))) && !decide (t.val (endL bs ls (wishL ws y n)) < y)
theorem i01_zero : In01 0 := ⟨by decide, by decide⟩
theorem i01_one : In01 1 := ⟨by decide, by decide⟩
theorem outB_ge {t : Tm} {n z : Nat} {ws bs : List Rat} {ls : List Nat} (ho : t.Ok n z) (hb : bs.length = n) (hq : ∀ q ∈ bs, In01 q) {S : List Nat} (hS : ∀ p ∈ S, p ∈ ls) {x : Rat} (k1 : x ≤ t.val (endL bs ls S)) (k2 : ∀ p ∈ S, x ≤ ws.getD p 0) : x ≤ outB t ws bs ls :=
  outM_ge ho (by rw [put_len, hb]) (put_le ls hq) (put_01 i01_zero hq) (put_01 i01_one hq) hS (by rw [mix_endL]; exact k1) k2
theorem outB_at (t : Tm) (ws bs : List Rat) (ls : List Nat) : ∃ S : List Nat, (∀ p ∈ S, p ∈ ls) ∧ outB t ws bs ls ≤ t.val (endL bs ls S) ∧ (∀ p ∈ S, outB t ws bs ls ≤ ws.getD p 0) ∧ (outB t ws bs ls = t.val (endL bs ls S) ∨ ∃ p ∈ ls, outB t ws bs ls = ws.getD p 0) := by
  obtain ⟨S, h1, h2, h3, h4⟩ := outM_at t ws (put ls 0 bs) (put ls 1 bs) ls
  rw [mix_endL] at h2 h4
  exact ⟨S, h1, h2, h3, h4⟩
theorem endL_inter (bs : List Rat) (ls S : List Nat) : endL bs ls S = endL bs ls (ls.filter fun p => decide (p ∈ S)) := by
  apply List.ext_getElem?
  intro i
  by_cases c : i < bs.length
  · rw [endL_get (List.getElem?_eq_getElem c), endL_get (List.getElem?_eq_getElem c)]
    congr 1
    by_cases d : i ∈ ls
    · rw [if_pos d, if_pos d]
      have : (i ∈ ls.filter fun p => decide (p ∈ S)) ↔ i ∈ S := by
        rw [List.mem_filter, decide_eq_true_iff]
        exact ⟨fun h => h.2, fun h => ⟨d, h⟩⟩
      simp only [this]
    · rw [if_neg d, if_neg d]
  · rw [List.getElem?_eq_none (by rw [endL_len]; omega), List.getElem?_eq_none (by rw [endL_len]; omega)]
theorem endL_sub {t : Tm} {n z : Nat} {bs : List Rat} {ls : List Nat} (ho : t.Ok n z) (hb : bs.length = n) (hq : ∀ q ∈ bs, In01 q) {S E : List Nat} (h : ∀ p ∈ S, p ∈ E) : t.val (endL bs ls S) ≤ t.val (endL bs ls E) := by
  have := mix_sub (t := t) ho (lo := put ls 0 bs) (hi := put ls 1 bs) (by rw [put_len, hb]) (put_le ls hq) (put_01 i01_zero hq) (put_01 i01_one hq) h
  rwa [mix_endL, mix_endL] at this
theorem isHeld_iff {t : Tm} {n z : Nat} {ws bs : List Rat} {ls : List Nat} {y : Rat} (ho : t.Ok n z) (hb : bs.length = n) (hq : ∀ q ∈ bs, In01 q) (hl : ∀ p ∈ ls, p < n) : isHeld t n ws bs ls y = decide (y = outB t ws bs ls) := by
  have key : (¬ y < t.val (endL bs ls (moreL ws y n)) ∧ ¬ t.val (endL bs ls (wishL ws y n)) < y) ↔ y = outB t ws bs ls := by
    obtain ⟨S, s1, s2, s3, _⟩ := outB_at t ws bs ls
    constructor
    · rintro ⟨h1, h2⟩
      rw [endL_inter] at h2
      have a := outB_ge (t := t) (ws := ws) (ls := ls) ho hb hq (S := ls.filter fun p => decide (p ∈ wishL ws y n)) (x := y) (fun p hp => (List.mem_filter.mp hp).1) (by grind) fun p hp => by
        have := (wishL_mem.mp (of_decide_eq_true (List.mem_filter.mp hp).2)).2
        grind
      have b : outB t ws bs ls ≤ y := by
        refine Classical.byContradiction fun hn => ?_
        have hlt : y < outB t ws bs ls := by grind
        have sub := endL_sub (t := t) (ls := ls) ho hb hq (S := S) (E := moreL ws y n) fun p hp => moreL_mem.mpr ⟨hl p (s1 p hp), by have := s3 p hp; grind⟩
        grind
      grind
    · intro e
      refine ⟨fun h => ?_, fun h => ?_⟩
      · rw [endL_inter] at h
        by_cases c : (ls.filter fun p => decide (p ∈ moreL ws y n)) = []
        · rw [c] at h
          have := outB_ge (t := t) (ws := ws) (ls := ls) ho hb hq (S := []) (x := t.val (endL bs ls [])) (by simp) (by grind) (by simp)
          grind
        · obtain ⟨p, hp, hm⟩ := least_of_list (fun p => ws.getD p 0) c
          have hp2 := (moreL_mem.mp (of_decide_eq_true (List.mem_filter.mp hp).2)).2
          have g := outB_ge (t := t) (ws := ws) (ls := ls) ho hb hq (S := ls.filter fun p => decide (p ∈ moreL ws y n)) (x := rmin (t.val (endL bs ls (ls.filter fun p => decide (p ∈ moreL ws y n)))) (ws.getD p 0)) (fun q hq => (List.mem_filter.mp hq).1) (by unfold rmin; split <;> grind) fun q hq => by
            have := hm q hq
            unfold rmin
            split <;> grind
          unfold rmin at g
          split at g <;> grind
      · have sub := endL_sub (t := t) (ls := ls) ho hb hq (S := S) (E := wishL ws y n) fun p hp => wishL_mem.mpr ⟨hl p (s1 p hp), by have := s3 p hp; grind⟩
        grind
  unfold isHeld
  by_cases h : y = outB t ws bs ls
  · have k := key.mpr h
    rw [decide_eq_true h, decide_eq_false k.1, decide_eq_false k.2]
    rfl
  · rw [decide_eq_false h]
    cases c1 : decide (y < t.val (endL bs ls (moreL ws y n))) with
    | true => rfl
    | false =>
      cases c2 : decide (t.val (endL bs ls (wishL ws y n)) < y) with
      | true => rfl
      | false => exact absurd (key.mp ⟨of_decide_eq_false c1, of_decide_eq_false c2⟩) h
theorem outB_all {t : Tm} {n : Nat} {ws bs : List Rat} (hw : ws.length = n) (hb : bs.length = n) : outB t ws bs (List.range n) = outc t n ws := by
  unfold outB
  have e1 : put (List.range n) 1 bs = List.replicate n 1 := by
    apply List.ext_getElem?
    intro i
    by_cases c : i < n
    · rw [put_get (List.getElem?_eq_getElem (by omega)), if_pos (List.mem_range.mpr c), List.getElem?_replicate, if_pos c]
    · rw [List.getElem?_eq_none (by rw [put_len]; omega), List.getElem?_eq_none (by rw [List.length_replicate]; omega)]
  rw [put_range hb, e1, outM_outc hw]
theorem put_nil (x : Rat) (bs : List Rat) : put [] x bs = bs := by
  apply List.ext_getElem?
  intro i
  by_cases c : i < bs.length
  · rw [put_get (List.getElem?_eq_getElem c), List.getElem?_eq_getElem c]; simp
  · rw [List.getElem?_eq_none (by rw [put_len]; omega), List.getElem?_eq_none (by omega)]
theorem outB_none (t : Tm) (ws bs : List Rat) : outB t ws bs [] = t.val bs := by
  unfold outB outM
  rw [put_nil]
  rfl
theorem put_agree {ls : List Nat} {x : Rat} {bs cs : List Rat} (hl : bs.length = cs.length) (h : ∀ i, i ∉ ls → bs[i]? = cs[i]?) : put ls x bs = put ls x cs := by
  apply List.ext_getElem?
  intro i
  by_cases c : i < bs.length
  · rw [put_get (List.getElem?_eq_getElem c), put_get (List.getElem?_eq_getElem (show i < cs.length by omega))]
    by_cases d : i ∈ ls
    · rw [if_pos d, if_pos d]
    · have := h i d
      rw [List.getElem?_eq_getElem c, List.getElem?_eq_getElem (show i < cs.length by omega)] at this
      rw [if_neg d, if_neg d]
      exact this
  · rw [List.getElem?_eq_none (by rw [put_len]; omega), List.getElem?_eq_none (by rw [put_len]; omega)]
theorem outB_agree {t : Tm} {ws bs cs : List Rat} {ls : List Nat} (hl : bs.length = cs.length) (h : ∀ i, i ∉ ls → bs[i]? = cs[i]?) : outB t ws bs ls = outB t ws cs ls := by
  unfold outB
  rw [put_agree hl h, put_agree hl h]
end CB

set_option Elab.async false
set_option linter.all false
set_option maxRecDepth 100000
set_option maxHeartbeats 4000000
namespace CB
open PySem PySem.Spec PyProof.Rows L2
open C8 (Cal Met Mak pe_c pe_mk pe_mt pe_mt0 pe_gc CalAt)
section
variable {P : Program} {w : World} {K : PySem.W.Frag} {mg : Str → Option Value} {base : Heap}
abbrev n_replaced : List Str := ["bids", "lot", "bid", "person", "elder"]
theorem sc_replaced : FnScope ["bids", "lot", "bid", "person", "elder"] ["bids", "lot", "bid"] (defScope s_replaced) := ⟨rfl, rfl, rfl, by decide +kernel, rfl, by decide +kernel, by decide +kernel⟩
def sp_replaced (K : PySem.W.Frag) : Sp := fun vs H Q _ => ∃ (a b : Addr) (v : V) (us : List V) (bs : List Rat) (ps : List Nat) (q : Rat), vs = [.ref a, .ref b, v] ∧ SqT K H a us ∧ RQ K H us bs ∧ bs.length ≤ 6 ∧ (SqL K H b (pV ps) ∨ SqT K H b (pV ps)) ∧ RF K H v q ∧
  ∀ (p : Addr) (zs : List V) H', Same H H' → SqT K H' p zs → RQ K H' zs (put ps q bs) → Q (.ref p) H'
theorem ok_replaced (F : FnD K mg "replaced" s_replaced) (T_tuple : mg "tuple" = none) (T_enumerate : mg "enumerate" = none) : Cal P w K mg base 1 "replaced" (sp_replaced K) [] := by
  refine calOf F sc_replaced (fun _ _ _ _ _ _ us hl => match us, hl with | [_, _, _], _ => rfl) (fun vs H Q E h => ?_) (fun cdv f A outer s H vs Q E hr h => ?_)
  · obtain ⟨_, _, _, _, _, _, _, rfl, _⟩ := h
    rfl
  · obtain ⟨a, b, v, us, bs, ps, q, rfl, ha, hu, hn, hb, rv, k⟩ := h
    have ul : us.length = bs.length := RQ.length hu
    refine ⟨_, (pss_one (ps_ret (pe_callTy call_tuple_of (by rfl) T_tuple (by decide +kernel) (pa_cons (pe_lc (own := [("person", 3), ("elder", 4)]) (g := (gTup K 2 (gCons (gName 3) (gCons (gName 4) gNil)))) (te := tIf (tTest (tOp (rIn K false) (tVar 3) (tVar 1))) (tVar 2) (tVar 4)) (by rfl) sc_replaced.nd (pi_enumT (by rfl) T_enumerate (pa_cons (pv 0) pa_nil)) (blkOk_by (own := [("person", 3), ("elder", 4)]) (N := ["bids", "lot", "bid", "person", "elder"]) (sc := defScope s_replaced) (by decide +kernel)) (fun _ _ _ _ _ => (pg_tup rfl (pgs_cons (pg_name (i := 3) sc_replaced.nd rfl (Or.inl rfl)) (pgs_cons (pg_name (i := 4) sc_replaced.nd rfl (Or.inl rfl)) pgs_nil)))) (fun _ _ _ _ _ => pts_nil) (fun _ _ _ _ _ => (pe_ifExp (pt_cmpR op_in_seq (pv 3) (pv 1) rfl) (pv 2) (pv 4)))) pa_nil)))), ?_⟩
    refine ⟨_, rfl, a, us, rfl, ha, fun D hD => ?_⟩
    refine it_enumT (K := K) (a := a) (xs := us) (fun i H' => ∃ zs : List V, H' D = some (.lst zs) ∧ RQ K H' zs ((put ps q bs).take i) ∧ Same H H')
      ⟨[], upd_same, by rw [List.take_zero]; exact .nil, same_new hD⟩ (fun i H' ⟨_, _, _, s5⟩ => (Same.kt s5).sq ha) ?_ ?_
    · rintro i x T H' hx ⟨zs, g1, g2, g3⟩ hT
      obtain ⟨e, he, re⟩ := hu.getV hx
      have il := (List.getElem?_eq_some_iff.mp he).1
      have sT := same_new (o := .tup [.int ((i : Nat) : Int), x]) hT
      have hbT : SqL K (upd H' T (.tup [.int ((i : Nat) : Int), x])) b (pV ps) ∨ SqT K (upd H' T (.tup [.int ((i : Nat) : Int), x])) b (pV ps) := hb.imp (fun h => (g3.trans sT).seq h) fun h => (Same.kt (g3.trans sT)).sq h
      have kT := Same.kt (g3.trans sT)
      have zl : zs.length ≤ 6 := by rw [RQ.length g2, List.length_take, put_len]; omega
      have fin : ∀ (y : V) (z : Rat), RF K (upd H' T (.tup [.int ((i : Nat) : Int), x])) y z → (put ps q bs)[i]? = some z → ∃ acc, (upd H' T (.tup [.int ((i : Nat) : Int), x])) D = some (HO.lst acc) ∧ acc.length < sizeLine ∧ ∃ zs, (upd (upd H' T (.tup [.int ((i : Nat) : Int), x])) D (.lst (acc ++ [y]))) D = some (.lst zs) ∧ RQ K (upd (upd H' T (.tup [.int ((i : Nat) : Int), x])) D (.lst (acc ++ [y]))) zs ((put ps q bs).take (i + 1)) ∧ Same H (upd (upd H' T (.tup [.int ((i : Nat) : Int), x])) D (.lst (acc ++ [y]))) := fun y z ry hz => by
        refine ⟨zs, sT _ _ g1, small1000 (by omega), zs ++ [y], upd_same, ?_, Same.mut (g3.trans sT) hD⟩
        rw [take_succ' hz]
        exact RpAll.mono (KT.updl (sT _ _ g1)) (RQ.snoc (RpAll.mono (Same.kt sT) g2) ry)
      refine ⟨T, _, rfl, SqT.of upd_same, rfl, _, _, rfl, _, _, rfl, rfl, rfl, _, rfl, _, rfl, b, pV ps, rfl, hbT, rfl, pV_flat ps, _, rfl, ?_⟩
      show if inV (.int ((i : Nat) : Int)) (pV ps) = true then _ else _
      rw [pV_in]
      have pg := put_get (ps := ps) (x := q) he
      by_cases c : i ∈ ps
      · rw [decide_eq_true c]
        rw [if_pos c] at pg
        refine iteT ?_
        exact ⟨_, rfl, fin v q (rv.mono kT) pg⟩
      · rw [decide_eq_false c]
        rw [if_neg c] at pg
        refine iteF ?_
        exact ⟨_, rfl, fin x e (re.mono kT) pg⟩
    · rintro H' ⟨zs, g1, g2, g3⟩
      rw [ul, ← put_len ps q bs, List.take_length] at g2
      refine ⟨D, zs, rfl, .inl ⟨SqL.of g1, fun p hp => ?_⟩⟩
      have sp := same_new (o := .tup zs) hp
      exact k p zs _ (g3.trans sp) (SqT.of upd_same) (RpAll.mono (Same.kt sp) g2)
theorem Bids.put {H : Hp} {p : Addr} {zs : List V} {n s : Nat} {ps : List Nat} {q : Rat} {bs : List Rat} (h : SqT K H p zs) (r : RQ K H zs (put ps q bs)) (hl : bs.length = n) (hq : NumOk s q) (hb : ∀ x ∈ bs, NumOk s x) : Bids K H p n s (put ps q bs) :=
  ⟨zs, h, r, by rw [put_len, hl], fun x hx => by rcases put_mem hx with e | e
                                                 · rw [e]; exact hq
                                                 · exact hb x e⟩
def sp_mixed (K : PySem.W.Frag) : Sp := fun vs H Q _ => ∃ (a b c : Addr) (us uh : List V) (lo hi : List Rat) (ps : List Nat), vs = [.ref a, .ref b, .ref c] ∧ SqT K H a us ∧ RQ K H us lo ∧ SqT K H b uh ∧ RQ K H uh hi ∧ lo.length ≤ 6 ∧ hi.length = lo.length ∧ (SqL K H c (pV ps) ∨ SqT K H c (pV ps)) ∧
  ∀ (p : Addr) (zs : List V) H', Same H H' → SqT K H' p zs → RQ K H' zs (mix lo hi ps) → Q (.ref p) H'
theorem Bids.mix {H : Hp} {p : Addr} {zs : List V} {n s : Nat} {ps : List Nat} {lo hi : List Rat} (h : SqT K H p zs) (r : RQ K H zs (mix lo hi ps)) (hl : lo.length = n) (hh : hi.length = n) (h1 : ∀ x ∈ lo, NumOk s x) (h2 : ∀ x ∈ hi, NumOk s x) : Bids K H p n s (mix lo hi ps) :=
  ⟨zs, h, r, by rw [mix_len, hl], fun x hx => (mix_mem (hh.trans hl.symm) hx).elim (h2 x) (h1 x)⟩
theorem nok_zero {s : Nat} (h : 1 ≤ s) : NumOk s 0 := ⟨by decide, by decide, Nat.two_pow_pos _, by show (1 : Nat) < 2 ^ s; exact Nat.one_lt_two_pow (by omega)⟩
theorem nok_one {s : Nat} (h : 1 ≤ s) : NumOk s 1 := ⟨by decide, by decide, by show (1 : Nat) < 2 ^ s; exact Nat.one_lt_two_pow (by omega), by show (1 : Nat) < 2 ^ s; exact Nat.one_lt_two_pow (by omega)⟩
def sp_settled (K : PySem.W.Frag) (C : Addr) : Sp := fun vs H Q _ => ∃ (vt : V) (a b b2 l x dx : Addr) (n s z : Nat) (t : Tm) (ws lo hi : List Rat) (ls : List Nat), vs = [vt, .ref a, .ref b, .ref b2, .ref l, .ref x] ∧ Rp K H vt t.data ∧ t.Ok n s ∧ 1 ≤ s ∧ s ≤ 9000 ∧ t.dep ≤ 8 ∧ t.wt s + 20 ≤ 9000 ∧ n ≤ 6 ∧ z ≤ 9000 ∧
  Bids K H a n z ws ∧ Bids K H b n s lo ∧ Bids K H b2 n s hi ∧ SqT K H l (pV ls) ∧ (∀ p ∈ ls, p < n) ∧ ls.length ≤ 6 ∧ H x = some (.ins C dx []) ∧ ∀ v H', Same H H' → RF K H' v (outM t ws lo hi ls) → Q v H'
def sp_settled_between (K : PySem.W.Frag) (C : Addr) : Sp := fun vs H Q _ => ∃ (r a b b2 : Addr) (n s z : Nat) (t : Tm) (ws lo hi : List Rat), vs = [.ref r, .ref a, .ref b, .ref b2] ∧ RuleAt K C H r n t ∧ t.Ok n s ∧ 1 ≤ s ∧ s ≤ 9000 ∧ t.dep ≤ 8 ∧ t.wt s + 20 ≤ 9000 ∧ n ≤ 6 ∧ z ≤ 9000 ∧ Bids K H a n z ws ∧ Bids K H b n s lo ∧ Bids K H b2 n s hi ∧
  ∀ v H', Same H H' → RF K H' v (outM t ws lo hi (List.range n)) → Q v H'
theorem repZ_ok {a : Addr} {v : V} {n : Nat} {H : Hp} {Q : VK} (h : SqT K H a [v]) (h1 : 1 ≤ n) (h6 : n ≤ 6) (q : ∀ p H', Same H H' → SqT K H' p (List.replicate n v) → Q (.ref p) H') : rRepN K (.ref a) (.int (n : Int)) H Q := by
  refine ⟨a, n, [v], rfl, rfl, h, by simp, h1, by omega, by show 1 ≤ 1000; decide, fun e => ?_, fun _ p hp => ?_⟩
  · exact q a H (Same.refl H) (by rw [e]; exact h)
  · rw [show (List.replicate n [v]).flatten = List.replicate n v by simp]
    exact q p _ (same_new hp) (SqT.of upd_same)
theorem rq_repl {H : Hp} {v : V} {q : Rat} (h : RF K H v q) : ∀ n : Nat, RQ K H (List.replicate n v) (List.replicate n q)
  | 0 => .nil
  | n + 1 => .cons h.rp (rq_repl h n)
theorem Bids.repl {H : Hp} {p : Addr} {v : V} {q : Rat} {n s : Nat} (h : SqT K H p (List.replicate n v)) (r : RF K H v q) (hq : NumOk s q) : Bids K H p n s (List.replicate n q) :=
  ⟨_, h, rq_repl r n, List.length_replicate, fun x hx => by rw [(List.mem_replicate.mp hx).2]; exact hq⟩
def sp_outcome_of (K : PySem.W.Frag) (C : Addr) : Sp := fun vs H Q _ => ∃ (r a : Addr) (n s z : Nat) (t : Tm) (ws : List Rat), vs = [.ref r, .ref a] ∧ RuleAt K C H r n t ∧ t.Ok n s ∧ 1 ≤ s ∧ s ≤ 9000 ∧ t.dep ≤ 8 ∧ t.wt s + 20 ≤ 9000 ∧ 1 ≤ n ∧ n ≤ 6 ∧ z ≤ 9000 ∧ Bids K H a n z ws ∧
  ∀ v H', Same H H' → RF K H' v (outc t n ws) → Q v H'
def sp_need_wishes (K : PySem.W.Frag) (C : Addr) : Sp := fun vs H Q _ => ∃ (r a : Addr) (n s : Nat) (t : Tm) (bs : List Rat), vs = [.ref r, .ref a] ∧ RuleAt K C H r n t ∧ Bids K H a n s bs ∧ n ≤ 6 ∧ ∀ H', Same H H' → Q .non H'
abbrev n__law_at_ends : List Str := ["_law_people_here", "_law_lot", "_law_person"]
theorem sc__law_at_ends : FnScope ["_law_people_here", "_law_lot", "_law_person"] ["_law_people_here", "_law_lot"] (defScope s__law_at_ends) := ⟨rfl, rfl, rfl, by decide +kernel, rfl, by decide +kernel, by decide +kernel⟩
def ends (n : Nat) (ps : List Nat) : List Rat := put ps 1 (List.replicate n 0)
def sp__law_at_ends (K : PySem.W.Frag) : Sp := fun vs H Q _ => ∃ (b : Addr) (n : Nat) (ps : List Nat), vs = [.int (n : Int), .ref b] ∧ n ≤ 6 ∧ SqT K H b (pV ps) ∧ ∀ (p : Addr) H', Same H H' → Bids K H' p n 1 (ends n ps) → Q (.ref p) H'
theorem ok__law_at_ends (F : FnD K mg "_law_at_ends" s__law_at_ends) (T_tuple : mg "tuple" = none) (T_range : mg "range" = none) : Cal P w K mg base 1 "_law_at_ends" (sp__law_at_ends K) [] := by
  refine calOf F sc__law_at_ends (fun _ _ _ _ _ _ us hl => match us, hl with | [_, _], _ => rfl) (fun vs H Q E h => ?_) (fun cdv f A outer s H vs Q E hr h => ?_)
  · obtain ⟨_, _, _, rfl, _⟩ := h
    rfl
  · obtain ⟨b, n, ps, rfl, hn, hb, k⟩ := h
    refine ⟨_, (pss_one (ps_ret (pe_callTy call_tuple_of (by rfl) T_tuple (by decide +kernel) (pa_cons (pe_lc (own := [("_law_person", 2)]) (te := tIf (tTest (tOp (rIn K false) (tVar 2) (tVar 1))) (tTup (tCons (tC (.int 1)) (tCons (tC (.int 1)) tNil))) (tTup (tCons (tC (.int 0)) (tCons (tC (.int 1)) tNil)))) (by rfl) sc__law_at_ends.nd (pi_range1 (by rfl) T_range (pa_cons (pv 0) pa_nil)) (blkOk_by (own := [("_law_person", 2)]) (N := ["_law_people_here", "_law_lot", "_law_person"]) (sc := defScope s__law_at_ends) (by decide +kernel)) (fun _ _ _ _ _ => (pg_name (i := 2) sc__law_at_ends.nd rfl (Or.inl rfl))) (fun _ _ _ _ _ => pts_nil) (fun _ _ _ _ _ => (pe_ifExp (pt_cmpR op_in_seq (pv 2) (pv 1) rfl) (pe_tup (pa_cons pe_int (pa_cons pe_int pa_nil))) (pe_tup (pa_cons pe_int (pa_cons pe_int pa_nil)))))) pa_nil)))), ?_⟩
    refine ⟨_, rfl, _, rfl, by omega, by omega, fun D hD => ?_⟩
    refine lc_range (lo := 0) (n := ((n : Nat) : Int).toNat) (fun i H' => ∃ zs : List V, H' D = some (.lst zs) ∧ RQ K H' zs ((ends n ps).take i) ∧ Same H H')
      ⟨[], upd_same, by rw [List.take_zero]; exact .nil, same_new hD⟩ ?_ ?_
    · rintro i H' hi ⟨zs, g1, g2, g3⟩
      have il : i < n := by omega
      have hg : (ends n ps)[i]? = some (if i ∈ ps then 1 else 0) := put_get (by rw [List.getElem?_replicate, if_pos il])
      have ei : (0 : Int) + ((i : Nat) : Int) = ((i : Nat) : Int) := Int.zero_add _
      have zl : zs.length ≤ 6 := by rw [RQ.length g2, List.length_take]; unfold ends; rw [put_len, List.length_replicate]; omega
      rw [ei]
      refine ⟨rfl, _, rfl, _, rfl, b, pV ps, rfl, .inr ((Same.kt g3).sq hb), rfl, pV_flat ps, _, rfl, ?_⟩
      show if inV (.int ((i : Nat) : Int)) (pV ps) = true then _ else _
      rw [pV_in]
      have fin : ∀ (T : Addr) (z : Int), H' T = none → RF K (upd H' T (.tup [.int z, .int 1])) (.ref T) (if i ∈ ps then 1 else 0) → ∃ acc, (upd H' T (.tup [.int z, .int 1])) D = some (HO.lst acc) ∧ acc.length < sizeLine ∧ ∃ zs, (upd (upd H' T (.tup [.int z, .int 1])) D (.lst (acc ++ [.ref T]))) D = some (.lst zs) ∧ RQ K (upd (upd H' T (.tup [.int z, .int 1])) D (.lst (acc ++ [.ref T]))) zs ((ends n ps).take (i + 1)) ∧ Same H (upd (upd H' T (.tup [.int z, .int 1])) D (.lst (acc ++ [.ref T]))) := fun T z hT ry => by
        have sT := same_new (o := .tup [.int z, .int 1]) hT
        refine ⟨zs, sT _ _ g1, small1000 (by omega), zs ++ [.ref T], upd_same, ?_, Same.mut (g3.trans sT) hD⟩
        rw [take_succ' hg]
        exact RpAll.mono (KT.updl (sT _ _ g1)) (RQ.snoc (RpAll.mono (Same.kt sT) g2) ry)
      by_cases c : i ∈ ps
      · rw [decide_eq_true c]
        refine iteT ?_
        exact ⟨(by show 2 ≤ sizeLine; decide), fun T hT => fin T 1 hT (by rw [if_pos c]; exact ⟨T, rfl, SqT.of upd_same⟩)⟩
      · rw [decide_eq_false c]
        refine iteF ?_
        exact ⟨(by show 2 ≤ sizeLine; decide), fun T hT => fin T 0 hT (by rw [if_neg c]; exact zero_rf (SqT.of upd_same))⟩
    · rintro H' ⟨zs, g1, g2, g3⟩
      have el : (ends n ps).length = n := by unfold ends; rw [put_len, List.length_replicate]
      rw [Int.toNat_natCast, show (ends n ps).take n = ends n ps from List.take_of_length_le (by omega)] at g2
      refine ⟨D, zs, rfl, .inl ⟨SqL.of g1, fun p hp => ?_⟩⟩
      have sp := same_new (o := .tup zs) hp
      exact k p _ (g3.trans sp) ⟨zs, SqT.of upd_same, RpAll.mono (Same.kt sp) g2, el, fun x hx => by
        rcases put_mem hx with e | e
        · rw [e]; exact nok_one (Nat.le_refl _)
        · rw [(List.mem_replicate.mp e).2]; exact nok_zero (Nat.le_refl _)⟩
abbrev n__law_corner : List Str := ["_law_people_here", "_law_term_here", "_law_lot"]
theorem sc__law_corner : FnScope ["_law_people_here", "_law_term_here", "_law_lot"] ["_law_people_here", "_law_term_here", "_law_lot"] (defScope s__law_corner) := ⟨rfl, rfl, rfl, by decide +kernel, rfl, by decide +kernel, by decide +kernel⟩
def sp__law_corner (K : PySem.W.Frag) : Sp := fun vs H Q _ => ∃ (v : V) (b : Addr) (n s : Nat) (t : Tm) (ps : List Nat), vs = [.int (n : Int), v, .ref b] ∧ n ≤ 6 ∧ SqT K H b (pV ps) ∧ Rp K H v t.data ∧ t.Ok n s ∧ 1 ≤ s ∧ s ≤ 9000 ∧ t.dep ≤ 10 ∧ t.wt s + 20 ≤ 9000 ∧
  ∀ v H', Same H H' → RF K H' v (t.val (ends n ps)) → Sz (t.wt s) (t.val (ends n ps)) → Q v H'
theorem ok__law_corner (F : FnD K mg "_law_corner" s__law_corner) (c__law_value : Cal P w K mg base 13 "_law_value" (spLV K 10) []) (c__law_at_ends : Cal P w K mg base 1 "_law_at_ends" (sp__law_at_ends K) []) : Cal P w K mg base 14 "_law_corner" (sp__law_corner K) [] := by
  refine calOf F sc__law_corner (fun _ _ _ _ _ _ us hl => match us, hl with | [_, _, _], _ => rfl) (fun vs H Q E h => ?_) (fun cdv f A outer s H vs Q E hr h => ?_)
  · obtain ⟨_, _, _, _, _, _, rfl, _⟩ := h
    rfl
  · obtain ⟨v, b, n, sz, t, ps, rfl, hn, hb, rt, ho, hs1, hsz, hdep, hwt, k⟩ := h
    refine ⟨_, (pss_one (ps_ret (pe_c c__law_value hr (by first | decide | omega) rfl (pa_cons (pv 1) (pa_cons (pe_c c__law_at_ends hr (by first | decide | omega) rfl (pa_cons (pv 0) (pa_cons (pv 2) pa_nil))) pa_nil))))), ?_⟩
    refine ⟨_, rfl, _, rfl, _, rfl, b, n, ps, rfl, hn, hb, fun p H1 s1 hB => ?_⟩
    obtain ⟨us, e1, e2, e3, e4⟩ := hB
    have e5 : ∀ q ∈ ends n ps, NumOk sz q := fun q h => (e4 q h).mono hs1
    exact ⟨v, p, n, sz, ends n ps, t, rfl, rt.mono (Same.kt s1), ho, hsz, hdep, hwt, ⟨us, e1, e2, e3, e5⟩, fun v' H2 s2 r2 => k v' H2 (s1.trans s2) r2 (val_sz (fun q h => (e5 q h).2.2) e3 ho)⟩
end
end CB

set_option Elab.async false
set_option linter.all false
set_option maxRecDepth 100000
set_option maxHeartbeats 4000000
namespace CB
open PySem PySem.Spec PyProof.Rows L2
open C8 (Cal Met Mak pe_c pe_mk pe_mt pe_mt0 pe_gc CalAt)
section
variable {P : Program} {w : World} {K : PySem.W.Frag} {mg : Str → Option Value} {base : Heap}
theorem catP_ok {a b : Addr} {xs ys : List V} {H : Hp} {Q : VK} (ha : SqT K H a xs) (hb : SqT K H b ys) (hl : xs.length + ys.length < 1000) (q : ∀ p H', Same H H' → SqT K H' p (xs ++ ys) → Q (.ref p) H') : rCatA K (.ref a) (.ref b) H Q := by
  refine ⟨a, b, xs, ys, rfl, rfl, ha, hb, Nat.le_of_lt (small1000 (by omega)), fun e => ?_, fun _ e => ?_, fun _ _ p hp => q p _ (same_new hp) (SqT.of upd_same)⟩
  · exact q b H (Same.refl H) (by rw [e]; exact hb)
  · exact q a H (Same.refl H) (by rw [e, List.append_nil]; exact ha)
abbrev n__law_by_size : List Str := ["_law_lots_here", "_law_found", "_law_size", "_law_lot"]
theorem sc__law_by_size : FnScope ["_law_lots_here", "_law_found", "_law_size", "_law_lot"] ["_law_lots_here"] (defScope s__law_by_size) := ⟨rfl, rfl, rfl, by decide +kernel, rfl, by decide +kernel, by decide +kernel⟩
def sp__law_by_size (K : PySem.W.Frag) : Sp := fun vs H Q _ => ∃ (a : Addr) (xs : List V) (n : Nat), vs = [.ref a] ∧ n ≤ 6 ∧ SqL K H a xs ∧ LotsAt K H xs (subs n) ∧
  ∀ (p : Addr) (ys : List V) (L : List (List Nat)) H', Same H H' → H p = none → H' p = some (.lst ys) → LotsAt K H' ys L → L.Perm (subs n) → LotsBy L → Q (.ref p) H'
theorem none_back {H H' : Hp} {p : Addr} (e : Same H H') (h : H' p = none) : H p = none := by
  cases c : H p with
  | none => rfl
  | some o => rw [e _ _ c] at h; cases h
theorem filt_succ {L : List (List Nat)} {i : Nat} : (L.filter fun l => decide (l.length < i + 1)).Perm ((L.filter fun l => decide (l.length < i)) ++ L.filter fun l => decide (l.length = i)) := by
  induction L with
  | nil => exact List.Perm.refl _
  | cons l L ih =>
    by_cases c : l.length < i
    · rw [List.filter_cons_of_pos (by simp; omega), List.filter_cons_of_pos (by simp; omega), List.filter_cons_of_neg (by simp; omega)]
      exact ih.cons _
    · by_cases d : l.length = i
      · rw [List.filter_cons_of_pos (by simp; omega), List.filter_cons_of_neg (by simp; omega), List.filter_cons_of_pos (by simp; omega)]
        exact (ih.cons _).trans List.perm_middle.symm
      · rw [List.filter_cons_of_neg (by simp; omega), List.filter_cons_of_neg (by simp; omega), List.filter_cons_of_neg (by simp; omega)]
        exact ih
theorem ok__law_by_size (F : FnD K mg "_law_by_size" s__law_by_size) (T_len : mg "len" = none) (T_range : mg "range" = none) (T_sorted : mg "sorted" = none) : Cal P w K mg base 1 "_law_by_size" (sp__law_by_size K) [] := by
  refine calOf F sc__law_by_size (fun _ _ _ _ _ _ us hl => match us, hl with | [_], _ => rfl) (fun vs H Q E h => ?_) (fun cdv f A outer s H vs Q E hr h => ?_)
  · obtain ⟨_, _, _, rfl, _⟩ := h
    rfl
  · obtain ⟨a, xs, n, rfl, hn, hS, hL, k⟩ := h
    have xl : xs.length = 2 ^ n := by rw [hL.length, subs_len]
    have p2 : 2 ^ n ≤ 64 := Nat.le_trans (Nat.pow_le_pow_right (by omega) hn) (show 2 ^ 6 ≤ 64 by decide)
    have n2 : n < 2 ^ n := Nat.lt_two_pow_self
    refine ⟨_, (pss_cons (ps_set (i := 1) sc__law_by_size.nd rfl (Or.inl rfl) (pe_lst pa_nil))
    (pss_cons (ps_for PassesOwn.never rfl (pi_range1 (by rfl) T_range (pa_cons (pe_callB call_len_seq (by rfl) T_len PySem.boot_len (pa_cons (pv 0) pa_nil)) pa_nil)) (pg_name (i := 2) sc__law_by_size.nd rfl (Or.inr rfl)) (pss_one (ps_set (i := 1) sc__law_by_size.nd rfl (Or.inl rfl) (pe_op op_cat (pv 1) (pe_callB (cr_sortL (B := 64)) (by rfl) T_sorted (by decide +kernel) (pa_cons (pe_lc (own := [("_law_lot", 3)]) (tt := tTest (tOp rEq (tCB (fun xs H Q => ∃ p ys, xs = [.ref p] ∧ (SqL K H p ys ∨ SqT K H p ys) ∧ Q (.int ys.length) H) (tCons (tVar 3) tNil)) (tVar 2))) (by rfl) sc__law_by_size.nd (pi_list (pv 0)) (blkOk_by (own := [("_law_lot", 3)]) (N := ["_law_lots_here", "_law_found", "_law_size", "_law_lot"]) (sc := defScope s__law_by_size) (by decide +kernel)) (fun _ _ _ _ _ => (pg_name (i := 3) sc__law_by_size.nd rfl (Or.inl rfl))) (fun _ _ _ _ _ => (pts_one (pt_cmpR op_eq (pe_callB call_len_seq (by rfl) T_len PySem.boot_len (pa_cons (pv 3) pa_nil)) (pv 2) (nomark _)))) (fun _ _ _ _ _ => (pv 3))) pa_nil))))))
    (pss_one (ps_ret (pv 1))))), ?_⟩
    refine ⟨Nat.zero_le _, fun p0 hp0 => ?_⟩
    have s0 := same_new (o := .lst []) hp0
    refine ⟨_, rfl, a, xs, rfl, .inl (s0.seq hS), _, rfl, by omega, by omega, ?_⟩
    refine for_range (lo := 0) (n := ((xs.length : Nat) : Int).toNat) (fun i σ H' => ∃ (p : Addr) (ys : List V) (L : List (List Nat)) (x2 x3 : Option V), σ = [some (.ref a), some (.ref p), x2, x3] ∧ Same H H' ∧ H p = none ∧ H' p = some (.lst ys) ∧ LotsAt K H' ys L ∧ L.Perm ((subs n).filter fun l => decide (l.length < i)) ∧ LotsBy L)
      ⟨p0, [], [], none, none, rfl, s0, hp0, upd_same, .nil, by rw [List.filter_eq_nil_iff.mpr (by simp)], .nil⟩ ?_ ?_
    · rintro i σ H1 hi ⟨p, ys, L, _, _, rfl, s1, g0, g1, g2, g3, g4⟩
      have il : i < 64 := by omega
      have few := subs_few n hn i il
      rw [show (0 : Int) + (i : Int) = (i : Int) by omega]
      refine ⟨_, rfl, _, rfl, a, rfl, ⟨_, s1.seq hS⟩, fun D hD => ?_⟩
      have sD := same_new (o := .lst []) hD
      refine it_list (K := K) (a := a) (xs := xs) (fun j H' => ∃ zs, H' D = some (.lst zs) ∧ LotsAt K H' zs (((subs n).take j).filter fun l => decide (l.length = i)) ∧ Same H1 H')
        ⟨[], upd_same, by rw [List.take_zero]; exact .nil, sD⟩ (fun j H' ⟨_, _, _, s5⟩ => (s1.trans s5).seq hS) ?_ ?_
      · rintro j x H2 hx ⟨zs, f1, f2, f3⟩
        have s2 := s1.trans f3
        obtain ⟨l, hl, ⟨t, rfl, tl⟩⟩ := (hL.mono (Same.kt s2)).getV hx
        have tk := take_succ' hl
        have zl : zs.length ≤ 64 := by
          rw [f2.length]
          refine Nat.le_trans (List.length_filter_le _ _) ?_
          rw [List.length_take, subs_len]
          omega
        refine ⟨rfl, _, rfl, t, _, rfl, .inr tl, _, rfl, rfl, _, rfl, ?_⟩
        rw [List.length_map, pI, List.length_map]
        show if decide (V.int ((l.length : Nat) : Int) = V.int (i : Int)) = true then _ else _
        by_cases c : l.length = i
        · rw [decide_eq_true (by rw [c])]
          refine iteT ?_
          refine ⟨_, rfl, _, f1, small1000 (by omega), zs ++ [.ref t], upd_same, ?_, Same.mut f3 hD⟩
          rw [tk, List.filter_append, List.filter_cons_of_pos (by simp [c]), List.filter_nil]
          exact (f2.snoc ⟨t, rfl, tl⟩).mono (KT.updl f1)
        · have c' : ¬ (V.int ((l.length : Nat) : Int) = V.int (i : Int)) := by
            intro e
            injection e with e
            omega
          rw [decide_eq_false c']
          refine iteF ⟨zs, f1, ?_, f3⟩
          rw [tk, List.filter_append, List.filter_cons_of_neg (by simp [c]), List.filter_nil, List.append_nil]
          exact f2
      · rintro H2 ⟨zs, f1, f2, f3⟩
        rw [xl, ← subs_len n, List.take_length] at f2
        have zl := f2.length
        refine ⟨D, zs, i, rfl, SqL.of f1, by omega, fun x hx => ?_, fun e => by rw [zl]; exact few.2 e, fun us q pu ou hq => ?_⟩
        · obtain ⟨l, hl, tl⟩ := f2.memV hx
          have hl2 := List.mem_filter.mp hl
          exact ⟨_, tl, by rw [pI, List.length_map]; exact of_decide_eq_true hl2.2, pI_bd (subs_lt hl2.1) hn⟩
        · obtain ⟨M, m1, m2⟩ := f2.perm pu.symm
          have om := m2.pairs ou
          have sq := same_new (o := .lst us) hq
          have s12 := f3.trans sq
          have g1' := s12 _ _ g1
          have Ll : ys.length + us.length ≤ 128 := by
            rw [g2.length, g3.length_eq, pu.length_eq, zl]
            have := List.length_filter_le (fun l : List Nat => decide (l.length < i)) (subs n)
            have := subs_len n
            omega
          refine ⟨p, q, ys, us, rfl, rfl, g1', upd_same, Nat.le_of_lt (small1000 (by omega)), fun r hr => ?_⟩
          have sr := same_new (o := .lst (ys ++ us)) hr
          refine ⟨r, ys ++ us, L ++ M, _, _, rfl, s1.trans (s12.trans sr), none_back (s1.trans s12) hr, upd_same, (g2.mono (Same.kt (s12.trans sr))).append ((m2.mono (Same.kt (sq.trans sr)))), ?_, ?_⟩
          · exact (g3.append m1.symm).trans filt_succ.symm
          · refine List.pairwise_append.mpr ⟨g4, ?_, fun x hx y hy => ?_⟩
            · refine List.Pairwise.imp_of_mem (fun {x y} hx hy h => .inr ⟨?_, h⟩) om
              have a1 := of_decide_eq_true (List.mem_filter.mp (m1.mem_iff.mpr hx)).2
              have a2 := of_decide_eq_true (List.mem_filter.mp (m1.mem_iff.mpr hy)).2
              omega
            · have a1 := of_decide_eq_true (List.mem_filter.mp (g3.mem_iff.mp hx)).2
              have a2 := of_decide_eq_true (List.mem_filter.mp (m1.mem_iff.mpr hy)).2
              left
              omega
    · rintro σ H1 ⟨p, ys, L, _, _, rfl, s1, g0, g1, g2, g3, g4⟩
      refine ⟨_, rfl, k p ys L H1 s1 g0 g1 g2 ?_ g4⟩
      have e : ((subs n).filter fun l => decide (l.length < ((xs.length : Nat) : Int).toNat)) = subs n := List.filter_eq_self.mpr fun l hl => by
        have := subs_size hl
        exact decide_eq_true (by omega)
      rw [e] at g3
      exact g3
abbrev n__law_lots : List Str := ["_law_people_here", "_law_found", "_law_person", "_law_lot"]
theorem sc__law_lots : FnScope ["_law_people_here", "_law_found", "_law_person", "_law_lot"] ["_law_people_here"] (defScope s__law_lots) := ⟨rfl, rfl, rfl, by decide +kernel, rfl, by decide +kernel, by decide +kernel⟩
def sp__law_lots (K : PySem.W.Frag) : Sp := fun vs H Q _ => ∃ n : Nat, vs = [.int (n : Int)] ∧ n ≤ 6 ∧ ∀ (p : Addr) (ys : List V) (L : List (List Nat)) H', Same H H' → H p = none → H' p = some (.lst ys) → LotsAt K H' ys L → L.Perm (subs n) → LotsBy L → Q (.ref p) H'
theorem ok__law_lots (F : FnD K mg "_law_lots" s__law_lots) (c__law_by_size : Cal P w K mg base 1 "_law_by_size" (sp__law_by_size K) []) (T_range : mg "range" = none) : Cal P w K mg base 2 "_law_lots" (sp__law_lots K) [] := by
  refine calOf F sc__law_lots (fun _ _ _ _ _ _ us hl => match us, hl with | [_], _ => rfl) (fun vs H Q E h => ?_) (fun cdv f A outer s H vs Q E hr h => ?_)
  · obtain ⟨_, rfl, _⟩ := h
    rfl
  · obtain ⟨n, rfl, hn, k⟩ := h
    refine ⟨_, (pss_cons (ps_set (i := 1) sc__law_lots.nd rfl (Or.inl rfl) (pe_lst (pa_cons (pe_tup pa_nil) pa_nil)))
    (pss_cons (ps_for PassesOwn.never rfl (pi_range1 (by rfl) T_range (pa_cons (pv 0) pa_nil)) (pg_name (i := 2) sc__law_lots.nd rfl (Or.inr rfl)) (pss_one (ps_set (i := 1) sc__law_lots.nd rfl (Or.inl rfl) (pe_op op_cat (pv 1) (pe_lc (own := [("_law_lot", 3)]) (te := tOp (rCatA K) (tVar 3) (tTup (tCons (tVar 2) tNil))) (by rfl) sc__law_lots.nd (pi_list (pv 1)) (blkOk_by (own := [("_law_lot", 3)]) (N := ["_law_people_here", "_law_found", "_law_person", "_law_lot"]) (sc := defScope s__law_lots) (by decide +kernel)) (fun _ _ _ _ _ => (pg_name (i := 3) sc__law_lots.nd rfl (Or.inl rfl))) (fun _ _ _ _ _ => pts_nil) (fun _ _ _ _ _ => (pe_op op_catA (pv 3) (pe_tup (pa_cons (pv 2) pa_nil)))))))))
    (pss_one (ps_ret (pe_c c__law_by_size hr (by first | decide | omega) rfl (pa_cons (pv 1) pa_nil)))))), ?_⟩
    refine ⟨Nat.zero_le _, fun pe hpe => ⟨(by show 1 ≤ sizeLine; decide), fun p0 hp0 => ?_⟩⟩
    have se := same_new (o := .tup []) hpe
    have s0 := same_new (o := .lst [.ref pe]) hp0
    refine ⟨_, rfl, _, rfl, by omega, by omega, ?_⟩
    refine for_range (lo := 0) (n := ((n : Nat) : Int).toNat) (fun i σ H' => ∃ (p : Addr) (ys : List V) (x2 x3 : Option V), σ = [some (.int (n : Int)), some (.ref p), x2, x3] ∧ Same H H' ∧ H' p = some (.lst ys) ∧ LotsAt K H' ys (subs i))
      ⟨p0, _, none, none, rfl, se.trans s0, upd_same, .cons ⟨pe, rfl, (Same.kt s0).sq (SqT.of upd_same)⟩ .nil⟩ ?_ ?_
    · rintro i σ H1 hi ⟨p, ys, _, _, rfl, s1, g1, g2⟩
      have il : i < 6 := by omega
      have yl : ys.length = 2 ^ i := by rw [g2.length, subs_len]
      have p2 : 2 ^ i ≤ 32 := Nat.le_trans (Nat.pow_le_pow_right (by omega) (show i ≤ 5 by omega)) (show 2 ^ 5 ≤ 32 by decide)
      rw [show (0 : Int) + (i : Int) = (i : Int) by omega]
      refine ⟨_, rfl, _, rfl, p, rfl, ⟨_, SqL.of g1⟩, fun D hD => ?_⟩
      have sD := same_new (o := .lst []) hD
      refine it_list (K := K) (a := p) (xs := ys) (fun j H' => ∃ zs, H' D = some (.lst zs) ∧ LotsAt K H' zs (((subs i).take j).map fun l => l ++ [i]) ∧ Same H1 H')
        ⟨[], upd_same, by rw [List.take_zero]; exact .nil, sD⟩ (fun j H' ⟨_, _, _, s5⟩ => s5.seq (SqL.of g1)) ?_ ?_
      · rintro j x H2 hx ⟨zs, f1, f2, f3⟩
        obtain ⟨l, hl, ⟨t, rfl, tl⟩⟩ := (g2.mono (Same.kt f3)).getV hx
        have tk := take_succ' hl
        have ll := subs_size (List.mem_of_getElem? hl)
        have zl : zs.length ≤ 64 := by rw [f2.length, List.length_map, List.length_take, subs_len]; omega
        refine ⟨rfl, _, rfl, _, rfl, (by show 1 ≤ sizeLine; decide), fun q hq => ?_⟩
        have sq := same_new (o := .tup [.int (i : Int)]) hq
        refine catP_ok ((Same.kt sq).sq tl) (SqT.of upd_same) (by rw [List.length_map, pI, List.length_map]; show l.length + 1 < 1000; omega) fun r H3 s3 hr' => ?_
        have s23 := sq.trans s3
        refine ⟨zs, s23 _ _ f1, small1000 (by omega), zs ++ [.ref r], upd_same, ?_, Same.mut (f3.trans s23) hD⟩
        rw [tk, List.map_append]
        refine ((f2.mono (Same.kt s23)).snoc ⟨r, rfl, ?_⟩).mono (KT.updl (s23 _ _ f1))
        show SqT K H3 r (pV (l ++ [i]))
        rw [pV_snoc]
        exact hr'
      · rintro H2 ⟨zs, f1, f2, f3⟩
        rw [yl, ← subs_len i, List.take_length] at f2
        refine ⟨p, D, ys, zs, rfl, rfl, f3 _ _ g1, f1, Nat.le_of_lt (small1000 ?_), fun r hr' => ?_⟩
        · rw [f2.length, List.length_map, subs_len, yl]; omega
        · have sr := same_new (o := .lst (ys ++ zs)) hr'
          exact ⟨r, _, _, _, rfl, s1.trans (f3.trans sr), upd_same, (g2.mono (Same.kt (f3.trans sr))).append (f2.mono (Same.kt sr))⟩
    · rintro σ H1 ⟨p, ys, _, _, rfl, s1, g1, g2⟩
      rw [Int.toNat_natCast] at g2
      exact ⟨_, rfl, p, ys, n, rfl, hn, SqL.of g1, g2, fun r us L H2 s2 h0 h1 h2 h3 h4 => k r us L H2 (s1.trans s2) (none_back s1 h0) h1 h2 h3 h4⟩
def sp__law_outcome (K : PySem.W.Frag) : Sp := fun vs H Q _ => ∃ (v : V) (a : Addr) (n s z : Nat) (t : Tm) (ws : List Rat), vs = [.int (n : Int), v, .ref a] ∧ n ≤ 6 ∧ Rp K H v t.data ∧ t.Ok n s ∧ 1 ≤ s ∧ s ≤ 9000 ∧ t.dep ≤ 10 ∧ t.wt s + 20 ≤ 9000 ∧ z ≤ 9000 ∧ Bids K H a n z ws ∧
  ∀ v H', Same H H' → RF K H' v (outc t n ws) → Q v H'
end
end CB

set_option Elab.async false
set_option linter.all false
set_option maxRecDepth 100000
set_option maxHeartbeats 2000000
namespace CB
open PySem PySem.Spec PyProof.Rows L2
theorem qd_lay (q : Rat) : (qd q).canLay0 = true := by simp [qd, PyData.canLay0, PyData.canLayAll0]
theorem qd_depth (q : Rat) : (qd q).depth ≤ 2 := by simp [qd, PyData.depth, PyData.depthAll]
theorem lay_meanD : ∀ (ws : List Int) (ds : List PyData), PyData.canLayAll0 ds = true → PyData.canLayAll0 (meanD ws ds) = true
  | [], ds, _ => by simp [meanD, PyData.canLayAll0]
  | w :: ws, [], _ => by simp [meanD, PyData.canLayAll0]
  | w :: ws, d :: ds, h => by
    simp only [PyData.canLayAll0, Bool.and_eq_true] at h
    have ih := lay_meanD ws ds h.2
    show PyData.canLayAll0 (.tuple [.int w, d] :: meanD ws ds) = true
    simp only [PyData.canLayAll0, PyData.canLay0, Bool.and_eq_true]
    exact ⟨⟨trivial, h.1, trivial⟩, ih⟩
theorem depth_meanD : ∀ (ws : List Int) (ds : List PyData), PyData.depthAll (meanD ws ds) ≤ PyData.depthAll ds + 1
  | [], ds => by simp [meanD, PyData.depthAll]
  | w :: ws, [] => by simp [meanD, PyData.depthAll]
  | w :: ws, d :: ds => by
    have ih := depth_meanD ws ds
    show PyData.depthAll (.tuple [.int w, d] :: meanD ws ds) ≤ _
    simp only [PyData.depthAll, PyData.depth]
    omega
mutual
theorem data_lay : ∀ t : Tm, t.data.canLay0 = true
  | .bid p => by simp [Tm.data, PyData.canLay0, PyData.canLayAll0]; decide +kernel
  | .fixed q => by simp [Tm.data, PyData.canLay0, PyData.canLayAll0, qd_lay]; decide +kernel
  | .mean ws ts => by simp [Tm.data, PyData.canLay0, PyData.canLayAll0, lay_meanD ws _ (datas_lay ts)]; decide +kernel
  | .least ts => by simp [Tm.data, PyData.canLay0, PyData.canLayAll0, datas_lay ts]; decide +kernel
  | .greatest ts => by simp [Tm.data, PyData.canLay0, PyData.canLayAll0, datas_lay ts]; decide +kernel
  | .ranked k ts => by simp [Tm.data, PyData.canLay0, PyData.canLayAll0, datas_lay ts]; decide +kernel
  | .between lo hi t => by simp [Tm.data, PyData.canLay0, PyData.canLayAll0, qd_lay, data_lay t]; decide +kernel
theorem datas_lay : ∀ ts : List Tm, PyData.canLayAll0 (Tm.datas ts) = true
  | [] => by simp [Tm.datas, PyData.canLayAll0]
  | t :: ts => by simp [Tm.datas, PyData.canLayAll0, data_lay t, datas_lay ts]
end
mutual
theorem data_depth : ∀ t : Tm, t.data.depth ≤ 3 * t.dep + 1
  | .bid p => by simp [Tm.data, PyData.depth, PyData.depthAll, Tm.dep]
  | .fixed q => by have := qd_depth q; simp [Tm.data, PyData.depth, PyData.depthAll, Tm.dep]; omega
  | .mean ws ts => by
    have h := datas_depth ts
    have h2 := depth_meanD ws (Tm.datas ts)
    simp only [Tm.data, PyData.depth, PyData.depthAll, Tm.dep]
    omega
  | .least ts => by have h := datas_depth ts; simp only [Tm.data, PyData.depth, PyData.depthAll, Tm.dep]; omega
  | .greatest ts => by have h := datas_depth ts; simp only [Tm.data, PyData.depth, PyData.depthAll, Tm.dep]; omega
  | .ranked k ts => by have h := datas_depth ts; simp only [Tm.data, PyData.depth, PyData.depthAll, Tm.dep]; omega
  | .between lo hi t => by
    have h := data_depth t
    have h1 := qd_depth lo
    have h2 := qd_depth hi
    simp only [Tm.data, PyData.depth, PyData.depthAll, Tm.dep]
    omega
theorem datas_depth : ∀ ts : List Tm, PyData.depthAll (Tm.datas ts) ≤ 3 * Tm.deps ts + 1
  | [] => by simp [Tm.datas, PyData.depthAll]
  | t :: ts => by
    have h1 := data_depth t
    have h2 := datas_depth ts
    simp only [Tm.datas, PyData.depthAll, Tm.deps]
    omega
end
theorem qd_shaped (q : Rat) : SeqAt.shaped (qd q) = true := by
  unfold SeqAt.shaped
  have := qd_depth q
  rw [qd_lay, Bool.true_and]
  exact decide_eq_true (by omega)
theorem data_shaped {t : Tm} (h : t.dep ≤ 20) : SeqAt.shaped t.data = true := by
  unfold SeqAt.shaped
  have := data_depth t
  rw [data_lay, Bool.true_and]
  exact decide_eq_true (by omega)
end CB

set_option Elab.async false
set_option linter.all false
set_option maxRecDepth 100000
set_option maxHeartbeats 4000000
namespace CB
open PySem PySem.Spec PyProof.Rows L2
open C8 (Cal Met Mak pe_c pe_mk pe_mt pe_mt0 pe_gc CalAt)
section
variable {P : Program} {w : World} {K : PySem.W.Frag} {mg : Str → Option Value} {base : Heap}
theorem cut_take {xs : List V} {m : Nat} (h : m ≤ xs.length) : cutV xs none (some (m : Int)) = xs.take m := by
  unfold cutV
  rw [HT.sIx_none, HT.sIx_nat, Nat.min_eq_left h, List.drop_zero, Nat.sub_zero]
theorem cut_drop {xs : List V} {m : Nat} (h : m ≤ xs.length) : cutV xs (some (m : Int)) none = xs.drop m := by
  unfold cutV
  rw [HT.sIx_none, HT.sIx_nat, Nat.min_eq_left h]
  exact List.take_of_length_le (by rw [List.length_drop]; omega)
theorem slA_take {a : Addr} {xs : List V} {m : Nat} {H : Hp} {Q : VK} (h : SqT K H a xs) (hm : m ≤ xs.length) (q : ∀ p H', Same H H' → SqT K H' p (xs.take m) → Q (.ref p) H') : rSlA K (.ref a) none (some (m : Int)) H Q := by
  refine ⟨a, xs, rfl, h, fun z => ?_, fun _ p hp => ?_⟩
  · have z2 := z.2
    rw [HT.sIx_nat, Nat.min_eq_left hm] at z2
    exact q a H (Same.refl H) (by rw [z2, List.take_length]; exact h)
  · rw [cut_take hm]
    exact q p _ (same_new hp) (SqT.of upd_same)
theorem slT_take {a : Addr} {xs : List V} {m : Nat} {H : Hp} {Q : VK} (h : SqT K H a xs) (hm : m < xs.length) (q : ∀ p H', Same H H' → SqT K H' p (xs.take m) → Q (.ref p) H') : rSlT K (.ref a) none (some (m : Int)) H Q := by
  refine ⟨a, xs, rfl, h, fun z => ?_, fun p hp => ?_⟩
  · have z2 := z.2
    rw [HT.sIx_nat, Nat.min_eq_left (Nat.le_of_lt hm)] at z2
    omega
  · rw [cut_take (Nat.le_of_lt hm)]
    exact q p _ (same_new hp) (SqT.of upd_same)
theorem slT_drop {a : Addr} {xs : List V} {m : Nat} {H : Hp} {Q : VK} (h : SqT K H a xs) (h0 : 0 < m) (hm : m ≤ xs.length) (q : ∀ p H', Same H H' → SqT K H' p (xs.drop m) → Q (.ref p) H') : rSlT K (.ref a) (some (m : Int)) none H Q := by
  refine ⟨a, xs, rfl, h, fun z => ?_, fun p hp => ?_⟩
  · have z2 := z.1
    rw [HT.sIx_nat, Nat.min_eq_left hm] at z2
    omega
  · rw [cut_drop hm]
    exact q p _ (same_new hp) (SqT.of upd_same)
theorem catA_ok {a b : Addr} {xs ys : List V} {H : Hp} {Q : VK} (ha : SqT K H a xs) (hb : SqT K H b ys) (hl : xs.length + ys.length < 1000) (q : ∀ p H', Same H H' → SqT K H' p (xs ++ ys) → Q (.ref p) H') : rCatA K (.ref a) (.ref b) H Q := by
  refine ⟨a, b, xs, ys, rfl, rfl, ha, hb, Nat.le_of_lt (small1000 (by omega)), fun e => ?_, fun _ e => ?_, fun _ _ p hp => q p _ (same_new hp) (SqT.of upd_same)⟩
  · exact q b H (Same.refl H) (by rw [e]; exact hb)
  · exact q a H (Same.refl H) (by rw [e, List.append_nil]; exact ha)
theorem repN_ok {a : Addr} {v : V} {n : Nat} {H : Hp} {Q : VK} (h : SqT K H a [v]) (h1 : 1 ≤ n) (h6 : n ≤ 6) (q : ∀ p H', Same H H' → SqT K H' p (List.replicate n v) → Q (.ref p) H') : rRepN K (.ref a) (.int (n : Int)) H Q := by
  refine ⟨a, n, [v], rfl, rfl, h, by simp, h1, by omega, by show 1 ≤ 1000; decide, fun e => ?_, fun _ p hp => ?_⟩
  · exact q a H (Same.refl H) (by rw [e]; exact h)
  · rw [show (List.replicate n [v]).flatten = List.replicate n v by simp]
    exact q p _ (same_new hp) (SqT.of upd_same)
theorem RuleAt.kd {C : Addr} {H H' : Hp} {r : Addr} {n : Nat} {t : Tm} {da : Addr × Addr} (h : RuleAt K C H r n t) (d : Dice H da) (e : KD da.1 H H') : RuleAt K C H' r n t := by
  obtain ⟨dx, v, h1, h2⟩ := h
  obtain ⟨xs, hx⟩ := d.lst
  exact ⟨dx, v, e _ _ (ne_of h1 hx (by intro z; cases z)) h1, h2.mono (d.kt e)⟩
theorem bids_of {H : Hp} {v : V} {qs : List Rat} {n s : Nat} (h : Rp K H v (.tuple (qs.map qd))) (hl : qs.length = n) (hq : ∀ q ∈ qs, NumOk s q) : ∃ a, v = .ref a ∧ Bids K H a n s qs := by
  obtain ⟨a, us, rfl, h1, h2⟩ := h.tupI
  exact ⟨a, rfl, us, h1, h2, hl, hq⟩
mutual
theorem ok_mono {n s s' : Nat} (h : s ≤ s') : ∀ {t : Tm}, t.Ok n s → t.Ok n s'
  | .bid p, ho => ho
  | .fixed q, ho => NumOk.mono ho h
  | .mean ws ts, ho => ⟨ho.1, ho.2.1, ho.2.2.1, ho.2.2.2.1, oks_mono h ho.2.2.2.2⟩
  | .least ts, ho => ⟨ho.1, ho.2.1, oks_mono h ho.2.2⟩
  | .greatest ts, ho => ⟨ho.1, ho.2.1, oks_mono h ho.2.2⟩
  | .ranked k ts, ho => ⟨ho.1, ho.2.1, ho.2.2.1, oks_mono h ho.2.2.2⟩
  | .between lo hi t, ho => ⟨ho.1.mono h, ho.2.1.mono h, ho.2.2.1, ok_mono h ho.2.2.2⟩
theorem oks_mono {n s s' : Nat} (h : s ≤ s') : ∀ {ts : List Tm}, Tm.Oks n s ts → Tm.Oks n s' ts
  | [], _ => trivial
  | t :: ts, ho => ⟨ok_mono h ho.1, oks_mono h ho.2⟩
end
theorem mul_nok {m n : Nat} {q r : Rat} (h : NumOk m q) (g : NumOk n r) : NumOk (m + n) (q * r) := by
  refine ⟨Rat.mul_nonneg h.1 g.1, ?_, ?_⟩
  · have a := Rat.mul_le_mul_of_nonneg_right h.2.1 g.1
    have := g.2.1
    grind
  · have e : q * r = Rat.divInt (q.num * r.num) ((q.den : Int) * (r.den : Int)) := by
      rw [← Rat.divInt_mul_divInt, divInt_self', divInt_self']
    rw [e]
    exact divInt_sz (Int.mul_pos (den_pos _) (den_pos _)) (wide_lt h.2.2.1 g.2.2.1) (wide_lt h.2.2.d g.2.2.d)
theorem add_sz {m n : Nat} {q r : Rat} (h : Sz m q) (g : Sz n r) : Sz (m + n + 1) (q + r) := by
  have := sz_add (den_pos q) (den_pos r) h.1 h.d g.1 g.d
  rw [divInt_self', divInt_self'] at this
  exact this
theorem neg_sz {n : Nat} {r : Rat} (g : Sz n r) : Sz n (-r) := by
  refine ⟨?_, ?_⟩
  · rw [Rat.neg_num, Int.natAbs_neg]; exact g.1
  · rw [Rat.neg_den]; exact g.2
theorem nrL_snoc {s : Rat} : ∀ {l m : List Rat} {x y : Rat}, NrL s l m → Nr s x y → NrL s (l ++ [x]) (m ++ [y])
  | [], [], _, _, _, h => ⟨h, trivial⟩
  | _ :: l, _ :: m, _, _, hl, h => ⟨hl.1, nrL_snoc (l := l) (m := m) hl.2 h⟩
  | [], _ :: _, _, _, hl, _ => hl.elim
  | _ :: _, [], _, _, hl, _ => hl.elim
theorem nrL_len {s : Rat} : ∀ {l m : List Rat}, NrL s l m → l.length = m.length
  | [], [], _ => rfl
  | _ :: l, _ :: m, h => by rw [List.length_cons, List.length_cons, nrL_len h.2]
  | [], _ :: _, hl => hl.elim
  | _ :: _, [], hl => hl.elim
theorem rq_rep {H : Hp} {v : V} {q : Rat} (r : RF K H v q) : ∀ n : Nat, RQ K H (List.replicate n v) (List.replicate n q)
  | 0 => .nil
  | n + 1 => .cons r.rp (rq_rep r n)
end
end CB

set_option Elab.async false
set_option linter.all false
set_option maxRecDepth 100000
set_option maxHeartbeats 4000000
/-! == of fractions and of tuples of ints, as data -/
namespace CB
open PySem PySem.Spec PyProof.Rows L2
theorem qd_eqv (a b : Rat) : PyData.eqv (qd a) (qd b) = decide (a = b) := by
  unfold qd
  simp only [PyData.eqv, PyData.eqvAll]
  by_cases h : a = b
  · subst h; simp
  · rw [decide_eq_false h]
    by_cases h1 : a.num = b.num
    · have h2 : ¬ ((a.den : Int) = (b.den : Int)) := fun e => h (Rat.ext h1 (by omega))
      simp [h1, h2]
    · simp [h1]
end CB

set_option Elab.async false
set_option linter.all false
set_option maxRecDepth 100000
set_option maxHeartbeats 4000000
namespace CB
open PySem PySem.Spec PyProof.Rows L2
open C8 (Cal Met Mak pe_c pe_mk pe_mt pe_mt0 pe_gc CalAt)
/-! what laws about outcomes share -/
def sp_law (K : PySem.W.Frag) : Sp := fun vs H Q _ => ∃ (a : Addr) (ns : List Int), vs = [.ref a] ∧ SqL K H a (ns.map V.int) ∧ ∀ H', Q (.bl true) H'
section
variable {P : Program} {w : World} {K : PySem.W.Frag} {mg : Str → Option Value} {base : Heap}
theorem outc_sz {t : Tm} {n : Nat} {ws : List Rat} {z k : Nat} (ho : t.Ok n 20) (hz : t.wt 20 ≤ z) (hk : k ≤ z) (hw : ws.length = n) (hq : ∀ q ∈ ws, NumOk k q) : Sz z (outc t n ws) := by
  obtain ⟨S, _, _, _, h⟩ := outc_at (t := t) hw
  rcases h with e | ⟨p, hp, e⟩
  · rw [e]
    refine (val_sz (s := 20) (fun q hq => ?_) (end01_len n S) ho).mono hz
    rcases put_mem hq with e | e
    · rw [e]; exact (nok_one (s := 20) (by omega)).2.2
    · rw [(List.mem_replicate.mp e).2]; exact (nok_zero (s := 20) (by omega)).2.2
  · rw [e]
    exact (hq _ (getD_mem (by omega))).2.2.mono hk
/-- != of two values that are the same fraction -/
theorem ne_same {H : Hp} {x y : V} {q : Rat} {Q : VK} (h1 : RF K H x q) (h2 : RF K H y q) (k : Q (.bl false) H) : rNeD K x y H Q := by
  have sh := qd_shaped q
  have rf : (!PyData.eqv (qd q) (qd q)) = false := by rw [SeqAt.eqv_refl _ (qd_lay _)]; rfl
  refine ⟨qd q, qd q, h1.rp.dp, h2.rp.dp, sh, sh, ?_⟩
  show Q (.bl (!PyData.eqv (qd q) (qd q))) H
  rw [rf]
  exact k
theorem rq_set {H : Hp} {v : V} {q : Rat} (r : RF K H v q) : ∀ {us : List V} {qs : List Rat} (i : Nat), RQ K H us qs → RQ K H (us.set i v) (qs.set i q)
  | [], qs, i, h => by
    cases qs with
    | nil => exact .nil
    | cons q qs => cases h
  | u :: us, [], i, h => by cases h
  | u :: us, q2 :: qs, 0, h => by
    obtain ⟨_, _, e, h1, h2⟩ := RpAll.consI h
    cases e
    exact .cons r.rp h2
  | u :: us, q2 :: qs, i + 1, h => by
    obtain ⟨_, _, e, h1, h2⟩ := RpAll.consI h
    cases e
    exact .cons h1 (rq_set r (qs := qs) i h2)
theorem RuleAt.updl {C : Addr} {H : Hp} {r W : Addr} {n : Nat} {t : Tm} {xs : List V} {o : HO} (h : RuleAt K C H r n t) (hW : H W = some (.lst xs)) : RuleAt K C (upd H W o) r n t := by
  obtain ⟨dx, v, h1, h2⟩ := h
  exact ⟨dx, v, by rw [upd_ne (ne_of h1 hW (by intro z; cases z))]; exact h1, h2.mono (KT.updl hW)⟩
theorem ixN_nat {n i : Nat} (h : i < n) : ixN n (i : Int) = some i := by
  unfold ixN
  rw [if_pos (by omega), if_pos (by omega)]
  rfl
theorem eq_qd {H : Hp} {x y : V} {q r : Rat} {Q : VK} (h1 : RF K H x q) (h2 : RF K H y r) (k : Q (.bl (decide (q = r))) H) : rEqD K x y H Q := by
  refine ⟨qd q, qd r, h1.rp.dp, h2.rp.dp, qd_shaped q, qd_shaped r, ?_⟩
  rw [qd_eqv]
  exact k
theorem ne_qd {H : Hp} {x y : V} {q r : Rat} {Q : VK} (h1 : RF K H x q) (h2 : RF K H y r) (k : Q (.bl (!decide (q = r))) H) : rNeD K x y H Q := by
  refine ⟨qd q, qd r, h1.rp.dp, h2.rp.dp, qd_shaped q, qd_shaped r, ?_⟩
  rw [qd_eqv]
  exact k
/-- a lot, as data -/
def lotD (ps : List Nat) : PyData := .tuple (ps.map fun p => .int ((p : Nat) : Int))
theorem lot_all {H : Hp} : ∀ ps : List Nat, RpAll K H (pV ps) (ps.map fun p => .int ((p : Nat) : Int))
  | [] => .nil
  | p :: ps => .cons (.int _) (lot_all ps)
theorem lot_rp {H : Hp} {a : Addr} {ps : List Nat} (h : SqT K H a (pV ps)) : Rp K H (.ref a) (lotD ps) := .tup h (lot_all ps)
theorem lotL_lay : ∀ ps : List Nat, PyData.canLayAll0 (ps.map fun p => PyData.int ((p : Nat) : Int)) = true
  | [] => by simp [PyData.canLayAll0]
  | p :: ps => by simp [PyData.canLayAll0, PyData.canLay0, lotL_lay ps]
theorem lotD_lay (ps : List Nat) : (lotD ps).canLay0 = true := by unfold lotD; simp only [PyData.canLay0]; exact lotL_lay ps
theorem lotL_depth : ∀ ps : List Nat, PyData.depthAll (ps.map fun p => PyData.int ((p : Nat) : Int)) ≤ 1
  | [] => by simp [PyData.depthAll]
  | p :: ps => by have := lotL_depth ps; simp only [List.map_cons, PyData.depthAll, PyData.depth]; omega
theorem lotD_depth (ps : List Nat) : (lotD ps).depth ≤ 2 := by have := lotL_depth ps; unfold lotD; simp only [PyData.depth]; omega
theorem shaped_of {d : PyData} (h : d.canLay0 = true) (g : d.depth ≤ 20) : SeqAt.shaped d = true := by
  unfold SeqAt.shaped
  rw [h, Bool.true_and]
  exact decide_eq_true (by omega)
/-- != of two values that are the same data -/
theorem ne_sameD {H : Hp} {x y : V} {d : PyData} {Q : VK} (h1 : Rp K H x d) (h2 : Rp K H y d) (hl : d.canLay0 = true) (hd : d.depth ≤ 20) (k : Q (.bl false) H) : rNeD K x y H Q := by
  have rf : (!PyData.eqv d d) = false := by rw [SeqAt.eqv_refl _ hl]; rfl
  refine ⟨d, d, h1.dp, h2.dp, shaped_of hl hd, shaped_of hl hd, ?_⟩
  rw [rf]
  exact k
theorem LotsAt.kd {H H' : Hp} {xs : List V} {L : List (List Nat)} {da : Addr × Addr} (h : LotsAt K H xs L) (d : Dice H da) (e : KD da.1 H H') : LotsAt K H' xs L := h.mono (d.kt e)
end
end CB

set_option Elab.async false
set_option linter.all false
set_option maxRecDepth 100000
set_option maxHeartbeats 4000000
namespace CB
open PySem PySem.Spec PyProof.Rows L2
open C8 (Cal Met Mak pe_c pe_mk pe_mt pe_mt0 pe_gc CalAt)
section
variable {P : Program} {w : World} {K : PySem.W.Frag} {mg : Str → Option Value} {base : Heap}
def sp_are_persons (K : PySem.W.Frag) : Sp := fun vs H Q _ => ∃ (a : Addr) (n : Nat) (ps : List Nat), vs = [.ref a, .int (n : Int)] ∧ SqT K H a (pV ps) ∧ (∀ p ∈ ps, p < n) ∧ ps.length ≤ 12 ∧ ∀ H', Same H H' → Q (.bl true) H'
/-- strictly ascending persons -/
structure IsLot (n : Nat) (ps : List Nat) : Prop where
  lt : ∀ p ∈ ps, p < n
  up : ps.Pairwise (· < ·)
  len : ps.length ≤ 6
def sp_is_lot (K : PySem.W.Frag) : Sp := fun vs H Q _ => ∃ (a : Addr) (n : Nat) (ps : List Nat), vs = [.ref a, .int (n : Int)] ∧ SqT K H a (pV ps) ∧ IsLot n ps ∧ ∀ H', Same H H' → Q (.bl true) H'
def sp_need_lot (K : PySem.W.Frag) (C : Addr) : Sp := fun vs H Q _ => ∃ (r a : Addr) (n : Nat) (t : Tm) (ps : List Nat), vs = [.ref r, .ref a] ∧ RuleAt K C H r n t ∧ SqT K H a (pV ps) ∧ IsLot n ps ∧ ∀ H', Same H H' → Q .non H'
def sp_outcome_behind (K : PySem.W.Frag) (C : Addr) : Sp := fun vs H Q _ => ∃ (r a b l : Addr) (n s z : Nat) (t : Tm) (ws bs : List Rat) (ls : List Nat), vs = [.ref r, .ref a, .ref b, .ref l] ∧ RuleAt K C H r n t ∧ t.Ok n s ∧ 1 ≤ s ∧ s ≤ 9000 ∧ t.dep ≤ 8 ∧ t.wt s + 20 ≤ 9000 ∧ n ≤ 6 ∧ z ≤ 9000 ∧ Bids K H a n z ws ∧ Bids K H b n s bs ∧ SqT K H l (pV ls) ∧ IsLot n ls ∧
  ∀ v H', Same H H' → RF K H' v (outB t ws bs ls) → Q v H'
end
end CB

set_option Elab.async false
set_option linter.all false
set_option maxRecDepth 100000
set_option maxHeartbeats 4000000
/-! itertools.combinations(xs, r) of a list, and list(..) of it -/
namespace Cmb
open PySem PySem.Spec PyProof.Rows
open Sem (wp)
theorem mro : mroOf (.type "itertools.combinations") = pure [.type "itertools.combinations", .type "object"] := by rw [mroOf_type]; kernel_rfl
theorem lookup_new : typeLookup (.type "itertools.combinations") "__new__" = pure (some (.builtin "itertools.combinations.__new__")) := by rw [typeLookup_type, builtinLookup_eq_fast]; kernel_rfl
theorem slot_init : Slot "itertools.combinations" "__init__" "object.__init__" :=
  .of (owner := "object") (n := "__init__") (by rw [typeLookup_type, builtinLookup_eq_fast]; kernel_rfl) (by decide +kernel) (by decide +kernel) (by decide +kernel)
    (by first | exact .inl (by decide +kernel) | exact .inr (by decide +kernel)) (by rw [isSubtype_type]; kernel_rfl)
theorem sub : isSubtype (.type "itertools.combinations") (.type "itertools.combinations") = pure true := by rw [isSubtype_type]; kernel_rfl
theorem called : TypeCalled "itertools.combinations" "itertools.combinations.__new__" "object.__init__" :=
  ⟨by decide +kernel, by decide +kernel, ⟨_, _, mro⟩, madeBy_type mro lookup_new (by decide +kernel), by decide +kernel, sub, slot_init⟩
theorem typeCall_2 (a b : Value) : checkTypeCall "itertools.combinations" ⟨[a, b], []⟩ = pure () := by kernel_rfl
theorem newCall_2 (a b : Value) : checkBuiltinCall "itertools.combinations.__new__" ⟨[.type "itertools.combinations", a, b], []⟩ = pure () := by kernel_rfl
theorem entry_new : entryFor table "itertools.combinations.__new__" = some Builtin.«itertools.combinations.__new__» := entryFor_of_tree (by kernel_rfl)
theorem slot_iter : Slot "itertools.combinations" "__iter__" "itertools.combinations.__iter__" :=
  .of (owner := "itertools.combinations") (n := "__iter__") (by rw [typeLookup_type, builtinLookup_eq_fast]; kernel_rfl) (by decide +kernel) (by decide +kernel) (by decide +kernel)
    (by first | exact .inl (by decide +kernel) | exact .inr (by decide +kernel)) sub
theorem slot_next : Slot "itertools.combinations" "__next__" "itertools.combinations.__next__" :=
  .of (owner := "itertools.combinations") (n := "__next__") (by rw [typeLookup_type, builtinLookup_eq_fast]; kernel_rfl) (by decide +kernel) (by decide +kernel) (by decide +kernel)
    (by first | exact .inl (by decide +kernel) | exact .inr (by decide +kernel)) sub
theorem entry_iter : entryFor table "itertools.combinations.__iter__" = some Builtin.«dict_keyiterator.__iter__» :=
  entryFor_alias (id' := "dict_keyiterator.__iter__") (by kernel_rfl) (by first | rfl | decide +kernel | (unfold String.splitOn; simp +decide [String.splitOnAux])) (by decide +kernel) (by kernel_rfl)
theorem entry_next : entryFor table "itertools.combinations.__next__" = some Builtin.«itertools.combinations.__next__» := entryFor_of_tree (by kernel_rfl)
theorem owner_c : Manifest.owners.lookup (String.ofList ['s', 'n', 'o', 'i', 't', 'a', 'n', 'i', 'b', 'm', 'o', 'c', '.', 's', 'l', 'o', 'o', 't', 'r', 'e', 't', 'i'].reverse) = some Manifest.sig_itertools_combinations := by kernel_rfl
theorem args_iter (a : Value) : argsOk "itertools.combinations.__iter__" ⟨[a], []⟩ := by
  unfold argsOk; rw [signature?_of (id := "itertools.combinations.__iter__") (n := ['_', '_', 'r', 'e', 't', 'i', '_', '_']) (o := ['s', 'n', 'o', 'i', 't', 'a', 'n', 'i', 'b', 'm', 'o', 'c', '.', 's', 'l', 'o', 'o', 't', 'r', 'e', 't', 'i']) (by kernel_rfl) owner_c]; kernel_rfl
theorem args_next (a : Value) : argsOk "itertools.combinations.__next__" ⟨[a], []⟩ := by
  unfold argsOk; rw [signature?_of (id := "itertools.combinations.__next__") (n := ['_', '_', 't', 'x', 'e', 'n', '_', '_']) (o := ['s', 'n', 'o', 'i', 't', 'a', 'n', 'i', 'b', 'm', 'o', 'c', '.', 's', 'l', 'o', 'o', 't', 'r', 'e', 't', 'i']) (by kernel_rfl) owner_c]; kernel_rfl
theorem noDict : typeHasDict (.type "itertools.combinations") = false := by decide +kernel
theorem no_len : typeLookup (.type "itertools.combinations") "__len__" = pure none := by rw [typeLookup_type, builtinLookup_eq_fast]; kernel_rfl
theorem no_hint : typeLookup (.type "itertools.combinations") "__length_hint__" = pure none := by rw [typeLookup_type, builtinLookup_eq_fast]; kernel_rfl
/-- a combinations object: its pool, how far it is, the last tuple, the numbers -/
abbrev IsC (h : Heap) (it pool : Addr) (st : Int) (last : Value) (idx : List Nat) : Prop :=
  h.get? it = some { cls := .type "itertools.combinations", dict := none, data := .fields (#[.ref pool, .int st 0, last] ++ (idx.map fun (i : Nat) => Value.int (i : Int) 0).toArray), slots := #[] }
end Cmb

set_option Elab.async false
set_option linter.all false
set_option maxRecDepth 100000
set_option maxHeartbeats 4000000
namespace Cmb
open PySem PySem.Spec PyProof.Rows
open Sem (wp)
theorem meets_new (l : Addr) (vs : List Value) (r : Nat) (t : Tok) (hr : r ≤ vs.length) :
    Meets (Builtin.«itertools.combinations.__new__» ⟨[.type "itertools.combinations", .ref l, .int (r : Int) t], []⟩)
      (fun _ R s => s.heap.IsList l vs.toArray ∧ vs.length ≤ 1000 ∧ ∀ h' it pool, IsC h' it pool 0 .none (List.range r) → h'.IsTuple pool vs.toArray → s.heap.objs.size ≤ it → s.heap.objs.size ≤ pool → it ≠ pool → it < h'.objs.size → pool < h'.objs.size → (∀ b o, s.heap.get? b = some o → h'.get? b = some o) → R (.ok (.ret (.ref it))) { s with heap := h' }) :=
  .of_wp fun prog w A R s h => by
    obtain ⟨hl, hn, hR⟩ := h
    obtain ⟨hp, g, dd, tk, os⟩ := s
    have hsub := sub
    have hsub2 : isSubtype (.type "itertools.combinations") (.type ("itertools." ++ "combinations")) = pure true := by rw [show "itertools." ++ "combinations" = "itertools.combinations" from by decide +kernel]; exact sub
    have hd := noDict
    unfold Builtin.«itertools.combinations.__new__»
    repeat (first
      | wp_step
      | simp only [List.head?_cons, Option.some_or, List.getElem?_cons_succ, List.getElem?_cons_zero, List.length_cons, List.length_nil, List.forIn_nil])
    have h63 : ¬ ((decide ((r : Int) < -2 ^ 63) || decide ((r : Int) ≥ 2 ^ 63)) = true) := by
      rw [decide_eq_false (by omega), decide_eq_false (by omega)]
      decide
    refine wpAny_ite_false (decide_eq_false h63) ?_
    refine wpAny_pure ?_
    refine wpAny_bind (collect_list hl ?_ (by rw [sizeLine_eq]; omega))
    rw [if_neg (show ¬ (r : Int) < 0 by omega), if_neg (show ¬ Builtin.Itertools.itTooMany (r : Int) = true by unfold Builtin.Itertools.itTooMany; rw [decide_eq_true_iff]; omega)]
    refine wpAny_bind (wpAny_newTuple (wpAny_pure ?_))
    unfold Builtin.Itertools.itNewRecord
    dsimp only
    rw [hd]
    refine wpAny_bind ?_
    rw [if_pos (show (!false) = true from rfl)]
    refine wpAny_newObj_type ?_ ?sz
    case sz =>
      show _ ≤ sizeLine + 2
      simp
      rw [sizeLine_eq]
      omega
    refine wpAny_pure ⟨_, rfl, ?_⟩
    have e0 : (if (r : Int).toNat > vs.length then (2 : Int) else 0) = 0 := if_neg (by omega)
    have z1 : ((hp.push (seqObj "list" #[] 0)).update hp.objs.size (Obj.mapSeq fun x => x ++ vs.toArray)).objs.size = hp.objs.size + 1 := by rw [Heap.size_update, size_push']
    have k1 : ∀ b o, hp.get? b = some o → ((hp.push (seqObj "list" #[] 0)).update hp.objs.size (Obj.mapSeq fun x => x ++ vs.toArray)).get? b = some o := fun b o q => by
      have hlt : b < hp.objs.size := Heap.lt_size q
      rw [Heap.get?_update_ne _ _ _ _ (Nat.ne_of_lt hlt), Heap.get?_push_ne _ _ _ (Nat.ne_of_lt hlt)]
      exact q
    revert z1 k1
    generalize (hp.push (seqObj "list" #[] 0)).update hp.objs.size (Obj.mapSeq fun x => x ++ vs.toArray) = h1
    intro z1 k1
    have z2 : (h1.push { cls := .type "tuple", data := .seq vs.toArray }).objs.size = hp.objs.size + 2 := by rw [size_push', z1]
    refine hR _ _ h1.objs.size ?_ ?_ ?_ ?_ ?_ ?_ ?_ ?_
    · rw [e0]
      refine (Heap.get?_push_size _ rfl).trans ?_
      simp [rawInt]
    · exact ⟨_, Heap.get?_push_of_some _ (Heap.get?_push_size _ rfl), rfl, 0, rfl⟩
    · rw [z2]; show hp.objs.size ≤ hp.objs.size + 2; omega
    · rw [z1]; show hp.objs.size ≤ hp.objs.size + 1; omega
    · rw [size_push']; exact Nat.succ_ne_self _
    · exact Nat.lt_of_lt_of_eq (Nat.lt_succ_self _) (Eq.symm (size_push' ..))
    · show h1.objs.size < _
      rw [size_push']
      show h1.objs.size < (h1.push _).objs.size + 1
      rw [size_push']
      exact Nat.lt_succ_of_lt (Nat.lt_succ_self _)
    · exact fun b o q => Heap.get?_push_of_some _ (Heap.get?_push_of_some _ (k1 b o q))
end Cmb

set_option Elab.async false
set_option linter.all false
set_option maxRecDepth 100000
set_option maxHeartbeats 4000000
namespace Cmb
open PySem PySem.Spec PyProof.Rows
open Sem (wp)
section
variable {prog : Program} {w : World} {A : Around} {E : Value → Shared → Prop} {s : Shared}
/-- it gives itself when it is walked -/
theorem iter_comb {it pool : Addr} {st : Int} {last : Value} {idx : List Nat} {Q : Value → Shared → Prop} (hit : IsC s.heap it pool st last idx) (h : Q (.ref it) s) : wpAny (model prog w) A (pyIter (.ref it)) Q E s := by
  have hT : s.TypeIs (.ref it) "itertools.combinations" := ⟨_, hit, rfl⟩
  refine wpAny_pyIter_slot hT slot_iter (wpAny_call_entry slot_iter hT entry_iter ?_ (args_iter _))
  show wpAny _ _ (ret (.ref it)) _ _ s
  exact wpAny_pure ⟨_, rfl, "itertools.combinations", _, hT, slot_next.lookup, h⟩
/-- combinations(xs, r) of a list -/
theorem call_comb {l : Addr} {vs : List Value} {r : Nat} {t : Tok} {Q : Value → Shared → Prop} (hr : r ≤ vs.length) (hl : s.heap.IsList l vs.toArray) (hn : vs.length ≤ 1000)
    (h : ∀ h' it pool, IsC h' it pool 0 .none (List.range r) → h'.IsTuple pool vs.toArray → s.heap.objs.size ≤ it → s.heap.objs.size ≤ pool → it ≠ pool → it < h'.objs.size → pool < h'.objs.size → (∀ b o, s.heap.get? b = some o → h'.get? b = some o) → Q (.ref it) { s with heap := h' }) :
    wpAny (model prog w) A (call (.type "itertools.combinations") [.ref l, .int (r : Int) t]) Q E s := by
  refine callType_new called (by decide +kernel) (typeCall_2 _ _) (newCall_2 _ _) (fun obj => F.args_object_init_3 obj _ _) entry_new (meets_new l vs r t hr) ?_
  refine ⟨hl, hn, fun h' it pool h1 h2 h3 h4 h5 h6 h7 h8 => ?_⟩
  show _ ∧ _
  exact ⟨⟨_, h1, rfl⟩, h h' it pool h1 h2 h3 h4 h5 h6 h7 h8⟩
end
end Cmb

set_option Elab.async false
set_option linter.all false
set_option maxRecDepth 100000
set_option maxHeartbeats 4000000
/-! itertools.combinations: turn by turn, and list(..) of it -/
namespace Cmb
open PySem PySem.Spec PyProof.Rows
open Sem (wp)
/-- the numbers behind these ones, of n -/
def nextC (n : Nat) (l : List Nat) : Option (List Nat) :=
  match (List.range l.length).reverse.find? fun j => l.getD j 0 != j + n - l.length with
  | none => none
  | some j => some (l.take j ++ (List.range (l.length - j)).map (l.getD j 0 + 1 + ·))
/-- the last steps of a turn -/
abbrev outB (me p : Value) (l : List Nat) : Sem Fin :=
  (Builtin.Itertools.itPoolItems p >>= fun xs => newTuple (l.map fun j => xs.getD j .none)) >>= fun r => field me 2 >>= fun old => setField me 2 r >>= fun _ => letGo [old] [r] >>= fun _ => ret r
abbrev Nx (it : Addr) : Sem Fin := Builtin.«itertools.combinations.__next__» ⟨[.ref it], []⟩
section
variable {M : Model} {A : Around} {E : Value → Shared → Prop} {s : Shared} {it pool : Addr} {st : Int} {last : Value} {idx : List Nat} {vs : List Value}
theorem pool_ok {Q : Array Value → Shared → Prop} (hp : s.heap.IsTuple pool vs.toArray) (h : Q vs.toArray s) : wpAny M A (Builtin.Itertools.itPoolItems (.ref pool)) Q E s := by
  obtain ⟨o, ho, _, n, hd⟩ := hp
  unfold Builtin.Itertools.itPoolItems
  exact wpAny_bind (wpAny_seqItems ho hd (wpAny_pure h))
theorem numbers_ok {Q : List Nat → Shared → Prop} (hc : IsC s.heap it pool st last idx) (h : Q idx s) : wpAny M A (Builtin.Itertools.itNumbersFrom (.ref it) 3) Q E s := by
  unfold Builtin.Itertools.itNumbersFrom
  show wpAny _ _ (load it >>= _) _ _ s
  refine wpAny_bind (wpAny_load hc ?_)
  refine wpAny_pure ?_
  have e : ((#[Value.ref pool, Value.int st 0, last] ++ (idx.map fun (i : Nat) => Value.int (i : Int) 0).toArray).toList.drop 3).map (fun v => match v with | .int n _ => n.toNat | _ => 0) = idx := by
    simp [Function.comp_def]
  exact e.symm ▸ h
theorem out_ok {P : Fin → Shared → Prop} {l : List Nat} (hc : IsC s.heap it pool st last idx) (hp : s.heap.IsTuple pool vs.toArray) (hl : l.length ≤ 1000)
    (h : ∀ h', IsC h' it pool st (.ref s.heap.objs.size) idx → h'.get? s.heap.objs.size = some { cls := .type "tuple", data := .seq (l.map fun j => vs.getD j .none).toArray } → h'.objs.size = s.heap.objs.size + 1 →
      (∀ b o, b ≠ it → s.heap.get? b = some o → h'.get? b = some o) → P (.done (.ret (.ref s.heap.objs.size))) { s with heap := h' }) : wpAny M A (outB (.ref it) (.ref pool) l) P E s := by
  refine wpAny_bind (wpAny_bind (pool_ok hp ?_))
  refine wpAny_newTuple ?_ (by rw [List.length_map, sizeLine_eq]; omega)
  have hc2 : IsC (s.heap.push { cls := .type "tuple", data := .seq (l.map fun j => vs.toArray.getD j .none).toArray }) it pool st last idx := Heap.get?_push_of_some _ hc
  refine wpAny_bind (wpAny_field hc2 rfl (x := last) (by simp) ?_)
  refine wpAny_bind (wpAny_setField hc2 rfl (by simp) ?_)
  refine wpAny_bind (wpAny_letGo ?_)
  have ne : s.heap.objs.size ≠ it := Nat.ne_of_gt (Heap.lt_size hc)
  refine wpAny_pure (h _ ?_ ?_ ?_ ?_)
  · refine (Heap.get?_update_self _ hc2 rfl).trans ?_
    simp [Obj.mapFields]
  · refine (Heap.get?_update_other _ _ (Ne.symm ne)).trans ((Heap.get?_push_size _ rfl).trans ?_)
    simp
  · rw [Heap.size_update]
    exact Array.size_push ..
  · intro b o hb e
    exact (Heap.get?_update_other _ _ (Ne.symm hb)).trans (Heap.get?_push_of_some _ e)
/-- the first one -/
theorem next_first {P : Fin → Shared → Prop} (hc : IsC s.heap it pool 0 last idx) (hp : s.heap.IsTuple pool vs.toArray) (hne : pool ≠ it) (hl : idx.length ≤ 1000)
    (h : ∀ h', IsC h' it pool 1 (.ref s.heap.objs.size) idx → h'.get? s.heap.objs.size = some { cls := .type "tuple", data := .seq (idx.map fun j => vs.getD j .none).toArray } → h'.objs.size = s.heap.objs.size + 1 →
      (∀ b o, b ≠ it → s.heap.get? b = some o → h'.get? b = some o) → P (.done (.ret (.ref s.heap.objs.size))) { s with heap := h' }) : wpAny M A (Nx it) P E s := by
  show wpAny _ _ (field (.ref it) 0 >>= _) _ _ s
  refine wpAny_bind (wpAny_field hc rfl (x := .ref pool) (by simp) ?_)
  refine wpAny_bind (numbers_ok hc ?_)
  show wpAny _ _ ((field (.ref it) 1 >>= _) >>= _) _ _ s
  refine wpAny_bind (wpAny_bind (wpAny_field hc rfl (x := .int 0 0) (by simp) (wpAny_pure ?_)))
  show wpAny _ _ (setField (.ref it) 1 (rawInt 1) >>= _) _ _ s
  refine wpAny_bind (wpAny_setField hc rfl (by simp) ?_)
  have hc2 : IsC (s.heap.update it (Obj.mapFields fun x => x.setIfInBounds 1 (rawInt 1))) it pool 1 last idx := by
    refine (Heap.get?_update_self _ hc rfl).trans ?_
    simp [Obj.mapFields, rawInt]
  have hp2 : (s.heap.update it (Obj.mapFields fun x => x.setIfInBounds 1 (rawInt 1))).IsTuple pool vs.toArray := by
    obtain ⟨o, ho, r⟩ := hp
    exact ⟨o, (Heap.get?_update_other _ _ (Ne.symm hne)).trans ho, r⟩
  have z : (s.heap.update it (Obj.mapFields fun x => x.setIfInBounds 1 (rawInt 1))).objs.size = s.heap.objs.size := Heap.size_update ..
  refine out_ok (s := { s with heap := _ }) hc2 hp2 hl fun h' a1 a2 a3 a4 => ?_
  show P (.done (.ret (.ref (s.heap.update it (Obj.mapFields fun x => x.setIfInBounds 1 (rawInt 1))).objs.size))) _
  rw [z]
  refine h h' (by rw [← z]; exact a1) (by rw [← z]; exact a2) (by rw [← z]; exact a3) fun b o hb e => a4 b o hb ?_
  exact (Heap.get?_update_other _ _ (Ne.symm hb)).trans e
/-- a later one -/
theorem next_next {P : Fin → Shared → Prop} {m : List Nat} (hc : IsC s.heap it pool 1 last idx) (hp : s.heap.IsTuple pool vs.toArray) (hne : pool ≠ it) (hm : nextC vs.length idx = some m) (hl : m.length ≤ 1000)
    (h : ∀ h', IsC h' it pool 1 (.ref s.heap.objs.size) m → h'.get? s.heap.objs.size = some { cls := .type "tuple", data := .seq (m.map fun j => vs.getD j .none).toArray } → h'.objs.size = s.heap.objs.size + 1 →
      (∀ b o, b ≠ it → s.heap.get? b = some o → h'.get? b = some o) → P (.done (.ret (.ref s.heap.objs.size))) { s with heap := h' }) : wpAny M A (Nx it) P E s := by
  show wpAny _ _ (field (.ref it) 0 >>= _) _ _ s
  refine wpAny_bind (wpAny_field hc rfl (x := .ref pool) (by simp) ?_)
  refine wpAny_bind (numbers_ok hc ?_)
  show wpAny _ _ ((field (.ref it) 1 >>= _) >>= _) _ _ s
  refine wpAny_bind (wpAny_bind (wpAny_field hc rfl (x := .int 1 0) (by simp) (wpAny_pure ?_)))
  show wpAny _ _ (Builtin.Itertools.itPoolItems (.ref pool) >>= _) _ _ s
  refine wpAny_bind (pool_ok hp ?_)
  show wpAny _ _ (match nextC vs.toArray.size idx with | some m => _ | none => _) _ _ s
  rw [List.size_toArray, hm]
  show wpAny _ _ (Builtin.Itertools.itSetNumbersFrom (.ref it) 3 m >>= _) _ _ s
  refine wpAny_bind ?_
  unfold Builtin.Itertools.itSetNumbersFrom
  refine wpAny_updateFields hc rfl ?_ (by simp [sizeLine_eq]; omega)
  generalize hu : s.heap.update it (Obj.mapFields fun fs => fs.extract 0 3 ++ (m.map fun (n : Nat) => rawInt n).toArray) = hh
  have hc2 : IsC hh it pool 1 last m := by
    rw [← hu]
    refine (Heap.get?_update_self _ hc rfl).trans ?_
    simp [Obj.mapFields, rawInt]
  have hp2 : hh.IsTuple pool vs.toArray := by
    obtain ⟨o, ho, r⟩ := hp
    rw [← hu]
    exact ⟨o, (Heap.get?_update_other _ _ (Ne.symm hne)).trans ho, r⟩
  have z : hh.objs.size = s.heap.objs.size := by rw [← hu]; exact Heap.size_update ..
  refine out_ok (s := { s with heap := hh }) hc2 hp2 hl fun h' a1 a2 a3 a4 => ?_
  show P (.done (.ret (.ref hh.objs.size))) { s with heap := h' }
  rw [z]
  refine h h' (by rw [← z]; exact a1) (by rw [← z]; exact a2) (by rw [← z]; exact a3) fun b o hb e => a4 b o hb ?_
  rw [← hu]
  exact (Heap.get?_update_other _ _ (Ne.symm hb)).trans e
/-- the end's exception -/
def StopE' (e : Value) (h : Heap) : Prop := ∃ a o vs, e = .ref a ∧ h.get? a = some o ∧ o.cls = .type "StopIteration" ∧ o.data = .fields vs ∧ vs[5]? = some Value.none
theorem next_end {P : Fin → Shared → Prop} (hh : A.handled = none) (hc : IsC s.heap it pool 1 last idx) (hp : s.heap.IsTuple pool vs.toArray) (hm : nextC vs.length idx = none)
    (h : ∀ e h', StopE' e h' → s.heap.objs.size ≤ h'.objs.size → (∀ b o, b ≠ it → s.heap.get? b = some o → h'.get? b = some o) → E e { s with heap := h' }) : wpAny M A (Nx it) P E s := by
  show wpAny _ _ (field (.ref it) 0 >>= _) _ _ s
  refine wpAny_bind (wpAny_field hc rfl (x := .ref pool) (by simp) ?_)
  refine wpAny_bind (numbers_ok hc ?_)
  show wpAny _ _ ((field (.ref it) 1 >>= _) >>= _) _ _ s
  refine wpAny_bind (wpAny_bind (wpAny_field hc rfl (x := .int 1 0) (by simp) (wpAny_pure ?_)))
  show wpAny _ _ (Builtin.Itertools.itPoolItems (.ref pool) >>= _) _ _ s
  refine wpAny_bind (pool_ok hp ?_)
  show wpAny _ _ (match nextC vs.toArray.size idx with | some m => _ | none => _) _ _ s
  rw [List.size_toArray, hm]
  show wpAny _ _ (setField (.ref it) 1 (rawInt 2) >>= _) _ _ s
  refine wpAny_bind (wpAny_setField hc rfl (by simp) ?_)
  unfold Builtin.Itertools.itStop
  refine wpAny_bind ?_
  simp only [newExc, newTuple]
  refine wpAny_bind (wpAny_newObj_type ?_ (by size_fits))
  refine wpAny_bind (m := firstArgMember _ _) (wpAny_of_eq (a := Value.none) (by first | rfl | (simp only [firstArgMember]; rfl)) ?_)
  refine wpAny_newObj_type ?_ (by size_fits)
  simp only [raiseNew]
  refine wpAny_bind (wpAny_handled ?_)
  rw [hh]
  refine wpAny_bind (wpAny_pure (wpAny_throw ?_))
  refine h _ _ ⟨_, _, _, rfl, Heap.get?_push_size _ rfl, rfl, rfl, rfl⟩ ?_ fun b o hb e => ?_
  · show _ ≤ ((Array.push _ _).size)
    rw [Array.size_push]
    refine Nat.le_succ_of_le ?_
    show _ ≤ ((Array.push _ _).size)
    rw [Array.size_push]
    exact Nat.le_succ_of_le (Nat.le_of_eq (Heap.size_update ..).symm)
  · exact Heap.get?_push_of_some _ (Heap.get?_push_of_some _ ((Heap.get?_update_other _ _ (Ne.symm hb)).trans e))
end
section
variable {prog : Program} {w : World} {A : Around} {E : Value → Shared → Prop} {s : Shared} {it pool : Addr} {st : Int} {last : Value} {idx : List Nat} {vs : List Value}
theorem pynext_ok {Q : Option Value → Shared → Prop} (hc : IsC s.heap it pool st last idx)
    (h : ∀ {A' : Around} {P : Fin → Shared → Prop} {E' : Value → Shared → Prop}, A'.handled = A.handled → (∀ v s', Q (some v) s' → P (.done (.ret v)) s') → (∀ e s', StopE' e s'.heap → Q none s' → E' e s') → wpAny (model prog w) A' (Nx it) P E' s) :
    wpAny (model prog w) A (pyNext (.ref it)) Q E s := by
  have hT : s.TypeIs (.ref it) "itertools.combinations" := ⟨_, hc, rfl⟩
  unfold pyNext
  refine wpAny_bind (wpAny_attempt (wpAny_callSpecial?_slot (name := Str.ofString "__next__") hT slot_next (wpAny_call_entry slot_next hT entry_next (h rfl (fun v s' q => ?_) fun e s' q1 q2 => ?_) (args_next _))))
  · exact ⟨v, rfl, wpAny_pure q⟩
  · obtain ⟨a, o, fs, rfl, ha, hc, _⟩ := q1
    refine wpAny_bind (wpAny_isInstance (T := "StopIteration") (b := true) ⟨_, ha, hc⟩ isSubtype_stop ?_)
    exact wpAny_pure q2
end

/-- these come one behind the other -/
def Chain (n : Nat) : List Nat → List (List Nat) → Prop
  | l, [] => nextC n l = none
  | l, m :: r => nextC n l = some m ∧ Chain n m r
abbrev lobj (xs : Array Value) (c : Nat) : Obj := { cls := .type "list", dict := none, data := .seq xs c, slots := #[] }
abbrev tobj (vs : List Value) (m : List Nat) : Obj := { cls := .type "tuple", data := .seq (m.map fun j => vs.getD j .none).toArray }
/-- the tuples at these places, ascending -/
def Tups (h : Heap) (vs : List Value) (lo : Nat) : List (List Nat) → List Addr → Prop
  | [], [] => True
  | m :: ms, a :: as => h.get? a = some (tobj vs m) ∧ lo ≤ a ∧ Tups h vs (a + 1) ms as
  | _, _ => False
theorem Tups.lo {h : Heap} {vs : List Value} {lo lo' : Nat} (le : lo' ≤ lo) : ∀ {ms : List (List Nat)} {as : List Addr}, Tups h vs lo ms as → Tups h vs lo' ms as
  | [], [], _ => True.intro
  | [], _ :: _, t => t.elim
  | _ :: _, [], t => t.elim
  | _ :: _, _ :: _, t => ⟨t.1, Nat.le_trans le t.2.1, t.2.2⟩
section
variable {prog : Program} {w : World} {A : Around} {R : Result → Shared → Prop} {it pool S : Addr} {vs : List Value}
theorem loop_ok (hh : A.handled = none) (hpi : pool ≠ it) (hSi : S ≠ it) (hSp : S ≠ pool) (res : Value) :
    ∀ (rest : List (List Nat)) (s : Shared) (acc : Array Value) (c : Nat) (last : Value) (idx : List Nat), Chain vs.length idx rest → (∀ m ∈ rest, m.length ≤ 1000) → IsC s.heap it pool 1 last idx → s.heap.IsTuple pool vs.toArray →
      s.heap.get? S = some (lobj acc c) → acc.size + rest.length ≤ 1000 →
      (∀ h' (as : List Addr) c', h'.get? S = some (lobj (acc ++ (as.map Value.ref).toArray) c') → Tups h' vs s.heap.objs.size rest as → s.heap.objs.size ≤ h'.objs.size →
        (∀ b o, b ≠ it → b ≠ S → s.heap.get? b = some o → h'.get? b = some o) → R (.ok (.ret res)) { s with heap := h' }) →
      codeAny (model prog w) A (.builtin "list.extend.loop" ⟨[.ref S, .ref it, res], []⟩) R s := by
  intro rest
  induction rest with
  | nil =>
    intro s acc c last idx ch _ hc hp hS hn hR
    refine codeAny_builtin F.entry_extend_loop ?_
    rw [Around.under_plainId F.plain_extend_loop _]
    show wpAny _ A.in1 (pyNext (.ref it) >>= _) _ _ s
    refine wpAny_bind (pynext_ok hc fun hA _ f2 => next_end (hA.trans hh) hc hp ch fun e h' g1 g2 g3 => f2 e _ g1 ?_)
    exact wpAny_pure (hR h' [] c (by simpa using g3 S _ hSi hS) True.intro g2 fun b o hb _ q => g3 b o hb q)
  | cons m rest ih =>
    intro s acc c last idx ch hm hc hp hS hn hR
    rw [List.length_cons] at hn
    refine codeAny_builtin F.entry_extend_loop ?_
    rw [Around.under_plainId F.plain_extend_loop _]
    show wpAny _ A.in1 (pyNext (.ref it) >>= _) _ _ s
    refine wpAny_bind (pynext_ok hc fun hA f1 _ => next_next hc hp hpi ch.1 (hm _ List.mem_cons_self) fun h' g1 g2 g3 g4 => f1 _ _ ?_)
    have hS' := g4 S _ hSi hS
    show wpAny _ A.in1 (updateSeq S (·.push (.ref s.heap.objs.size)) >>= _) _ _ _
    refine wpAny_bind ?_
    refine wpAny_updateSeq hS' rfl ?_ (by rw [sizeLine_eq]; omega) (by show (acc.push _).size ≤ sizeLine + 1; rw [Array.size_push, sizeLine_eq]; omega)
    refine wpAny_pure ⟨plainId_quiet F.plain_extend_loop _, ?_⟩
    have ltS : S < s.heap.objs.size := Heap.lt_size hS
    have lti : it < s.heap.objs.size := Heap.lt_size hc
    have ltp : pool < s.heap.objs.size := by obtain ⟨o, ho, _⟩ := hp; exact Heap.lt_size ho
    have z : (h'.update S (Obj.mapSeq fun x => x.push (.ref s.heap.objs.size))).objs.size = h'.objs.size := Heap.size_update ..
    have keep : ∀ b o, b ≠ S → h'.get? b = some o → (h'.update S (Obj.mapSeq fun x => x.push (.ref s.heap.objs.size))).get? b = some o := fun b o hb q => (Heap.get?_update_other _ _ (Ne.symm hb)).trans q
    have hS2 : (h'.update S (Obj.mapSeq fun x => x.push (.ref s.heap.objs.size))).get? S = some (lobj (acc.push (.ref s.heap.objs.size)) _) := Heap.get?_update_self _ hS' rfl
    refine ih _ (acc.push (.ref s.heap.objs.size)) _ _ m ch.2 (fun x hx => hm x (List.mem_cons_of_mem _ hx)) (keep _ _ (Ne.symm hSi) g1) ?_ hS2 (by rw [Array.size_push]; omega) fun h2 as c' k1 k2 k3 k4 => ?_
    · obtain ⟨o, ho, r⟩ := hp
      exact ⟨o, keep _ _ (Ne.symm hSp) (g4 _ _ hpi ho), r⟩
    · have e0 : ∀ h3 : Heap, ({ ({ s with heap := h' } : Shared) with heap := h3 } : Shared) = { s with heap := h3 } := fun _ => rfl
      refine hR h2 (s.heap.objs.size :: as) c' ?_ ⟨?_, Nat.le_refl _, ?_⟩ ?_ fun b o hb1 hb2 q => k4 b o hb1 hb2 (keep b o hb2 (g4 b o hb1 q))
      · rw [k1]
        simp
      · exact k4 _ _ (Nat.ne_of_gt lti) (Nat.ne_of_gt ltS) (keep _ _ (Nat.ne_of_gt ltS) g2)
      · have le : s.heap.objs.size + 1 ≤ (h'.update S (Obj.mapSeq fun x => x.push (.ref s.heap.objs.size))).objs.size := by rw [z, g3]; exact Nat.le_refl _
        exact k2.lo le
      · rw [z, g3] at k3
        omega
/-- the whole walk, begun with the first one -/
theorem loop_all (hh : A.handled = none) (hpi : pool ≠ it) (hSi : S ≠ it) (hSp : S ≠ pool) (res : Value) {m : List Nat} {rest : List (List Nat)} {s : Shared} {c : Nat} {last : Value} (ch : Chain vs.length m rest) (hm : ∀ x ∈ m :: rest, x.length ≤ 1000)
    (hc : IsC s.heap it pool 0 last m) (hp : s.heap.IsTuple pool vs.toArray) (hS : s.heap.get? S = some (lobj #[] c)) (hn : rest.length ≤ 900)
    (hR : ∀ h' (as : List Addr) c', h'.get? S = some (lobj (as.map Value.ref).toArray c') → Tups h' vs s.heap.objs.size (m :: rest) as → s.heap.objs.size ≤ h'.objs.size →
        (∀ b o, b ≠ it → b ≠ S → s.heap.get? b = some o → h'.get? b = some o) → R (.ok (.ret res)) { s with heap := h' }) :
    codeAny (model prog w) A (.builtin "list.extend.loop" ⟨[.ref S, .ref it, res], []⟩) R s := by
  refine codeAny_builtin F.entry_extend_loop ?_
  rw [Around.under_plainId F.plain_extend_loop _]
  show wpAny _ A.in1 (pyNext (.ref it) >>= _) _ _ s
  refine wpAny_bind (pynext_ok hc fun hA f1 _ => next_first hc hp hpi (hm _ List.mem_cons_self) fun h' g1 g2 g3 g4 => f1 _ _ ?_)
  have hS' := g4 S _ hSi hS
  show wpAny _ A.in1 (updateSeq S (·.push (.ref s.heap.objs.size)) >>= _) _ _ _
  refine wpAny_bind ?_
  refine wpAny_updateSeq hS' rfl ?_ (by show 0 ≤ _; omega) (by show ((#[] : Array Value).push _).size ≤ sizeLine + 1; rw [Array.size_push, sizeLine_eq]; show 0 + 1 ≤ _; omega)
  refine wpAny_pure ⟨plainId_quiet F.plain_extend_loop _, ?_⟩
  have ltS : S < s.heap.objs.size := Heap.lt_size hS
  have lti : it < s.heap.objs.size := Heap.lt_size hc
  have z : (h'.update S (Obj.mapSeq fun x => x.push (.ref s.heap.objs.size))).objs.size = h'.objs.size := Heap.size_update ..
  have keep : ∀ b o, b ≠ S → h'.get? b = some o → (h'.update S (Obj.mapSeq fun x => x.push (.ref s.heap.objs.size))).get? b = some o := fun b o hb q => (Heap.get?_update_other _ _ (Ne.symm hb)).trans q
  have hS2 : (h'.update S (Obj.mapSeq fun x => x.push (.ref s.heap.objs.size))).get? S = some (lobj (#[].push (.ref s.heap.objs.size)) _) := Heap.get?_update_self _ hS' rfl
  refine loop_ok hh hpi hSi hSp res rest _ (#[].push (.ref s.heap.objs.size)) _ _ m ch (fun x hx => hm x (List.mem_cons_of_mem _ hx)) (keep _ _ (Ne.symm hSi) g1) ?_ hS2 (by rw [Array.size_push]; show 0 + 1 + _ ≤ _; omega) fun h2 as c' k1 k2 k3 k4 => ?_
  · obtain ⟨o, ho, r⟩ := hp
    exact ⟨o, keep _ _ (Ne.symm hSp) (g4 _ _ hpi ho), r⟩
  · refine hR h2 (s.heap.objs.size :: as) c' ?_ ⟨?_, Nat.le_refl _, ?_⟩ ?_ fun b o hb1 hb2 q => k4 b o hb1 hb2 (keep b o hb2 (g4 b o hb1 q))
    · rw [k1]
      simp
    · exact k4 _ _ (Nat.ne_of_gt lti) (Nat.ne_of_gt ltS) (keep _ _ (Nat.ne_of_gt ltS) g2)
    · have le : s.heap.objs.size + 1 ≤ (h'.update S (Obj.mapSeq fun x => x.push (.ref s.heap.objs.size))).objs.size := by rw [z, g3]; exact Nat.le_refl _
      exact k2.lo le
    · rw [z, g3] at k3
      omega
end
section
variable {prog : Program} {w : World} {A : Around} {E : Value → Shared → Prop} {s : Shared} {it pool : Addr} {vs : List Value}
/-- list(combinations(..)) -/
theorem call_list_comb {Q : Value → Shared → Prop} (hh : A.handled = none) (hpi : pool ≠ it) {m : List Nat} {rest : List (List Nat)} {last : Value} (ch : Chain vs.length m rest) (hm : ∀ x ∈ m :: rest, x.length ≤ 1000)
    (hc : IsC s.heap it pool 0 last m) (hp : s.heap.IsTuple pool vs.toArray) (hn : rest.length ≤ 900)
    (hQ : ∀ h' (as : List Addr) c', h'.get? s.heap.objs.size = some (lobj (as.map Value.ref).toArray c') → Tups h' vs (s.heap.objs.size + 1) (m :: rest) as → s.heap.objs.size + 1 ≤ h'.objs.size →
        (∀ b o, b ≠ it → s.heap.get? b = some o → h'.get? b = some o) → Q (.ref s.heap.objs.size) { s with heap := h' }) :
    wpAny (model prog w) A (call (.type "list") [.ref it]) Q E s := by
  have lti : it < s.heap.objs.size := Heap.lt_size hc
  have ltp : pool < s.heap.objs.size := by obtain ⟨o, ho, _⟩ := hp; exact Heap.lt_size ho
  refine callType_codes (Q₁ := fun obj s₁ => obj = .ref s.heap.objs.size ∧ s₁ = { s with heap := s.heap.push { cls := .type "list", data := .seq #[] } }) F.called_list (F.typeCall_list_1 _) F.entry_list_init
    (code_list_new _ ⟨rfl, rfl⟩) fun obj s₁ h₁ => ?_
  obtain ⟨rfl, rfl⟩ := h₁
  have hS : (s.heap.push { cls := .type "list", data := .seq #[] }).get? s.heap.objs.size = some { cls := .type "list", data := .seq #[] } := Heap.get?_push_size _ rfl
  refine ⟨⟨_, hS, rfl⟩, F.args_list_init_2 _ _, ?_⟩
  have hS₂ := Heap.get?_update_self (Obj.mapSeq (fun _ => (#[] : Array Value))) hS rfl
  have hc1 : IsC (s.heap.push { cls := .type "list", data := .seq #[] }) it pool 0 last m := Heap.get?_push_of_some _ hc
  generalize hg : s.heap.push { cls := .type "list", data := .seq #[] } = g at hS hS₂ hc1
  have gz : g.objs.size = s.heap.objs.size + 1 := by rw [← hg]; exact Array.size_push ..
  have gk : ∀ b o, s.heap.get? b = some o → g.get? b = some o := fun b o q => by rw [← hg]; exact Heap.get?_push_of_some _ q
  generalize hz : s.heap.objs.size = S at *
  refine wpAny_bind (m := Builtin.List.listItems (.ref S)) ?_
  unfold Builtin.List.listItems
  refine wpAny_bind (wpAny_seqItems hS rfl (wpAny_pure ?_))
  show wpAny _ _ (updateSeq S (fun _ => #[]) >>= fun _ => letGo (#[] : Array Value).toList.reverse >>= fun _ => Builtin.List.listExtendWith (.ref S) (.ref it) .none) _ _ _
  refine wpAny_bind (wpAny_updateSeq hS rfl ?_)
  refine wpAny_bind (wpAny_letGo ?_)
  have ne : S ≠ it := Nat.ne_of_gt lti
  have neP : S ≠ pool := Nat.ne_of_gt ltp
  generalize hg2 : g.update S (Obj.mapSeq (fun _ => (#[] : Array Value))) = g2 at hS₂
  have gz2 : g2.objs.size = S + 1 := by rw [← hg2, Heap.size_update, gz]
  have gk2 : ∀ b o, b ≠ S → s.heap.get? b = some o → g2.get? b = some o := fun b o hb q => by rw [← hg2]; exact (Heap.get?_update_other _ _ (Ne.symm hb)).trans (gk b o q)
  have hc2 : IsC g2 it pool 0 last m := gk2 _ _ (Ne.symm ne) hc
  have hT : ({ s with heap := g2 } : Shared).TypeIs (.ref it) "itertools.combinations" := ⟨_, hc2, rfl⟩
  unfold Builtin.List.listExtendWith
  refine wpAny_bind (wpAny_typeOf hT ?_)
  have h1 : Builtin.List.listSameRef (.ref S) (.ref it) = false := by simp [Builtin.List.listSameRef, ne]
  have h2 : (Value.type "itertools.combinations" == Value.type "list") = false := by decide +kernel
  have h3 : (Value.type "itertools.combinations" == Value.type "tuple") = false := by decide +kernel
  simp only [h1, h2, h3, Bool.or_false, Bool.false_eq_true, if_false]
  refine wpAny_bind (iter_comb hc2 ?_)
  refine wpAny_bind (wpAny_holding ?_)
  unfold Builtin.List.listLengthHint
  refine wpAny_bind (wpAny_specialOf hT no_len ?_)
  show wpAny _ _ (specialOf (Value.ref it) (Str.ofString "__length_hint__") >>= _) _ _ _
  refine wpAny_bind (wpAny_specialOf hT no_hint ?_)
  refine wpAny_pure ?_
  show wpAny _ _ (rule "list.extend.makes-room" >>= fun _ => Builtin.List.listTouch (.ref S) >>= fun _ => again (.builtin "list.extend.loop" ⟨[.ref S, .ref it, .none], []⟩)) _ _ _
  refine wpAny_bind (wpAny_rule ?_)
  refine wpAny_bind ?_
  show wpAny _ _ (updateSeq S (·.push .none) >>= fun _ => updateSeq S (·.pop)) _ _ _
  refine wpAny_bind (wpAny_updateSeq hS₂ rfl ?_)
  have hS₃ := Heap.get?_update_self (Obj.mapSeq (·.push Value.none)) hS₂ rfl
  refine wpAny_updateSeq (hz := by seq_fits) hS₃ rfl ?_
  have hS₄ := Heap.get?_update_self (Obj.mapSeq (·.pop)) hS₃ rfl
  generalize hg4 : (g2.update S (Obj.mapSeq (·.push Value.none))).update S (Obj.mapSeq (·.pop)) = g4 at hS₄
  have gz4 : g4.objs.size = S + 1 := by rw [← hg4, Heap.size_update, Heap.size_update, gz2]
  have gk4 : ∀ b o, b ≠ S → s.heap.get? b = some o → g4.get? b = some o := fun b o hb q => by
    rw [← hg4]
    exact (Heap.get?_update_other _ _ (Ne.symm hb)).trans ((Heap.get?_update_other _ _ (Ne.symm hb)).trans (gk2 b o hb q))
  refine wpAny_pure ⟨plainId_quiet F.plain_extend_loop _, loop_all (A := A.in1) (s := { s with heap := g4 }) (show A.in1.handled = none from hh) hpi ne neP .none ch hm (gk4 _ _ (Ne.symm ne) hc) ?_ hS₄ hn fun h' as c' k1 k2 k3 k4 => ?_⟩
  · obtain ⟨o, ho, r⟩ := hp
    exact ⟨o, gk4 _ _ (Ne.symm neP) ho, r⟩
  · refine ⟨rfl, hQ h' as c' k1 ?_ ?_ fun b o hb q => k4 b o hb ?_ ?_⟩
    · exact k2.lo (Nat.le_of_eq gz4.symm)
    · exact Nat.le_trans (Nat.le_of_eq gz4.symm) k3
    · exact Nat.ne_of_lt (hz ▸ Heap.lt_size q)
    · exact gk4 b o (Nat.ne_of_lt (hz ▸ Heap.lt_size q)) q
end
end Cmb

set_option Elab.async false
set_option linter.all false
set_option maxRecDepth 100000
set_option maxHeartbeats 4000000
/-! list(combinations(xs, r)) as an expression -/
namespace Cmb
/-- all that come behind these numbers, at most so many -/
def after : Nat → Nat → List Nat → List (List Nat)
  | 0, _, _ => []
  | f + 1, n, l => match nextC n l with
    | none => []
    | some m => m :: after f n m
/-- the lots of r of n, as numbers -/
def combs (n r : Nat) : List (List Nat) := List.range r :: after 30 n (List.range r)
def chainB (n : Nat) : List Nat → List (List Nat) → Bool
  | l, [] => (nextC n l).isNone
  | l, m :: r => nextC n l == some m && chainB n m r
theorem chain_of {n : Nat} : ∀ {l : List Nat} {r : List (List Nat)}, chainB n l r = true → Chain n l r
  | l, [], h => Option.isNone_iff_eq_none.mp h
  | l, m :: r, h => by
    have q := (Bool.and_eq_true _ _).mp h
    exact ⟨eq_of_beq q.1, chain_of q.2⟩
theorem combs_facts : ∀ n, n ≤ 6 → ∀ r, r ≤ n → chainB n (List.range r) (after 30 n (List.range r)) = true ∧ (combs n r).all (fun m => decide (m.length = r) && m.all fun j => decide (j < n)) = true ∧ (combs n r).length ≤ 20 := by decide +kernel
end Cmb
namespace CB
open PySem PySem.Spec PyProof.Rows L2 Cmb
/-- tuples of these -/
def TupsAt (H : Hp) : List V → List (List V) → Prop
  | [], [] => True
  | v :: vs, l :: ls => (∃ a, v = .ref a ∧ H a = some (.tup l)) ∧ TupsAt H vs ls
  | _, _ => False
theorem TupsAt.length {H : Hp} : ∀ {vs : List V} {ls : List (List V)}, TupsAt H vs ls → vs.length = ls.length
  | [], [], _ => rfl
  | _ :: _, _ :: _, h => by simp [TupsAt.length h.2]
  | [], _ :: _, h => h.elim
  | _ :: _, [], h => h.elim
theorem TupsAt.mono {H H' : Hp} (e : ∀ a xs, H a = some (.tup xs) → H' a = some (.tup xs)) : ∀ {vs : List V} {ls : List (List V)}, TupsAt H vs ls → TupsAt H' vs ls
  | [], [], _ => True.intro
  | _ :: _, _ :: _, ⟨⟨a, r, h⟩, t⟩ => ⟨⟨a, r, e _ _ h⟩, TupsAt.mono e t⟩
  | [], _ :: _, h => h.elim
  | _ :: _, [], h => h.elim
theorem TupsAt.get {H : Hp} : ∀ {vs : List V} {ls : List (List V)} {i : Nat} {v : V}, TupsAt H vs ls → vs[i]? = some v → ∃ a l, v = .ref a ∧ ls[i]? = some l ∧ H a = some (.tup l)
  | [], [], _, _, _, h => by simp at h
  | _ :: _, l :: _, 0, _, ⟨⟨a, r, h⟩, _⟩, e => by
    simp at e
    exact ⟨a, l, by rw [← e]; exact r, by simp, h⟩
  | _ :: _, _ :: _, i + 1, _, ⟨_, t⟩, e => by
    obtain ⟨a, l, h1, h2, h3⟩ := TupsAt.get (i := i) t (by simpa using e)
    exact ⟨a, l, h1, by simpa using h2, h3⟩
  | [], _ :: _, _, _, h, _ => h.elim
  | _ :: _, [], _, _, h, _ => h.elim
theorem TupsAt.append {H : Hp} : ∀ {vs ws : List V} {ls ms : List (List V)}, TupsAt H vs ls → TupsAt H ws ms → TupsAt H (vs ++ ws) (ls ++ ms)
  | [], _, [], _, _, h => h
  | _ :: _, _, _ :: _, _, ⟨a, t⟩, h => ⟨a, TupsAt.append t h⟩
  | [], _, _ :: _, _, h, _ => h.elim
  | _ :: _, _, [], _, h, _ => h.elim
def combV (xs : List V) (m : List Nat) : List V := m.map fun j => xs.getD j .non
section
variable {X : Cx} {pins : List (Addr × Obj)} {σ : L2.St} {H : Hp} {s : Shared}
theorem vals_getD {xs : List V} {us : List Value} (r : Vals xs us) (j : Nat) : RelV (xs.getD j .non) (us.getD j .none) := by
  rw [List.getD_eq_getElem?_getD, List.getD_eq_getElem?_getD]
  by_cases c : j < xs.length
  · obtain ⟨u, hu, ru⟩ := r.get (List.getElem?_eq_getElem c)
    rw [List.getElem?_eq_getElem c, hu]
    exact ru
  · rw [List.getElem?_eq_none (by omega), List.getElem?_eq_none (by have := r.length; omega)]
    rfl
theorem vals_comb {xs : List V} {us : List Value} (r : Vals xs us) : ∀ m : List Nat, Vals (combV xs m) (m.map fun j => us.getD j .none)
  | [] => .nil
  | j :: m => .cons (vals_getD r j) (vals_comb r m)
/-- new objects of a heap that has grown are tracked, one by one -/
structure Tr (X : Cx) (H H1 : Hp) (s : Shared) (h' : Heap) : Prop where
  un : Un X.fs [] H H1 s.heap h'
  ok : HOk X.prog X.w H1 h'
  same : Same H H1
theorem Tr.start (I : Inv X pins σ H s) {h' : Heap} (k : ∀ b o, s.heap.get? b = some o → h'.get? b = some o) : Tr X H H s h' := ⟨Un.kept k, I.hok.kept k, fun _ _ e => e⟩
theorem Tr.add {H1 : Hp} {h' : Heap} (t : Tr X H H1 s h') (k : ∀ b o, s.heap.get? b = some o → h'.get? b = some o) (hN : ∀ b, s.heap.objs.size ≤ b → H b = none) {a : Addr} {o : HO} (ha : s.heap.objs.size ≤ a) (hn : H1 a = none) (new : ObjOk X.prog X.w (upd H1 a o) h' a o) : Tr X H (upd H1 a o) s h' := by
  refine ⟨⟨fun b u q _ _ _ => k b u q, fun b u q _ _ _ => ⟨u.slots, k b u q⟩, fun b u q n hx => ?_, fun b u q _ => ⟨u, k b u q⟩, fun b xs q => ?_, fun b u v q => ?_, fun b ps q => ?_⟩, fun b u e => ?_, fun b u e => ?_⟩
  · rw [upd_ne (Nat.ne_of_lt (Nat.lt_of_lt_of_le (Heap.lt_size q) ha))]
    exact t.un.free b u q n hx
  · have q2 := t.same _ _ q
    rw [upd_ne (ne_of_none q2 hn)]
    exact q2
  · have q2 := t.same _ _ q
    rw [upd_ne (ne_of_none q2 hn)]
    exact q2
  · have q2 := t.same _ _ q
    exact ⟨#[], by rw [upd_ne (ne_of_none q2 hn), q2]; simp⟩
  · by_cases hb : b = a
    · subst hb
      rw [upd_same] at e
      cases e
      exact new
    · rw [upd_ne hb] at e
      exact (t.ok b u e).stay (fun _ _ _ z => z) (fun d z => by rw [upd_ne (ne_of_none z hn)]; exact z) fun d xs z => by rw [upd_ne (ne_of_none z hn)]; exact z
  · have q2 := t.same _ _ e
    rw [upd_ne (ne_of_none q2 hn)]
    exact q2
theorem Tr.tups (hN : ∀ b, s.heap.objs.size ≤ b → H b = none) {h' : Heap} (k : ∀ b o, s.heap.get? b = some o → h'.get? b = some o) {xs : List V} {us : List Value} (r : Vals xs us) : ∀ {ms : List (List Nat)} {as : List Addr} {lo : Nat} {H1 : Hp}, Tups h' us lo ms as → s.heap.objs.size ≤ lo → (∀ m ∈ ms, m.length ≤ 1000) → Tr X H H1 s h' → (∀ b, lo ≤ b → H1 b = none) →
    ∃ H2, Tr X H H2 s h' ∧ TupsAt H2 (as.map V.ref) (ms.map (combV xs)) ∧ Same H1 H2 ∧ ∀ b, b < lo → H2 b = H1 b
  | [], [], _, H1, _, _, _, t, _ => ⟨H1, t, True.intro, fun _ _ e => e, fun _ _ => rfl⟩
  | [], _ :: _, _, _, h, _, _, _, _ => h.elim
  | _ :: _, [], _, _, h, _, _, _, _ => h.elim
  | m :: ms, a :: as, lo, H1, ⟨h1, h2, h3⟩, hlo, hm, t, hf => by
    have hn := hf a h2
    have hl := hm m List.mem_cons_self
    have new : ObjOk X.prog X.w (upd H1 a (.tup (combV xs m))) h' a (.tup (combV xs m)) :=
      ⟨by unfold combV; rw [List.length_map, sizeLine_eq]; omega, _, vals_comb r m, ⟨_, h1, rfl, _, rfl⟩⟩
    have t2 := t.add k hN (Nat.le_trans hlo h2) hn new
    have hf2 : ∀ b, a + 1 ≤ b → (upd H1 a (.tup (combV xs m))) b = none := fun b hb => by
      rw [upd_ne (Nat.ne_of_gt hb)]
      exact hf b (Nat.le_trans h2 (Nat.le_of_succ_le hb))
    obtain ⟨H2, t3, t4, t5, t6⟩ := Tr.tups (lo := a + 1) hN k r h3 (show s.heap.objs.size ≤ a + 1 from Nat.le_trans hlo (Nat.le_succ_of_le h2)) (fun x hx => hm x (List.mem_cons_of_mem _ hx)) t2 hf2
    refine ⟨H2, t3, ⟨⟨a, rfl, t5 _ _ upd_same⟩, t4⟩, fun b o e => t5 _ _ ?_, fun b hb => ?_⟩
    · rw [upd_ne (ne_of_none e hn)]
      exact e
    · rw [t6 b (Nat.lt_succ_of_lt (Nat.lt_of_lt_of_le hb h2)), upd_ne (Nat.ne_of_lt (Nat.lt_of_lt_of_le hb h2))]
end
def tComb (K : PySem.W.Frag) (ta : TA) : TE := fun σ H Q => ta σ H fun vs H1 => ∃ (a : Addr) (xs : List V) (r : Nat), vs = [.ref a, .int (r : Int)] ∧ SqL K H1 a xs ∧ r ≤ xs.length ∧ xs.length ≤ 6 ∧
  ∀ p ys H', Same H1 H' → H1 p = none → H' p = some (.lst ys) → TupsAt H' ys ((combs xs.length r).map (combV xs)) → Q (.ref p) H'
section
variable {X : Cx} {ta : TA} {x : Str} {e e2 : Expr} {p0 p pos pos2 : Pos}
theorem pe_listComb (hc : X.calm = true) (hgl : Gl X "list") (hml : X.mg "list" = none) (hg : Gl X x) (hm : X.mg x = some (.type "itertools.combinations")) (ha : PA X [e, e2] ta) (hdb : (x == ("__debug__" : Str)) = false := by decide)
    (hs1 : starEach [.Call (.Name x p) [e, e2] [] pos2] X.env = (false, eval (.Call (.Name x p) [e, e2] [] pos2) X.env) :: starEach [] X.env := by rfl)
    (hp1 : (backTo pos (starEach [] X.env)).any (·.1) = false := by rfl) (hs : starEach [e, e2] X.env = (false, eval e X.env) :: starEach [e2] X.env := by rfl) (hpl : (backTo pos2 (starEach [e2] X.env)).any (·.1) = false := by rfl) :
    PE X (.Call (.Name "list" p0) [.Call (.Name x p) [e, e2] [] pos2] [] pos) (tComb X.K ta) := by
  refine ⟨fun pins s σ H Q I h => ?_⟩
  refine wpAny_Call_Name_kw (ld_blt I hgl hml PyProof.Rows.boot_list ?_)
  refine PyProof.Rows.callWith_type1 ?_ hs1 hp1
  rw [hs1]
  show wpAny _ _ (spliced ((false, eval (.Call (.Name x p) [e, e2] [] pos2) X.env) :: backTo pos (starEach [] X.env))) _ _ s
  refine Calls.spliced_cons ?_
  refine wpAny_Call_Name_kw (ld_glob I hg hm ?_ hdb)
  refine PyProof.Rows.callWith_type1 ?_ hs hpl
  refine thn (ha.run pos2 pins s σ H _ I h) fun us s1 ⟨vs, H1, I1, r1, q1⟩ => ?_
  obtain ⟨a, xs, r, rfl, hq, hr, h6, q⟩ := q1
  obtain ⟨u1, us1, rfl, ru, rus⟩ : ∃ u1 us1, us = u1 :: us1 ∧ RelV (.ref a) u1 ∧ Vals [.int (r : Int)] us1 := by
    cases r1 with
    | cons a b => exact ⟨_, _, rfl, a, b⟩
  obtain ⟨u2, us2, rfl, ru2, rus2⟩ : ∃ u2 us2, us1 = u2 :: us2 ∧ RelV (.int (r : Int)) u2 ∧ Vals [] us2 := by
    cases rus with
    | cons a b => exact ⟨_, _, rfl, a, b⟩
  cases rus2
  cases ru
  obtain ⟨tk, rfl⟩ := ru2
  obtain ⟨its, rv, pl, hsz⟩ := I1.list hq
  have hlen : its.length = xs.length := rv.length.symm
  refine call_comb (vs := its) (r := r) (by omega) pl.isList (by omega) fun h1 it pool k1 k2 k3 k4 k5 k6 k7 k8 => ?_
  refine Calls.spliced_nil ?_
  obtain ⟨f1, f2, f3⟩ := combs_facts its.length (by omega) r (by omega)
  have f4 : ∀ m ∈ combs its.length r, m.length ≤ 1000 := fun m hm => by
    have g := List.all_eq_true.mp f2 m hm
    rw [Bool.and_eq_true] at g
    have := of_decide_eq_true g.1
    omega
  refine call_list_comb (s := { s1 with heap := h1 }) (I1.ok.hd hc) (Ne.symm k5) (chain_of f1) f4 k1 k2 (by
    have f5 : (combs its.length r).length = (after 30 its.length (List.range r)).length + 1 := rfl
    omega) fun h' as c' g1 g2 g3 g4 => ?_
  have big : s1.heap.objs.size ≤ h1.objs.size := Nat.le_trans k3 (Nat.le_of_lt k6)
  have kk : ∀ b o, s1.heap.get? b = some o → h'.get? b = some o := fun b o e => g4 b o (Nat.ne_of_lt (Nat.lt_of_lt_of_le (Heap.lt_size e) k3)) (k8 b o e)
  have hN : ∀ b, s1.heap.objs.size ≤ b → H1 b = none := fun b hb => I1.hok.fresh hb
  obtain ⟨H2, t2, t3, t4, t5⟩ := Tr.tups (X := X) hN kk rv g2 (by show s1.heap.objs.size ≤ h1.objs.size + 1; omega) f4 (Tr.start I1 kk) fun b hb => hN b (Nat.le_trans big (Nat.le_trans (Nat.le_succ _) hb))
  have hn : H2 h1.objs.size = none := by
    rw [t5 _ (show h1.objs.size < h1.objs.size + 1 from Nat.lt_succ_self _)]
    exact hN _ big
  have al := t3.length
  rw [List.length_map, List.length_map] at al
  have vr : ∀ l : List Addr, Vals (l.map V.ref) (l.map Value.ref) := fun l => by
    induction l with
    | nil => exact .nil
    | cons b l ih => exact .cons rfl ih
  have new : ObjOk X.prog X.w (upd H2 h1.objs.size (.lst (as.map V.ref))) h' h1.objs.size (.lst (as.map V.ref)) :=
    ⟨by rw [List.length_map, al, sizeLine_eq]; exact Nat.le_trans f3 (by omega), as.map Value.ref, c', vr as, by exact g1⟩
  have t6 := t2.add kk hN big hn new
  refine ⟨.ref h1.objs.size, _, I1.un (t' := s1.toks) t6.un t6.ok, rfl, q _ _ _ t6.same (hN _ big) upd_same ?_⟩
  rw [hlen] at t3
  exact t3.mono fun b l e => by
    rw [upd_ne (ne_of_none e hn)]
    exact e
end
end CB

set_option Elab.async false
set_option linter.all false
set_option maxRecDepth 100000
set_option maxHeartbeats 4000000
/-! lots in their order -/
namespace CB
open PySem PySem.Spec PyProof.Rows L2 Cmb
/-- all lots of so many people, by how many they are, then as tuples -/
def lotsI (n : Nat) : List (List Nat) := (List.range (n + 1)).flatMap (combs n)
/-- those among some ascending persons -/
def lotsAm (S : List Nat) : List (List Nat) := (List.range (S.length + 1)).flatMap fun r => (combs S.length r).map fun m => m.map fun j => S.getD j 0
def byB (a b : List Nat) : Bool := decide (a.length < b.length) || (decide (a.length = b.length) && decide (TS.code 64 (pI a) ≤ TS.code 64 (pI b)))
def pairB (f : List Nat → List Nat → Bool) : List (List Nat) → Bool
  | [] => true
  | a :: l => l.all (f a) && pairB f l
theorem pairB_of {f : List Nat → List Nat → Bool} {R : List Nat → List Nat → Prop} (h : ∀ a b, f a b = true → R a b) : ∀ {l : List (List Nat)}, pairB f l = true → l.Pairwise R
  | [], _ => .nil
  | a :: l, e => by
    have q := (Bool.and_eq_true _ _).mp e
    exact .cons (fun b hb => h a b (List.all_eq_true.mp q.1 b hb)) (pairB_of h q.2)
theorem byB_of (a b : List Nat) (h : byB a b = true) : a.length < b.length ∨ (a.length = b.length ∧ TS.code 64 (pI a) ≤ TS.code 64 (pI b)) := by
  unfold byB at h
  rcases Bool.or_eq_true_iff.mp h with h | h
  · exact .inl (of_decide_eq_true h)
  · have q := (Bool.and_eq_true _ _).mp h
    exact .inr ⟨of_decide_eq_true q.1, of_decide_eq_true q.2⟩
theorem lotsI_facts : ∀ n, n ≤ 6 → (lotsI n).isPerm (subs n) = true ∧ pairB byB (lotsI n) = true := by decide +kernel
theorem code_anti : ∀ n, n ≤ 6 → ((subs n).all fun a => (subs n).all fun b => !(decide (a.length = b.length) && decide (TS.code 64 (pI a) = TS.code 64 (pI b))) || a == b) = true := by decide +kernel
theorem lotsI_perm {n : Nat} (h : n ≤ 6) : (lotsI n).Perm (subs n) := List.isPerm_iff.mp (lotsI_facts n h).1
theorem lotsI_by {n : Nat} (h : n ≤ 6) : LotsBy (lotsI n) := pairB_of byB_of (lotsI_facts n h).2
theorem lots_unique {n : Nat} {L : List (List Nat)} (h : n ≤ 6) (p : L.Perm (subs n)) (b : LotsBy L) : L = lotsI n := by
  refine List.Perm.eq_of_pairwise (fun x y hx hy r1 r2 => ?_) b (lotsI_by h) (p.trans (lotsI_perm h).symm)
  have q := List.all_eq_true.mp (List.all_eq_true.mp (code_anti n h) x (p.mem_iff.mp hx)) y ((lotsI_perm h).mem_iff.mp hy)
  rcases r1 with r1 | ⟨r1, s1⟩
  · rcases r2 with r2 | ⟨r2, s2⟩ <;> omega
  · rcases r2 with r2 | ⟨r2, s2⟩
    · omega
    · rw [decide_eq_true r1, decide_eq_true (show TS.code 64 (pI x) = TS.code 64 (pI y) by omega)] at q
      simpa using q
theorem lotsAm_facts : ∀ n, n ≤ 6 → ((subs n).all fun S => lotsAm S == (lotsI n).filter fun l => l.all fun p => S.contains p) = true := by decide +kernel
theorem lotsAm_eq {n : Nat} {S : List Nat} (h : n ≤ 6) (hS : S ∈ subs n) : lotsAm S = (lotsI n).filter fun l => l.all fun p => S.contains p :=
  eq_of_beq (List.all_eq_true.mp (lotsAm_facts n h) S hS)
theorem lotsAm_few : ∀ n, n ≤ 6 → ((subs n).all fun S => decide ((lotsAm S).length ≤ 64)) = true := by decide +kernel
theorem range_subs (n : Nat) : List.range n ∈ subs n := by
  have h := subs_filter (fun _ => true) n
  rwa [List.filter_eq_self.mpr (fun _ _ => rfl)] at h
theorem lotsAm_range {n : Nat} (h : n ≤ 6) : lotsAm (List.range n) = lotsI n := by
  rw [lotsAm_eq h (range_subs n)]
  refine List.filter_eq_self.mpr fun l hl => List.all_eq_true.mpr fun p hp => ?_
  have := subs_lt ((lotsI_perm h).mem_iff.mp hl) p hp
  simp [this]
/-- tuples of persons -/
theorem tups_lots {K : PySem.W.Frag} {H : Hp} (ps : List Nat) : ∀ {vs : List V} {ms : List (List Nat)}, (∀ m ∈ ms, ∀ j ∈ m, j < ps.length) → TupsAt H vs (ms.map (combV (pV ps))) → LotsAt K H vs (ms.map fun m => m.map fun j => ps.getD j 0)
  | [], [], _, _ => .nil
  | [], _ :: _, _, h => h.elim
  | _ :: _, [], _, h => h.elim
  | v :: vs, m :: ms, hb, ⟨⟨a, e, ha⟩, t⟩ => by
    have ec : combV (pV ps) m = pV (m.map fun j => ps.getD j 0) := by
      unfold combV pV pI
      rw [List.map_map, List.map_map, List.map_map]
      refine List.map_congr_left fun j hj => ?_
      have hl := hb m List.mem_cons_self j hj
      simp [List.getD_eq_getElem?_getD, List.getElem?_map, List.getElem?_eq_getElem hl]
    refine .cons ⟨a, e, ?_⟩ (tups_lots ps (fun m hm => hb m (List.mem_cons_of_mem _ hm)) t)
    rw [ec] at ha
    exact SqT.of ha
theorem combs_lt {k r : Nat} (hk : k ≤ 6) (hr : r ≤ k) : ∀ m ∈ combs k r, ∀ j ∈ m, j < k := fun m hm j hj => by
  have g := List.all_eq_true.mp (combs_facts k hk r hr).2.1 m hm
  rw [Bool.and_eq_true] at g
  exact of_decide_eq_true (List.all_eq_true.mp g.2 j hj)
end CB

set_option Elab.async false
set_option linter.all false
set_option maxRecDepth 100000
set_option maxHeartbeats 4000000
/-! terms whose persons are called otherwise; the outcome mirrored and renamed -/
namespace CB
open PySem PySem.Spec PyProof.Rows L2
mutual
def Tm.ren (o : List Nat) : Tm → Tm
  | .bid p => .bid (o.getD p 0)
  | .fixed q => .fixed q
  | .mean ws ts => .mean ws (Tm.rens o ts)
  | .least ts => .least (Tm.rens o ts)
  | .greatest ts => .greatest (Tm.rens o ts)
  | .ranked k ts => .ranked k (Tm.rens o ts)
  | .between lo hi t => .between lo hi (t.ren o)
def Tm.rens (o : List Nat) : List Tm → List Tm
  | [] => []
  | t :: ts => t.ren o :: Tm.rens o ts
end
theorem rens_map (o : List Nat) : ∀ ts : List Tm, Tm.rens o ts = ts.map (Tm.ren o)
  | [] => rfl
  | t :: ts => by rw [Tm.rens, rens_map o ts]; rfl
theorem rens_len (o : List Nat) (ts : List Tm) : (Tm.rens o ts).length = ts.length := by rw [rens_map, List.length_map]
mutual
theorem ren_wt (o : List Nat) (s : Nat) : ∀ t : Tm, (t.ren o).wt s = t.wt s
  | .bid _ => rfl
  | .fixed _ => rfl
  | .mean ws ts => by show Tm.wts s (Tm.rens o ts) + 12 = Tm.wts s ts + 12; rw [rens_wts o s ts]
  | .least ts => rens_wts o s ts
  | .greatest ts => rens_wts o s ts
  | .ranked k ts => rens_wts o s ts
  | .between lo hi t => by show (t.ren o).wt s + s + s = t.wt s + s + s; rw [ren_wt o s t]
theorem rens_wts (o : List Nat) (s : Nat) : ∀ ts : List Tm, Tm.wts s (Tm.rens o ts) = Tm.wts s ts
  | [] => rfl
  | t :: ts => by show (t.ren o).wt s + 8 + Tm.wts s (Tm.rens o ts) = t.wt s + 8 + Tm.wts s ts; rw [ren_wt o s t, rens_wts o s ts]
end
mutual
theorem ren_dep (o : List Nat) : ∀ t : Tm, (t.ren o).dep = t.dep
  | .bid _ => rfl
  | .fixed _ => rfl
  | .mean ws ts => by show Tm.deps (Tm.rens o ts) + 1 = Tm.deps ts + 1; rw [rens_deps o ts]
  | .least ts => by show Tm.deps (Tm.rens o ts) + 1 = Tm.deps ts + 1; rw [rens_deps o ts]
  | .greatest ts => by show Tm.deps (Tm.rens o ts) + 1 = Tm.deps ts + 1; rw [rens_deps o ts]
  | .ranked k ts => by show Tm.deps (Tm.rens o ts) + 1 = Tm.deps ts + 1; rw [rens_deps o ts]
  | .between lo hi t => by show (t.ren o).dep + 1 = t.dep + 1; rw [ren_dep o t]
theorem rens_deps (o : List Nat) : ∀ ts : List Tm, Tm.deps (Tm.rens o ts) = Tm.deps ts
  | [] => rfl
  | t :: ts => by show max (t.ren o).dep (Tm.deps (Tm.rens o ts)) = max t.dep (Tm.deps ts); rw [ren_dep o t, rens_deps o ts]
end
mutual
theorem ren_cnt (o : List Nat) : ∀ t : Tm, (t.ren o).cnt = t.cnt
  | .bid _ => rfl
  | .fixed _ => rfl
  | .mean ws ts => by show Tm.cnts (Tm.rens o ts) + 1 = Tm.cnts ts + 1; rw [rens_cnts o ts]
  | .least ts => by show Tm.cnts (Tm.rens o ts) + 1 = Tm.cnts ts + 1; rw [rens_cnts o ts]
  | .greatest ts => by show Tm.cnts (Tm.rens o ts) + 1 = Tm.cnts ts + 1; rw [rens_cnts o ts]
  | .ranked k ts => by show Tm.cnts (Tm.rens o ts) + 1 = Tm.cnts ts + 1; rw [rens_cnts o ts]
  | .between lo hi t => by show (t.ren o).cnt + 1 = t.cnt + 1; rw [ren_cnt o t]
theorem rens_cnts (o : List Nat) : ∀ ts : List Tm, Tm.cnts (Tm.rens o ts) = Tm.cnts ts
  | [] => rfl
  | t :: ts => by show (t.ren o).cnt + Tm.cnts (Tm.rens o ts) = t.cnt + Tm.cnts ts; rw [ren_cnt o t, rens_cnts o ts]
end
theorem rens_ne {o : List Nat} {ts : List Tm} (h : ts ≠ []) : Tm.rens o ts ≠ [] := by
  rw [rens_map]
  intro e
  exact h (List.map_eq_nil_iff.mp e)
/-- an order of n persons -/
def Ord (n : Nat) (o : List Nat) : Prop := o.length = n ∧ o.Perm (List.range n)
theorem Ord.lt {n : Nat} {o : List Nat} (h : Ord n o) {p : Nat} (hp : p < n) : o.getD p 0 < n := by
  have hl : p < o.length := by rw [h.1]; exact hp
  rw [List.getD_eq_getElem?_getD, List.getElem?_eq_getElem hl]
  exact List.mem_range.mp (h.2.mem_iff.mp (List.getElem_mem hl))
mutual
theorem ren_ok {n s : Nat} {o : List Nat} (ho : ∀ p, p < n → o.getD p 0 < n) : ∀ {t : Tm}, t.Ok n s → (t.ren o).Ok n s
  | .bid p, h => ho p h
  | .fixed q, h => h
  | .mean ws ts, h => ⟨by rw [rens_len]; exact h.1, rens_ne h.2.1, by rw [rens_len]; exact h.2.2.1, h.2.2.2.1, rens_ok ho h.2.2.2.2⟩
  | .least ts, h => ⟨rens_ne h.1, by rw [rens_len]; exact h.2.1, rens_ok ho h.2.2⟩
  | .greatest ts, h => ⟨rens_ne h.1, by rw [rens_len]; exact h.2.1, rens_ok ho h.2.2⟩
  | .ranked k ts, h => ⟨h.1, by rw [rens_len]; exact h.2.1, by rw [rens_len]; exact h.2.2.1, rens_ok ho h.2.2.2⟩
  | .between lo hi t, h => ⟨h.1, h.2.1, h.2.2.1, ren_ok ho h.2.2.2⟩
theorem rens_ok {n s : Nat} {o : List Nat} (ho : ∀ p, p < n → o.getD p 0 < n) : ∀ {ts : List Tm}, Tm.Oks n s ts → Tm.Oks n s (Tm.rens o ts)
  | [], _ => trivial
  | t :: ts, h => ⟨ren_ok ho h.1, rens_ok ho h.2⟩
end
mutual
/-- what a renamed term tells -/
theorem ren_val {n s : Nat} {o : List Nat} {bs cs : List Rat} (e : ∀ p, p < n → bs.getD (o.getD p 0) 0 = cs.getD p 0) : ∀ {t : Tm}, t.Ok n s → (t.ren o).val bs = t.val cs
  | .bid p, h => e p h
  | .fixed q, h => rfl
  | .mean ws ts, h => by show wavg ws (Tm.vals bs (Tm.rens o ts)) = wavg ws (Tm.vals cs ts); rw [rens_vals e h.2.2.2.2]
  | .least ts, h => by show minL (Tm.vals bs (Tm.rens o ts)) = minL (Tm.vals cs ts); rw [rens_vals e h.2.2]
  | .greatest ts, h => by show maxL (Tm.vals bs (Tm.rens o ts)) = maxL (Tm.vals cs ts); rw [rens_vals e h.2.2]
  | .ranked k ts, h => by show kthG (k - 1) (Tm.vals bs (Tm.rens o ts)) = kthG (k - 1) (Tm.vals cs ts); rw [rens_vals e h.2.2.2]
  | .between lo hi t, h => by show rmax lo (rmin hi ((t.ren o).val bs)) = rmax lo (rmin hi (t.val cs)); rw [ren_val e h.2.2.2]
theorem rens_vals {n s : Nat} {o : List Nat} {bs cs : List Rat} (e : ∀ p, p < n → bs.getD (o.getD p 0) 0 = cs.getD p 0) : ∀ {ts : List Tm}, Tm.Oks n s ts → Tm.vals bs (Tm.rens o ts) = Tm.vals cs ts
  | [], _ => rfl
  | t :: ts, h => by
    show (t.ren o).val bs :: Tm.vals bs (Tm.rens o ts) = t.val cs :: Tm.vals cs ts
    rw [ren_val e h.1, rens_vals e h.2]
end
theorem end01_getD {n p : Nat} {S : List Nat} (h : p < n) : (end01 n S).getD p 0 = if p ∈ S then 1 else 0 := by
  rw [List.getD_eq_getElem?_getD, end01_get h]
  rfl
theorem nd_inj {o : List Nat} (nd : o.Nodup) {p q : Nat} {lp : p < o.length} {lq : q < o.length} (h : o[p] = o[q]) : p = q := by
  rcases Nat.lt_trichotomy p q with c | c | c
  · exact absurd h (List.pairwise_iff_getElem.mp nd p q lp lq c)
  · exact c
  · exact absurd h.symm (List.pairwise_iff_getElem.mp nd q p lq lp c)
/-- the outcome of the renamed rule -/
theorem outc_ren {n s : Nat} {o : List Nat} {t : Tm} {ws vs : List Rat} (ht : t.Ok n s) (ho : Ord n o) (hw : ws.length = n) (hv : vs.length = n) (e : ∀ p, p < n → vs.getD (o.getD p 0) 0 = ws.getD p 0) : outc (t.ren o) n vs = outc t n ws := by
  have hr : (t.ren o).Ok n s := ren_ok (fun p hp => ho.lt hp) ht
  have inj : ∀ p q, p < n → q < n → o.getD p 0 = o.getD q 0 → p = q := fun p q hp hq h => by
    have nd : o.Nodup := ho.2.nodup_iff.mpr List.nodup_range
    have lp : p < o.length := by rw [ho.1]; exact hp
    have lq : q < o.length := by rw [ho.1]; exact hq
    rw [List.getD_eq_getElem?_getD, List.getD_eq_getElem?_getD, List.getElem?_eq_getElem lp, List.getElem?_eq_getElem lq] at h
    exact nd_inj nd h
  have sur : ∀ q, q < n → ∃ p, p < n ∧ o.getD p 0 = q := fun q hq => by
    obtain ⟨p, hp, e⟩ := List.mem_iff_getElem.mp (ho.2.mem_iff.mpr (List.mem_range.mpr hq))
    exact ⟨p, by rw [← ho.1]; exact hp, by rw [List.getD_eq_getElem?_getD, List.getElem?_eq_getElem hp]; exact e⟩
  have a : outc (t.ren o) n vs ≤ outc t n ws := by
    obtain ⟨S, h1, h2, h3, _⟩ := outc_at (t := t.ren o) hv
    refine outc_ge (S := (List.range n).filter fun p => decide (o.getD p 0 ∈ S)) ht hw (fun p hp => List.mem_range.mp (List.mem_filter.mp hp).1) ?_ ?_
    · rw [← ren_val (o := o) (bs := end01 n S) (fun p hp => ?_) ht]
      · exact h2
      · rw [end01_getD (ho.lt hp), end01_getD hp]
        by_cases c : o.getD p 0 ∈ S
        · have : p ∈ (List.range n).filter fun p => decide (o.getD p 0 ∈ S) := List.mem_filter.mpr ⟨List.mem_range.mpr hp, decide_eq_true c⟩
          rw [if_pos c, if_pos this]
        · have : ¬ p ∈ (List.range n).filter fun p => decide (o.getD p 0 ∈ S) := fun z => c (of_decide_eq_true (List.mem_filter.mp z).2)
          rw [if_neg c, if_neg this]
    · intro p hp
      have hp1 := List.mem_range.mp (List.mem_filter.mp hp).1
      rw [← e p hp1]
      exact h3 _ (of_decide_eq_true (List.mem_filter.mp hp).2)
  have b : outc t n ws ≤ outc (t.ren o) n vs := by
    obtain ⟨S, h1, h2, h3, _⟩ := outc_at (t := t) hw
    refine outc_ge (S := S.map fun p => o.getD p 0) hr hv (fun q hq => ?_) ?_ ?_
    · obtain ⟨p, hp, rfl⟩ := List.mem_map.mp hq
      exact ho.lt (h1 p hp)
    · rw [ren_val (o := o) (cs := end01 n S) (fun p hp => ?_) ht]
      · exact h2
      · rw [end01_getD (ho.lt hp), end01_getD hp]
        by_cases c : p ∈ S
        · have : o.getD p 0 ∈ S.map fun p => o.getD p 0 := List.mem_map.mpr ⟨p, c, rfl⟩
          rw [if_pos c, if_pos this]
        · have : ¬ o.getD p 0 ∈ S.map fun p => o.getD p 0 := fun z => by
            obtain ⟨q, hq, eq⟩ := List.mem_map.mp z
            exact c (inj q p (h1 q hq) hp eq ▸ hq)
          rw [if_neg c, if_neg this]
    · intro q hq
      obtain ⟨p, hp, rfl⟩ := List.mem_map.mp hq
      rw [e p (h1 p hp)]
      exact h3 p hp
  grind
/-- where a person stands in an order -/
def posL (o : List Nat) (q : Nat) : Nat := o.findIdx fun x => x == q
theorem posL_at {n : Nat} {o : List Nat} (h : Ord n o) {q : Nat} (hq : q < n) : posL o q < n ∧ o[posL o q]? = some q ∧ ∀ m, m < posL o q → o[m]? ≠ some q := by
  have hm : q ∈ o := h.2.mem_iff.mpr (List.mem_range.mpr hq)
  have lt : posL o q < o.length := List.findIdx_lt_length_of_exists ⟨q, hm, by simp⟩
  have at' : (o[posL o q] == q) = true := List.findIdx_getElem (w := lt)
  refine ⟨by rw [← h.1]; exact lt, by rw [List.getElem?_eq_getElem lt, beq_iff_eq.mp at'], fun m hm2 e => ?_⟩
  have lm : m < o.length := Nat.lt_trans hm2 lt
  have := List.not_of_lt_findIdx hm2
  rw [List.getElem?_eq_getElem lm] at e
  rw [Option.some.inj e] at this
  simp at this
theorem posL_of {n : Nat} {o : List Nat} (h : Ord n o) {p : Nat} (hp : p < n) : posL o (o.getD p 0) = p := by
  have lp : p < o.length := by rw [h.1]; exact hp
  have e0 : o.getD p 0 = o[p] := by rw [List.getD_eq_getElem?_getD, List.getElem?_eq_getElem lp]; rfl
  obtain ⟨h1, h2, _⟩ := posL_at h (h.lt hp)
  have l1 : posL o (o.getD p 0) < o.length := by rw [h.1]; exact h1
  rw [List.getElem?_eq_getElem l1] at h2
  have h3 := Option.some.inj h2
  have nd : o.Nodup := h.2.nodup_iff.mpr List.nodup_range
  exact nd_inj nd (lp := l1) (lq := lp) (h3.trans e0)
/-- the order that takes it back -/
def invL (n : Nat) (o : List Nat) : List Nat := (List.range n).map (posL o)
theorem invL_get {n : Nat} {o : List Nat} (h : Ord n o) {p : Nat} (hp : p < n) : (invL n o).getD (o.getD p 0) 0 = p := by
  unfold invL
  rw [List.getD_eq_getElem?_getD, List.getElem?_map, List.getElem?_range (h.lt hp)]
  exact posL_of h hp
theorem invL_ord {n : Nat} {o : List Nat} (h : Ord n o) : Ord n (invL n o) := by
  refine ⟨by unfold invL; rw [List.length_map, List.length_range], ?_⟩
  have e : o.map (posL o) = List.range n := by
    refine List.ext_getElem? fun j => ?_
    by_cases hj : j < n
    · have lj : j < o.length := by rw [h.1]; exact hj
      rw [List.getElem?_map, List.getElem?_eq_getElem lj, List.getElem?_range hj]
      have e0 : o.getD j 0 = o[j] := by rw [List.getD_eq_getElem?_getD, List.getElem?_eq_getElem lj]; rfl
      show some (posL o o[j]) = some j
      rw [← e0, posL_of h hj]
    · rw [List.getElem?_eq_none (by rw [List.length_map, h.1]; omega), List.getElem?_eq_none (by rw [List.length_range]; omega)]
  rw [← e]
  unfold invL
  exact (h.2.map (posL o)).symm
mutual
theorem ren_ren {n s : Nat} {o i : List Nat} (h : ∀ p, p < n → i.getD (o.getD p 0) 0 = p) : ∀ {t : Tm}, t.Ok n s → (t.ren o).ren i = t
  | .bid p, k => by show Tm.bid (i.getD (o.getD p 0) 0) = _; rw [h p k]
  | .fixed q, k => rfl
  | .mean ws ts, k => by show Tm.mean ws (Tm.rens i (Tm.rens o ts)) = _; rw [rens_rens h k.2.2.2.2]
  | .least ts, k => by show Tm.least (Tm.rens i (Tm.rens o ts)) = _; rw [rens_rens h k.2.2]
  | .greatest ts, k => by show Tm.greatest (Tm.rens i (Tm.rens o ts)) = _; rw [rens_rens h k.2.2]
  | .ranked r ts, k => by show Tm.ranked r (Tm.rens i (Tm.rens o ts)) = _; rw [rens_rens h k.2.2.2]
  | .between lo hi t, k => by show Tm.between lo hi ((t.ren o).ren i) = _; rw [ren_ren h k.2.2.2]
theorem rens_rens {n s : Nat} {o i : List Nat} (h : ∀ p, p < n → i.getD (o.getD p 0) 0 = p) : ∀ {ts : List Tm}, Tm.Oks n s ts → Tm.rens i (Tm.rens o ts) = ts
  | [], _ => rfl
  | t :: ts, k => by show (t.ren o).ren i :: Tm.rens i (Tm.rens o ts) = _; rw [ren_ren h k.1, rens_rens h k.2]
end
/-! mirrored -/
def compL (n : Nat) (l : List Nat) : List Nat := (List.range n).filter fun p => !decide (p ∈ l)
theorem fl_ends (n : Nat) (l : List Nat) : end01 n (compL n l) = flL (end01 n l) := by
  refine List.ext_getElem? fun i => ?_
  by_cases h : i < n
  · rw [end01_get h]
    unfold flL
    rw [List.getElem?_map, end01_get h]
    by_cases g : i ∈ l
    · have : i ∉ compL n l := fun z => by
        have := (List.mem_filter.mp z).2
        simp [g] at this
      rw [if_neg this, if_pos g]
      decide +kernel
    · have : i ∈ compL n l := List.mem_filter.mpr ⟨List.mem_range.mpr h, by simp [g]⟩
      rw [if_pos this, if_neg g]
      decide +kernel
  · rw [List.getElem?_eq_none (by rw [end01_len]; omega), List.getElem?_eq_none (by rw [flL_len, end01_len]; omega)]
theorem fl_more {n : Nat} {ws : List Rat} {y : Rat} (hw : ws.length = n) : moreL (flL ws) (1 - y) n = lessL ws y n := by
  unfold moreL lessL
  refine List.filter_congr fun p hp => decide_eq_decide.mpr ?_
  have := List.mem_range.mp hp
  rw [flL_get (by omega)]
  constructor <;> intro h <;> grind
theorem fl_less {n : Nat} {ws : List Rat} {y : Rat} (hw : ws.length = n) : lessL (flL ws) (1 - y) n = moreL ws y n := by
  unfold moreL lessL
  refine List.filter_congr fun p hp => decide_eq_decide.mpr ?_
  have := List.mem_range.mp hp
  rw [flL_get (by omega)]
  constructor <;> intro h <;> grind
theorem fl_just {n : Nat} {ws : List Rat} {y : Rat} (hw : ws.length = n) : justL (flL ws) (1 - y) n = justL ws y n := by
  unfold justL
  refine List.filter_congr fun p hp => decide_eq_decide.mpr ?_
  have := List.mem_range.mp hp
  rw [flL_get (by omega)]
  constructor <;> intro h <;> grind
theorem less_comp {n : Nat} {ws : List Rat} {y : Rat} : lessL ws y n = compL n (wishL ws y n) := by
  unfold lessL compL
  refine List.filter_congr fun p hp => ?_
  have hp' := List.mem_range.mp hp
  rw [Bool.eq_iff_iff, decide_eq_true_iff, Bool.not_eq_true', decide_eq_false_iff_not, wishL_mem]
  constructor
  · intro h z
    exact z.2 h
  · intro h
    by_cases c : ws.getD p 0 < y
    · exact c
    · exact absurd ⟨hp', c⟩ h
theorem fl_wish {n : Nat} {ws : List Rat} {y : Rat} (hw : ws.length = n) : wishL (flL ws) (1 - y) n = compL n (moreL ws y n) := by
  unfold wishL compL
  refine List.filter_congr fun p hp => ?_
  have hp' := List.mem_range.mp hp
  rw [flL_get (by omega), Bool.eq_iff_iff, Bool.not_eq_true', Bool.not_eq_true', decide_eq_false_iff_not, decide_eq_false_iff_not, moreL_mem]
  constructor
  · intro h z
    exact h (by have := z.2; grind)
  · intro h z
    exact h ⟨hp', by grind⟩
/-- the outcome of the mirrored rule -/
theorem outc_mir {n s : Nat} {t : Tm} {ws : List Rat} (ht : t.Ok n s) (hw : ws.length = n) : outc t.mir n (flL ws) = 1 - outc t n ws := by
  have h0 := isOut_iff (y := outc t n ws) ht hw
  rw [decide_eq_true rfl] at h0
  have h1 := isOut_iff (t := t.mir) (ws := flL ws) (y := 1 - outc t n ws) (mir_ok ht) (by rw [flL_len]; exact hw)
  have h2 : isOut t.mir n (flL ws) (1 - outc t n ws) = true := by
    unfold isOut at h0 ⊢
    rw [Bool.and_eq_true, Bool.not_eq_true', Bool.not_eq_true', decide_eq_false_iff_not, decide_eq_false_iff_not] at h0 ⊢
    rw [fl_more hw, less_comp, fl_ends, mir_val (end01_len n _) ht, fl_wish hw, fl_ends, mir_val (end01_len n _) ht]
    obtain ⟨a, b⟩ := h0
    constructor
    · intro z; exact b (by grind)
    · intro z; exact a (by grind)
  rw [h2] at h1
  exact (of_decide_eq_true h1.symm).symm
end CB

set_option Elab.async false
set_option linter.all false
set_option maxRecDepth 100000
set_option maxHeartbeats 4000000
/-! sorted(..) of a tuple of integers -/
namespace STup
open PySem PySem.Spec PyProof.Rows
open Sem (wp)
section
variable {prog : Program} {w : World} {A : Around} {E : Value → Shared → Prop} {s : Shared} {l : Addr} {vs : List Value}
theorem take_tup {Q : List Value → Shared → Prop} (hl : s.heap.IsTuple l vs.toArray) (few : vs.length ≤ 1000)
    (k : Q vs { s with heap := (s.heap.push (seqObj "list" #[] 0)).update s.heap.objs.size (Obj.mapSeq (· ++ vs.toArray)) }) : wpAny (model prog w) A (collect (.ref l)) Q E s := by
  obtain ⟨o, ho, hc, n, hd⟩ := id hl
  have z := sizeLine_eq
  unfold collect
  refine wpAny_bind (wpAny_runValue (codeAny_builtin entry_proto_collect' ?_))
  refine wpAny_bind (wpAny_newList (wpAny_pure ⟨Code.quiet_builtin _ (by decide +kernel), codeAny_builtin entry_list_iadd' ?_⟩))
  show wpAny _ _ (Builtin.List.listExtendWith (.ref s.heap.objs.size) (.ref l) _) _ _ { s with heap := s.heap.push (seqObj "list" #[] 0) }
  unfold Builtin.List.listExtendWith
  have g0 : (s.heap.push (seqObj "list" #[] 0)).get? s.heap.objs.size = some (seqObj "list" #[] 0) := Heap.get?_push_size _ rfl
  have g1 : (s.heap.push (seqObj "list" #[] 0)).get? l = some o := Heap.get?_push_of_some _ ho
  refine wpAny_bind (wpAny_typeOf (T := "tuple") ⟨o, g1, hc⟩ ?_)
  rw [if_pos (by rw [show (Value.type "tuple" == Value.type "tuple") = true from by rfl]; simp)]
  refine wpAny_bind (listItems_at g1 hd (wpAny_bind (listItems_at (xs := #[]) (n := 0) g0 rfl ?_)))
  rw [if_neg (by simp)]
  refine wpAny_bind (listUpdate_at (xs := #[]) (n := 0) g0 rfl ?_ (Nat.zero_le _) (by show (#[] ++ vs.toArray).size ≤ _; simp only [Array.size_append, List.size_toArray, List.length_nil]; omega))
  refine wpAny_pure ?_
  refine wpAny_bind (m := load s.heap.objs.size) (wpAny_load (get?_update_seq g0 _) ?_)
  show wpAny _ _ (pure ((#[] : Array Value) ++ vs.toArray).toList) _ _ _
  rw [show ((#[] : Array Value) ++ vs.toArray).toList = vs by simp]
  exact wpAny_pure k
theorem sorted_tup {ns : List Int} {Q : Value → Shared → Prop} (hl : s.heap.IsTuple l vs.toArray) (hI : IntsAre vs ns) (few : vs.length < 64)
    (k : ∀ (out : Array Value) (ms : List Int), IntsAre out.toList ms → ms.Perm ns → ms.Pairwise (· ≤ ·) → Q (.ref (s.heap.objs.size + 1)) { s with heap := sortedAll s.heap vs out }) :
    wpAny (model prog w) A (call (.builtin "sorted") [.ref l]) Q E s := by
  refine Calls.call_function_entry kind_sorted plain_sorted entry_sorted (args_sorted1 _) ?_
  unfold Builtin.«sorted»
  refine wpAny_bind (m := checkCount "sorted" 1 1 _) (wpAny_pure (wpAny_bind (take_tup hl (by omega) (wpAny_bind (wpAny_newList ?_)))))
  generalize hg : (s.heap.push (seqObj "list" #[] 0)).update s.heap.objs.size (Obj.mapSeq (· ++ vs.toArray)) = g
  have z : g.objs.size = s.heap.objs.size + 1 := by rw [← hg, Heap.size_update, size_push']
  have at1 : (g.push (seqObj "list" vs.toArray 0)).get? (s.heap.objs.size + 1) = some (seqObj "list" vs.toArray 0) := by rw [← z]; exact Heap.get?_push_size _ rfl
  show wpAny _ _ _ _ _ { s with heap := g.push (seqObj "list" vs.toArray 0) }
  rw [z]
  refine wpAny_bind (wpAny_holding (wpAny_call_entry slot_list_sort ⟨_, at1, rfl⟩ entry_list_sort (list_sort_tree at1 hI few fun out ms a1 a2 a3 => ⟨_, rfl, wpAny_pure ⟨_, rfl, ?_⟩⟩) (args_list_sort _)))
  have q := k out ms a1 a2 a3
  unfold sortedAll at q
  rw [hg] at q
  exact q
end
end STup
namespace CB
open PySem PySem.Spec PyProof.Rows L2
section
variable {X : Cx}
def rSortedTup (K : PySem.W.Frag) : List V → Hp → VK → Prop := fun vs H Q => ∃ (a : Addr) (ns : List Int), vs = [V.ref a] ∧ SqT K H a (ns.map V.int) ∧ ns.length < 64 ∧
  ∀ (ms : List Int) (p : Addr), ms.Perm ns → ms.Pairwise (· ≤ ·) → H p = none → Q (.ref p) (upd H p (.lst (ms.map V.int)))
theorem cr_sortedTup : CallR X (.builtin "sorted") (rSortedTup X.K) := by
  intro pins s σ H vs us Q I r h
  obtain ⟨a, ns, rfl, hs, few, q⟩ := h
  obtain ⟨its, rv, hl, _⟩ := I.tuple hs
  rw [Vals.ref1 r]
  have hi := rv.ints
  refine STup.sorted_tup (show s.heap.IsTuple a its.toArray from hl) hi (by rw [hi.length]; exact few) fun out ms h1 h2 h3 => ?_
  obtain ⟨ep, he⟩ := sortedAll_at s.heap its out
  have hlen : (ms.map V.int).length ≤ sizeLine := by rw [List.length_map, h2.length_eq, sizeLine_eq]; omega
  refine ⟨.ref _, upd H (s.heap.objs.size + 1) (.lst (ms.map V.int)), ?_, rfl, q ms _ h2 h3 (I.hok.fresh (Nat.le_succ _))⟩
  exact I.laid (t' := s.toks) (fun _ _ => sortedAll_old) (Nat.le_succ _) ⟨hlen, out.toList, ep, vals_of_ints h1, he⟩
end
end CB

set_option Elab.async false
set_option linter.all false
set_option maxRecDepth 100000
set_option maxHeartbeats 4000000
namespace CB
open PySem PySem.Spec PyProof.Rows L2
open C8 (Cal Met Mak pe_c pe_mk pe_mt pe_mt0 pe_gc CalAt)
section
variable {P : Program} {w : World} {K : PySem.W.Frag} {mg : Str → Option Value} {base : Heap}
theorem pV_at {ps : List Nat} {i p : Nat} (h : ps[i]? = some p) : (pV ps)[i]? = some (.int (p : Int)) := by
  unfold pV pI
  rw [List.getElem?_map, List.getElem?_map, h]
  rfl
def spRen (K : PySem.W.Frag) (D : Nat) : Sp := fun vs H Q _ => ∃ (v : V) (a : Addr) (n s : Nat) (t : Tm) (o : List Nat), vs = [v, .ref a] ∧ Rp K H v t.data ∧ t.Ok n s ∧ s ≤ 8000 ∧ t.dep ≤ D ∧ SqT K H a (pV o) ∧ o.length = n ∧ ∀ v' H', Same H H' → Rp K H' v' (t.ren o).data → Q v' H'
theorem rkids_take {o : List Nat} {ts : List Tm} {i : Nat} {u : Tm} (h : ts[i]? = some u) : Tm.rens o (ts.take (i + 1)) = Tm.rens o (ts.take i) ++ [u.ren o] := by
  rw [take_succ' h, rens_map, rens_map, List.map_append]
  rfl
theorem with_ren {o : List Nat} {t : Tm} (h : t.word ≠ "bid") : t.withK (Tm.rens o t.children) = t.ren o := by
  cases t with
  | bid p => exact absurd rfl h
  | _ => rfl
theorem ints_eqvA : ∀ a b : List Int, PyData.eqvAll (a.map PyData.int) (b.map PyData.int) = decide (a = b)
  | [], [] => by simp [PyData.eqvAll]
  | [], _ :: _ => by simp [PyData.eqvAll]
  | _ :: _, [] => by simp [PyData.eqvAll]
  | x :: a, y :: b => by
    have ih := ints_eqvA a b
    rw [List.map_cons, List.map_cons]
    simp only [PyData.eqvAll, PyData.eqv]
    rw [ih]
    by_cases h : x = y
    · subst h
      by_cases h2 : a = b
      · subst h2; simp
      · simp [h2]
    · simp [h]
theorem ints_lay : ∀ a : List Int, PyData.canLayAll0 (a.map PyData.int) = true
  | [] => by simp [PyData.canLayAll0]
  | x :: a => by simp [PyData.canLayAll0, PyData.canLay0, ints_lay a]
theorem ints_depth : ∀ a : List Int, PyData.depthAll (a.map PyData.int) ≤ 1
  | [] => by simp [PyData.depthAll]
  | x :: a => by have := ints_depth a; simp only [List.map_cons, PyData.depthAll, PyData.depth]; omega
theorem ints_shaped (a : List Int) : SeqAt.shaped (.list (a.map PyData.int)) = true := by
  refine shaped_of ?_ ?_
  · simp only [PyData.canLay0]; exact ints_lay a
  · have := ints_depth a
    simp only [PyData.depth]
    omega
theorem ints_dp {H : Hp} : ∀ a : List Int, DpAll K H (a.map V.int) (a.map PyData.int)
  | [] => .nil
  | x :: a => .cons (.int x) (ints_dp a)
/-- == of two lists of ints -/
theorem eq_ints {H : Hp} {D E : Addr} {a b : List Int} {Q : VK} (h1 : SqL K H D (a.map V.int)) (h2 : SqL K H E (b.map V.int)) (k : Q (.bl (decide (a = b))) H) : rEqD K (.ref D) (.ref E) H Q := by
  refine ⟨.list (a.map PyData.int), .list (b.map PyData.int), .lst h1 (ints_dp a), .lst h2 (ints_dp b), ints_shaped a, ints_shaped b, ?_⟩
  simp only [PyData.eqv]
  rw [ints_eqvA]
  exact k
theorem pI_range_sorted (n : Nat) : (pI (List.range n)).Pairwise (· ≤ ·) := by
  unfold pI
  exact List.Pairwise.map _ (fun a b (h : a ≤ b) => by omega) (List.pairwise_lt_range.imp fun h => Nat.le_of_lt h)
theorem ord_sorted {n : Nat} {o : List Nat} {ms : List Int} (h : Ord n o) (p : ms.Perm (pI o)) (w : ms.Pairwise (· ≤ ·)) : ms = pI (List.range n) :=
  List.Perm.eq_of_pairwise (fun a b _ _ h1 h2 => by omega) w (pI_range_sorted n) (p.trans (h.2.map _))
def sp_renamed (K : PySem.W.Frag) (C : Addr) : Sp := fun vs H Q _ => ∃ (r a : Addr) (n s : Nat) (t : Tm) (o : List Nat), vs = [.ref r, .ref a] ∧ RuleAt K C H r n t ∧ t.Ok n s ∧ s ≤ 8000 ∧ t.dep ≤ 60 ∧ 1 ≤ n ∧ n ≤ 6 ∧ SqT K H a (pV o) ∧ Ord n o ∧ ∀ r' H', Same H H' → H r' = none → RuleAt K C H' r' n (t.ren o) → Q (.ref r') H'
end
end CB

set_option Elab.async false
set_option linter.all false
set_option maxRecDepth 100000
set_option maxHeartbeats 2000000
namespace CB
open PySem PySem.Spec PyProof.Rows L2
/-! ### wishes within stretches -/
theorem mid_between {x a b : Rat} (h : a ≤ b) : a ≤ midQ x a b ∧ midQ x a b ≤ b := by
  unfold midQ rmax rmin
  constructor <;> (repeat' split) <;> grind
theorem mid_ge {x a b : Rat} (h : x ≤ b) : x ≤ midQ x a b := by
  unfold midQ rmax rmin
  (repeat' split) <;> grind
theorem mid_gt {x y a b : Rat} (h : a ≤ b) (hy : y ≤ midQ x a b) (hx : x < y) : y ≤ a := by
  unfold midQ rmax rmin at hy
  revert hy
  (repeat' split) <;> grind
theorem map_getD {α : Type} (f : α → Rat) (ps : List α) {i : Nat} (h : i < ps.length) : (ps.map f).getD i 0 = f ps[i] := by
  rw [List.getD_eq_getElem?_getD, List.getElem?_map, List.getElem?_eq_getElem h]
  rfl
theorem nrL_le {l m : List Rat} (hl : l.length = m.length) (h : ∀ i, i < l.length → l.getD i 0 ≤ m.getD i 0) (h1 : ∀ q ∈ l, In01 q) (h2 : ∀ q ∈ m, In01 q) : NrL 1 l m := by
  refine nrL_of hl fun i x y hx hy => ?_
  have il := (List.getElem?_eq_some_iff.mp hx).1
  have e := h i il
  rw [List.getD_eq_getElem?_getD, hx, List.getD_eq_getElem?_getD, hy] at e
  have e' : x ≤ y := e
  have a := h1 x (List.mem_of_getElem? hx)
  have b := h2 y (List.mem_of_getElem? hy)
  exact ⟨e', by have := a.1; have := b.2; grind⟩
/-- with higher wishes it is never lower -/
theorem outc_mono {t : Tm} {n z : Nat} {l m : List Rat} (ho : t.Ok n z) (hl : l.length = n) (hm : m.length = n) (h : ∀ i, i < n → l.getD i 0 ≤ m.getD i 0) (h1 : ∀ q ∈ l, In01 q) (h2 : ∀ q ∈ m, In01 q) : outc t n l ≤ outc t n m :=
  (outc_nr ho (s := 1) (by decide) hl hm (nrL_le (by omega) (fun i hi => h i (by omega)) h1 h2)).1
abbrev losOf (ps : List (Rat × Rat)) : List Rat := ps.map fun p => p.1
abbrev hisOf (ps : List (Rat × Rat)) : List Rat := ps.map fun p => p.2
abbrev midsOf (x : Rat) (ps : List (Rat × Rat)) : List Rat := ps.map fun p => midQ x p.1 p.2
theorem outc_clamp {t : Tm} {n z : Nat} {ps : List (Rat × Rat)} {x : Rat} (ho : t.Ok n z) (hn : ps.length = n) (hle : ∀ p ∈ ps, p.1 ≤ p.2) (h1 : ∀ p ∈ ps, In01 p.1 ∧ In01 p.2) :
    decide (outc t n (midsOf x ps) = x) = (!decide (x < outc t n (losOf ps)) && !decide (outc t n (hisOf ps) < x)) := by
  have ll : (losOf ps).length = n := by rw [List.length_map, hn]
  have lh : (hisOf ps).length = n := by rw [List.length_map, hn]
  have lm : (midsOf x ps).length = n := by rw [List.length_map, hn]
  have gl : ∀ i (h : i < ps.length), (losOf ps).getD i 0 = ps[i].1 := fun i h => map_getD _ ps h
  have gh : ∀ i (h : i < ps.length), (hisOf ps).getD i 0 = ps[i].2 := fun i h => map_getD _ ps h
  have gm : ∀ i (h : i < ps.length), (midsOf x ps).getD i 0 = midQ x ps[i].1 ps[i].2 := fun i h => map_getD _ ps h
  have i1 : ∀ q ∈ losOf ps, In01 q := fun q hq => by
    obtain ⟨p, hp, rfl⟩ := List.mem_map.mp hq
    exact (h1 p hp).1
  have i2 : ∀ q ∈ hisOf ps, In01 q := fun q hq => by
    obtain ⟨p, hp, rfl⟩ := List.mem_map.mp hq
    exact (h1 p hp).2
  have i3 : ∀ q ∈ midsOf x ps, In01 q := fun q hq => by
    obtain ⟨p, hp, rfl⟩ := List.mem_map.mp hq
    have a := mid_between (x := x) (hle p hp)
    have b := h1 p hp
    exact ⟨by have := b.1.1; grind, by have := b.2.2; grind⟩
  have m1 : outc t n (losOf ps) ≤ outc t n (midsOf x ps) := outc_mono ho ll lm (fun i hi => by
    have hi' : i < ps.length := by omega
    rw [gl i hi', gm i hi']
    exact (mid_between (hle _ (List.getElem_mem _))).1) i1 i3
  have m2 : outc t n (midsOf x ps) ≤ outc t n (hisOf ps) := outc_mono ho lm lh (fun i hi => by
    have hi' : i < ps.length := by omega
    rw [gh i hi', gm i hi']
    exact (mid_between (hle _ (List.getElem_mem _))).2) i3 i2
  by_cases c1 : x < outc t n (losOf ps)
  · rw [decide_eq_true c1, decide_eq_false (show ¬ outc t n (midsOf x ps) = x by grind)]
    rfl
  by_cases c2 : outc t n (hisOf ps) < x
  · rw [decide_eq_false c1, decide_eq_true c2, decide_eq_false (show ¬ outc t n (midsOf x ps) = x by grind)]
    rfl
  rw [decide_eq_false c1, decide_eq_false c2]
  refine decide_eq_true ?_
  have a : x ≤ outc t n (midsOf x ps) := by
    obtain ⟨S, hS, k1, k2, _⟩ := outc_at (t := t) (n := n) (ws := hisOf ps) lh
    refine outc_ge ho lm hS (x := x) (by grind) fun p hp => ?_
    have hp' : p < ps.length := by have := hS p hp; omega
    have e := k2 p hp
    rw [gh p hp'] at e
    rw [gm p hp']
    exact mid_ge (by grind)
  have b : outc t n (midsOf x ps) ≤ x := by
    refine Rat.not_lt.mp fun hlt => ?_
    obtain ⟨S, hS, k1, k2, _⟩ := outc_at (t := t) (n := n) (ws := midsOf x ps) lm
    have : outc t n (midsOf x ps) ≤ outc t n (losOf ps) := outc_ge ho ll hS k1 fun p hp => by
      have hp' : p < ps.length := by have := hS p hp; omega
      have e := k2 p hp
      rw [gm p hp'] at e
      rw [gl p hp']
      exact mid_gt (hle _ (List.getElem_mem _)) e hlt
    grind
  grind
end CB

set_option Elab.async false
set_option linter.all false
set_option maxRecDepth 100000
set_option maxHeartbeats 4000000
namespace CB
open PySem PySem.Spec PyProof.Rows L2
open C8 (Cal Met Mak pe_c pe_mk pe_mt pe_mt0 pe_gc CalAt)
section
variable {P : Program} {w : World} {K : PySem.W.Frag} {mg : Str → Option Value} {base : Heap}
def pd (p : Rat × Rat) : PyData := .tuple [qd p.1, qd p.2]
/-- a stretch for each person -/
def Strs (K : PySem.W.Frag) (H : Hp) (a : Addr) (n z : Nat) (ps : List (Rat × Rat)) : Prop := ∃ us, SqT K H a us ∧ RpAll K H us (ps.map pd) ∧ ps.length = n ∧ ∀ p ∈ ps, NumOk z p.1 ∧ NumOk z p.2 ∧ p.1 ≤ p.2
theorem Strs.mono {H H' : Hp} {a : Addr} {n z : Nat} {ps : List (Rat × Rat)} (h : Strs K H a n z ps) (e : KT H H') : Strs K H' a n z ps := by
  obtain ⟨us, h1, h2, h3⟩ := h
  exact ⟨us, e.sq h1, RpAll.mono e h2, h3⟩
/-- the pair at a place -/
theorem strs_at {H : Hp} {us : List V} {ps : List (Rat × Rat)} {i : Nat} {x : V} (h : RpAll K H us (ps.map pd)) (e : us[i]? = some x) : ∃ p c u v, ps[i]? = some p ∧ x = .ref c ∧ SqT K H c [u, v] ∧ RF K H u p.1 ∧ RF K H v p.2 := by
  obtain ⟨d, h1, h2⟩ := RpAll.getV h e
  rw [List.getElem?_map] at h1
  cases c : ps[i]? with
  | none => rw [c] at h1; cases h1
  | some p =>
    rw [c] at h1
    cases h1
    obtain ⟨a, xs, rfl, h3, h4⟩ := h2.tupI
    obtain ⟨w, ws, rfl, h5, h6⟩ := h4.consI
    obtain ⟨w2, ws2, rfl, h7, h8⟩ := h6.consI
    have e3 := h8.nilI
    subst e3
    exact ⟨p, a, w, w2, rfl, rfl, h3, PF.of h5, PF.of h7⟩
def sp_is_stretch (K : PySem.W.Frag) : Sp := fun vs H Q _ => ∃ (c : Addr) (u v : V) (a b : Rat) (z : Nat), vs = [.ref c] ∧ SqT K H c [u, v] ∧ RF K H u a ∧ RF K H v b ∧ NumOk z a ∧ NumOk z b ∧ a ≤ b ∧ z ≤ 9000 ∧ Q (.bl true) H
def sp_are_stretches (K : PySem.W.Frag) : Sp := fun vs H Q _ => ∃ (a : Addr) (n z : Nat) (ps : List (Rat × Rat)), vs = [.ref a, .int (n : Int)] ∧ Strs K H a n z ps ∧ n ≤ 6 ∧ z ≤ 9000 ∧ ∀ H', Same H H' → Q (.bl true) H'
def sp_need_stretches (K : PySem.W.Frag) (C : Addr) : Sp := fun vs H Q _ => ∃ (r a : Addr) (n z : Nat) (t : Tm) (ps : List (Rat × Rat)), vs = [.ref r, .ref a] ∧ RuleAt K C H r n t ∧ Strs K H a n z ps ∧ n ≤ 6 ∧ z ≤ 9000 ∧ ∀ H', Same H H' → Q .non H'
def sp_need_number (K : PySem.W.Frag) : Sp := fun vs H Q _ => ∃ (v : V) (q : Rat), vs = [v] ∧ RF K H v q ∧ 0 ≤ q ∧ q ≤ 1 ∧ Q .non H
def sp_middle (K : PySem.W.Frag) : Sp := fun vs H Q _ => ∃ (v1 v2 v3 : V) (a b x : Rat) (m : Nat), vs = [v1, v2, v3] ∧ RF K H v1 a ∧ RF K H v2 b ∧ RF K H v3 x ∧ Sz m a ∧ Sz m b ∧ Sz m x ∧ m ≤ 9000 ∧ ∀ v, RF K H v (midQ x a b) → Q v H
def sp_wishes_with (K : PySem.W.Frag) (C : Addr) : Sp := fun vs H Q _ => ∃ (r a : Addr) (v : V) (n s z : Nat) (t : Tm) (ps : List (Rat × Rat)) (x : Rat), vs = [.ref r, .ref a, v] ∧ RuleAt K C H r n t ∧ t.Ok n s ∧ 1 ≤ s ∧ s ≤ 9000 ∧ t.dep ≤ 8 ∧ t.wt s + 20 ≤ 9000 ∧ 1 ≤ n ∧ n ≤ 6 ∧ z ≤ 9000 ∧ Strs K H a n z ps ∧ RF K H v x ∧ NumOk z x ∧
  ∀ (p : Addr) H', Same H H' → Bids K H' p n z (midsOf x ps) → Q (if outc t n (midsOf x ps) = x then .ref p else .non) H'
theorem mid_ok {z : Nat} {x a b : Rat} (h1 : NumOk z a) (h2 : NumOk z b) (h3 : NumOk z x) : NumOk z (midQ x a b) := by
  unfold midQ rmax rmin
  (repeat' split) <;> assumption
end
end CB

set_option Elab.async false
set_option linter.all false
set_option maxRecDepth 100000
set_option maxHeartbeats 4000000
namespace CB
open PySem PySem.Spec PyProof.Rows L2
open C8 (Cal Met Mak pe_c pe_mk pe_mt pe_mt0 pe_gc CalAt)
section
variable {P : Program} {w : World} {K : PySem.W.Frag} {mg : Str → Option Value} {base : Heap}
def sp__law_wishing (K : PySem.W.Frag) (f : List Rat → Rat → Nat → List Nat) : Sp := fun vs H Q _ => ∃ (a : Addr) (v : V) (n z m : Nat) (ws : List Rat) (c : Rat), vs = [.ref a, v] ∧ Bids K H a n z ws ∧ n ≤ 6 ∧ RF K H v c ∧ Sz m c ∧ z + m ≤ 900000 ∧
  ∀ (p : Addr) H', Same H H' → SqT K H' p (pV (f ws c n)) → Q (.ref p) H'
def sp__law_is_outcome (K : PySem.W.Frag) : Sp := fun vs H Q _ => ∃ (v u : V) (a : Addr) (n s z m : Nat) (t : Tm) (ws : List Rat) (y : Rat), vs = [.int (n : Int), v, .ref a, u] ∧ n ≤ 6 ∧ Rp K H v t.data ∧ t.Ok n s ∧ 1 ≤ s ∧ s ≤ 9000 ∧ t.dep ≤ 10 ∧ t.wt s + 20 ≤ 9000 ∧ Bids K H a n z ws ∧ RF K H u y ∧ Sz m y ∧ z ≤ 9000 ∧ m ≤ 10000 ∧
  ∀ H', Same H H' → Q (.bl (isOut t n ws y)) H'
end
end CB

set_option Elab.async false
set_option linter.all false
set_option maxRecDepth 100000
set_option maxHeartbeats 4000000
namespace CB
open PySem PySem.Spec PyProof.Rows L2
open C8 (Cal Met Mak pe_c pe_mk pe_mt pe_mt0 pe_gc CalAt)
section
variable {P : Program} {w : World} {K : PySem.W.Frag} {mg : Str → Option Value} {base : Heap}
/-- two ways that join -/
theorem joinQ {G : Prop} (C : V → Hp → Prop) (R : V → Hp → Prop) (f : (∀ v H', C v H' → R v H') → G) (rest : ∀ v H', C v H' → R v H') : G := f rest
abbrev n__law_some : List Str := ["_law_dice_here", "_law_things"]
theorem sc__law_some : FnScope ["_law_dice_here", "_law_things"] ["_law_dice_here", "_law_things"] (defScope s__law_some) := ⟨rfl, rfl, rfl, by decide +kernel, rfl, by decide +kernel, by decide +kernel⟩
def sp__law_some (K : PySem.W.Frag) : Sp := fun vs H Q _ => ∃ (da : Addr × Addr) (a : Addr) (xs : List V), vs = [.ref da.1, .ref a] ∧ Dice H da ∧ H a = some (.lst xs) ∧ a ≠ da.1 ∧ 1 ≤ xs.length ∧ xs.length ≤ 1000 ∧
  ∀ (i : Nat) (y : V) H', xs[i]? = some y → Dice H' da → KD da.1 H H' → Q y H'
theorem ok__law_some (F : FnD K mg "_law_some" s__law_some) (c__law_draw : Cal P w K mg base 1 "_law_draw" sp__law_draw []) (T_len : mg "len" = none) : Cal P w K mg base 2 "_law_some" (sp__law_some K) [] := by
  refine calOf F sc__law_some (fun _ _ _ _ _ _ us hl => match us, hl with | [_, _], _ => rfl) (fun vs H Q E h => ?_) (fun cdv f A outer s H vs Q E hr h => ?_)
  · obtain ⟨_, _, _, rfl, _⟩ := h
    rfl
  · obtain ⟨da, a, xs, rfl, hd, ha, ne, h1, h2, k⟩ := h
    refine ⟨_, (pss_one (ps_ret (pe_ix ix_list (pv 1) (pe_c c__law_draw hr (by first | decide | omega) rfl (pa_cons (pv 0) (pa_cons (pe_callB call_len_seq (by rfl) T_len PySem.boot_len (pa_cons (pv 1) pa_nil)) pa_nil))) (fun _ _ => rfl)))), ?_⟩
    refine ⟨_, rfl, _, rfl, _, rfl, a, xs, rfl, .inl (SqL.of ha), da, _, rfl, hd, by omega, by omega, fun z H1 z0 z1 d1 e1 => ?_⟩
    have zl : z.toNat < xs.length := by omega
    exact ⟨a, xs, z, _, rfl, rfl, SqL.of (e1 _ _ ne ha), at_of (j := z.toNat) (by omega) (List.getElem?_eq_getElem zl), k z.toNat _ H1 (List.getElem?_eq_getElem zl) d1 e1⟩
def sp__law_is_numberG (K : PySem.W.Frag) : Sp := fun vs H Q _ => ∃ (v : V) (q : Rat), vs = [v] ∧ RF K H v q ∧ NumOk 9000 q ∧ ∀ H', Same H H' → Q (.bl true) H'
def inB (x a b : Rat) : Bool := !decide (x < a) && !decide (b < x)
def sp__law_within (K : PySem.W.Frag) : Sp := fun vs H Q _ => ∃ (v u1 u2 : V) (c : Addr) (x a b : Rat), vs = [v, .ref c] ∧ SqT K H c [u1, u2] ∧ RF K H v x ∧ RF K H u1 a ∧ RF K H u2 b ∧ Sz 9000 x ∧ Sz 9000 a ∧ Sz 9000 b ∧ Q (.bl (inB x a b)) H
def sp__law_stretches (K : PySem.W.Frag) (z : Nat) : Sp := fun vs H Q _ => ∃ (da : Addr × Addr) (n : Nat), vs = [.ref da.1, .int (n : Int)] ∧ Dice H da ∧ n ≤ 6 ∧ ∀ (a : Addr) (ps : List (Rat × Rat)) H', Strs K H' a n z ps → Dice H' da → KD da.1 H H' → Q (.ref a) H'
theorem isort2 {a b c : Rat} {l : List Rat} (h : isort [a, b] = l) : ∃ x y, l = [x, y] ∧ x ≤ y ∧ (x = a ∨ x = b) ∧ (y = a ∨ y = b) := by
  have le := isort_length [a, b]
  rw [h] at le
  match l, le with
  | [x, y], _ =>
    have s := isort_srt [a, b]
    have p := isort_perm [a, b]
    rw [h] at s p
    refine ⟨x, y, rfl, ?_, ?_, ?_⟩
    · exact srt_get_le (i := 0) (j := 1) s rfl rfl (by decide)
    · have := p.mem_iff.mp (List.mem_cons_self (a := x) (l := [y]))
      simpa using this
    · have := p.mem_iff.mp (show y ∈ [x, y] by simp)
      simpa using this
end
end CB

set_option Elab.async false
set_option linter.all false
set_option maxRecDepth 100000
set_option maxHeartbeats 4000000
namespace CB
open PySem PySem.Spec PyProof.Rows L2 Cmb
open C8 (Cal Met Mak pe_c pe_mk pe_mt pe_mt0 pe_gc CalAt)
section
variable {P : Program} {w : World} {K : PySem.W.Frag} {mg : Str → Option Value} {base : Heap}
abbrev n_corner_of : List Str := ["rule", "lot"]
theorem sc_corner_of : FnScope ["rule", "lot"] ["rule", "lot"] (defScope s_corner_of) := ⟨rfl, rfl, rfl, by decide +kernel, rfl, by decide +kernel, by decide +kernel⟩
def sp_corner_of (K : PySem.W.Frag) (C : Addr) : Sp := fun vs H Q _ => ∃ (r b : Addr) (n s : Nat) (t : Tm) (ps : List Nat), vs = [.ref r, .ref b] ∧ RuleAt K C H r n t ∧ t.Ok n s ∧ 1 ≤ s ∧ s ≤ 9000 ∧ t.dep ≤ 60 ∧ t.wt s + 20 ≤ 9000 ∧ 1 ≤ n ∧ n ≤ 6 ∧ (SqL K H b (pV ps) ∨ SqT K H b (pV ps)) ∧
  ∀ v H', Same H H' → RF K H' v (t.val (end01 n ps)) → Q v H'
theorem ok_corner_of {C aZ aO : Addr} (F : FnD K mg "corner_of" s_corner_of) (hc : Cls K C) (n1 : NoAttr K C "people") (n2 : NoAttr K C "term") (c_told_by : Cal P w K mg base 67 "told_by" (sp_told_by K) []) (c_replaced : Cal P w K mg base 1 "replaced" (sp_replaced K) [])
    (g_ZERO : ∃ u, mg "ZERO" = some u ∧ RelV (.ref aZ) u) (z0 : ∀ H, SqT K H aZ [.int 0, .int 1]) (g_ONE : ∃ u, mg "ONE" = some u ∧ RelV (.ref aO) u) (z1 : ∀ H, SqT K H aO [.int 1, .int 1]) : Cal P w K mg base 68 "corner_of" (sp_corner_of K C) [] := by
  refine calOf F sc_corner_of (fun _ _ _ _ _ _ us hl => match us, hl with | [_, _], _ => rfl) (fun vs H Q E h => ?_) (fun cdv f A outer s H vs Q E hr h => ?_)
  · obtain ⟨_, _, _, _, _, _, rfl, _⟩ := h
    rfl
  · obtain ⟨r, b, n, sz, t, ps, rfl, hR, ho, hs1, hsz, hdep, hwt, hn1, hn, hb, k⟩ := h
    obtain ⟨dx0, v, hr1, rt⟩ := id hR
    have rz : ∀ H, RF K H (.ref aZ) 0 := fun H => zero_rf (z0 H)
    have ro : ∀ H, RF K H (.ref aO) 1 := fun H => ⟨aO, rfl, z1 H⟩
    refine ⟨_, (pss_one (ps_ret (pe_c c_told_by hr (by first | decide | omega) rfl (pa_cons (pe_fld (pv 0) rfl) (pa_cons (pe_c c_replaced hr (by first | decide | omega) rfl (pa_cons (pe_op op_repN (pe_tup (pa_cons (pe_gc rfl g_ZERO) pa_nil)) (pe_fld (pv 0) rfl)) (pa_cons (pv 1) (pa_cons (pe_gc rfl g_ONE) pa_nil)))) pa_nil))))), ?_⟩
    refine ⟨_, rfl, r, C, dx0, _, _, rfl, hr1, hc, n2, ruleF_term n v, ?_⟩
    refine ⟨(by show 1 ≤ sizeLine; decide), fun p1 hp1 => ⟨_, rfl, r, C, dx0, _, _, rfl, (same_new hp1) _ _ hr1, hc, n1, ruleF_people n v, ?_⟩⟩
    have s1 := same_new (o := .tup [.ref aZ]) hp1
    refine repZ_ok (SqT.of upd_same) hn1 hn fun p2 H2 s2 q2 => ?_
    have s12 := s1.trans s2
    refine ⟨_, rfl, p2, b, .ref aO, _, List.replicate n 0, ps, 1, rfl, q2, rq_repl (rz _) n, by rw [List.length_replicate]; omega, hb.imp (fun h => s12.seq h) (fun h => (Same.kt s12).sq h), ro _, fun p zs H3 s3 h3 r3 => ?_⟩
    have s13 := s12.trans s3
    refine ⟨v, p, n, sz, put ps 1 (List.replicate n 0), t, rfl, rt.mono (Same.kt s13), ho, hsz, hdep, hwt, Bids.put h3 r3 List.length_replicate (nok_one hs1) (fun x hx => by rw [(List.mem_replicate.mp hx).2]; exact nok_zero hs1), fun v' H' s4 r4 => k v' H' (s13.trans s4) r4⟩
abbrev n_lots_among : List Str := ["persons", "found", "many"]
theorem sc_lots_among : FnScope ["persons", "found", "many"] ["persons"] (defScope s_lots_among) := ⟨rfl, rfl, rfl, by decide +kernel, rfl, by decide +kernel, by decide +kernel⟩
def sp_lots_among (K : PySem.W.Frag) : Sp := fun vs H Q _ => ∃ (a : Addr) (ps : List Nat), vs = [.ref a] ∧ ps.length ≤ 6 ∧ SqL K H a (pV ps) ∧ ∀ p ys H', Same H H' → H p = none → H' p = some (.lst ys) → LotsAt K H' ys (lotsAm ps) → Q (.ref p) H'
theorem few_flat (k m : Nat) (hk : k ≤ 6) (hm : m ≤ k + 1) : ((List.range m).flatMap fun r => combs k r).length ≤ 20 * m := by
  induction m with
  | zero => simp
  | succ m ih =>
    have i2 := ih (by omega)
    have f := (combs_facts k hk m (by omega)).2.2
    rw [List.range_succ, List.flatMap_append, List.length_append]
    simp only [List.flatMap_cons, List.flatMap_nil, List.append_nil]
    omega
theorem ok_lots_among (F : FnD K mg "lots_among" s_lots_among) (g_combinations : mg "combinations" = some (.type "itertools.combinations")) (T_list : mg "list" = none) (T_range : mg "range" = none) (T_len : mg "len" = none) : Cal P w K mg base 1 "lots_among" (sp_lots_among K) [] := by
  refine calOf F sc_lots_among (fun _ _ _ _ _ _ us hl => match us, hl with | [_], _ => rfl) (fun vs H Q E h => ?_) (fun cdv f A outer s H vs Q E hr h => ?_)
  · obtain ⟨_, _, rfl, _⟩ := h
    rfl
  · obtain ⟨a, ps, rfl, h6, hS, k⟩ := h
    refine ⟨_, (pss_cons (ps_set (i := 1) sc_lots_among.nd rfl (Or.inl rfl) (pe_lst pa_nil))
    (pss_cons (ps_for PassesOwn.never rfl (pi_range1 (by rfl) T_range (pa_cons (pe_op op_add (pe_callB call_len_seq (by rfl) T_len PySem.boot_len (pa_cons (pv 0) pa_nil)) pe_int) pa_nil)) (pg_name (i := 2) sc_lots_among.nd rfl (Or.inl rfl)) (pss_one (ps_expr (pe_bm PySem.F.plainAttrs_list PySem.F.slot_list_extend PySem.F.type_list_extend mt_extend (pv 1) (pa_cons (pe_listComb rfl (by rfl) T_list (by rfl) g_combinations (pa_cons (pv 0) (pa_cons (pv 2) pa_nil))) pa_nil)))))
    (pss_one (ps_ret (pv 1))))), ?_⟩
    refine ⟨Nat.zero_le _, fun p0 hp0 => ?_⟩
    have s0 := same_new (o := .lst []) hp0
    refine ⟨_, rfl, a, pV ps, rfl, .inl (s0.seq hS), _, _, rfl, rfl, _, rfl, by rw [pV_len]; omega, by rw [pV_len]; omega, ?_⟩
    refine for_range (lo := 0) (n := (((pV ps).length : Int) + 1).toNat) (fun i σ H' => ∃ (ys : List V) (y : Option V), σ = [some (.ref a), some (.ref p0), y] ∧ H' p0 = some (.lst ys) ∧ LotsAt K H' ys ((List.range i).flatMap fun r => (combs ps.length r).map fun m => m.map fun j => ps.getD j 0) ∧ Same H H')
      ⟨[], none, rfl, upd_same, .nil, s0⟩ ?_ ?_
    · rintro i σ H1 hi ⟨ys, _, rfl, g1, g2, g3⟩
      rw [pV_len] at hi
      have il : i ≤ ps.length := by omega
      rw [show (0 : Int) + ((i : Nat) : Int) = ((i : Nat) : Int) from Int.zero_add _]
      refine ⟨_, rfl, .inl ⟨rfl, _, SqL.of g1⟩, _, rfl, _, rfl, a, pV ps, i, rfl, g3.seq hS, by rw [pV_len]; exact il, by rw [pV_len]; exact h6, fun p zs H2 s2 hp hz ht => ?_⟩
      rw [pV_len] at ht
      have lt := tups_lots (K := K) ps (combs_lt h6 il) ht
      have g1' := s2 _ _ g1
      have zl := ht.length
      have yl := g2.length
      have fz := (combs_facts ps.length h6 i il).2.2
      have fy := few_flat ps.length i h6 (by omega)
      rw [List.length_map] at zl
      have fe : ((List.range i).flatMap fun r => (combs ps.length r).map fun m => m.map fun j => ps.getD j 0) = ((List.range i).flatMap fun r => combs ps.length r).map fun m => m.map fun j => ps.getD j 0 := by rw [List.map_flatMap]
      rw [fe, List.length_map] at yl
      refine ⟨p0, p, ys, zs, rfl, rfl, g1', hz, Nat.le_of_lt (small1000 (by omega)), ?_⟩
      refine ⟨_, _, rfl, upd_same, ?_, ?_⟩
      · rw [List.range_succ, List.flatMap_append]
        simp only [List.flatMap_cons, List.flatMap_nil, List.append_nil]
        exact ((g2.mono (Same.kt s2)).append lt).mono (KT.updl g1')
      · exact Same.mut (g3.trans s2) hp0
    · rintro σ H1 ⟨ys, _, rfl, g1, g2, g3⟩
      rw [pV_len, show (((ps.length : Nat) : Int) + 1).toNat = ps.length + 1 by omega] at g2
      exact ⟨_, rfl, k p0 ys H1 g3 hp0 g1 g2⟩
def sp_all_but (K : PySem.W.Frag) (C : Addr) : Sp := fun vs H Q _ => ∃ (r b : Addr) (n : Nat) (t : Tm) (ps : List Nat), vs = [.ref r, .ref b] ∧ RuleAt K C H r n t ∧ n ≤ 6 ∧ (SqL K H b (pV ps) ∨ SqT K H b (pV ps)) ∧
  ∀ p H', Same H H' → H p = none → H' p = some (.lst (pV ((List.range n).filter fun i => !decide (i ∈ ps)))) → Q (.ref p) H'
end
end CB

set_option Elab.async false
set_option linter.all false
set_option maxRecDepth 100000
set_option maxHeartbeats 4000000
namespace CB
open PySem PySem.Spec PyProof.Rows L2 Cmb
open C8 (Cal Met Mak pe_c pe_mk pe_mt pe_mt0 pe_gc CalAt)
section
variable {P : Program} {w : World} {K : PySem.W.Frag} {mg : Str → Option Value} {base : Heap}
abbrev n_all_lots : List Str := ["people"]
theorem sc_all_lots : FnScope ["people"] ["people"] (defScope s_all_lots) := ⟨rfl, rfl, rfl, by decide +kernel, rfl, by decide +kernel, by decide +kernel⟩
def sp_all_lots (K : PySem.W.Frag) : Sp := fun vs H Q _ => ∃ n : Nat, vs = [.int (n : Int)] ∧ n ≤ 6 ∧ ∀ p ys H', Same H H' → H p = none → H' p = some (.lst ys) → LotsAt K H' ys (lotsI n) → Q (.ref p) H'
theorem ok_all_lots (F : FnD K mg "all_lots" s_all_lots) (c_lots_among : Cal P w K mg base 1 "lots_among" (sp_lots_among K) []) (T_list : mg "list" = none) (T_range : mg "range" = none) : Cal P w K mg base 2 "all_lots" (sp_all_lots K) [] := by
  refine calOf F sc_all_lots (fun _ _ _ _ _ _ us hl => match us, hl with | [_], _ => rfl) (fun vs H Q E h => ?_) (fun cdv f A outer s H vs Q E hr h => ?_)
  · obtain ⟨_, rfl, _⟩ := h
    rfl
  · obtain ⟨n, rfl, hn, k⟩ := h
    refine ⟨_, (pss_one (ps_ret (pe_c c_lots_among hr (by first | decide | omega) rfl (pa_cons (pe_listRg rfl (by rfl) T_list (prg_1 (by rfl) T_range (pv 0))) pa_nil)))), ?_⟩
    refine ⟨_, rfl, (n : Int), rfl, RgOk.of_le (by omega) (by omega) (by omega) (by omega), fun l hl => ?_⟩
    rw [rgV_pV]
    have s1 := same_new (o := .lst (pV (List.range n))) hl
    refine ⟨l, List.range n, rfl, by rw [List.length_range]; exact hn, SqL.of upd_same, fun p ys H' s2 hp hy hL => ?_⟩
    rw [lotsAm_range hn] at hL
    exact k p ys H' (s1.trans s2) (none_back s1 hp) hy hL
def sp_need_as_many (K : PySem.W.Frag) (C : Addr) : Sp := fun vs H Q _ => ∃ (a b : Addr) (n : Nat) (t u : Tm), vs = [.ref a, .ref b] ∧ RuleAt K C H a n t ∧ RuleAt K C H b n u ∧ Q .non H
/-- a lot, or None -/
def OptLot (K : PySem.W.Frag) (H : Hp) (x : V) : Option (List Nat) → Prop
  | none => x = .non
  | some l => TupI K H x (pI l)
theorem OptLot.mono {H H' : Hp} (e : KT H H') {x : V} {o : Option (List Nat)} (h : OptLot K H x o) : OptLot K H' x o := by
  cases o with
  | none => exact h
  | some l => exact tupI_mono e h
def partB (t u : Tm) (n : Nat) (l : List Nat) : Bool := !decide (t.val (end01 n l) = u.val (end01 n l))
/-- the first lot at which the corners part -/
def partL (t u : Tm) (n : Nat) : Option (List Nat) := (lotsI n).find? (partB t u n)
theorem find_none_take {f : List Nat → Bool} {L : List (List Nat)} {i : Nat} {l : List Nat} (h : L[i]? = some l) (hn : (L.take i).find? f = none) : (f l = true → L.find? f = some l) ∧ (f l = false → (L.take (i + 1)).find? f = none) := by
  constructor
  · intro e
    have hl := List.getElem?_eq_some_iff.mp h
    have ed : L = L.take i ++ (l :: L.drop (i + 1)) := by
      rw [← hl.2, ← List.drop_eq_getElem_cons hl.1, List.take_append_drop]
    rw [ed, List.find?_append, hn]
    simp [e]
  · intro e
    rw [take_succ' h, List.find?_append, hn]
    simp [e]
def sp_parting_lot (K : PySem.W.Frag) (C : Addr) : Sp := fun vs H Q _ => ∃ (a b : Addr) (n s : Nat) (t u : Tm), vs = [.ref a, .ref b] ∧ RuleAt K C H a n t ∧ RuleAt K C H b n u ∧ t.Ok n s ∧ u.Ok n s ∧ 1 ≤ s ∧ s ≤ 9000 ∧ t.dep ≤ 60 ∧ u.dep ≤ 60 ∧ t.wt s + 20 ≤ 9000 ∧ u.wt s + 20 ≤ 9000 ∧ 1 ≤ n ∧ n ≤ 6 ∧
  ∀ x H', Same H H' → OptLot K H' x (partL t u n) → Q x H'
end
end CB

set_option Elab.async false
set_option linter.all false
set_option maxRecDepth 100000
set_option maxHeartbeats 4000000
/-! dict(xs) of a list of pairs whose keys are tuples -/
namespace DiT
open PySem PySem.Spec PyProof.Rows L2
/-- the pairs, and their keys -/
abbrev KeyPairs (K : PySem.W.Frag) (H : Hp) : List Addr → List (List L2.Key × V) → Prop := Paired fun t kv => ∃ q, SqT K H t [.ref q, kv.2] ∧ H q = some (.tup (kv.1.map kV))
section
variable {X : Cx}
theorem stored_all {K : Type} [DecidableEq K] : ∀ (ps xs : List (K × Addr × Value)), ((xs ++ ps).map (·.1)).Nodup → storedAllH xs ps = xs ++ ps
  | [], xs, _ => by simp [storedAllH]
  | p :: ps, xs, h => by
    have hn : atKey xs p.1 = none := by
      cases e : atKey xs p.1 with
      | none => rfl
      | some z =>
        exfalso
        rw [List.map_append, List.map_cons, List.nodup_append] at h
        have hm : p.1 ∈ xs.map (·.1) := by
          unfold atKey at e
          obtain ⟨y, hy, _⟩ := Option.map_eq_some_iff.mp e
          have h1 := List.mem_of_find?_eq_some hy
          have h2 := List.find?_some hy
          exact List.mem_map.mpr ⟨y, h1, by simpa using h2⟩
        exact h.2.2 _ hm _ List.mem_cons_self rfl
    show storedAllH (storedH xs p.1 p.2.1 p.2.2) ps = _
    rw [storedH_new hn, stored_all ps (xs ++ [(p.1, p.2.1, p.2.2)]) (by rw [List.append_assoc]; exact h), List.append_assoc]
    rfl
theorem pairsT {pins : List (Addr × Obj)} {σ : L2.St} {H : Hp} {s : Shared} (I : L2.Inv X pins σ H s) : ∀ {ts : List Addr} {kvs : List (List L2.Key × V)}, KeyPairs X.K H ts kvs →
    ∃ ps : List (List L2.Key × Addr × Value), L2.KT H kvs ps ∧ ps.length = ts.length ∧ ∀ (j : Nat) (q : List L2.Key × Addr × Value), ps[j]? = some q → ∃ b, ts[j]? = some b ∧ IsTup s.heap b #[.ref q.2.1, q.2.2]
  | _, _, .nil => ⟨[], .nil, rfl, fun j q e => by simp at e⟩
  | _, _, .cons (a := p) (b := kv) h t => by
    obtain ⟨ps, r, hl, hp⟩ := pairsT I t
    obtain ⟨q, h1, h2⟩ := h
    obtain ⟨its, rv, ht, _⟩ := I.tuple h1
    obtain ⟨u, y, ei, ru, ry⟩ := vals2 rv
    subst ei
    cases (show u = Value.ref q from ru)
    refine ⟨(kv.1, q, y) :: ps, .cons ⟨rfl, h2, ry⟩ r, by rw [List.length_cons, List.length_cons, hl], fun j q' e => ?_⟩
    cases j with
    | zero =>
      have e' : (kv.1, q, y) = q' := Option.some.inj e
      subst e'
      exact ⟨p, rfl, ht⟩
    | succ j =>
      obtain ⟨b, e1, e2⟩ := hp j q' (by simpa using e)
      exact ⟨b, by simpa using e1, e2⟩
theorem kt_keys {H : Hp} {kvs : List (List L2.Key × V)} {ps : List (List L2.Key × Addr × Value)} (r : L2.KT H kvs ps) : ps.map (·.1) = kvs.map (·.1) := by
  induction r with
  | nil => rfl
  | cons h t ih => rw [List.map_cons, List.map_cons, ih, h.1]
theorem kt_mem {H : Hp} {kvs : List (List L2.Key × V)} {ps : List (List L2.Key × Addr × Value)} (r : L2.KT H kvs ps) : ∀ x ∈ ps, H x.2.1 = some (.tup (x.1.map kV)) := by
  induction r with
  | nil => intro x hx; exact nomatch hx
  | @cons p q ps qs h t ih =>
    intro x hx
    rcases List.mem_cons.mp hx with e | hx
    · subst e; rw [← h.1]; exact h.2.1
    · exact ih x hx
def rDictT (K : PySem.W.Frag) : List V → Hp → VK → Prop := fun xs H Q => ∃ (a : Addr) (ts : List Addr) (kvs : List (List L2.Key × V)), xs = [.ref a] ∧ SqL K H a (ts.map V.ref) ∧ KeyPairs K H ts kvs ∧ (kvs.map (·.1)).Nodup ∧
  ∀ p, H p = none → Q (.ref p) (upd H p (.dT kvs))
theorem call_dictT (hc : X.calm = true) (hu : X.A.units + 64 < cLine) : CallR X (.type "dict") (rDictT X.K) := by
  intro pins s σ H xs us Q I r q
  obtain ⟨a, ts, kvs, ex, hq, hp, hd, q⟩ := q
  subst ex
  obtain ⟨u, eu, rx⟩ := vals1 r
  subst eu
  cases rx
  obtain ⟨its, rv, pl, hz⟩ := I.list hq
  have ei := refs_at rv
  subst ei
  rw [List.length_map] at hz
  obtain ⟨ps, rel, hl, hpr⟩ := pairsT I hp
  obtain ⟨o, n, ho, hcl, hdi, hdat⟩ := pl
  have km := kt_mem rel
  have key : ∀ x ∈ ps, (tupleKind (mixKind X.prog X.w)).is s.heap x.1 x.2.1 := fun x hx => key_of I.hok (km x hx)
  refine call_dict_pairsH (knd := tupleKind (mixKind X.prog X.w)) (ps := ps) (PairArg.list a (ts.map Value.ref).toArray (fun j => ts.getD j 0) (ps.map fun x => (Value.ref x.2.1, x.2.2))) (I.ok.hd hc) ?_ ⟨⟨o, n, ho, hcl, hdi, hdat⟩, ?_, ?_⟩ ⟨by rw [List.length_map], ?_⟩ ?_ (by rw [List.length_map, hl]; exact hz) fun h' tk hd' k => ?_
  · show X.A.units + 1 + 1 < cLine
    omega
  · simp [hl]
  · intro j key v e
    rw [List.getElem?_map] at e
    obtain ⟨x, hx, ex⟩ := Option.map_eq_some_iff.mp e
    cases ex
    obtain ⟨b, e1, e2⟩ := hpr j x hx
    refine ⟨by simp [e1], .inl ?_⟩
    show s.heap.IsTuple (ts.getD j 0) _
    rw [List.getD_eq_getElem?_getD, e1]
    exact e2
  · intro j key v e
    have e : (ps.map fun x => (Value.ref x.2.1, x.2.2))[j]? = some (key, v) := e
    rw [List.getElem?_map] at e
    obtain ⟨x, hx, ex⟩ := Option.map_eq_some_iff.mp e
    cases ex
    exact ⟨x.1, x.2.1, hx, rfl⟩
  · intro h' hk x hx
    obtain ⟨ob, its', m, g1, g2⟩ := key x hx
    exact ⟨ob, its', m, hk _ _ (Nat.ne_of_lt (Heap.lt_size g1)) (by simp) g1, g2⟩
  · have hm : (s.heap.objs.size == sysModules) = false := beq_eq_false_iff_ne.mpr (Nat.ne_of_gt I.big)
    rw [stored_all ps [] (by rw [List.nil_append, kt_keys rel]; exact hd), List.nil_append] at hd'
    obtain ⟨ob, es, ep, h1, h2, h3, h4, _, h5⟩ := hd'
    have hlen : kvs.length ≤ sizeLine := by rw [Paired.length rel, hl]; exact hz
    have keep : ∀ b ys, H b = some (HO.tup ys) → (upd H s.heap.objs.size (.dT kvs)) b = some (HO.tup ys) := fun b ys e => by
      rw [upd_ne]
      · exact e
      · intro eb
        rw [eb, I.hok.fresh (Nat.le_refl _)] at e
        cases e
    exact ⟨.ref s.heap.objs.size, upd H s.heap.objs.size (.dT kvs), I.laid (t' := tk) (fun b o e => k b o (by simp) e) (Nat.le_refl _) (show ObjOk X.prog X.w _ _ _ (.dT kvs) from ⟨hlen, hm, ps, rel.keeps keep, ob, es, ep, h1, h2, h3, h4, h5⟩), rfl, q _ (I.hok.fresh (Nat.le_refl _))⟩
def rDictF (K : PySem.W.Frag) : List V → Hp → VK → Prop := fun xs H Q => ∃ (a : Addr) (ts : List Addr) (kvs : List (List L2.Key × V)), xs = [.ref a] ∧ SqL K H a (ts.map V.ref) ∧ KeyPairs K H ts kvs ∧ (kvs.map (·.1)).Nodup ∧
  ∀ (p : Addr) (ob : Obj), H p = none → Q (.ref p) (upd H p (.frz ob (.dT kvs)))
theorem call_dictF (hc : X.calm = true) (hu : X.A.units + 64 < cLine) : CallR X (.type "dict") (rDictF X.K) := by
  intro pins s σ H xs us Q I r q
  obtain ⟨a, ts, kvs, ex, hq, hp, hd, q⟩ := q
  subst ex
  obtain ⟨u, eu, rx⟩ := vals1 r
  subst eu
  cases rx
  obtain ⟨its, rv, pl, hz⟩ := I.list hq
  have ei := refs_at rv
  subst ei
  rw [List.length_map] at hz
  obtain ⟨ps, rel, hl, hpr⟩ := pairsT I hp
  obtain ⟨o, n, ho, hcl, hdi, hdat⟩ := pl
  have km := kt_mem rel
  have key : ∀ x ∈ ps, (tupleKind (mixKind X.prog X.w)).is s.heap x.1 x.2.1 := fun x hx => key_of I.hok (km x hx)
  refine call_dict_pairsH (knd := tupleKind (mixKind X.prog X.w)) (ps := ps) (PairArg.list a (ts.map Value.ref).toArray (fun j => ts.getD j 0) (ps.map fun x => (Value.ref x.2.1, x.2.2))) (I.ok.hd hc) ?_ ⟨⟨o, n, ho, hcl, hdi, hdat⟩, ?_, ?_⟩ ⟨by rw [List.length_map], ?_⟩ ?_ (by rw [List.length_map, hl]; exact hz) fun h' tk hd' k => ?_
  · show X.A.units + 1 + 1 < cLine
    omega
  · simp [hl]
  · intro j key v e
    rw [List.getElem?_map] at e
    obtain ⟨x, hx, ex⟩ := Option.map_eq_some_iff.mp e
    cases ex
    obtain ⟨b, e1, e2⟩ := hpr j x hx
    refine ⟨by simp [e1], .inl ?_⟩
    show s.heap.IsTuple (ts.getD j 0) _
    rw [List.getD_eq_getElem?_getD, e1]
    exact e2
  · intro j key v e
    have e : (ps.map fun x => (Value.ref x.2.1, x.2.2))[j]? = some (key, v) := e
    rw [List.getElem?_map] at e
    obtain ⟨x, hx, ex⟩ := Option.map_eq_some_iff.mp e
    cases ex
    exact ⟨x.1, x.2.1, hx, rfl⟩
  · intro h' hk x hx
    obtain ⟨ob, its', m, g1, g2⟩ := key x hx
    exact ⟨ob, its', m, hk _ _ (Nat.ne_of_lt (Heap.lt_size g1)) (by simp) g1, g2⟩
  · have hm : (s.heap.objs.size == sysModules) = false := beq_eq_false_iff_ne.mpr (Nat.ne_of_gt I.big)
    rw [stored_all ps [] (by rw [List.nil_append, kt_keys rel]; exact hd), List.nil_append] at hd'
    obtain ⟨ob, es, ep, h1, h2, h3, h4, _, h5⟩ := hd'
    have hlen : kvs.length ≤ sizeLine := by rw [Paired.length rel, hl]; exact hz
    have keep : ∀ b ys, H b = some (HO.tup ys) → (upd H s.heap.objs.size (.frz ob (.dT kvs))) b = some (HO.tup ys) := fun b ys e => by
      rw [upd_ne]
      · exact e
      · intro eb
        rw [eb, I.hok.fresh (Nat.le_refl _)] at e
        cases e
    exact ⟨.ref s.heap.objs.size, upd H s.heap.objs.size (.frz ob (.dT kvs)), I.laid (t' := tk) (fun b o e => k b o (by simp) e) (Nat.le_refl _) (show ObjOk X.prog X.w _ _ _ (.frz ob (.dT kvs)) from ⟨h1, hlen, hm, ps, rel.keeps keep, ob, es, ep, h1, h2, h3, h4, h5⟩), rfl, q _ ob (I.hok.fresh (Nat.le_refl _))⟩
end
end DiT

set_option Elab.async false
set_option linter.all false
set_option maxRecDepth 100000
set_option maxHeartbeats 4000000
/-! a dict by a comprehension whose keys are tuples of ints and texts -/
namespace DcT
open PySem PySem.Spec PyProof.Rows L2
section
variable {X : Cx}
/-- what stands behind the store of a value at such a key -/
theorem store_t {P0 : List (Addr × Obj)} {τ : L2.St} {G : Hp} {m : Shared} {E : Value → Shared → Prop} {d b : Addr} {kvs : List (List L2.Key × V)} {k : List L2.Key} {v : V} {r : Value} {R : Unit → Shared → Prop} (hu : X.A.units < cLine)
    (J : Inv X P0 τ G m) (hd : G d = some (.dT kvs)) (hb : G b = some (.tup (k.map kV))) (few : kvs.length < sizeLine) (rv : RelV v r) (nx : ∀ m', Inv X P0 τ (upd G d (.dT (putK kvs k v))) m' → R () m') :
    wpAny (model X.prog X.w) X.A (dictSet d (.ref b) r) R E m := by
  obtain ⟨lz, ns, xs, rel, dd⟩ := dt_of J.hok hd
  have lx : xs.length ≤ sizeLine := Paired.length rel ▸ lz
  have lp : (putK kvs k v).length ≤ sizeLine := Nat.le_trans (length_putK kvs k v) few
  refine wpAny_dictSet_heap (hsz := lx) (show (tupleKind (mixKind X.prog X.w)).room X.A from hu) (key_of J.hok hb) dd fun g dd' sb => nx _ ?_
  obtain ⟨o, es, ep, ho, h2, h3, h4, _, h5⟩ := dd'
  refine d_write J (by rw [hd]; trivial) sb ⟨o, ho⟩ ⟨lp, ns, _, (rel.put k hb rv).keeps fun c ys ec => ?_, o, es, ep, ho, h2, h3, h4, h5⟩
  rw [upd_ne (ne_of ec hd (by intro z; cases z))]
  exact ec
/-- {k: v for target in iter}: D the new dict -/
def tDcT (wi : TI) (g : TG) (tk tv : TE) (vs : List Nat) : TE := fun σ H Q => wi σ H fun J H1 => ∀ D, H1 D = none → ∃ W : Nat → Nat → Hp → Prop, (∃ m, W 0 m (upd H1 D (.dT []))) ∧ ∀ i m H, W i m H →
  (J.stop i H ∧ Q (.ref D) H) ∨ (J.go i H ∧ ∃ N : Hp → Prop, (∀ H', N H' → ∃ m', m' < m ∧ W (i + 1) m' H') ∧ ∀ x H', J.yld i H x H' → g x (wipe σ vs) H' fun σ2 H2 => wipe σ2 vs = wipe σ vs ∧
    tk σ2 H2 fun y H4 => tv σ2 H4 fun z H5 => ∃ kvs k b, y = .ref b ∧ H5 b = some (.tup (List.map kV k)) ∧ H5 D = some (.dT kvs) ∧ kvs.length < sizeLine ∧ N (upd H5 D (.dT (putK kvs k z))))
theorem pe_dcT {kx vx tg iter : Expr} {scope : Scope} {own : List (Str × Nat)} {pos : Pos} {wi : TI} {g : TG} {tk tv : TE} (hu : X.A.units < cLine) (calm : X.calm = true) (nd : X.N.Nodup) (pit : PI X tg iter wi) (blk : BlkOk X.N X.env.scope scope own)
    (ptg : ∀ (s : Shared) (H : Hp) (C : Addr) (cl : List (Str × Addr)) (fp : List Addr), PG (X.blk s H scope (compEnvC scope cl C X.env) fp) tg g)
    (pkx : ∀ (s : Shared) (H : Hp) (C : Addr) (cl : List (Str × Addr)) (fp : List Addr), PE (X.blk s H scope (compEnvC scope cl C X.env) fp) kx tk)
    (pvx : ∀ (s : Shared) (H : Hp) (C : Addr) (cl : List (Str × Addr)) (fp : List Addr), PE (X.blk s H scope (compEnvC scope cl C X.env) fp) vx tv) (fold : ∀ x, foldedSetIterable iter X.env x = pure x := by intro _; rfl) :
    PE X (.DictComp kx vx [⟨tg, iter, [], 0⟩] scope pos) (tDcT wi g tk tv (own.map (·.2))) := by
  refine ⟨fun P0 m0 τ G Q I0 goal => ?_⟩
  rw [arm_eval_DictComp]
  have bound : ∀ y ∈ scope.names, y.2 = .free → ∃ c, X.env.cells.lookup y.1 = some c := fun y my fy => (blk.free y my fy).elim (fun z => I0.ok.has _ (.inl z)) fun z => I0.ok.has _ (.inr z)
  refine wpAny_comprehension_free (use := none) rfl fold (closure_ok bound) blk.kind (fun y my fy => (blk.uniq y my).trans (congrArg some fy)) (thn (pit.run P0 m0 τ G _ I0 goal) fun xv m1 got => thn got fun itv m2 got2 => ?_)
  obtain ⟨it, fp, tn, J, G2, rfl, I2, T, at2, free2, run⟩ := got2
  refine wpAny_newObj_type (newEnv_comp ?_)
  generalize hD : m2.heap.objs.size = D
  have newD : G2 D = none := I2.hok.fresh (Nat.le_of_eq hD)
  obtain ⟨W, ⟨n0, w0⟩, turns⟩ := run D newD
  -- the dict is there
  generalize hm3 : ({ m2 with heap := m2.heap.push { cls := .type "dict", data := .dict #[] } } : Shared) = m3
  have I3 : Inv X P0 τ (upd G2 D (.dT [])) m3 := by
    subst hm3
    refine I2.laid (t' := m2.toks) (fun b o e => Heap.get?_push_of_some _ e) (Nat.le_of_eq hD) ?_
    subst hD
    exact dt_empty m2.heap I2.big
  have heap3 : m3.heap = m2.heap.push { cls := .type "dict", data := .dict #[] } := by subst hm3; rfl
  have small : ∀ b ∈ fp, b < m2.heap.objs.size := fun b mb => let ⟨o, e, _⟩ := T.obj _ _ at2 b mb; Heap.lt_size e
  have free3 : ∀ b ∈ fp, FpOk X P0 (upd G2 D (.dT [])) b ∧ b < m3.heap.objs.size := fun b mb => by
    have lt := small b mb
    refine ⟨⟨?_, (free2 b mb).2⟩, ?_⟩
    · rw [upd_ne (by rw [← hD]; exact Nat.ne_of_lt lt)]
      exact (free2 b mb).1
    · rw [heap3, Heap.size_push]; exact Nat.lt_succ_of_lt lt
  have at3 : tn 0 m3.heap := T.keep _ _ _ at2 fun b _ o e => by rw [heap3]; exact Heap.get?_push_of_some _ e
  have I4 := block_start I3 blk nd free3
  have aT := ptg m3 (upd G2 D (.dT [])) m3.heap.objs.size (cellsFrom (m3.heap.objs.size + 1) scope.names (cloFrom X.env.cells scope.names [])) fp
  have aK := pkx m3 (upd G2 D (.dT [])) m3.heap.objs.size (cellsFrom (m3.heap.objs.size + 1) scope.names (cloFrom X.env.cells scope.names [])) fp
  have aV := pvx m3 (upd G2 D (.dT [])) m3.heap.objs.size (cellsFrom (m3.heap.objs.size + 1) scope.names (cloFrom X.env.cells scope.names [])) fp
  show codeAny _ _ (.compStart (.DictComp kx vx [⟨tg, iter, [], 0⟩] scope pos) 0 (.ref it) (.ref D) (compEnvC scope (cellsFrom (m3.heap.objs.size + 1) scope.names (cloFrom X.env.cells scope.names [])) m3.heap.objs.size X.env)) (compPost (model X.prog X.w) X.A X.xe none _ (.ref D) m3.heap.objs.size) { m3 with heap := pushCells (m3.heap.push { cls := .type "dict", data := .dict #[] }) scope.names }
  have none3 : ∀ b ∈ fp, (upd G2 D (.dT [])) b = none := fun b mb => (free3 b mb).1.1
  generalize hce : compEnvC scope (cellsFrom (m3.heap.objs.size + 1) scope.names (cloFrom X.env.cells scope.names [])) m3.heap.objs.size X.env = ce at I4 aT aK aV ⊢
  have locs : ce.locals = m3.heap.objs.size := by subst hce; rfl
  generalize upd G2 D (.dT []) = G3 at I3 I4 aT aK aV w0 none3 free3
  generalize hm4 : ({ m3 with heap := pushCells (m3.heap.push { cls := .type "dict", data := .dict #[] }) scope.names } : Shared) = m4 at I4 ⊢
  have at4 : tn 0 m4.heap := T.keep _ _ _ at3 fun b _ o e => by subst hm4; exact pushCells_keeps _ _ _ _ (Heap.get?_push_of_some _ e)
  have pinOk : ∀ {τ' : L2.St} {G' : Hp} {m' : Shared}, Inv (X.blk m3 G3 scope ce fp) [] τ' G' m' → (∀ b ∈ fp, G' b = none) → ∀ b ∈ fp, FpOk (X.blk m3 G3 scope ce fp) [] G' b := fun I' hn b mb =>
    ⟨hn b mb, (I'.ok.exf b mb).1, I'.ok.exfs b mb, .inl mb, fun x c e => (I'.ok.exf b mb).2 x c e, fun p hp => by simp only [List.append_nil] at hp; exact absurd (show p ∈ ([] : List (Addr × Obj)) from hp) (by simp)⟩
  have loop : codeAny (model X.prog X.w) X.A (.compLoop (.DictComp kx vx [⟨tg, iter, [], 0⟩] scope pos) 0 (.ref it) (.ref D) ce) (compPost (model X.prog X.w) X.A X.xe none (fun v s => ∃ v', ∃ G', Inv X P0 τ G' s ∧ RelV v' v ∧ Q v' G') (.ref D) m3.heap.objs.size) m4 := by
    refine compLoop_anyD (fun c m' => ∃ i G', Inv (X.blk m3 G3 scope ce fp) [] (wipe τ (own.map (·.2))) G' m' ∧ tn i m'.heap ∧ (∀ b ∈ fp, G' b = none) ∧ W i c G') ?_ n0 ⟨0, G3, I4, at4, none3, w0⟩
    rintro c m5 ⟨i, G5, I5, at5, n5, w5⟩
    rcases turns i c G5 w5 with ⟨halt, fin⟩ | ⟨more, N, hN, step⟩
    · refine thnF (T.done (X.blk m3 G3 scope ce fp) rfl rfl rfl calm i [] m5 _ G5 (fun _ _ => False) I5 (pinOk I5 n5) at5 halt) fun res m6 ⟨er, I6⟩ => ?_
      subst er
      have I7 : Inv X P0 τ G5 m6 := I3.call' (ch := fp) I6.os I6.base I6.hok I6.bare fun b mb =>
        ⟨(free3 b mb).1.2.2.2.1, (free3 b mb).1.2.1, (free3 b mb).1.2.2.2.2.1, (free3 b mb).1.2.2.2.2.2⟩
      have noC : G5 m3.heap.objs.size = none := locs ▸ (I6.free : G5 ce.locals = none)
      obtain ⟨mm, nsC, _⟩ := I6.loc
      have nsC : m6.heap.Ns m3.heap.objs.size mm := locs ▸ (nsC : m6.heap.Ns ce.locals mm)
      obtain ⟨f0, f1, _, f3, f4, f5⟩ := I3.fpOk (Nat.le_refl _) noC
      exact ⟨mm, nsC, fun h' sb => ⟨.ref D, G5, I7.turned (t' := m6.toks) (fun b o hb e => (sb.2 b hb).trans e) f0 f1 f3 f4 f5, rfl, fin⟩⟩
    · refine thnF (T.item (X.blk m3 G3 scope ce fp) rfl rfl rfl calm i [] m5 _ G5 (fun _ _ => False) I5 (pinOk I5 n5) at5 more) fun res m6 ⟨u, er, got6⟩ => ?_
      subst er
      refine thnF got6 fun _ m7 ⟨x, G7, I7, r7, y7, at7, n7⟩ => ?_
      have I7p := I7.pinned (pinOk I7 n7) (T.obj _ _ at7)
      refine thnF (aT.run _ m7 _ G7 x u _ I7p r7 (step x G7 y7)) fun _ m8 ⟨τ8, G8, I8, wi8, q8⟩ => ?_
      refine wpAny_pure ?_
      simp only [if_true]
      refine thnF (aK.run _ m8 τ8 G8 _ I8 q8) fun z9 m9 ⟨y9, G9, I9, r9, q9⟩ => ?_
      refine thnF (aV.run _ m9 τ8 G9 _ I9 q9) fun z10 m10 ⟨v10, G10, I10, r10, kvs, k, b, ey, hb, hd, few, nx⟩ => ?_
      subst ey
      obtain rfl : z9 = Value.ref b := r9
      refine store_t (X := X.blk m3 G3 scope ce fp) hu I10 hd hb few r10 fun m11 I11 => ?_
      obtain ⟨c', lt, w'⟩ := hN _ nx
      have still : ∀ b' ∈ fp, ∀ o, m7.heap.get? b' = some o → m11.heap.get? b' = some o ∧ _ := fun b' mb o e =>
        let z := I11.pin (b', o) (List.mem_append_right _ (List.mem_append_right _ (mem_pinsAt mb e)))
        ⟨z.1, z.2.1⟩
      refine ⟨c', lt, i + 1, _, (I11.unpinned (pins := [])).weak (by rw [← wi8, wipe_length]) (fun j v e => ?_), T.keep _ _ _ at7 fun b' mb o e => (still b' mb o e).1, fun b' mb => ?_, w'⟩
      · rw [← wi8] at e
        exact (wipe_some e).1
      · obtain ⟨o, e, _⟩ := T.obj _ _ at7 b' mb
        exact (still b' mb o e).2
  exact codeAny_compStart_dict loop (T.self X.A 0 _ _ _ at4 loop)
end
end DcT

set_option Elab.async false
set_option linter.all false
set_option maxRecDepth 100000
set_option maxHeartbeats 4000000
/-! dicts with tuples as keys compared, and emptied -/
namespace EqT
open PySem PySem.Spec PyProof.Rows L2
section
variable {prog : Program} {w : World} {K : Type} [DecidableEq K] {knd : HeapKind prog w K} {A : Around} {E : Value → Shared → Prop} {s : Shared}
/-- all pairs of the one stand in the other -/
theorem pairs_same {nm : String} {a b : Addr} {ka kb : List (K × Addr × Value)} {Q : Bool → Shared → Prop} (hu : knd.room A) (na : (a == sysModules) = false) (nb : (b == sysModules) = false) (da : s.heap.DictOfH knd a ka) (db : s.heap.DictOfH knd b kb) (len : ka.length = kb.length)
    (eq : ∀ (i : Nat) (x : K × Addr × Value), ka[i]? = some x → ∃ (j : Nat) (y : K × Addr × Value), kb[j]? = some y ∧ y.1 = x.1 ∧ SeqAt.EqAt A s x.2.2 y.2.2 true) (h : Q true s) : wpAny (model prog w) A (Builtin.Dict.samePairs nm a b) Q E s := by
  obtain ⟨oa, es, ep, ga, _, ea, la, isa, nda⟩ := da
  obtain ⟨ob, fs, fp, gb, _, eb, lb, isb, ndb⟩ := db
  have sa : es.size = ka.length := size_of_entries la
  have sb : fs.size = kb.length := size_of_entries lb
  unfold Builtin.Dict.samePairs Builtin.Dict.showsAll
  rw [na, nb]
  simp only [Bool.false_eq_true, if_false]
  refine wpAny_bind (wpAny_pure (wpAny_bind (wpAny_pure (wpAny_bind (wpAny_dictEntries ga ea ?_)))))
  refine wpAny_bind (wpAny_dictEntries gb eb ?_)
  rw [if_neg (by simp; omega)]
  refine wpAny_bind (wpAny_dictEpoch ga ea (wpAny_bind ?_))
  rw [Std.Legacy.Range.forIn_eq_forIn_range']
  simp only [Std.Legacy.Range.size, Nat.sub_zero, Nat.add_sub_cancel, Nat.div_one]
  refine wpAny_forIn_list _ (fun left q t => t = s ∧ q = (none, ()) ∧ ∃ i, left = List.range' i (es.size - i) ∧ i ≤ es.size) _ ?_ ?_ _ _ ⟨rfl, rfl, 0, by simp, Nat.zero_le _⟩
  · rintro x left q t ⟨rfl, rfl, i, hl, hi⟩
    have lt : i < es.size := by
      by_cases c : i < es.size
      · exact c
      · rw [show es.size - i = 0 by omega] at hl; simp at hl
    rw [show es.size - i = (es.size - (i + 1)) + 1 by omega, List.range'_succ] at hl
    injection hl with e1 e2
    subst e1 e2
    refine wpAny_bind (wpAny_dictEntries ga ea ?_)
    obtain ⟨y, hy⟩ : ∃ y, ka[x]? = some y := ⟨_, List.getElem?_eq_getElem (by omega)⟩
    rw [entry_at la x, hy]
    obtain ⟨j, z, hz, kz, ez⟩ := eq x y hy
    show wpAny _ _ (holding [Value.ref y.2.1, y.2.2] _ >>= _) _ _ _
    refine wpAny_bind (wpAny_holding (wpAny_bind (wpAny_dictFind_heap (k := y.1) hu (isa y (List.mem_of_getElem? hy)) gb eb lb isb ndb (fun no => ?_) fun j' p hp => ?_)))
    · exact absurd (show kb[j]? = some (y.1, z.2) by rw [hz, ← kz]) (no j z.2)
    · have pz : p = z.2 := by
        have e := ndb
        have hz' : kb[j]? = some (y.1, z.2) := by rw [hz, ← kz]
        have ij : j' = j := idxH_unique ndb hp hz'
        subst ij
        rw [hp] at hz'
        injection hz' with q
        injection q
      subst pz
      refine wpAny_bind (wpAny_dictEntries gb eb ?_)
      rw [entry_at lb j', hp]
      refine wpAny_holding (ez prog w _ _ ?_)
      show wpAny _ _ (if (!true) = true then _ else _) _ _ _
      rw [if_neg (by decide)]
      refine wpAny_bind (wpAny_dictEpoch ga ea ?_)
      rw [if_neg (by simp)]
      exact wpAny_pure ⟨rfl, rfl, x + 1, rfl, lt⟩
  · rintro q t ⟨rfl, rfl, _⟩
    exact wpAny_pure h
end
section
variable {X : Cx}
/-- the pairs of two dicts, alike as data -/
def PairsEq (K : PySem.W.Frag) (H : Hp) (ks ls : List (List L2.Key × V)) : Prop := ks.length = ls.length ∧ ∀ (i : Nat) (x : List L2.Key × V), ks[i]? = some x → ∃ (j : Nat) (y : List L2.Key × V) (d : PyData), ls[j]? = some y ∧ y.1 = x.1 ∧ Dp K H x.2 d ∧ Dp K H y.2 d ∧ SeqAt.shaped d = true
theorem kt_get {H : Hp} : ∀ {kvs : List (List L2.Key × V)} {ps : List (List L2.Key × Addr × Value)} {i : Nat} {x : List L2.Key × Addr × Value}, L2.KT H kvs ps → ps[i]? = some x → ∃ v, kvs[i]? = some (x.1, v) ∧ RelV v x.2.2
  | _, _, _, _, .nil, e => by simp at e
  | p :: _, q :: _, 0, x, .cons h _, e => by
    simp at e; subst e
    exact ⟨p.2, by simp [← h.1], h.2.2⟩
  | _, _, i + 1, x, .cons _ t, e => by
    obtain ⟨v, a, b⟩ := kt_get (i := i) (x := x) t (by simpa using e)
    exact ⟨v, by simpa using a, b⟩
theorem kt_put {H : Hp} : ∀ {kvs : List (List L2.Key × V)} {ps : List (List L2.Key × Addr × Value)} {i : Nat} {y : List L2.Key × V}, L2.KT H kvs ps → kvs[i]? = some y → ∃ x, ps[i]? = some x ∧ x.1 = y.1 ∧ RelV y.2 x.2.2
  | _, _, _, _, .nil, e => by simp at e
  | p :: _, q :: _, 0, y, .cons h _, e => by
    simp at e; subst e
    exact ⟨q, by simp, h.1.symm, h.2.2⟩
  | _, _, i + 1, y, .cons _ t, e => by
    obtain ⟨x, a, b⟩ := kt_put (i := i) (y := y) t (by simpa using e)
    exact ⟨x, by simpa using a, b⟩
def rEqT (K : PySem.W.Frag) (b : Bool) : R2 := fun x y H Q => ∃ (p q : Addr) (ks ls : List (List L2.Key × V)), x = .ref p ∧ y = .ref q ∧ Rd H p (.dT ks) ∧ Rd H q (.dT ls) ∧ PairsEq K H ks ls ∧ Q (.bl b) H
theorem same_of {A : Around} {pins : List (Addr × Obj)} {σ : L2.St} {H : Hp} {s : Shared} {E : Value → Shared → Prop} {p q : Addr} {ks ls : List (List L2.Key × V)} {nm : String} {R : Bool → Shared → Prop} (I : Inv X pins σ H s) (hu : A.in1.units + 64 < cLine)
    (hp : Rd H p (.dT ks)) (hq : Rd H q (.dT ls)) (pe : PairsEq X.K H ks ls) (h : R true s) : wpAny (model X.prog X.w) A.in1 (Builtin.Dict.samePairs nm p q) R E s := by
  obtain ⟨z1, y1, xs, r1, d1⟩ := dt_rd I.hok hp
  obtain ⟨z2, y2, zs, r2, d2⟩ := dt_rd I.hok hq
  refine pairs_same (show (tupleKind (mixKind X.prog X.w)).room A.in1 by show A.in1.units < cLine; omega) y1 y2 d1 d2 (by rw [← Paired.length r1, ← Paired.length r2]; exact pe.1) (fun i x hx => ?_) h
  obtain ⟨v, hv, rv⟩ := kt_get r1 hx
  obtain ⟨j, y, d, hy, ky, e1, e2, sh⟩ := pe.2 i _ hv
  obtain ⟨u, hu', ku, ru⟩ := kt_put r2 hy
  obtain ⟨as, w1⟩ := Dp.reads I d _ _ e1 rv
  obtain ⟨bs, w2⟩ := Dp.reads I d _ _ e2 ru
  have key := PySem.W.keq_at (A := A) (s := s) w1 w2 sh sh hu
  rw [SeqAt.eqv_refl _ (by unfold SeqAt.shaped at sh; exact (Bool.and_eq_true_iff.mp sh).1)] at key
  exact ⟨j, u, hu', ku.trans ky, key⟩
end
section
variable {X : Cx}
theorem op_eqT (hu : X.A.units + 66 < cLine) : OpR X (compareOp .Eq) (rEqT X.K true) := by
  intro pins s σ H x y v u Q I rx ry h
  obtain ⟨p, q, ks, ls, rfl, rfl, hp, hq, pe, k⟩ := h
  obtain rfl : v = Value.ref p := rx
  obtain rfl : u = Value.ref q := ry
  obtain ⟨_, _, xs, r1, d1⟩ := dt_rd I.hok hp
  obtain ⟨_, _, zs, r2, d2⟩ := dt_rd I.hok hq
  refine wpAny_richCompare_same_room (op := .Eq) d1.typeIs d2.typeIs PySem.F.slot_dict_eq (wpAny_call_entry PySem.F.slot_dict_eq d1.typeIs PySem.F.entry_dict_eq ?_ (PySem.F.args_dict_eq_2 _ _)) (by omega)
  show wpAny _ _ (Builtin.Dict.dictSlotArgs "__eq__" ⟨[.ref p, .ref q], []⟩ >>= _) _ _ s
  refine wpAny_bind ?_
  unfold Builtin.Dict.dictSlotArgs
  refine wpAny_bind (wpAny_notOrdered_dict d1.typeIs (wpAny_pure ?_))
  refine wpAny_bind (wpAny_isInstance (T := "dict") d2.typeIs PySem.F.sub_dict_dict ?_)
  simp only [Bool.not_true, Bool.false_eq_true, if_false]
  refine wpAny_bind (wpAny_pure (wpAny_bind (wpAny_pure (wpAny_bind (same_of I (by show X.A.units + 1 + 64 < cLine; omega) hp hq pe ?_)))))
  refine wpAny_pure ⟨_, rfl, (fun x => nomatch x), ?_⟩
  exact ⟨.bl true, H, I, rfl, k⟩
theorem op_neT (hu : X.A.units + 66 < cLine) : OpR X (compareOp .NotEq) (rEqT X.K false) := by
  intro pins s σ H x y v u Q I rx ry h
  obtain ⟨p, q, ks, ls, rfl, rfl, hp, hq, pe, k⟩ := h
  obtain rfl : v = Value.ref p := rx
  obtain rfl : u = Value.ref q := ry
  obtain ⟨_, _, xs, r1, d1⟩ := dt_rd I.hok hp
  obtain ⟨_, _, zs, r2, d2⟩ := dt_rd I.hok hq
  refine wpAny_richCompare_same_room (op := .NotEq) d1.typeIs d2.typeIs PySem.F.slot_dict_ne (wpAny_call_entry PySem.F.slot_dict_ne d1.typeIs PySem.F.entry_dict_ne ?_ (PySem.F.args_dict_ne_2 _ _)) (by omega)
  show wpAny _ _ (Builtin.Dict.dictSlotArgs "__ne__" ⟨[.ref p, .ref q], []⟩ >>= _) _ _ s
  refine wpAny_bind ?_
  unfold Builtin.Dict.dictSlotArgs
  refine wpAny_bind (wpAny_notOrdered_dict d1.typeIs (wpAny_pure ?_))
  refine wpAny_bind (wpAny_isInstance (T := "dict") d2.typeIs PySem.F.sub_dict_dict ?_)
  simp only [Bool.not_true, Bool.false_eq_true, if_false]
  refine wpAny_bind (wpAny_pure (wpAny_bind (wpAny_pure (wpAny_bind (same_of I (by show X.A.units + 1 + 64 < cLine; omega) hp hq pe ?_)))))
  refine wpAny_pure ⟨_, rfl, (fun x => nomatch x), ?_⟩
  exact ⟨.bl false, H, I, rfl, k⟩
/-- d.clear() -/
def rClearT : V → List V → Hp → VK → Prop := fun x vs H Q => ∃ (d : Addr) (kvs : List (List L2.Key × V)), x = .ref d ∧ vs = [] ∧ H d = some (.dT kvs) ∧ Q .non (upd H d (.dT []))
theorem mtd_clearT : MtR X "dict.clear" rClearT := by
  intro pins s σ H x vs v us Q I rx rv h
  obtain ⟨d, kvs, rfl, rfl, hd, q⟩ := h
  obtain rfl : v = Value.ref d := rx
  have z := rv.zero
  subst z
  obtain ⟨lz, ns, xs, rel, o, es, ep, ho, hx, hdat, he, his, hn⟩ := dt_of I.hok hd
  have raw : s.heap.DictRaw d es ep := ⟨o, ho, hx, hdat⟩
  have sz : es.size ≤ sizeLine := by rw [size_of_entries he, ← Paired.length rel]; exact lz
  refine call_meetsIn PySem.F.slot_dict_clear raw.typeIs PySem.F.entry_dict_clear (PySem.F.args_dict_clear_1 _) (meets_dict_clear_raw d) ⟨es, ep, raw, sz, fun h' raw' sb => ?_⟩
  obtain ⟨o', ho', hx', hdat'⟩ := raw'
  refine ⟨.non, upd H d (.dT []), d_write I (by rw [hd]; trivial) sb ⟨o', ho'⟩ ⟨Nat.zero_le _, ns, [], .nil, o', #[], _, ho', hx', hdat', rfl, List.nodup_nil⟩, rfl, q⟩
theorem pe_dclearT {o : Expr} {to : TE} {apos cpos : Pos} (ho : PE X o to) (hbase : attributeBase o "clear" X.env (eval o X.env) = eval o X.env := by rfl) (hline : (apos.endLine == cpos.line) = true := by rfl) : PE X (.Call (.Attribute o "clear" apos) [] [] cpos) (tBM0 X.K "dict" rClearT to) :=
  pe_bm0 PySem.F.plainAttrs_dict PySem.F.slot_dict_clear PySem.F.type_dict_clear mtd_clearT ho hbase hline
end
end EqT

set_option Elab.async false
set_option linter.all false
set_option maxRecDepth 100000
set_option maxHeartbeats 4000000
/-! lots that stand in the heap as tuples of their own: they can be keys -/
namespace CB
open PySem PySem.Spec PyProof.Rows L2
def TupH (H : Hp) (x : V) (ns : List Int) : Prop := ∃ t, x = .ref t ∧ H t = some (.tup (ns.map V.int))
inductive LotsH (H : Hp) : List V → List (List Nat) → Prop
  | nil : LotsH H [] []
  | cons {x : V} {xs : List V} {l : List Nat} {ls : List (List Nat)} : TupH H x (pI l) → LotsH H xs ls → LotsH H (x :: xs) (l :: ls)
section
variable {H H' : Hp}
theorem tupH_mono (e : KT H H') {x : V} {ns : List Int} (h : TupH H x ns) : TupH H' x ns := by
  obtain ⟨t, rfl, h⟩ := h
  exact ⟨t, rfl, e.1 _ _ h⟩
theorem LotsH.mono (e : KT H H') : ∀ {xs : List V} {L : List (List Nat)}, LotsH H xs L → LotsH H' xs L
  | _, _, .nil => .nil
  | _, _, .cons h t => .cons (tupH_mono e h) (LotsH.mono e t)
theorem LotsH.append : ∀ {xs ys : List V} {L M : List (List Nat)}, LotsH H xs L → LotsH H ys M → LotsH H (xs ++ ys) (L ++ M)
  | _, _, _, _, .nil, h => h
  | _, _, _, _, .cons a b, h => .cons a (LotsH.append b h)
theorem LotsH.length : ∀ {xs : List V} {L : List (List Nat)}, LotsH H xs L → xs.length = L.length
  | _, _, .nil => rfl
  | _, _, .cons _ t => by simp [LotsH.length t]
theorem LotsH.getV : ∀ {xs : List V} {L : List (List Nat)} {i : Nat} {x : V}, LotsH H xs L → xs[i]? = some x → ∃ l, L[i]? = some l ∧ TupH H x (pI l)
  | _, _, _, _, .nil, e => by simp at e
  | _, _, 0, _, .cons h _, e => by simp at e; subst e; exact ⟨_, rfl, h⟩
  | _, _, i + 1, x, .cons _ t, e => by
    obtain ⟨l, h1, h2⟩ := LotsH.getV (i := i) (x := x) t (by simpa using e)
    exact ⟨l, by simpa using h1, h2⟩
theorem LotsH.get : ∀ {xs : List V} {L : List (List Nat)} {i : Nat} {l : List Nat}, LotsH H xs L → L[i]? = some l → ∃ x, xs[i]? = some x ∧ TupH H x (pI l)
  | _, _, _, _, .nil, e => by simp at e
  | _, _, 0, _, .cons h _, e => by simp at e; subst e; exact ⟨_, rfl, h⟩
  | _, _, i + 1, l, .cons _ t, e => by
    obtain ⟨x, h1, h2⟩ := LotsH.get (i := i) (l := l) t (by simpa using e)
    exact ⟨x, by simpa using h1, h2⟩
theorem LotsH.memV : ∀ {xs : List V} {L : List (List Nat)} {x : V}, LotsH H xs L → x ∈ xs → ∃ l ∈ L, TupH H x (pI l) := fun h m => by
  obtain ⟨i, e⟩ := List.mem_iff_getElem?.mp m
  obtain ⟨l, e1, e2⟩ := h.getV e
  exact ⟨l, List.mem_of_getElem? e1, e2⟩
theorem LotsH.perm {xs ys : List V} (p : xs.Perm ys) : ∀ {L : List (List Nat)}, LotsH H xs L → ∃ M, L.Perm M ∧ LotsH H ys M := by
  induction p with
  | nil => exact fun h => ⟨_, List.Perm.refl _, h⟩
  | cons x _ ih =>
    intro L h
    cases h with
    | cons h t =>
      obtain ⟨M, m1, m2⟩ := ih t
      exact ⟨_, m1.cons _, .cons h m2⟩
  | swap x y l =>
    intro L h
    cases h with
    | cons h t =>
      cases t with
      | cons h2 t => exact ⟨_, List.Perm.swap _ _ _, .cons h2 (.cons h t)⟩
  | trans _ _ ih1 ih2 =>
    intro L h
    obtain ⟨M, m1, m2⟩ := ih1 h
    obtain ⟨N, n1, n2⟩ := ih2 m2
    exact ⟨N, m1.trans n1, n2⟩
theorem LotsH.snoc {xs : List V} {L : List (List Nat)} {x : V} {l : List Nat} (h : LotsH H xs L) (t : TupH H x (pI l)) : LotsH H (xs ++ [x]) (L ++ [l]) := h.append (.cons t .nil)
theorem TupH.to {K : PySem.W.Frag} {x : V} {ns : List Int} (h : TupH H x ns) : TupI K H x ns := by
  obtain ⟨t, rfl, h⟩ := h
  exact ⟨t, rfl, SqT.of h⟩
theorem LotsH.to {K : PySem.W.Frag} : ∀ {xs : List V} {L : List (List Nat)}, LotsH H xs L → LotsAt K H xs L
  | _, _, .nil => .nil
  | _, _, .cons h t => .cons h.to (LotsH.to t)
end
end CB

set_option Elab.async false
set_option linter.all false
set_option maxRecDepth 100000
set_option maxHeartbeats 4000000
/-! lots as keys, in order -/
namespace EqT
open PySem PySem.Spec PyProof.Rows L2
theorem u0 {k : Nat} {A : Around} (r : Room k A) : A.units < cLine := by have := r.un; omega
theorem u66 {k : Nat} {A : Around} (r : Room k A) : A.units + 66 < cLine := by have := r.un; omega
end EqT
namespace CB
open PySem PySem.Spec PyProof.Rows L2
theorem CDu.lt {u : Nat} (h : u + 64 < cLine) : u + 1 < cLine := by omega
def keyK (l : List Nat) : List L2.Key := (pI l).map Sum.inl
theorem keyK_V (l : List Nat) : (keyK l).map kV = pV l := by unfold keyK pV; rw [List.map_map]; rfl
theorem keyK_inj {l m : List Nat} (h : keyK l = keyK m) : l = m := by
  refine pI_inj ?_
  unfold keyK at h
  exact (List.map_inj_right (fun a b e => Sum.inl.inj e)).mp h
/-- tuples of persons, which can be keys -/
theorem tups_lotsH {H : Hp} (ps : List Nat) : ∀ {vs : List V} {ms : List (List Nat)}, (∀ m ∈ ms, ∀ j ∈ m, j < ps.length) → TupsAt H vs (ms.map (combV (pV ps))) → LotsH H vs (ms.map fun m => m.map fun j => ps.getD j 0)
  | [], [], _, _ => .nil
  | [], _ :: _, _, h => h.elim
  | _ :: _, [], _, h => h.elim
  | v :: vs, m :: ms, hb, ⟨⟨a, e, ha⟩, t⟩ => by
    have ec : combV (pV ps) m = pV (m.map fun j => ps.getD j 0) := by
      unfold combV pV pI
      simp only [List.map_map]
      refine List.map_congr_left fun j hj => ?_
      have hl := hb m List.mem_cons_self j hj
      simp [List.getD_eq_getElem?_getD, List.getElem?_map, List.getElem?_eq_getElem hl]
    rw [ec] at ha
    exact .cons ⟨a, e, ha⟩ (tups_lotsH ps (fun m hm => hb m (List.mem_cons_of_mem _ hm)) t)
/-- pairs of lots and values -/
inductive KvL (R : V → List Nat → Prop) : List (List L2.Key × V) → List (List Nat) → Prop
  | nil : KvL R [] []
  | cons {v : V} {l : List Nat} {kvs : List (List L2.Key × V)} {ls : List (List Nat)} : R v l → KvL R kvs ls → KvL R ((keyK l, v) :: kvs) (l :: ls)
section
variable {R R' : V → List Nat → Prop}
theorem KvL.imp (h : ∀ v l, R v l → R' v l) : ∀ {kvs : List (List L2.Key × V)} {ls : List (List Nat)}, KvL R kvs ls → KvL R' kvs ls
  | _, _, .nil => .nil
  | _, _, .cons a t => .cons (h _ _ a) (KvL.imp h t)
theorem KvL.len : ∀ {kvs : List (List L2.Key × V)} {ls : List (List Nat)}, KvL R kvs ls → kvs.length = ls.length
  | _, _, .nil => rfl
  | _, _, .cons _ t => by simp [KvL.len t]
theorem KvL.keys : ∀ {kvs : List (List L2.Key × V)} {ls : List (List Nat)}, KvL R kvs ls → kvs.map (·.1) = ls.map keyK
  | _, _, .nil => rfl
  | _, _, .cons _ t => by simp [KvL.keys t]
theorem KvL.snoc {v : V} {l : List Nat} (h : R v l) : ∀ {kvs : List (List L2.Key × V)} {ls : List (List Nat)}, KvL R kvs ls → KvL R (kvs ++ [(keyK l, v)]) (ls ++ [l])
  | _, _, .nil => .cons h .nil
  | _, _, .cons a t => .cons a (KvL.snoc h t)
theorem KvL.get : ∀ {kvs : List (List L2.Key × V)} {ls : List (List Nat)} {i : Nat} {x : List L2.Key × V}, KvL R kvs ls → kvs[i]? = some x → ∃ l, ls[i]? = some l ∧ x.1 = keyK l ∧ R x.2 l
  | _, _, _, _, .nil, e => by simp at e
  | _, _, 0, x, .cons a _, e => by simp at e; subst e; exact ⟨_, rfl, rfl, a⟩
  | _, _, i + 1, x, .cons _ t, e => by
    obtain ⟨l, h1, h2⟩ := KvL.get (i := i) (x := x) t (by simpa using e)
    exact ⟨l, by simpa using h1, h2⟩
theorem KvL.at : ∀ {kvs : List (List L2.Key × V)} {ls : List (List Nat)} {i : Nat} {l : List Nat}, KvL R kvs ls → ls[i]? = some l → ∃ v, kvs[i]? = some (keyK l, v) ∧ R v l
  | _, _, _, _, .nil, e => by simp at e
  | _, _, 0, l, .cons a _, e => by simp at e; subst e; exact ⟨_, rfl, a⟩
  | _, _, i + 1, l, .cons _ t, e => by
    obtain ⟨v, h1, h2⟩ := KvL.at (i := i) (l := l) t (by simpa using e)
    exact ⟨v, by simpa using h1, h2⟩
/-- a new key goes to the end -/
theorem putK_new {kvs : List (List L2.Key × V)} {k : List L2.Key} {v : V} (h : k ∉ kvs.map (·.1)) : putK kvs k v = kvs ++ [(k, v)] := by
  unfold putK
  rw [if_neg]
  rw [List.any_eq_true]
  rintro ⟨x, m, e⟩
  exact h (List.mem_map.mpr ⟨x, m, of_decide_eq_true e⟩)
theorem valV_at {kvs : List (List L2.Key × V)} {k : List L2.Key} {v : V} (nd : (kvs.map (·.1)).Nodup) (h : (k, v) ∈ kvs) : valV kvs k = some v := by
  induction kvs with
  | nil => cases h
  | cons x kvs ih =>
    rw [List.map_cons, List.nodup_cons] at nd
    rcases List.mem_cons.mp h with e | e
    · subst e; simp [valV]
    · have : ¬ x.1 = k := fun z => nd.1 (by rw [z]; exact List.mem_map.mpr ⟨_, e, rfl⟩)
      have := ih nd.2 e
      simp [valV] at this ⊢
      grind
end
theorem lotsI_nodup {n : Nat} (h : n ≤ 6) : (lotsI n).Nodup := by
  have : ∀ n, n ≤ 6 → (lotsI n).Nodup := by decide +kernel
  exact this n h
theorem keys_nodup {R : V → List Nat → Prop} {kvs : List (List L2.Key × V)} {n : Nat} (h : n ≤ 6) (q : KvL R kvs (lotsI n)) : (kvs.map (·.1)).Nodup := by
  rw [q.keys]
  exact List.Pairwise.map keyK (fun a b e z => e (keyK_inj z)) (lotsI_nodup h)
theorem lotsI_len {n : Nat} (h : n ≤ 6) : (lotsI n).length ≤ 64 := by
  have : ∀ n, n ≤ 6 → (lotsI n).length ≤ 64 := by decide +kernel
  exact this n h
end CB

set_option Elab.async false
set_option linter.all false
set_option maxRecDepth 100000
set_option maxHeartbeats 4000000
namespace CB
open PySem PySem.Spec PyProof.Rows L2 Cmb
open C8 (Cal Met Mak pe_c pe_mk pe_mt pe_mt0 pe_gc CalAt)
section
variable {P : Program} {w : World} {K : PySem.W.Frag} {mg : Str → Option Value} {base : Heap}
def sp_lots_amongH (K : PySem.W.Frag) : Sp := fun vs H Q _ => ∃ (a : Addr) (ps : List Nat), vs = [.ref a] ∧ ps.length ≤ 6 ∧ SqL K H a (pV ps) ∧ ∀ p ys H', Same H H' → H p = none → H' p = some (.lst ys) → LotsH H' ys (lotsAm ps) → Q (.ref p) H'
theorem ok_lots_among_t (F : FnD K mg "lots_among" s_lots_among) (g_combinations : mg "combinations" = some (.type "itertools.combinations")) (T_list : mg "list" = none) (T_range : mg "range" = none) (T_len : mg "len" = none) : Cal P w K mg base 1 "lots_among" (sp_lots_amongH K) [] := by
  refine calOf F sc_lots_among (fun _ _ _ _ _ _ us hl => match us, hl with | [_], _ => rfl) (fun vs H Q E h => ?_) (fun cdv f A outer s H vs Q E hr h => ?_)
  · obtain ⟨_, _, rfl, _⟩ := h
    rfl
  · obtain ⟨a, ps, rfl, h6, hS, k⟩ := h
    refine ⟨_, (pss_cons (ps_set (i := 1) sc_lots_among.nd rfl (Or.inl rfl) (pe_lst pa_nil))
    (pss_cons (ps_for PassesOwn.never rfl (pi_range1 (by rfl) T_range (pa_cons (pe_op op_add (pe_callB call_len_seq (by rfl) T_len PySem.boot_len (pa_cons (pv 0) pa_nil)) pe_int) pa_nil)) (pg_name (i := 2) sc_lots_among.nd rfl (Or.inl rfl)) (pss_one (ps_expr (pe_bm PySem.F.plainAttrs_list PySem.F.slot_list_extend PySem.F.type_list_extend mt_extend (pv 1) (pa_cons (pe_listComb rfl (by rfl) T_list (by rfl) g_combinations (pa_cons (pv 0) (pa_cons (pv 2) pa_nil))) pa_nil)))))
    (pss_one (ps_ret (pv 1))))), ?_⟩
    refine ⟨Nat.zero_le _, fun p0 hp0 => ?_⟩
    have s0 := same_new (o := .lst []) hp0
    refine ⟨_, rfl, a, pV ps, rfl, .inl (s0.seq hS), _, _, rfl, rfl, _, rfl, by rw [pV_len]; omega, by rw [pV_len]; omega, ?_⟩
    refine for_range (lo := 0) (n := (((pV ps).length : Int) + 1).toNat) (fun i σ H' => ∃ (ys : List V) (y : Option V), σ = [some (.ref a), some (.ref p0), y] ∧ H' p0 = some (.lst ys) ∧ LotsH H' ys ((List.range i).flatMap fun r => (combs ps.length r).map fun m => m.map fun j => ps.getD j 0) ∧ Same H H')
      ⟨[], none, rfl, upd_same, .nil, s0⟩ ?_ ?_
    · rintro i σ H1 hi ⟨ys, _, rfl, g1, g2, g3⟩
      rw [pV_len] at hi
      have il : i ≤ ps.length := by omega
      rw [show (0 : Int) + ((i : Nat) : Int) = ((i : Nat) : Int) from Int.zero_add _]
      refine ⟨_, rfl, .inl ⟨rfl, _, SqL.of g1⟩, _, rfl, _, rfl, a, pV ps, i, rfl, g3.seq hS, by rw [pV_len]; exact il, by rw [pV_len]; exact h6, fun p zs H2 s2 hp hz ht => ?_⟩
      rw [pV_len] at ht
      have lt := tups_lotsH ps (combs_lt h6 il) ht
      have g1' := s2 _ _ g1
      have zl := ht.length
      have yl := g2.length
      have fz := (combs_facts ps.length h6 i il).2.2
      have fy := few_flat ps.length i h6 (by omega)
      rw [List.length_map] at zl
      have fe : ((List.range i).flatMap fun r => (combs ps.length r).map fun m => m.map fun j => ps.getD j 0) = ((List.range i).flatMap fun r => combs ps.length r).map fun m => m.map fun j => ps.getD j 0 := by rw [List.map_flatMap]
      rw [fe, List.length_map] at yl
      refine ⟨p0, p, ys, zs, rfl, rfl, g1', hz, Nat.le_of_lt (small1000 (by omega)), ?_⟩
      refine ⟨_, _, rfl, upd_same, ?_, ?_⟩
      · rw [List.range_succ, List.flatMap_append]
        simp only [List.flatMap_cons, List.flatMap_nil, List.append_nil]
        exact ((g2.mono (Same.kt s2)).append lt).mono (KT.updl g1')
      · exact Same.mut (g3.trans s2) hp0
    · rintro σ H1 ⟨ys, _, rfl, g1, g2, g3⟩
      rw [pV_len, show (((ps.length : Nat) : Int) + 1).toNat = ps.length + 1 by omega] at g2
      exact ⟨_, rfl, k p0 ys H1 g3 hp0 g1 g2⟩
def sp_all_lotsH (K : PySem.W.Frag) : Sp := fun vs H Q _ => ∃ n : Nat, vs = [.int (n : Int)] ∧ n ≤ 6 ∧ ∀ p ys H', Same H H' → H p = none → H' p = some (.lst ys) → LotsH H' ys (lotsI n) → Q (.ref p) H'
theorem ok_all_lots_t (F : FnD K mg "all_lots" s_all_lots) (c_lots_among_t : Cal P w K mg base 1 "lots_among" (sp_lots_amongH K) []) (T_list : mg "list" = none) (T_range : mg "range" = none) : Cal P w K mg base 2 "all_lots" (sp_all_lotsH K) [] := by
  refine calOf F sc_all_lots (fun _ _ _ _ _ _ us hl => match us, hl with | [_], _ => rfl) (fun vs H Q E h => ?_) (fun cdv f A outer s H vs Q E hr h => ?_)
  · obtain ⟨_, rfl, _⟩ := h
    rfl
  · obtain ⟨n, rfl, hn, k⟩ := h
    have c_lots_among := c_lots_among_t
    refine ⟨_, (pss_one (ps_ret (pe_c c_lots_among hr (by first | decide | omega) rfl (pa_cons (pe_listRg rfl (by rfl) T_list (prg_1 (by rfl) T_range (pv 0))) pa_nil)))), ?_⟩
    refine ⟨_, rfl, (n : Int), rfl, RgOk.of_le (by omega) (by omega) (by omega) (by omega), fun l hl => ?_⟩
    rw [rgV_pV]
    have s1 := same_new (o := .lst (pV (List.range n))) hl
    refine ⟨l, List.range n, rfl, by rw [List.length_range]; exact hn, SqL.of upd_same, fun p ys H' s2 hp hy hL => ?_⟩
    rw [lotsAm_range hn] at hL
    exact k p ys H' (s1.trans s2) (none_back s1 hp) hy hL
theorem KT.upt {H : Hp} {D : Addr} {kvs : List (List L2.Key × V)} {o : HO} (h : H D = some (.dT kvs)) : KT H (upd H D o) :=
  ⟨fun b ys e => by rw [upd_ne (ne_of e h (by intro z; cases z))]; exact e, fun b u v e => by rw [upd_ne (ne_of e h (by intro z; cases z))]; exact e⟩
/-- the dict at d: the corners by their lots, in order -/
def TabO (K : PySem.W.Frag) (H : Hp) (d : Addr) (t : Tm) (n : Nat) : Prop := ∃ kvs, H d = some (.dT kvs) ∧ KvL (fun v l => RF K H v (t.val (end01 n l))) kvs (lotsI n)
abbrev n_corners : List Str := ["rule", "lot"]
theorem sc_corners : FnScope ["rule", "lot"] ["rule"] (defScope s_corners) := ⟨rfl, rfl, rfl, by decide +kernel, rfl, by decide +kernel, by decide +kernel⟩
def sp_corners (K : PySem.W.Frag) (C : Addr) : Sp := fun vs H Q _ => ∃ (r : Addr) (n s : Nat) (t : Tm), vs = [.ref r] ∧ RuleAt K C H r n t ∧ t.Ok n s ∧ 1 ≤ s ∧ s ≤ 9000 ∧ t.dep ≤ 60 ∧ t.wt s + 20 ≤ 9000 ∧ 1 ≤ n ∧ n ≤ 6 ∧
  ∀ d H', Same H H' → H d = none → TabO K H' d t n → Q (.ref d) H'
theorem ok_corners {C : Addr} (F : FnD K mg "corners" s_corners) (hc : Cls K C) (n1 : NoAttr K C "people") (c_all_lots_t : Cal P w K mg base 2 "all_lots" (sp_all_lotsH K) []) (c_corner_of : Cal P w K mg base 68 "corner_of" (sp_corner_of K C) []) : Cal P w K mg base 69 "corners" (sp_corners K C) [] := by
  refine calOf F sc_corners (fun _ _ _ _ _ _ us hl => match us, hl with | [_], _ => rfl) (fun vs H Q E h => ?_) (fun cdv f A outer s H vs Q E hr h => ?_)
  · obtain ⟨_, _, _, _, rfl, _⟩ := h
    rfl
  · obtain ⟨r, n, sz, t, rfl, hR, ho, hs1, hsz, hdep, hwt, hn1, hn, k⟩ := h
    obtain ⟨dx0, vt, hr1, rt⟩ := id hR
    have c_all_lots := c_all_lots_t
    refine ⟨_, (pss_one (ps_ret (DcT.pe_dcT (own := [("lot", 1)]) (EqT.u0 hr) (by rfl) sc_corners.nd (pi_list (pe_c c_all_lots hr (by first | decide | omega) rfl (pa_cons (pe_fld (pv 0) rfl) pa_nil))) (blkOk_by (own := [("lot", 1)]) (N := ["rule", "lot"]) (sc := defScope s_corners) (by decide +kernel)) (fun _ _ _ _ _ => (pg_name (i := 1) sc_corners.nd rfl (Or.inl rfl))) (fun _ _ _ _ _ => (pv 1)) (fun _ _ _ _ _ => (pe_c c_corner_of hr (by first | decide | omega) rfl (pa_cons (pv 0) (pa_cons (pv 1) pa_nil))))))), ?_⟩
    refine ⟨_, rfl, r, C, dx0, _, _, rfl, hr1, hc, n1, ruleF_people n vt, n, rfl, hn, fun p ys H1 s1 hp hy hL => ⟨p, rfl, ⟨_, SqL.of hy⟩, fun D hD => ?_⟩⟩
    have L64 := lotsI_len hn
    have nD := lotsI_nodup hn
    refine it_list (K := K) (a := p) (xs := ys) (fun i H' => ∃ kvs, H' D = some (.dT kvs) ∧ KvL (fun v l => RF K H' v (t.val (end01 n l))) kvs ((lotsI n).take i) ∧ Same H1 H')
      ⟨[], upd_same, by rw [List.take_zero]; exact .nil, same_new hD⟩ (fun i H' ⟨_, _, _, s5⟩ => s5.seq (SqL.of hy)) ?_ ?_
    · rintro i x H' hx ⟨kvs, g1, g2, g3⟩
      obtain ⟨l, hl, ⟨b, rfl, hb⟩⟩ := (hL.mono (Same.kt g3)).getV hx
      have tk := take_succ' hl
      have kl := g2.len
      have s13 := s1.trans g3
      refine ⟨rfl, _, rfl, _, rfl, _, rfl, r, b, n, sz, t, l, rfl, hR.same s13, ho, hs1, hsz, hdep, hwt, hn1, hn, .inr (SqT.of hb), fun v H2 s2 rv => ?_⟩
      have il := (List.getElem?_eq_some_iff.mp hl).1
      have new : keyK l ∉ kvs.map (·.1) := by
        rw [g2.keys]
        intro m
        obtain ⟨l', m', e⟩ := List.mem_map.mp m
        have e' := keyK_inj e
        subst e'
        obtain ⟨j, hj⟩ := List.mem_iff_getElem?.mp m'
        have jl := (List.getElem?_eq_some_iff.mp hj).1
        rw [List.length_take] at jl
        rw [List.getElem?_take, if_pos (by omega)] at hj
        have e1 := (List.getElem?_eq_some_iff.mp hj).2
        have e2 := (List.getElem?_eq_some_iff.mp hl).2
        exact List.pairwise_iff_getElem.mp nD j i (by omega) il (by omega) (e1.trans e2.symm)
      refine ⟨kvs, keyK l, b, rfl, by rw [keyK_V]; exact s2 _ _ hb, s2 _ _ g1, small1000 (by rw [kl, List.length_take]; omega), ?_⟩
      rw [putK_new new]
      refine ⟨_, upd_same, ?_, Same.mut (g3.trans s2) hD⟩
      rw [tk]
      have g1' := s2 _ _ g1
      have up : KT H2 (upd H2 D (.dT (kvs ++ [(keyK l, v)]))) := KT.upt g1'
      exact (g2.imp fun v l rf => rf.mono ((Same.kt s2).trans up)).snoc (rv.mono up)
    · rintro H' ⟨kvs, g1, g2, g3⟩
      rw [hL.length, List.take_length] at g2
      exact k D H' (s1.trans g3) (none_back s1 hD) ⟨kvs, g1, g2⟩
end
end CB

set_option Elab.async false
set_option linter.all false
set_option maxRecDepth 100000
set_option maxHeartbeats 4000000
namespace CB
open PySem PySem.Spec PyProof.Rows L2
open C8 (Cal Met Mak pe_c pe_mk pe_mt pe_mt0 pe_gc CalAt)
open StX (pa_star)
section
variable {P : Program} {w : World} {K : PySem.W.Frag} {mg : Str → Option Value} {base : Heap}
/-- the lot with p -/
def joinL (n : Nat) (l : List Nat) (p : Nat) : List Nat := (List.range n).filter fun q => l.contains q || q == p
theorem joinL_facts : ∀ n, n < 7 → ∀ l ∈ subs n, ∀ p, p < n → l.contains p = false → (joinL n l p).isPerm (l ++ [p]) = true ∧ (joinL n l p).Pairwise (· ≤ ·) := by decide +kernel
theorem joinL_mem {n : Nat} (h : n ≤ 6) (l : List Nat) (p : Nat) : joinL n l p ∈ lotsI n := (lotsI_perm h).mem_iff.mpr (subs_filter _ n)
/-- the dict at d tells f of each lot -/
def TabF (K : PySem.W.Frag) (H : Hp) (d : Addr) (f : List Nat → Rat) (n : Nat) : Prop := ∃ kvs ls, H d = some (.dT kvs) ∧ KvL (fun v l => RF K H v (f l)) kvs ls ∧ ls.Perm (lotsI n)
theorem TabF.same {H H' : Hp} {d : Addr} {f : List Nat → Rat} {n : Nat} (h : TabF K H d f n) (e : Same H H') : TabF K H' d f n := by
  obtain ⟨kvs, ls, h1, h2, h3⟩ := h
  exact ⟨kvs, ls, e _ _ h1, h2.imp fun v l r => r.mono (Same.kt e), h3⟩
theorem TabF.at {H : Hp} {d t : Addr} {f : List Nat → Rat} {n : Nat} {l : List Nat} (h : TabF K H d f n) (h6 : n ≤ 6) (hl : l ∈ lotsI n) (ht : H t = some (.tup (pV l))) : ∃ v, DGet H d (.ref t) (some v) ∧ RF K H v (f l) := by
  obtain ⟨kvs, ls, h1, h2, h3⟩ := h
  obtain ⟨i, hi⟩ := List.mem_iff_getElem?.mp (h3.mem_iff.mpr hl)
  obtain ⟨v, hv, rv⟩ := h2.at hi
  have nd : (kvs.map (·.1)).Nodup := by
    rw [h2.keys]
    exact List.Pairwise.map keyK (fun a b e z => e (keyK_inj z)) (h3.nodup_iff.mpr (lotsI_nodup h6))
  exact ⟨v, .inr ⟨kvs, keyK l, t, .inl h1, rfl, by rw [keyK_V]; exact ht, (valV_at nd (List.mem_of_getElem? hv)).symm⟩, rv⟩
def woP (n p : Nat) : List (List Nat) := (lotsI n).filter fun l => !l.contains p
def fallsB (f : List Nat → Rat) (n p : Nat) : Bool := (woP n p).any fun l => decide (f (joinL n l p) < f l)
abbrev n_joined : List Str := ["lot", "person"]
theorem sc_joined : FnScope ["lot", "person"] ["lot", "person"] (defScope s_joined) := ⟨rfl, rfl, rfl, by decide +kernel, rfl, by decide +kernel, by decide +kernel⟩
def sp_joined (K : PySem.W.Frag) : Sp := fun vs H Q _ => ∃ (b : Addr) (n p : Nat) (l : List Nat), vs = [.ref b, .int (p : Int)] ∧ n ≤ 6 ∧ l ∈ lotsI n ∧ p < n ∧ l.contains p = false ∧ SqT K H b (pV l) ∧
  ∀ a H', Same H H' → H' a = some (.tup (pV (joinL n l p))) → Q (.ref a) H'
theorem ok_joined (F : FnD K mg "joined" s_joined) (T_tuple : mg "tuple" = none) (T_sorted : mg "sorted" = none) : Cal P w K mg base 1 "joined" (sp_joined K) [] := by
  refine calOf F sc_joined (fun _ _ _ _ _ _ us hl => match us, hl with | [_, _], _ => rfl) (fun vs H Q E h => ?_) (fun cdv f A outer s H vs Q E hr h => ?_)
  · obtain ⟨_, _, _, _, rfl, _⟩ := h
    rfl
  · obtain ⟨b, n, p, l, rfl, h6, hl, hp, hc, hb, k⟩ := h
    have hs := (lotsI_perm h6).mem_iff.mp hl
    have ll := subs_size hs
    obtain ⟨jp, js⟩ := joinL_facts n (by omega) l hs p hp hc
    refine ⟨_, (pss_one (ps_ret (pe_callTy call_tuple_of (by rfl) T_tuple (by decide +kernel) (pa_cons (pe_callB cr_sortedTup (by rfl) T_sorted (by decide +kernel) (pa_cons (pe_tup (pa_star (pv 0) (pa_cons (pv 1) pa_nil))) pa_nil)) pa_nil)))), ?_⟩
    refine ⟨_, rfl, b, pV l, rfl, .inl hb, _, rfl, Nat.le_of_lt (small1000 (by rw [List.length_append, pV_len]; show l.length + 1 ≤ 1000; omega)), fun q hq => ?_⟩
    have s1 := same_new (o := .tup (pV l ++ [.int (p : Int)])) hq
    have e1 : pV l ++ [.int (p : Int)] = (pI (l ++ [p])).map V.int := by unfold pV pI; rw [List.map_append, List.map_append]; rfl
    refine ⟨q, pI (l ++ [p]), rfl, by rw [← e1]; exact SqT.of upd_same, by unfold pI; rw [List.length_map, List.length_append]; show l.length + 1 < 64; omega, fun ms r perm pw hr => ?_⟩
    have em : ms = pI (joinL n l p) := by
      refine List.Perm.eq_of_pairwise (fun a b _ _ h1 h2 => by omega) pw ?_ (perm.trans ((List.isPerm_iff.mp jp).symm.map _))
      exact List.Pairwise.map _ (fun a b h => Int.ofNat_le.mpr h) js
    subst em
    have s2 := same_new (o := .lst ((pI (joinL n l p)).map V.int)) hr
    refine ⟨r, _, rfl, .inl ⟨SqL.of upd_same, fun z hz => ?_⟩⟩
    exact k z _ ((s1.trans s2).trans (same_new hz)) upd_same
abbrev n_lots_without : List Str := ["people", "person", "lot"]
theorem sc_lots_without : FnScope ["people", "person", "lot"] ["people", "person"] (defScope s_lots_without) := ⟨rfl, rfl, rfl, by decide +kernel, rfl, by decide +kernel, by decide +kernel⟩
def sp_lots_without (K : PySem.W.Frag) : Sp := fun vs H Q _ => ∃ (n p : Nat), vs = [.int (n : Int), .int (p : Int)] ∧ n ≤ 6 ∧
  ∀ D ys H', Same H H' → H' D = some (.lst ys) → LotsH H' ys (woP n p) → Q (.ref D) H'
theorem ok_lots_without (F : FnD K mg "lots_without" s_lots_without) (c_all_lots_t : Cal P w K mg base 2 "all_lots" (sp_all_lotsH K) []) : Cal P w K mg base 3 "lots_without" (sp_lots_without K) [] := by
  refine calOf F sc_lots_without (fun _ _ _ _ _ _ us hl => match us, hl with | [_, _], _ => rfl) (fun vs H Q E h => ?_) (fun cdv f A outer s H vs Q E hr h => ?_)
  · obtain ⟨_, _, rfl, _⟩ := h
    rfl
  · obtain ⟨n, p, rfl, h6, k⟩ := h
    have c_all_lots := c_all_lots_t
    have L64 := lotsI_len h6
    refine ⟨_, (pss_one (ps_ret (pe_lc (own := [("lot", 2)]) (tt := tTest (tOp (rIn K true) (tVar 1) (tVar 2))) (by rfl) sc_lots_without.nd (pi_list (pe_c c_all_lots hr (by first | decide | omega) rfl (pa_cons (pv 0) pa_nil))) (blkOk_by (own := [("lot", 2)]) (N := ["people", "person", "lot"]) (sc := defScope s_lots_without) (by decide +kernel)) (fun _ _ _ _ _ => (pg_name (i := 2) sc_lots_without.nd rfl (Or.inl rfl))) (fun _ _ _ _ _ => (pts_one (pt_cmpR op_notIn_seq (pv 1) (pv 2) rfl))) (fun _ _ _ _ _ => (pv 2))))), ?_⟩
    refine ⟨_, rfl, n, rfl, h6, fun pl ys H1 s1 hpn hp hL => ⟨pl, rfl, ⟨_, SqL.of hp⟩, fun D hD => ?_⟩⟩
    refine it_list (K := K) (a := pl) (xs := ys) (fun i H' => ∃ zs, H' D = some (.lst zs) ∧ LotsH H' zs (((lotsI n).take i).filter fun l => !l.contains p) ∧ Same H1 H')
      ⟨[], upd_same, by rw [List.take_zero]; exact .nil, same_new hD⟩ (fun i H' ⟨_, _, _, s5⟩ => s5.seq (SqL.of hp)) ?_ ?_
    · rintro i x H' hx ⟨zs, g1, g2, g3⟩
      obtain ⟨l, hl, tl⟩ := (hL.mono (Same.kt g3)).getV hx
      obtain ⟨b, rfl, hb⟩ := id tl
      have zl : zs.length ≤ 64 := by
        have := (List.length_filter_le (fun l : List Nat => !l.contains p) ((lotsI n).take i))
        rw [g2.length]
        rw [List.length_take] at this
        omega
      refine ⟨rfl, _, rfl, _, rfl, b, pV l, rfl, .inr (SqT.of hb), rfl, pV_flat l, _, rfl, ?_⟩
      rw [pV_in]
      cases cc : !l.contains p with
      | true =>
        have c2 : decide (p ∈ l) = false := by simpa using cc
        rw [c2]
        refine iteT ⟨_, rfl, zs, g1, small1000 (by omega), zs ++ [.ref b], upd_same, ?_, Same.mut g3 hD⟩
        rw [take_succ' hl, List.filter_append, List.filter_cons, if_pos cc]
        exact (g2.snoc tl).mono (KT.updl g1)
      | false =>
        have c2 : decide (p ∈ l) = true := by simpa using cc
        rw [c2]
        refine iteF ⟨zs, g1, ?_, g3⟩
        rw [take_succ' hl, List.filter_append, List.filter_cons, if_neg (by rw [cc]; decide)]
        simpa using g2
    · rintro H2 ⟨zs, g1, g2, g3⟩
      rw [hL.length, List.take_length] at g2
      exact k D zs H2 (s1.trans g3) g1 g2
abbrev n_falls : List Str := ["people", "table", "person", "lot"]
theorem sc_falls : FnScope ["people", "table", "person", "lot"] ["people", "table", "person"] (defScope s_falls) := ⟨rfl, rfl, rfl, by decide +kernel, rfl, by decide +kernel, by decide +kernel⟩
def sp_falls (K : PySem.W.Frag) : Sp := fun vs H Q _ => ∃ (d : Addr) (f : List Nat → Rat) (n p z : Nat), vs = [.int (n : Int), .ref d, .int (p : Int)] ∧ n ≤ 6 ∧ p < n ∧ TabF K H d f n ∧ z ≤ 9000 ∧ (∀ l ∈ lotsI n, Sz z (f l)) ∧
  ∀ H', Same H H' → Q (.bl (fallsB f n p)) H'
theorem ok_falls (F : FnD K mg "falls" s_falls) (c_joined : Cal P w K mg base 1 "joined" (sp_joined K) []) (c_lots_without : Cal P w K mg base 3 "lots_without" (sp_lots_without K) []) (c_is_less : Cal P w K mg base 1 "is_less" (sp_is_less K) []) (T_any : mg "any" = none) : Cal P w K mg base 4 "falls" (sp_falls K) [] := by
  refine calOf F sc_falls (fun _ _ _ _ _ _ us hl => match us, hl with | [_, _, _], _ => rfl) (fun vs H Q E h => ?_) (fun cdv f A outer s H vs Q E hr h => ?_)
  · obtain ⟨_, _, _, _, _, rfl, _⟩ := h
    rfl
  · obtain ⟨d, f, n, p, z, rfl, h6, hp, hT, hz, hf, k⟩ := h
    refine ⟨_, (pss_one (ps_ret (pe_callB (cr_any rfl) (by rfl) T_any (by decide +kernel) (pa_cons (pe_lc (own := [("lot", 3)]) (by rfl) sc_falls.nd (pi_list (pe_c c_lots_without hr (by first | decide | omega) rfl (pa_cons (pv 0) (pa_cons (pv 2) pa_nil)))) (blkOk_by (own := [("lot", 3)]) (N := ["people", "table", "person", "lot"]) (sc := defScope s_falls) (by decide +kernel)) (fun _ _ _ _ _ => (pg_name (i := 3) sc_falls.nd rfl (Or.inl rfl))) (fun _ _ _ _ _ => pts_nil) (fun _ _ _ _ _ => (pe_c c_is_less hr (by first | decide | omega) rfl (pa_cons (pe_dget (CDu.lt hr.units) (pv 1) (pe_c c_joined hr (by first | decide | omega) rfl (pa_cons (pv 3) (pa_cons (pv 2) pa_nil))) (fun _ _ => rfl)) (pa_cons (pe_dget (CDu.lt hr.units) (pv 1) (pv 3) (fun _ _ => rfl)) pa_nil))))) pa_nil)))), ?_⟩
    refine ⟨_, rfl, _, rfl, n, p, rfl, h6, fun D ys H1 s1 hD hL => ⟨D, rfl, ⟨_, SqL.of hD⟩, fun D2 hD2 => ?_⟩⟩
    have wl : (woP n p).length ≤ 64 := Nat.le_trans (List.length_filter_le _ _) (lotsI_len h6)
    refine it_list (K := K) (a := D) (xs := ys) (fun i H' => H' D2 = some (.lst (((woP n p).take i).map fun l => V.bl (decide (f (joinL n l p) < f l)))) ∧ Same H1 H')
      ⟨by rw [List.take_zero]; exact upd_same, same_new hD2⟩ (fun i H' ⟨_, s5⟩ => s5.seq (SqL.of hD)) ?_ ?_
    · rintro i x H' hx ⟨g1, g2⟩
      obtain ⟨l, hl, tl⟩ := (hL.mono (Same.kt g2)).getV hx
      obtain ⟨b, rfl, hb⟩ := id tl
      have hm := List.mem_filter.mp (List.mem_of_getElem? hl)
      have hc : l.contains p = false := by simpa using hm.2
      have s0 := s1.trans g2
      have lm := hm.1
      refine ⟨rfl, _, rfl, _, rfl, _, rfl, b, n, p, l, rfl, h6, lm, hp, hc, SqT.of hb, fun a H3 s3 ha => ?_⟩
      have jm := joinL_mem h6 l p
      have T3 := (hT.same s0).same s3
      obtain ⟨v1, gv1, r1⟩ := T3.at h6 jm ha
      obtain ⟨v2, gv2, r2⟩ := T3.at h6 lm (s3 _ _ hb)
      have g1' := s3 _ _ g1
      refine ⟨d, v1, rfl, gv1, _, rfl, _, rfl, d, v2, rfl, gv2, _, _, _, _, z, z, rfl, r1, r2, hf _ jm, hf _ lm, by omega, _, g1', small1000 (by rw [List.length_map, List.length_take]; omega), ?_, Same.mut (g2.trans s3) hD2⟩
      rw [take_succ' hl, List.map_append]
      exact upd_same
    · rintro H2 ⟨g1, g2⟩
      rw [hL.length, List.take_length] at g1
      refine ⟨D2, (woP n p).map fun l => decide (f (joinL n l p) < f l), rfl, by rw [List.map_map]; exact SqL.of g1, ?_⟩
      rw [List.any_map]
      exact k H2 (s1.trans g2)
end
end CB

set_option Elab.async false
set_option linter.all false
set_option maxRecDepth 100000
set_option maxHeartbeats 4000000
namespace CB
open PySem PySem.Spec PyProof.Rows L2
open C8 (Cal Met Mak pe_c pe_mk pe_mt pe_mt0 pe_gc CalAt)
section
variable {P : Program} {w : World} {K : PySem.W.Frag} {mg : Str → Option Value} {base : Heap}
/-- somebody's step down -/
def badT (f : List Nat → Rat) (n : Nat) : Bool := (List.range n).any (fallsB f n)
abbrev n_is_right_table : List Str := ["people", "thing", "lots", "lot", "person"]
theorem sc_is_right_table : FnScope ["people", "thing", "lots", "lot", "person"] ["people", "thing"] (defScope s_is_right_table) := ⟨rfl, rfl, rfl, by decide +kernel, rfl, by decide +kernel, by decide +kernel⟩
def sp_is_right_table (K : PySem.W.Frag) : Sp := fun vs H Q _ => ∃ (d : Addr) (f : List Nat → Rat) (n z : Nat), vs = [.int (n : Int), .ref d] ∧ 1 ≤ n ∧ n ≤ 6 ∧ TabF K H d f n ∧ z ≤ 9000 ∧ (∀ l ∈ lotsI n, NumOk z (f l)) ∧
  ∀ H', Same H H' → Q (.bl (!badT f n)) H'
theorem ok_is_right_table (F : FnD K mg "is_right_table" s_is_right_table) (c_all_lots_t : Cal P w K mg base 2 "all_lots" (sp_all_lotsH K) []) (c_is_number : Cal P w K mg base 2 "is_number" (sp_is_number K) []) (c_falls : Cal P w K mg base 4 "falls" (sp_falls K) []) (T_isinstance : mg "isinstance" = none) (T_dict : mg "dict" = none) (T_len : mg "len" = none) (T_all : mg "all" = none) (T_any : mg "any" = none) (T_range : mg "range" = none) : Cal P w K mg base 5 "is_right_table" (sp_is_right_table K) [] := by
  refine calOf F sc_is_right_table (fun _ _ _ _ _ _ us hl => match us, hl with | [_, _], _ => rfl) (fun vs H Q E h => ?_) (fun cdv f A outer s H vs Q E hr h => ?_)
  · obtain ⟨_, _, _, _, rfl, _⟩ := h
    rfl
  · obtain ⟨d, f, n, z, rfl, h1, h6, hT, hz, hf, k⟩ := h
    have c_all_lots := c_all_lots_t
    refine ⟨_, (pss_cons (ps_if (pt_not (pt_val (pe_callB call_isi (by rfl) T_isinstance (by decide +kernel) (pa_cons (pv 1) (pa_cons (pe_ty (n := "dict") (by rfl) T_dict (by decide +kernel)) pa_nil))))) (pss_one (ps_ret pe_bl)) pss_nil)
    (pss_cons (ps_set (i := 2) sc_is_right_table.nd rfl (Or.inl rfl) (pe_c c_all_lots hr (by first | decide | omega) rfl (pa_cons (pv 0) pa_nil)))
    (pss_cons (ps_if (PW.pt (pw_or (pt_cmpR op_ne (pe_callB L2.call_len_dT (by rfl) T_len PySem.boot_len (pa_cons (pv 1) pa_nil)) (pe_callB call_len_seq (by rfl) T_len PySem.boot_len (pa_cons (pv 2) pa_nil)) (nomark _)) (pw_or1 (pt_not (pt_val (pe_callB (cr_all rfl) (by rfl) T_all (by decide +kernel) (pa_cons (pe_lc (own := [("lot", 3)]) (te := tAndV (tDIn (tVar 3) (tVar 1)) (tCall (sp_is_number K) [] C8.E0 (tCons (tDGet (tVar 1) (tVar 3)) tNil))) (by rfl) sc_is_right_table.nd (pi_list (pv 2)) (blkOk_by (own := [("lot", 3)]) (N := ["people", "thing", "lots", "lot", "person"]) (sc := defScope s_is_right_table) (by decide +kernel)) (fun _ _ _ _ _ => (pg_name (i := 3) sc_is_right_table.nd rfl (Or.inl rfl))) (fun _ _ _ _ _ => pts_nil) (fun _ _ _ _ _ => (pe_and (pe_cmp (pc_din (CDu.lt hr.units) (pv 3) (pv 1))) (pe_one (pe_c c_is_number hr (by first | decide | omega) rfl (pa_cons (pe_dget (CDu.lt hr.units) (pv 1) (pv 3) (fun _ _ => rfl)) pa_nil)))))) pa_nil))))))) (pss_one (ps_ret pe_bl)) pss_nil)
    (pss_one (ps_ret (pe_not (pe_callB (cr_any rfl) (by rfl) T_any (by decide +kernel) (pa_cons (pe_lc (own := [("person", 4)]) (te := tCall (sp_falls K) [] C8.E0 (tCons (tVar 0) (tCons (tVar 1) (tCons (tVar 4) tNil)))) (by rfl) sc_is_right_table.nd (pi_range1 (by rfl) T_range (pa_cons (pv 0) pa_nil)) (blkOk_by (own := [("person", 4)]) (N := ["people", "thing", "lots", "lot", "person"]) (sc := defScope s_is_right_table) (by decide +kernel)) (fun _ _ _ _ _ => (pg_name (i := 4) sc_is_right_table.nd rfl (Or.inl rfl))) (fun _ _ _ _ _ => pts_nil) (fun _ _ _ _ _ => (pe_c c_falls hr (by first | decide | omega) rfl (pa_cons (pv 0) (pa_cons (pv 1) (pa_cons (pv 4) pa_nil)))))) pa_nil)))))))), ?_⟩
    obtain ⟨kvs, ls, hd, hk, hp⟩ := id hT
    refine ⟨_, rfl, _, _, _, _, true, rfl, .ty _, .base (.dT hd), kit_ty (by decide +kernel), _, rfl, iteF ?_⟩
    refine ⟨_, rfl, n, rfl, h6, fun p ys H1 s1 hpn hpl hL => ?_⟩
    have kl : kvs.length = ys.length := by rw [hk.len, hp.length_eq, hL.length]
    have yl : ys.length ≤ 64 := by rw [hL.length]; exact lotsI_len h6
    have T1 := hT.same s1
    refine ⟨_, rfl, d, kvs, rfl, s1 _ _ hd, _, rfl, p, ys, rfl, .inl (SqL.of hpl), rfl, _, rfl, ?_⟩
    rw [show decide (V.int ((kvs.length : Nat) : Int) = V.int ((ys.length : Nat) : Int)) = true by rw [kl]; exact decide_eq_true rfl]
    refine iteF ?_
    refine ⟨_, rfl, p, rfl, ⟨_, SqL.of hpl⟩, fun D hD => ?_⟩
    refine it_list (K := K) (a := p) (xs := ys) (fun i H' => H' D = some (.lst (List.replicate i (V.bl true))) ∧ Same H1 H')
      ⟨upd_same, same_new hD⟩ (fun i H' ⟨_, s5⟩ => s5.seq (SqL.of hpl)) ?_ ?_
    · rintro i x H' hx ⟨g1, g2⟩
      obtain ⟨l, hl, tl⟩ := (hL.mono (Same.kt g2)).getV hx
      obtain ⟨b, rfl, hb⟩ := id tl
      have il := (List.getElem?_eq_some_iff.mp hx).1
      have lm := List.mem_of_getElem? hl
      obtain ⟨v, gv, rv⟩ := (T1.same g2).at h6 lm hb
      have nf := hf l lm
      refine ⟨rfl, _, rfl, _, rfl, d, some v, rfl, gv, _, rfl, iteT ?_⟩
      refine ⟨_, rfl, _, rfl, d, v, rfl, gv, v, f l, rfl, rv, nf.1, nf.2.1, ?_⟩
      refine ⟨_, g1, small1000 (by rw [List.length_replicate]; omega), ?_, Same.mut g2 hD⟩
      rw [List.replicate_succ']
      exact upd_same
    rintro H2 ⟨g1, g2⟩
    refine ⟨D, List.replicate ys.length true, rfl, by rw [List.map_replicate]; exact SqL.of g1, _, rfl, ?_⟩
    have ea : (List.replicate ys.length true).all id = true := by rw [List.all_eq_true]; intro x hx; rw [(List.mem_replicate.mp hx).2]; rfl
    rw [ea]
    refine iteF ?_
    have T2 := T1.same g2
    refine ⟨_, rfl, _, rfl, by omega, by omega, fun D3 hD3 => ?_⟩
    refine lc_range (lo := 0) (n := ((n : Nat) : Int).toNat) (fun i H' => H' D3 = some (.lst ((List.range i).map fun j => V.bl (fallsB f n j))) ∧ Same H2 H')
      ⟨upd_same, same_new hD3⟩ ?_ ?_
    · rintro i H' hi ⟨q1, q2⟩
      rw [show (0 : Int) + ((i : Nat) : Int) = ((i : Nat) : Int) from Int.zero_add _]
      have hi' : i < n := by omega
      refine ⟨rfl, _, rfl, _, rfl, _, rfl, d, f, n, i, z, rfl, h6, hi', T2.same q2, hz, fun l hl => (hf l hl).2.2, fun H3 s3 => ?_⟩
      refine ⟨_, s3 _ _ q1, small1000 (by rw [List.length_map, List.length_range]; omega), ?_, Same.mut (q2.trans s3) hD3⟩
      rw [List.range_succ, List.map_append]
      exact upd_same
    rintro H3 ⟨q1, q2⟩
    rw [Int.toNat_natCast] at q1
    refine ⟨D3, (List.range n).map fun j => fallsB f n j, rfl, by rw [List.map_map]; exact SqL.of q1, ?_⟩
    rw [List.any_map]
    exact ⟨_, rfl, k H3 ((s1.trans g2).trans q2)⟩
abbrev n_need_people : List Str := ["thing"]
theorem sc_need_people : FnScope ["thing"] ["thing"] (defScope s_need_people) := ⟨rfl, rfl, rfl, by decide +kernel, rfl, by decide +kernel, by decide +kernel⟩
def sp_need_people : Sp := fun vs H Q _ => ∃ n : Nat, vs = [.int (n : Int)] ∧ 1 ≤ n ∧ n ≤ 6 ∧ Q .non H
theorem ok_need_people (F : FnD K mg "need_people" s_need_people) (c_is_people : Cal P w K mg base 2 "is_people" sp_is_people []) : Cal P w K mg base 3 "need_people" sp_need_people [] := by
  refine calOf F sc_need_people (fun _ _ _ _ _ _ us hl => match us, hl with | [_], _ => rfl) (fun vs H Q E h => ?_) (fun cdv f A outer s H vs Q E hr h => ?_)
  · obtain ⟨_, rfl, _⟩ := h
    rfl
  · obtain ⟨n, rfl, h1, h6, k⟩ := h
    refine ⟨_, (pss_one (ps_if (pt_not (pt_val (pe_c c_is_people hr (by first | decide | omega) rfl (pa_cons (pv 0) pa_nil)))) (pss_one ps_never) pss_nil)), ?_⟩
    exact ⟨_, rfl, _, rfl, by omega, by omega, _, rfl, iteF k⟩
abbrev n_need_table : List Str := ["people", "table"]
theorem sc_need_table : FnScope ["people", "table"] ["people", "table"] (defScope s_need_table) := ⟨rfl, rfl, rfl, by decide +kernel, rfl, by decide +kernel, by decide +kernel⟩
def sp_need_table (K : PySem.W.Frag) : Sp := fun vs H Q _ => ∃ (d : Addr) (f : List Nat → Rat) (n z : Nat), vs = [.int (n : Int), .ref d] ∧ 1 ≤ n ∧ n ≤ 6 ∧ TabF K H d f n ∧ z ≤ 9000 ∧ (∀ l ∈ lotsI n, NumOk z (f l)) ∧ badT f n = false ∧
  ∀ H', Same H H' → Q .non H'
theorem ok_need_table (F : FnD K mg "need_table" s_need_table) (c_need_people : Cal P w K mg base 3 "need_people" sp_need_people []) (c_is_right_table : Cal P w K mg base 5 "is_right_table" (sp_is_right_table K) []) : Cal P w K mg base 6 "need_table" (sp_need_table K) [] := by
  refine calOf F sc_need_table (fun _ _ _ _ _ _ us hl => match us, hl with | [_, _], _ => rfl) (fun vs H Q E h => ?_) (fun cdv f A outer s H vs Q E hr h => ?_)
  · obtain ⟨_, _, _, _, rfl, _⟩ := h
    rfl
  · obtain ⟨d, f, n, z, rfl, h1, h6, hT, hz, hf, hb, k⟩ := h
    refine ⟨_, (pss_cons (ps_expr (pe_c c_need_people hr (by first | decide | omega) rfl (pa_cons (pv 0) pa_nil)))
    (pss_one (ps_if (pt_not (pt_val (pe_c c_is_right_table hr (by first | decide | omega) rfl (pa_cons (pv 0) (pa_cons (pv 1) pa_nil))))) (pss_one ps_never) pss_nil))), ?_⟩
    refine ⟨_, rfl, n, rfl, h1, h6, _, rfl, _, rfl, d, f, n, z, rfl, h1, h6, hT, hz, hf, fun H1 s1 => ⟨_, rfl, ?_⟩⟩
    rw [hb]
    exact iteF (k H1 s1)
end
end CB

set_option Elab.async false
set_option linter.all false
set_option maxRecDepth 100000
set_option maxHeartbeats 4000000
/-! what is left behind a play: the outcome as the most of the least of values and wishes; the lot of those that come later -/
namespace CB
open PySem PySem.Spec PyProof.Rows L2
def lotOf (n : Nat) (ps : List Nat) : List Nat := (List.range n).filter fun i => decide (i ∈ ps)
theorem lotOf_mem {n : Nat} {ps : List Nat} {p : Nat} : p ∈ lotOf n ps ↔ p < n ∧ p ∈ ps := by
  unfold lotOf
  rw [List.mem_filter, List.mem_range, decide_eq_true_iff]
theorem lotOf_up (n : Nat) (ps : List Nat) : (lotOf n ps).Pairwise (· < ·) := List.Pairwise.filter _ List.pairwise_lt_range
theorem lotOf_len (n : Nat) (ps : List Nat) : (lotOf n ps).length ≤ n := by
  have := List.length_filter_le (fun i => decide (i ∈ ps)) (List.range n)
  rw [List.length_range] at this
  exact this
theorem up_ext : ∀ {l m : List Int}, l.Pairwise (· < ·) → m.Pairwise (· < ·) → (∀ k, k ∈ l ↔ k ∈ m) → l = m
  | [], [], _, _, _ => rfl
  | [], b :: m, _, _, h => absurd ((h b).mpr List.mem_cons_self) (by simp)
  | a :: l, [], _, _, h => absurd ((h a).mp List.mem_cons_self) (by simp)
  | a :: l, b :: m, hl, hm, h => by
    obtain ⟨l1, l2⟩ := List.pairwise_cons.mp hl
    obtain ⟨m1, m2⟩ := List.pairwise_cons.mp hm
    have e : a = b := by
      rcases List.mem_cons.mp ((h a).mp List.mem_cons_self) with e | e
      · exact e
      · rcases List.mem_cons.mp ((h b).mpr List.mem_cons_self) with f | f
        · exact f.symm
        · have x1 := m1 a e
          have x2 := l1 b f
          omega
    subst e
    rw [up_ext l2 m2 fun k => ?_]
    constructor
    · intro hk
      rcases List.mem_cons.mp ((h k).mp (List.mem_cons_of_mem _ hk)) with e | e
      · have := l1 k hk; omega
      · exact e
    · intro hk
      rcases List.mem_cons.mp ((h k).mpr (List.mem_cons_of_mem _ hk)) with e | e
      · have := m1 k hk; omega
      · exact e
theorem lot_of_set {n : Nat} {ps : List Nat} {D : List Int} (hp : ∀ p ∈ ps, p < n) (hD : D.Pairwise (· < ·)) (hm : ∀ k, k ∈ D ↔ k ∈ pI ps) : D = pI (lotOf n ps) := by
  refine up_ext hD ?_ fun k => ?_
  · exact List.Pairwise.map _ (fun a b h => by omega) (lotOf_up n ps)
  · rw [hm k]
    unfold pI
    rw [List.mem_map, List.mem_map]
    constructor
    · rintro ⟨p, h, rfl⟩
      exact ⟨p, lotOf_mem.mpr ⟨hp p h, h⟩, rfl⟩
    · rintro ⟨p, h, rfl⟩
      exact ⟨p, (lotOf_mem.mp h).2, rfl⟩
def heldL (ws : List Rat) (w : Rat) (n : Nat) (ls : List Nat) : List Nat := (wishL ws w n).filter fun p => decide (p ∈ ls)
def leftL (t : Tm) (n : Nat) (ws bs : List Rat) (ls : List Nat) : List Rat := t.val (put ls 0 bs) :: ws.map fun w => minL [t.val (endL bs ls (heldL ws w n ls)), w]
theorem minL2_le (a b : Rat) : minL [a, b] ≤ a ∧ minL [a, b] ≤ b := by
  have h := (minL_mem (l := [a, b]) (by simp)).2
  exact ⟨h a (by simp), h b (by simp)⟩
theorem le_minL2 {a b x : Rat} (h1 : x ≤ a) (h2 : x ≤ b) : x ≤ minL [a, b] := by
  have h := (minL_mem (l := [a, b]) (by simp)).1
  rcases List.mem_cons.mp h with e | e
  · rw [e]; exact h1
  · rw [List.mem_singleton.mp e]; exact h2
theorem endL_nil' (bs : List Rat) (ls : List Nat) : endL bs ls [] = put ls 0 bs := by
  have h := mix_endL (bs := bs) (ls := ls) (S := [])
  rw [mix_nil] at h
  exact h.symm
theorem left_outB {t : Tm} {n z : Nat} {ws bs : List Rat} {ls : List Nat} (ho : t.Ok n z) (hb : bs.length = n) (hw : ws.length = n) (hq : ∀ q ∈ bs, In01 q) (hl : ∀ p ∈ ls, p < n) : maxL (leftL t n ws bs ls) = outB t ws bs ls := by
  obtain ⟨hm, hM⟩ := maxL_mem (l := leftL t n ws bs ls) (by simp [leftL])
  refine Rat.le_antisymm ?_ ?_
  · rcases List.mem_cons.mp hm with e | e
    · rw [e]
      refine outB_ge (S := []) ho hb hq (by simp) ?_ (by simp)
      rw [endL_nil']
      exact Rat.le_refl
    · obtain ⟨w, _, e⟩ := List.mem_map.mp e
      rw [← e]
      obtain ⟨a, b⟩ := minL2_le (t.val (endL bs ls (heldL ws w n ls))) w
      refine outB_ge (S := heldL ws w n ls) ho hb hq (fun p hp => of_decide_eq_true (List.mem_filter.mp hp).2) a fun p hp => ?_
      have := (wishL_mem.mp (List.mem_filter.mp hp).1).2
      exact Rat.le_trans b (Rat.not_lt.mp this)
  · obtain ⟨S, s1, s2, s3, _⟩ := outB_at t ws bs ls
    by_cases c : S = []
    · subst c
      rw [endL_nil'] at s2
      exact Rat.le_trans s2 (hM _ List.mem_cons_self)
    · have ne : S.map (fun p => ws.getD p 0) ≠ [] := by simpa using c
      obtain ⟨m1, m2⟩ := minL_mem ne
      obtain ⟨p0, hp0, e0⟩ := List.mem_map.mp m1
      have pn := hl p0 (s1 p0 hp0)
      refine Rat.le_trans (le_minL2 (b := ws.getD p0 0) (Rat.le_trans s2 ?_) (s3 p0 hp0)) (hM _ (List.mem_cons_of_mem _ (List.mem_map.mpr ⟨ws.getD p0 0, ?_, rfl⟩)))
      · refine endL_sub ho hb hq fun p hp => List.mem_filter.mpr ⟨wishL_mem.mpr ⟨hl p (s1 p hp), ?_⟩, decide_eq_true (s1 p hp)⟩
        rw [e0]
        exact Rat.not_lt.mpr (m2 _ (List.mem_map.mpr ⟨p, hp, rfl⟩))
      · rw [getD_at (by omega)]
        exact List.getElem_mem _
end CB

set_option Elab.async false
set_option linter.all false
set_option maxRecDepth 100000
set_option maxHeartbeats 4000000
namespace CB
/-! ### rules without means: the outcome is what the rule tells for the wishes themselves -/
mutual
def Tm.nomean : Tm → Bool
  | .bid _ => true
  | .fixed _ => true
  | .mean _ _ => false
  | .least ts => Tm.nomeans ts
  | .greatest ts => Tm.nomeans ts
  | .ranked _ ts => Tm.nomeans ts
  | .between _ _ t => t.nomean
def Tm.nomeans : List Tm → Bool
  | [] => true
  | t :: ts => t.nomean && Tm.nomeans ts
end
/-- both at least x, or neither -/
def Both (x a b : Rat) : Prop := x ≤ a ↔ x ≤ b
def BothL (x : Rat) : List Rat → List Rat → Prop
  | [], [] => True
  | a :: l, b :: m => Both x a b ∧ BothL x l m
  | _, _ => False
theorem rmin_both {x a b c d : Rat} (h : Both x a b) (g : Both x c d) : Both x (rmin a c) (rmin b d) := by
  unfold Both rmin at *
  (repeat' split) <;> grind
theorem rmax_both {x a b c d : Rat} (h : Both x a b) (g : Both x c d) : Both x (rmax a c) (rmax b d) := by
  unfold Both rmax at *
  (repeat' split) <;> grind
theorem foldl_rmin_both {x : Rat} : ∀ {l m : List Rat} {a b : Rat}, BothL x l m → Both x a b → Both x (l.foldl rmin a) (m.foldl rmin b)
  | [], [], _, _, _, h => h
  | _ :: l, _ :: m, _, _, hl, h => foldl_rmin_both (l := l) (m := m) hl.2 (rmin_both h hl.1)
  | [], _ :: _, _, _, hl, _ => hl.elim
  | _ :: _, [], _, _, hl, _ => hl.elim
theorem foldl_rmax_both {x : Rat} : ∀ {l m : List Rat} {a b : Rat}, BothL x l m → Both x a b → Both x (l.foldl rmax a) (m.foldl rmax b)
  | [], [], _, _, _, h => h
  | _ :: l, _ :: m, _, _, hl, h => foldl_rmax_both (l := l) (m := m) hl.2 (rmax_both h hl.1)
  | [], _ :: _, _, _, hl, _ => hl.elim
  | _ :: _, [], _, _, hl, _ => hl.elim
theorem minL_both {x : Rat} : ∀ {l m : List Rat}, BothL x l m → Both x (minL l) (minL m)
  | [], [], _ => Iff.rfl
  | _ :: _, _ :: _, hl => foldl_rmin_both hl.2 hl.1
  | [], _ :: _, hl => hl.elim
  | _ :: _, [], hl => hl.elim
theorem maxL_both {x : Rat} : ∀ {l m : List Rat}, BothL x l m → Both x (maxL l) (maxL m)
  | [], [], _ => Iff.rfl
  | _ :: _, _ :: _, hl => foldl_rmax_both hl.2 hl.1
  | [], _ :: _, hl => hl.elim
  | _ :: _, [], hl => hl.elim
theorem bub_both {x : Rat} : ∀ {l m : List Rat} {a b : Rat}, BothL x l m → Both x a b → BothL x (bub a l).1 (bub b m).1
  | [], [], _, _, _, _ => trivial
  | _ :: l, _ :: m, _, _, hl, h => ⟨rmin_both h hl.1, bub_both (l := l) (m := m) hl.2 (rmax_both h hl.1)⟩
  | [], _ :: _, _, _, hl, _ => hl.elim
  | _ :: _, [], _, _, hl, _ => hl.elim
theorem bubL_both {x : Rat} : ∀ {l m : List Rat}, BothL x l m → BothL x (bubL l) (bubL m)
  | [], [], _ => trivial
  | _ :: _, _ :: _, hl => bub_both hl.2 hl.1
  | [], _ :: _, hl => hl.elim
  | _ :: _, [], hl => hl.elim
theorem kthG_both {x : Rat} : ∀ (k : Nat) {l m : List Rat}, BothL x l m → Both x (kthG k l) (kthG k m)
  | 0, _, _, h => maxL_both h
  | k + 1, _, _, h => kthG_both k (bubL_both h)
theorem getD_both {x : Rat} : ∀ {l m : List Rat} (p : Nat), BothL x l m → Both x (l.getD p 0) (m.getD p 0)
  | [], [], _, _ => Iff.rfl
  | _ :: _, _ :: _, 0, h => h.1
  | _ :: l, _ :: m, p + 1, h => by simpa using getD_both (l := l) (m := m) p h.2
  | [], _ :: _, _, h => h.elim
  | _ :: _, [], _, h => h.elim
mutual
theorem val_both {x : Rat} {b c : List Rat} (h : BothL x b c) : ∀ t : Tm, t.nomean = true → Both x (t.val b) (t.val c)
  | .bid p, _ => getD_both p h
  | .fixed q, _ => Iff.rfl
  | .mean _ _, e => absurd e (by simp [Tm.nomean])
  | .least ts, e => minL_both (vals_both h ts e)
  | .greatest ts, e => maxL_both (vals_both h ts e)
  | .ranked k ts, e => kthG_both (k - 1) (vals_both h ts e)
  | .between lo hi t, e => rmax_both Iff.rfl (rmin_both Iff.rfl (val_both h t e))
theorem vals_both {x : Rat} {b c : List Rat} (h : BothL x b c) : ∀ ts : List Tm, Tm.nomeans ts = true → BothL x (Tm.vals b ts) (Tm.vals c ts)
  | [], _ => trivial
  | t :: ts, e => by
    have e' : (t.nomean && Tm.nomeans ts) = true := e
    rw [Bool.and_eq_true] at e'
    exact ⟨val_both h t e'.1, vals_both h ts e'.2⟩
end
theorem bothL_of {x : Rat} : ∀ {l m : List Rat}, l.length = m.length → (∀ (i : Nat) (a b : Rat), l[i]? = some a → m[i]? = some b → Both x a b) → BothL x l m
  | [], [], _, _ => trivial
  | a :: l, b :: m, e, h => ⟨h 0 a b rfl rfl, bothL_of (l := l) (m := m) (by simpa using e) fun i a b h1 h2 => h (i + 1) a b h1 h2⟩
  | [], _ :: _, e, _ => by simp at e
  | _ :: _, [], e, _ => by simp at e
theorem outc_nomean {t : Tm} {n z : Nat} {ws : List Rat} (ho : t.Ok n z) (hm : t.nomean = true) (hw : ws.length = n) (hq : ∀ q ∈ ws, 0 ≤ q ∧ q ≤ 1) (ht : 0 ≤ t.val ws ∧ t.val ws ≤ 1) (h0 : 0 ≤ t.val (end01 n [])) (h1 : ∀ S, t.val (end01 n S) ≤ 1) : outc t n ws = t.val ws := by
  have key : ∀ x : Rat, 0 < x → x ≤ 1 → (x ≤ t.val (end01 n ((List.range n).filter fun p => decide (x ≤ ws.getD p 0))) ↔ x ≤ t.val ws) := fun x x0 x1 => by
    refine val_both (bothL_of (by rw [end01_len, hw]) fun i a b ha hb => ?_) t hm
    have il : i < n := by have := (List.getElem?_eq_some_iff.mp ha).1; rwa [end01_len] at this
    rw [end01_get il] at ha
    cases ha
    have eb : ws.getD i 0 = b := by rw [List.getD_eq_getElem?_getD, hb]; rfl
    have em : (i ∈ (List.range n).filter fun p => decide (x ≤ ws.getD p 0)) ↔ x ≤ b := by
      rw [List.mem_filter, List.mem_range, decide_eq_true_iff, eb]
      exact ⟨fun h => h.2, fun h => ⟨il, h⟩⟩
    unfold Both
    by_cases c : x ≤ b
    · rw [if_pos (em.mpr c)]
      exact ⟨fun _ => c, fun _ => x1⟩
    · rw [if_neg (fun h => c (em.mp h))]
      constructor
      · intro h; grind
      · intro h; exact absurd h c
  have a : t.val ws ≤ outc t n ws := by
    by_cases c : 0 < t.val ws
    · exact outc_ge ho hw (fun p hp => List.mem_range.mp (List.mem_filter.mp hp).1) ((key _ c ht.2).mpr (by grind)) fun p hp => of_decide_eq_true (List.mem_filter.mp hp).2
    · have : t.val ws = 0 := by grind
      have := outc_ge ho hw (S := []) (x := 0) (by simp) h0 (by simp)
      grind
  have b : outc t n ws ≤ t.val ws := by
    obtain ⟨S, g1, g2, g3, _⟩ := outc_at (t := t) hw
    by_cases c : 0 < outc t n ws
    · have o1 : outc t n ws ≤ 1 := by have := h1 S; grind
      refine (key _ c o1).mp ?_
      have sub : t.val (end01 n S) ≤ t.val (end01 n ((List.range n).filter fun p => decide (outc t n ws ≤ ws.getD p 0))) := val_sub ho fun p hp => List.mem_filter.mpr ⟨List.mem_range.mpr (g1 p hp), decide_eq_true (g3 p hp)⟩
      grind
    · have := ht.1
      grind
  grind
end CB

set_option Elab.async false
set_option linter.all false
set_option maxRecDepth 100000
set_option maxHeartbeats 4000000
/-! the bottoms of what terms tell: each mean multiplies them by no more than a number that all sums of weights divide -/
namespace CB
open PySem PySem.Spec PyProof.Rows L2
/-- M times q is whole -/
def Dn (M : Nat) (q : Rat) : Prop := ∃ z : Int, q * ((M : Int) : Rat) = (z : Rat)
theorem den_rat {q : Rat} : ((q.den : Int) : Rat) ≠ 0 := by
  intro h
  have : ((q.den : Nat) : Int) = 0 := Rat.intCast_inj.mp h
  have := q.den_pos
  omega
theorem mul_den (q : Rat) : q * ((q.den : Int) : Rat) = ((q.num : Int) : Rat) := by
  have h := Rat.num_divInt_den q
  rw [Rat.divInt_eq_div] at h
  have e : q * ((q.den : Int) : Rat) = ((q.num : Int) : Rat) / ((q.den : Int) : Rat) * ((q.den : Int) : Rat) := by rw [h]
  rw [e, Rat.div_mul_cancel den_rat]
theorem dn_of {M : Nat} {q : Rat} (h : q.den ∣ M) : Dn M q := by
  obtain ⟨c, rfl⟩ := h
  refine ⟨q.num * (c : Int), ?_⟩
  rw [Int.natCast_mul, Rat.intCast_mul, Rat.intCast_mul, ← mul_den q]
  grind
theorem den_of {M : Nat} {q : Rat} (hM : 0 < M) (h : Dn M q) : q.den ∣ M := by
  obtain ⟨z, h⟩ := h
  have hm : ((M : Int) : Rat) ≠ 0 := by
    intro e
    have : ((M : Nat) : Int) = 0 := Rat.intCast_inj.mp e
    omega
  have e : q = Rat.divInt z (M : Int) := by
    rw [Rat.divInt_eq_div, ← h]
    grind
  have e2 := divInt_den (a := z) (b := (M : Int)) (by omega)
  rw [← e] at e2
  have g : Nat.gcd z.natAbs (M : Int).natAbs ∣ M := by
    have := Nat.gcd_dvd_right z.natAbs (M : Int).natAbs
    rwa [Int.natAbs_natCast] at this
  obtain ⟨c, hc⟩ := g
  have gp := gcd_pos (a := z) (b := (M : Int)) (by omega)
  have : (q.den : Int) = (c : Int) := by
    rw [e2]
    conv => lhs; lhs; rw [hc]
    rw [Int.natCast_mul, Int.mul_ediv_cancel_left _ (by omega)]
  exact ⟨Nat.gcd z.natAbs (M : Int).natAbs, by rw [show q.den = c by omega, Nat.mul_comm]; exact hc⟩
theorem dn_dvd {M M' : Nat} {q : Rat} (h : Dn M q) (d : M ∣ M') : Dn M' q := by
  obtain ⟨c, rfl⟩ := d
  obtain ⟨z, h⟩ := h
  refine ⟨z * (c : Int), ?_⟩
  rw [Int.natCast_mul, Rat.intCast_mul, Rat.intCast_mul, ← h]
  grind
theorem dn_zero {M : Nat} : Dn M 0 := ⟨0, by rw [Rat.zero_mul]; rfl⟩
theorem dn_add {M : Nat} {a b : Rat} (h : Dn M a) (g : Dn M b) : Dn M (a + b) := by
  obtain ⟨x, h⟩ := h
  obtain ⟨y, g⟩ := g
  exact ⟨x + y, by rw [Rat.add_mul, h, g, Rat.intCast_add]⟩
theorem dn_neg {M : Nat} {a : Rat} (h : Dn M a) : Dn M (-a) := by
  obtain ⟨x, h⟩ := h
  exact ⟨-x, by rw [Rat.neg_mul, h, Rat.intCast_neg]⟩
theorem dn_int {M : Nat} {a : Rat} (w : Int) (h : Dn M a) : Dn M ((w : Rat) * a) := by
  obtain ⟨x, h⟩ := h
  exact ⟨w * x, by rw [Rat.mul_assoc, h, Rat.intCast_mul]⟩
theorem dn_wsum {M : Nat} : ∀ {ws : List Int} {qs : List Rat}, (∀ q ∈ qs, Dn M q) → Dn M (List.zipWith (fun (w : Int) (q : Rat) => (w : Rat) * q) ws qs).sum
  | [], _, _ => by simpa using dn_zero
  | _ :: _, [], _ => by simpa using dn_zero
  | w :: ws, q :: qs, h => by
    rw [List.zipWith_cons_cons, List.sum_cons]
    exact dn_add (dn_int w (h q List.mem_cons_self)) (dn_wsum fun x hx => h x (List.mem_cons_of_mem _ hx))
theorem dn_div {M W : Nat} {q : Rat} {s : Int} (hs : 0 < s) (h : Dn M q) (d : s ∣ (W : Int)) : Dn (M * W) (q / ((s : Int) : Rat)) := by
  obtain ⟨c, hc⟩ := d
  obtain ⟨z, h⟩ := h
  have sn : ((s : Int) : Rat) ≠ 0 := by
    intro e
    have : s = 0 := Rat.intCast_inj.mp e
    omega
  refine ⟨z * c, ?_⟩
  rw [Int.natCast_mul, hc, Rat.intCast_mul, Rat.intCast_mul, Rat.intCast_mul, ← h]
  grind
theorem dn_sz {M k : Nat} {q : Rat} (hM : 0 < M) (hk : M < 2 ^ k) (h : Dn M q) (h0 : 0 ≤ q) (h1 : q ≤ 1) : Sz k q := by
  have d := Nat.le_of_dvd hM (den_of hM h)
  have hn : 0 ≤ q.num := Rat.num_nonneg.mpr h0
  have hl : q.num ≤ (q.den : Int) := by
    have := h1
    rw [Rat.le_iff] at this
    simpa using this
  exact ⟨by omega, by omega⟩
mutual
/-- fixed numbers' bottoms divide N, sums of weights divide W -/
def Tm.Dv (N W : Nat) : Tm → Prop
  | .bid _ => True
  | .fixed q => q.den ∣ N
  | .mean ws ts => 0 < ws.sum ∧ ws.sum ∣ (W : Int) ∧ Tm.Dvs N W ts
  | .least ts => Tm.Dvs N W ts
  | .greatest ts => Tm.Dvs N W ts
  | .ranked _ ts => Tm.Dvs N W ts
  | .between lo hi t => lo.den ∣ N ∧ hi.den ∣ N ∧ t.Dv N W
def Tm.Dvs (N W : Nat) : List Tm → Prop
  | [] => True
  | t :: ts => t.Dv N W ∧ Tm.Dvs N W ts
end
theorem dvs_iff (N W : Nat) : ∀ ts : List Tm, Tm.Dvs N W ts ↔ ∀ t ∈ ts, t.Dv N W
  | [] => by simp [Tm.Dvs]
  | t :: ts => by rw [Tm.Dvs, dvs_iff N W ts]; simp
mutual
theorem Tm.Dv.mono {N N' W W' : Nat} (h : N ∣ N') (g : W ∣ W') : ∀ {t : Tm}, t.Dv N W → t.Dv N' W'
  | .bid _, _ => trivial
  | .fixed q, d => Nat.dvd_trans d h
  | .mean ws ts, d => ⟨d.1, Int.dvd_trans d.2.1 (Int.natCast_dvd_natCast.mpr g), Tm.Dvs.mono h g d.2.2⟩
  | .least ts, d => Tm.Dvs.mono (ts := ts) h g d
  | .greatest ts, d => Tm.Dvs.mono (ts := ts) h g d
  | .ranked _ ts, d => Tm.Dvs.mono (ts := ts) h g d
  | .between lo hi t, d => ⟨Nat.dvd_trans d.1 h, Nat.dvd_trans d.2.1 h, Tm.Dv.mono h g d.2.2⟩
theorem Tm.Dvs.mono {N N' W W' : Nat} (h : N ∣ N') (g : W ∣ W') : ∀ {ts : List Tm}, Tm.Dvs N W ts → Tm.Dvs N' W' ts
  | [], _ => trivial
  | _ :: _, d => ⟨Tm.Dv.mono h g d.1, Tm.Dvs.mono h g d.2⟩
end
theorem pow_dvd' {W a b : Nat} (h : a ≤ b) : W ^ a ∣ W ^ b := Nat.pow_dvd_pow W h
theorem dn_minL {M : Nat} {l : List Rat} (h : l ≠ []) (hd : ∀ q ∈ l, Dn M q) : Dn M (minL l) := hd _ (minL_mem h).1
theorem dn_maxL {M : Nat} {l : List Rat} (h : l ≠ []) (hd : ∀ q ∈ l, Dn M q) : Dn M (maxL l) := hd _ (maxL_mem h).1
theorem kthG_in {k : Nat} {l : List Rat} (h : k < l.length) : kthG k l ∈ l := (isort_perm l).mem_iff.mp (List.mem_of_getElem? (kthG_isort k l h))
mutual
theorem val_dn {n s N W : Nat} {bs : List Rat} (hb : ∀ q ∈ bs, q.den ∣ N) (hn : bs.length = n) : ∀ {t : Tm}, t.Ok n s → t.Dv N W → Dn (N * W ^ t.dep) (t.val bs)
  | .bid p, ho, _ => by
    have hp : p < bs.length := by rw [hn]; exact ho
    show Dn _ (bs.getD p 0)
    rw [List.getD_eq_getElem?_getD, List.getElem?_eq_getElem hp]
    exact dn_of (Nat.dvd_trans (hb _ (List.getElem_mem hp)) (Nat.dvd_mul_right _ _))
  | .fixed q, _, d => dn_of (Nat.dvd_trans d (Nat.dvd_mul_right _ _))
  | .mean ws ts, ho, d => by
    have h := vals_dn hb hn ho.2.2.2.2 d.2.2
    have z : Dn (N * W ^ Tm.deps ts * W) (wavg ws (Tm.vals bs ts)) := dn_div d.1 (dn_wsum fun q hq => by
      rw [vals_map] at hq
      obtain ⟨t, ht, rfl⟩ := List.mem_map.mp hq
      exact dn_dvd (h t ht) (Nat.mul_dvd_mul_left _ (pow_dvd' (deps_mem ht)))) d.2.1
    show Dn (N * W ^ (Tm.deps ts + 1)) _
    rw [Nat.pow_succ, ← Nat.mul_assoc]
    exact z
  | .least ts, ho, d => by
    have h := vals_dn hb hn ho.2.2 d
    refine dn_minL (fun e => ho.1 (by rw [vals_map] at e; exact List.map_eq_nil_iff.mp e)) fun q hq => ?_
    rw [vals_map] at hq
    obtain ⟨t, ht, rfl⟩ := List.mem_map.mp hq
    exact dn_dvd (h t ht) (Nat.mul_dvd_mul_left _ (pow_dvd' (by have := deps_mem ht; show t.dep ≤ Tm.deps ts + 1; omega)))
  | .greatest ts, ho, d => by
    have h := vals_dn hb hn ho.2.2 d
    refine dn_maxL (fun e => ho.1 (by rw [vals_map] at e; exact List.map_eq_nil_iff.mp e)) fun q hq => ?_
    rw [vals_map] at hq
    obtain ⟨t, ht, rfl⟩ := List.mem_map.mp hq
    exact dn_dvd (h t ht) (Nat.mul_dvd_mul_left _ (pow_dvd' (by have := deps_mem ht; show t.dep ≤ Tm.deps ts + 1; omega)))
  | .ranked k ts, ho, d => by
    have h := vals_dn hb hn ho.2.2.2 d
    have hk : k - 1 < (Tm.vals bs ts).length := by rw [vals_map, List.length_map]; have := ho.1; have := ho.2.1; omega
    have m := kthG_in hk
    rw [vals_map] at m
    obtain ⟨t, ht, e⟩ := List.mem_map.mp m
    show Dn _ (kthG (k - 1) (Tm.vals bs ts))
    rw [vals_map, ← e]
    exact dn_dvd (h t ht) (Nat.mul_dvd_mul_left _ (pow_dvd' (by have := deps_mem ht; show t.dep ≤ Tm.deps ts + 1; omega)))
  | .between lo hi t, ho, d => by
    have h := dn_dvd (val_dn hb hn ho.2.2.2 d.2.2) (Nat.mul_dvd_mul_left N (pow_dvd' (W := W) (Nat.le_succ t.dep)))
    have h1 : Dn (N * W ^ (t.dep + 1)) lo := dn_of (Nat.dvd_trans d.1 (Nat.dvd_mul_right _ _))
    have h2 : Dn (N * W ^ (t.dep + 1)) hi := dn_of (Nat.dvd_trans d.2.1 (Nat.dvd_mul_right _ _))
    show Dn (N * W ^ (t.dep + 1)) (rmax lo (rmin hi (t.val bs)))
    unfold rmax rmin
    split <;> (try split) <;> first | exact h | exact h1 | exact h2
theorem vals_dn {n s N W : Nat} {bs : List Rat} (hb : ∀ q ∈ bs, q.den ∣ N) (hn : bs.length = n) : ∀ {ts : List Tm}, Tm.Oks n s ts → Tm.Dvs N W ts → ∀ t ∈ ts, Dn (N * W ^ t.dep) (t.val bs)
  | [], _, _, _, h => by cases h
  | u :: ts, ho, d, t, h => by
    rcases List.mem_cons.mp h with e | e
    · rw [e]; exact val_dn hb hn ho.1 d.1
    · exact vals_dn hb hn ho.2 d.2 t e
end
/-- a term and bids whose numbers have bottoms that are not too great -/
def DvB (t : Tm) (bs : List Rat) : Prop := ∃ N W : Nat, 0 < N ∧ 0 < W ∧ t.Dv N W ∧ N * W ^ t.dep < 2 ^ 1000 ∧ ∀ q ∈ bs, q.den ∣ N
theorem DvB.put01 {t : Tm} {bs : List Rat} (h : DvB t bs) {cs : List Rat} (hc : ∀ q ∈ cs, q.den = 1 ∨ q ∈ bs) : DvB t cs := by
  obtain ⟨N, W, h1, h2, h3, h4, h5⟩ := h
  refine ⟨N, W, h1, h2, h3, h4, fun q hq => ?_⟩
  rcases hc q hq with e | e
  · rw [e]; exact Nat.one_dvd _
  · exact h5 q e
theorem DvB.sz {t : Tm} {bs : List Rat} {n s : Nat} (h : DvB t bs) (ho : t.Ok n s) (hl : bs.length = n) (hb : ∀ q ∈ bs, In01 q) : Sz 1000 (t.val bs) := by
  obtain ⟨N, W, h1, h2, h3, h4, h5⟩ := h
  have v := val_01 hl hb t ho
  exact dn_sz (Nat.mul_pos h1 (Nat.pow_pos h2)) h4 (val_dn h5 hl ho h3) v.1 v.2
end CB

set_option Elab.async false
set_option linter.all false
set_option maxRecDepth 100000
set_option maxHeartbeats 4000000
/-! a rule without a mean that tells what comes out of another one -/
namespace CB
open PySem PySem.Spec PyProof.Rows L2
inductive CT where
  | leaf (q : Rat)
  | node (p : Nat) (a b : CT)
  deriving DecidableEq
def CT.tm : CT → Tm
  | .leaf q => .fixed q
  | .node p a b => .greatest [a.tm, .least [.bid p, b.tm]]
def cz (f : List Nat → Rat) (n : Nat) : Nat → List Nat → CT
  | 0, l => .leaf (f l)
  | m + 1, l => if cz f n m l = cz f n m (l ++ [n - (m + 1)]) then cz f n m l else .node (n - (m + 1)) (cz f n m l) (cz f n m (l ++ [n - (m + 1)]))
theorem eqv_str (x y : Str) : PyData.eqv (.str x) (.str y) = decide (x = y) := by
  simp only [PyData.eqv]
  by_cases h : x = y <;> simp [h]
theorem eqv_int (x y : Int) : PyData.eqv (.int x) (.int y) = decide (x = y) := by
  simp only [PyData.eqv]
  by_cases h : x = y <;> simp [h]
theorem eqv_tup (x y : List PyData) : PyData.eqv (.tuple x) (.tuple y) = PyData.eqvAll x y := by
  simp [PyData.eqv]
theorem CT.eqv : ∀ a b : CT, PyData.eqv a.tm.data b.tm.data = decide (a = b)
  | .leaf q, .leaf r => by
    show PyData.eqv (.tuple [.str "fixed", qd q]) (.tuple [.str "fixed", qd r]) = _
    rw [eqv_tup]
    simp only [PyData.eqvAll, eqv_str, qd_eqv]
    by_cases h : q = r <;> simp [h]
  | .leaf q, .node p a b => by
    show PyData.eqv (.tuple [.str "fixed", qd q]) (.tuple [.str "greatest", _]) = _
    rw [eqv_tup]
    simp only [PyData.eqvAll, eqv_str]
    rw [decide_eq_false (show ¬ (("fixed" : Str) = "greatest") by decide +kernel)]
    simp
  | .node p a b, .leaf q => by
    show PyData.eqv (.tuple [.str "greatest", _]) (.tuple [.str "fixed", qd q]) = _
    rw [eqv_tup]
    simp only [PyData.eqvAll, eqv_str]
    rw [decide_eq_false (show ¬ (("greatest" : Str) = "fixed") by decide +kernel)]
    simp
  | .node p a b, .node q c d => by
    have h1 := CT.eqv a c
    have h2 := CT.eqv b d
    show PyData.eqv (.tuple [.str "greatest", .tuple [a.tm.data, .tuple [.str "least", .tuple [.tuple [.str "bid", .int (p : Int)], b.tm.data]]]]) (.tuple [.str "greatest", .tuple [c.tm.data, .tuple [.str "least", .tuple [.tuple [.str "bid", .int (q : Int)], d.tm.data]]]]) = _
    simp only [eqv_tup, PyData.eqvAll, eqv_str, eqv_int, h1, h2]
    by_cases e1 : a = c <;> by_cases e2 : b = d <;> by_cases e3 : p = q <;> simp [e1, e2, e3]
    all_goals omega
theorem CT.val_node (ws : List Rat) (p : Nat) (a b : CT) : (CT.node p a b).tm.val ws = rmax (a.tm.val ws) (rmin (ws.getD p 0) (b.tm.val ws)) := by
  show maxL [a.tm.val ws, minL [ws.getD p 0, b.tm.val ws]] = _
  rfl
theorem le_rmax {x a b : Rat} : x ≤ rmax a b ↔ x ≤ a ∨ x ≤ b := by unfold rmax; split <;> constructor <;> intro h <;> grind
theorem le_rmin {x a b : Rat} : x ≤ rmin a b ↔ x ≤ a ∧ x ≤ b := by unfold rmin; split <;> constructor <;> intro h <;> grind
/-- what is at most what it tells -/
theorem cz_le {f : List Nat → Rat} {n : Nat} {ws : List Rat} {x : Rat} : ∀ {m : Nat} {l : List Nat}, m ≤ n → (x ≤ (cz f n m l).tm.val ws ↔ ∃ S : List Nat, S.Pairwise (· < ·) ∧ (∀ p ∈ S, n - m ≤ p ∧ p < n) ∧ x ≤ f (l ++ S) ∧ ∀ p ∈ S, x ≤ ws.getD p 0)
  | 0, l, _ => by
    show x ≤ f l ↔ _
    constructor
    · intro h
      exact ⟨[], .nil, by simp, by simpa using h, by simp⟩
    · rintro ⟨S, _, h2, h3, _⟩
      have e : S = [] := by
        cases S with
        | nil => rfl
        | cons a S => have := h2 a List.mem_cons_self; omega
      subst e
      simpa using h3
  | m + 1, l, hm => by
    have i1 := cz_le (f := f) (n := n) (ws := ws) (x := x) (m := m) (l := l) (by omega)
    have i2 := cz_le (f := f) (n := n) (ws := ws) (x := x) (m := m) (l := l ++ [n - (m + 1)]) (by omega)
    have key : (x ≤ (cz f n m l).tm.val ws ∨ (x ≤ ws.getD (n - (m + 1)) 0 ∧ x ≤ (cz f n m (l ++ [n - (m + 1)])).tm.val ws)) ↔ ∃ S : List Nat, S.Pairwise (· < ·) ∧ (∀ p ∈ S, n - (m + 1) ≤ p ∧ p < n) ∧ x ≤ f (l ++ S) ∧ ∀ p ∈ S, x ≤ ws.getD p 0 := by
      rw [i1, i2]
      constructor
      · rintro (⟨S, h1, h2, h3, h4⟩ | ⟨h0, S, h1, h2, h3, h4⟩)
        · exact ⟨S, h1, fun p hp => ⟨by have := (h2 p hp).1; omega, (h2 p hp).2⟩, h3, h4⟩
        · refine ⟨(n - (m + 1)) :: S, List.pairwise_cons.mpr ⟨fun q hq => by have := (h2 q hq).1; omega, h1⟩, fun p hp => ?_, by simpa using h3, fun p hp => ?_⟩
          · rcases List.mem_cons.mp hp with e | e
            · subst e; omega
            · have := h2 p e; omega
          · rcases List.mem_cons.mp hp with e | e
            · subst e; exact h0
            · exact h4 p e
      · rintro ⟨S, h1, h2, h3, h4⟩
        cases S with
        | nil => exact .inl ⟨[], .nil, by simp, h3, by simp⟩
        | cons a S =>
          have ha := h2 a List.mem_cons_self
          have h1' := List.pairwise_cons.mp h1
          by_cases e : a = n - (m + 1)
          · subst e
            exact .inr ⟨h4 _ List.mem_cons_self, S, h1'.2, fun p hp => ⟨by have := h1'.1 p hp; omega, (h2 p (List.mem_cons_of_mem _ hp)).2⟩, by simpa using h3, fun p hp => h4 p (List.mem_cons_of_mem _ hp)⟩
          · refine .inl ⟨a :: S, h1, fun p hp => ⟨?_, (h2 p hp).2⟩, h3, h4⟩
            rcases List.mem_cons.mp hp with e' | e'
            · subst e'; omega
            · have := h1'.1 p e'; omega
    show x ≤ (if cz f n m l = cz f n m (l ++ [n - (m + 1)]) then cz f n m l else .node (n - (m + 1)) (cz f n m l) (cz f n m (l ++ [n - (m + 1)]))).tm.val ws ↔ _
    rw [← key]
    by_cases c : cz f n m l = cz f n m (l ++ [n - (m + 1)])
    · rw [if_pos c, ← c]
      constructor
      · exact fun h => .inl h
      · rintro (h | ⟨_, h⟩) <;> exact h
    · rw [if_neg c, CT.val_node, le_rmax, le_rmin]
theorem cz_outc {t : Tm} {n z : Nat} {ws : List Rat} (ho : t.Ok n z) (hw : ws.length = n) : (cz (fun l => t.val (end01 n l)) n n []).tm.val ws = outc t n ws := by
  have h : ∀ x, x ≤ (cz (fun l => t.val (end01 n l)) n n []).tm.val ws ↔ x ≤ outc t n ws := fun x => by
    rw [cz_le (Nat.le_refl n)]
    constructor
    · rintro ⟨S, h1, h2, h3, h4⟩
      exact outc_ge ho hw (fun p hp => (h2 p hp).2) (by simpa using h3) h4
    · intro h
      obtain ⟨S, a, b, c, _⟩ := outc_at (t := t) hw
      refine ⟨lotOf n S, lotOf_up n S, fun p hp => ⟨by omega, (lotOf_mem.mp hp).1⟩, ?_, fun p hp => ?_⟩
      · rw [List.nil_append, end01_congr (E := S) fun p hp => ⟨fun m => (lotOf_mem.mp m).2, fun m => lotOf_mem.mpr ⟨hp, m⟩⟩]
        exact Rat.le_trans h b
      · exact Rat.le_trans h (c p (lotOf_mem.mp hp).2)
  have a := (h _).mp (Rat.le_refl)
  have b := (h _).mpr (Rat.le_refl)
  grind
theorem cz_props {f : List Nat → Rat} {n s N : Nat} (hf : ∀ l, NumOk s (f l) ∧ (f l).den ∣ N) : ∀ {m : Nat} {l : List Nat}, m ≤ n → (cz f n m l).tm.Ok n s ∧ (cz f n m l).tm.dep ≤ 2 * m + 1 ∧ (cz f n m l).tm.Dv N 1 ∧ (cz f n m l).tm.nomean = true
  | 0, l, _ => ⟨(hf l).1, Nat.le_refl _, (hf l).2, rfl⟩
  | m + 1, l, hm => by
    obtain ⟨a1, a2, a3, a4⟩ := cz_props (n := n) hf (m := m) (l := l) (by omega)
    obtain ⟨b1, b2, b3, b4⟩ := cz_props (n := n) hf (m := m) (l := l ++ [n - (m + 1)]) (by omega)
    show (if cz f n m l = cz f n m (l ++ [n - (m + 1)]) then cz f n m l else .node (n - (m + 1)) (cz f n m l) (cz f n m (l ++ [n - (m + 1)]))).tm.Ok n s ∧ (if cz f n m l = cz f n m (l ++ [n - (m + 1)]) then cz f n m l else .node (n - (m + 1)) (cz f n m l) (cz f n m (l ++ [n - (m + 1)]))).tm.dep ≤ _ ∧ (if cz f n m l = cz f n m (l ++ [n - (m + 1)]) then cz f n m l else .node (n - (m + 1)) (cz f n m l) (cz f n m (l ++ [n - (m + 1)]))).tm.Dv N 1 ∧ (if cz f n m l = cz f n m (l ++ [n - (m + 1)]) then cz f n m l else .node (n - (m + 1)) (cz f n m l) (cz f n m (l ++ [n - (m + 1)]))).tm.nomean = true
    by_cases c : cz f n m l = cz f n m (l ++ [n - (m + 1)])
    · rw [if_pos c]
      exact ⟨a1, by omega, a3, a4⟩
    · rw [if_neg c]
      refine ⟨⟨by simp, by show 2 ≤ 8; decide, a1, ⟨by simp, by show 2 ≤ 8; decide, (by show n - (m + 1) < n; omega), b1, trivial⟩, trivial⟩, ?_, ⟨a3, ⟨trivial, b3, trivial⟩, trivial⟩, ?_⟩
      · show max (cz f n m l).tm.dep (max (max 1 (max (cz f n m (l ++ [n - (m + 1)])).tm.dep 0) + 1) 0) + 1 ≤ _
        omega
      · show ((cz f n m l).tm.nomean && ((true && ((cz f n m (l ++ [n - (m + 1)])).tm.nomean && true)) && true)) = true
        rw [a4, b4]; rfl
theorem cz_dep {f : List Nat → Rat} {n : Nat} : ∀ {m : Nat} {l : List Nat}, (cz f n m l).tm.dep ≤ 2 * m + 1
  | 0, l => Nat.le_refl _
  | m + 1, l => by
    have a := cz_dep (f := f) (n := n) (m := m) (l := l)
    have b := cz_dep (f := f) (n := n) (m := m) (l := l ++ [n - (m + 1)])
    show (if cz f n m l = cz f n m (l ++ [n - (m + 1)]) then cz f n m l else .node (n - (m + 1)) (cz f n m l) (cz f n m (l ++ [n - (m + 1)]))).tm.dep ≤ _
    split
    · omega
    · show max (cz f n m l).tm.dep (max (max 1 (max (cz f n m (l ++ [n - (m + 1)])).tm.dep 0) + 1) 0) + 1 ≤ _
      omega
end CB

set_option Elab.async false
set_option linter.all false
set_option maxRecDepth 100000
set_option maxHeartbeats 4000000
namespace CB
open PySem PySem.Spec PyProof.Rows L2
open StX (pa_star)
open C8 (Cal Met Mak pe_c pe_mk pe_mt pe_mt0 pe_gc CalAt)
section
variable {P : Program} {w : World} {K : PySem.W.Frag} {mg : Str → Option Value} {base : Heap}
theorem asc_subsT {n : Nat} {l : List Nat} (h : l.Pairwise (· < ·)) (b : ∀ p ∈ l, p < n) : l ∈ subs n := by
  have e : lotOf n l = l := by
    refine pI_inj (up_ext (List.Pairwise.map _ (fun a b h => by omega) (lotOf_up n l)) (List.Pairwise.map _ (fun a b h => by omega) h) fun k => ?_)
    constructor
    · intro m
      obtain ⟨p, hp, rfl⟩ := List.mem_map.mp m
      exact List.mem_map.mpr ⟨p, (lotOf_mem.mp hp).2, rfl⟩
    · intro m
      obtain ⟨p, hp, rfl⟩ := List.mem_map.mp m
      exact List.mem_map.mpr ⟨p, lotOf_mem.mpr ⟨b p hp, hp⟩, rfl⟩
  rw [← e]
  exact subs_filter _ n
def spTG (K : PySem.W.Frag) (D : Nat) : Sp := fun vs H Q _ => ∃ (d b : Addr) (n m : Nat) (f : List Nat → Rat) (l : List Nat), vs = [.int (n : Int), .ref d, .ref b, .int ((n - m : Nat) : Int)] ∧ TabF K H d f n ∧ H b = some (.tup (pV l)) ∧ m ≤ n ∧ n ≤ 6 ∧ m < D ∧ l.Pairwise (· < ·) ∧ (∀ p ∈ l, p < n - m) ∧
  ∀ v H', Same H H' → Rp K H' v (cz f n m l).tm.data → Q v H'
def sp_rule_withF (K : PySem.W.Frag) (C : Addr) : Sp := fun vs H Q _ => ∃ (d : Addr) (n : Nat) (f : List Nat → Rat), vs = [.int (n : Int), .ref d] ∧ TabF K H d f n ∧ 1 ≤ n ∧ n ≤ 6 ∧
  ∀ r H', Same H H' → H r = none → RuleAt K C H' r n (cz f n n []).tm → Q (.ref r) H'
def sp_rule_of (K : PySem.W.Frag) (C : Addr) : Sp := fun vs H Q _ => ∃ (d : Addr) (f : List Nat → Rat) (n z : Nat), vs = [.int (n : Int), .ref d] ∧ 1 ≤ n ∧ n ≤ 6 ∧ TabF K H d f n ∧ z ≤ 9000 ∧ (∀ l ∈ lotsI n, NumOk z (f l)) ∧ badT f n = false ∧
  ∀ r H', Same H H' → RuleAt K C H' r n (cz f n n []).tm → Q (.ref r) H'
end
end CB

set_option Elab.async false
set_option linter.all false
set_option maxRecDepth 100000
set_option maxHeartbeats 4000000
namespace CB
open PySem PySem.Spec PyProof.Rows L2
open C8 (Cal Met Mak pe_c pe_mk pe_mt pe_mt0 pe_gc CalAt)
section
variable {P : Program} {w : World} {K : PySem.W.Frag} {mg : Str → Option Value} {base : Heap}
/-- f does not fall -/
def MonoF (f : List Nat → Rat) (n : Nat) : Prop := ∀ l ∈ lotsI n, ∀ m ∈ lotsI n, (∀ q ∈ l, q ∈ m) → f l ≤ f m
theorem MonoF.right {f : List Nat → Rat} {n : Nat} (h6 : n ≤ 6) (h : MonoF f n) : badT f n = false := by
  unfold badT
  rw [List.any_eq_false]
  intro p hp e
  unfold fallsB at e
  rw [List.any_eq_true] at e
  obtain ⟨l, hl, e⟩ := e
  have lm := (List.mem_filter.mp hl).1
  have lt := subs_lt ((lotsI_perm h6).mem_iff.mp lm)
  have a := h l lm _ (joinL_mem h6 l p) fun q hq => List.mem_filter.mpr ⟨List.mem_range.mpr (lt q hq), by simp [hq]⟩
  have b := of_decide_eq_true e
  grind
theorem mono_corner {t : Tm} {n z : Nat} (ho : t.Ok n z) : MonoF (fun l => t.val (end01 n l)) n := fun l _ m _ h => by
  refine (val_nr (s := 1) (by grind) (nrL_of (by rw [end01_len, end01_len]) fun i x y hx hy => ?_) t ho).1
  have il := (List.getElem?_eq_some_iff.mp hx).1
  rw [end01_len] at il
  rw [end01_get il] at hx hy
  have e1 := Option.some.inj hx
  have e2 := Option.some.inj hy
  subst e1 e2
  by_cases c : i ∈ l
  · rw [if_pos c, if_pos (h i c)]; constructor <;> grind
  · rw [if_neg c]; split <;> constructor <;> grind
/-- a table in which one person does not matter -/
theorem mono_without {f : List Nat → Rat} {n p : Nat} (h6 : n ≤ 6) (h : MonoF f n) : MonoF (fun l => f (l.filter fun q => !decide (q = p))) n := fun l hl m hm s => by
  have low : ∀ l ∈ lotsI n, (l.filter fun q => !decide (q = p)) ∈ lotsI n := by
    have : ∀ n, n < 7 → ∀ p, p < 7 → ∀ l ∈ subs n, (l.filter fun q => !decide (q = p)) ∈ subs n := by decide +kernel
    intro l hl
    have hs := (lotsI_perm h6).mem_iff.mp hl
    by_cases c : p < 7
    · exact (lotsI_perm h6).mem_iff.mpr (this n (by omega) p c l hs)
    · rw [List.filter_eq_self.mpr fun q hq => by have := subs_lt hs q hq; have : ¬ q = p := (by omega); simp [this]]
      exact hl
  exact h _ (low l hl) _ (low m hm) fun q hq => List.mem_filter.mpr ⟨s q (List.mem_filter.mp hq).1, (List.mem_filter.mp hq).2⟩
/-- a table by how many there are -/
theorem mono_steps {ss : List Rat} {n : Nat} (h6 : n ≤ 6) (hl : ss.length = n + 1) (hs : Srt ss) : MonoF (fun l => ss.getD l.length 0) n := fun l h1 m h2 s => by
  have nd : ∀ n, n < 7 → ∀ l ∈ subs n, ∀ m ∈ subs n, (∀ q ∈ l, q ∈ m) → l.length ≤ m.length := by decide +kernel
  have hl1 := (lotsI_perm h6).mem_iff.mp h1
  have hm1 := (lotsI_perm h6).mem_iff.mp h2
  have le : l.length ≤ m.length := nd n (by omega) l hl1 m hm1 s
  have ml := subs_size hm1
  obtain ⟨x, hx⟩ : ∃ x, ss[l.length]? = some x := ⟨_, List.getElem?_eq_getElem (by omega)⟩
  obtain ⟨y, hy⟩ : ∃ y, ss[m.length]? = some y := ⟨_, List.getElem?_eq_getElem (by omega)⟩
  show ss.getD l.length 0 ≤ ss.getD m.length 0
  rw [List.getD_eq_getElem?_getD, List.getD_eq_getElem?_getD, hx, hy]
  exact srt_get_le hs hx hy le
abbrev n__law_people : List Str := ["_law_dice_here"]
theorem sc__law_people : FnScope ["_law_dice_here"] ["_law_dice_here"] (defScope s__law_people) := ⟨rfl, rfl, rfl, by decide +kernel, rfl, by decide +kernel, by decide +kernel⟩
def sp__law_people : Sp := fun vs H Q _ => ∃ da : Addr × Addr, vs = [.ref da.1] ∧ Dice H da ∧ ∀ (n : Nat) H', 1 ≤ n → n ≤ 6 → Dice H' da → KD da.1 H H' → Q (.int (n : Int)) H'
theorem ok__law_people (F : FnD K mg "_law_people" s__law_people) (c__law_draw : Cal P w K mg base 1 "_law_draw" sp__law_draw []) : Cal P w K mg base 2 "_law_people" sp__law_people [] := by
  refine calOf F sc__law_people (fun _ _ _ _ _ _ us hl => match us, hl with | [_], _ => rfl) (fun vs H Q E h => ?_) (fun cdv f A outer s H vs Q E hr h => ?_)
  · obtain ⟨_, rfl, _⟩ := h
    rfl
  · obtain ⟨da, rfl, d0, k⟩ := h
    refine ⟨_, (pss_one (ps_ret (pe_ix ix_list (pe_lst (pa_cons pe_int (pa_cons pe_int (pa_cons pe_int (pa_cons pe_int (pa_cons pe_int (pa_cons pe_int (pa_cons pe_int (pa_cons pe_int (pa_cons pe_int (pa_cons pe_int pa_nil))))))))))) (pe_c c__law_draw hr (by first | decide | omega) rfl (pa_cons (pv 0) (pa_cons pe_int pa_nil))) (fun _ _ => rfl)))), ?_⟩
    refine ⟨(by show 10 ≤ sizeLine; decide), fun pl hpl => ⟨_, rfl, da, 10, rfl, (d0.same (same_new hpl)), by decide, by decide, fun z H1 z0 z1 d1 e1 => ?_⟩⟩
    have nP := d0.ne hpl
    have hp1 := e1 pl _ nP.1 upd_same
    have zl : z.toNat < ([1, 2, 3, 3, 4, 4, 2, 5, 3, 6] : List Nat).length := by show z.toNat < 10; omega
    have all : ∀ x ∈ ([1, 2, 3, 3, 4, 4, 2, 5, 3, 6] : List Nat), 1 ≤ x ∧ x ≤ 6 := by decide
    have a := all _ (List.getElem_mem zl)
    have hx : (([1, 2, 3, 3, 4, 4, 2, 5, 3, 6] : List Nat).map fun n : Nat => V.int (n : Int))[z.toNat]? = some (.int ((([1, 2, 3, 3, 4, 4, 2, 5, 3, 6] : List Nat)[z.toNat]'zl : Nat) : Int)) := by
      rw [List.getElem?_map, List.getElem?_eq_getElem zl]
      rfl
    exact ⟨pl, _, z, _, rfl, rfl, SqL.of hp1, at_of (j := z.toNat) (by omega) hx, k _ H1 a.1 a.2 d1 (KD.trans (Same.kd (same_new hpl)) e1)⟩
end
end CB

set_option Elab.async false
set_option linter.all false
set_option maxRecDepth 100000
set_option maxHeartbeats 4000000
namespace CB
open PySem PySem.Spec PyProof.Rows L2
open C8 (Cal Met Mak pe_c pe_mk pe_mt pe_mt0 pe_gc CalAt)
section
variable {P : Program} {w : World} {K : PySem.W.Frag} {mg : Str → Option Value} {base : Heap}
theorem TabF.kd {H H' : Hp} {d : Addr} {f : List Nat → Rat} {n : Nat} {da : Addr × Addr} (h : TabF K H d f n) (hd : Dice H da) (e : KD da.1 H H') (ne : d ≠ da.1) : TabF K H' d f n := by
  obtain ⟨kvs, ls, h1, h2, h3⟩ := h
  exact ⟨kvs, ls, e _ _ ne h1, h2.imp fun v l r => r.mono (hd.kt e), h3⟩
theorem keys_lots {H : Hp} {R : V → List Nat → Prop} : ∀ {kvs : List (List L2.Key × V)} {ls : List (List Nat)} {bs : List Addr}, KvL R kvs ls → IsKeys H kvs bs → LotsH H (bs.map V.ref) ls
  | _, _, _, .nil, h => by cases h; exact .nil
  | _, _, _, .cons r t, h => by
    cases h with
    | cons a b => exact .cons ⟨_, rfl, by rw [keyK_V] at a; exact a⟩ (keys_lots t b)
theorem kpairs_monoT {K : PySem.W.Frag} {H H' : Hp} (e : KT H H') : ∀ {ts : List Addr} {kvs : List (List L2.Key × V)}, DiT.KeyPairs K H ts kvs → DiT.KeyPairs K H' ts kvs
  | _, _, .nil => .nil
  | _, _, .cons ⟨q, h1, h2⟩ t => .cons ⟨q, e.sq h1, e.1 _ _ h2⟩ (kpairs_monoT e t)
abbrev n__law_turned : List Str := ["_law_dice_here", "_law_table_here", "_law_keys", "_law_kind", "_law_at", "_law_key"]
theorem sc__law_turned : FnScope ["_law_dice_here", "_law_table_here", "_law_keys", "_law_kind", "_law_at", "_law_key"] ["_law_dice_here", "_law_table_here"] (defScope s__law_turned) := ⟨rfl, rfl, rfl, by decide +kernel, rfl, by decide +kernel, by decide +kernel⟩
def sp__law_turned (K : PySem.W.Frag) : Sp := fun vs H Q _ => ∃ (da : Addr × Addr) (d : Addr) (f : List Nat → Rat) (n : Nat), vs = [.ref da.1, .ref d] ∧ Dice H da ∧ d ≠ da.1 ∧ n ≤ 6 ∧ TabF K H d f n ∧
  ∀ d' H', TabF K H' d' f n → d' ≠ da.1 → Dice H' da → KD da.1 H H' → Q (.ref d') H'
theorem ok__law_turned (F : FnD K mg "_law_turned" s__law_turned) (c__law_draw : Cal P w K mg base 1 "_law_draw" sp__law_draw []) (T_list : mg "list" = none) (T_len : mg "len" = none) (T_dict : mg "dict" = none) : Cal P w K mg base 2 "_law_turned" (sp__law_turned K) [] := by
  refine calOf F sc__law_turned (fun _ _ _ _ _ _ us hl => match us, hl with | [_, _], _ => rfl) (fun vs H Q E h => ?_) (fun cdv fz A outer s H vs Q E hr h => ?_)
  · obtain ⟨_, _, _, _, rfl, _⟩ := h
    rfl
  · obtain ⟨da, d, f, n, rfl, d0, nd, h6, hT, k⟩ := h
    refine ⟨_, (pss_cons (ps_set (i := 2) sc__law_turned.nd rfl (Or.inl rfl) (pe_callTy (call_list_dT rfl) (by rfl) T_list (by decide +kernel) (pa_cons (pv 1) pa_nil)))
    (pss_cons (ps_set (i := 3) sc__law_turned.nd rfl (Or.inl rfl) (pe_c c__law_draw hr (by first | decide | omega) rfl (pa_cons (pv 0) (pa_cons pe_int pa_nil))))
    (pss_cons (ps_if (pt_cmpR op_eq (pv 3) pe_int (nomark _)) (pss_one (ps_set (i := 2) sc__law_turned.nd rfl (Or.inl rfl) (pe_revL (pv 2)))) pss_nil)
    (pss_cons (ps_if (pt_cmpR op_eq (pv 3) pe_int (nomark _)) (pss_cons (ps_set (i := 4) sc__law_turned.nd rfl (Or.inl rfl) (pe_c c__law_draw hr (by first | decide | omega) rfl (pa_cons (pv 0) (pa_cons (pe_callB call_len_seq (by rfl) T_len PySem.boot_len (pa_cons (pv 2) pa_nil)) pa_nil))))
    (pss_one (ps_set (i := 2) sc__law_turned.nd rfl (Or.inl rfl) (pe_op op_cat (pe_slice sl_list (pv 2) (po_some (pv 4)) po_none) (pe_slice sl_list (pv 2) po_none (po_some (pv 4))))))) pss_nil)
    (pss_one (ps_ret (pe_callTy (DiT.call_dictT rfl hr.units) (by rfl) T_dict (by decide +kernel) (pa_cons (pe_lc (own := [("_law_key", 5)]) (by rfl) sc__law_turned.nd (pi_list (pv 2)) (blkOk_by (own := [("_law_key", 5)]) (N := ["_law_dice_here", "_law_table_here", "_law_keys", "_law_kind", "_law_at", "_law_key"]) (sc := defScope s__law_turned) (by decide +kernel)) (fun _ _ _ _ _ => (pg_name (i := 5) sc__law_turned.nd rfl (Or.inl rfl))) (fun _ _ _ _ _ => pts_nil) (fun _ _ _ _ _ => (pe_tup (pa_cons (pv 5) (pa_cons (pe_dget (CDu.lt hr.units) (pv 1) (pv 5) (fun _ _ => rfl)) pa_nil))))) pa_nil)))))))), ?_⟩
    obtain ⟨kvs, ls, hd, hk, hp⟩ := id hT
    refine ⟨_, rfl, d, kvs, rfl, .inl hd, fun p bs hpn hbs => ?_⟩
    have L1 := keys_lots hk hbs
    have s1 := same_new (o := .lst (bs.map V.ref)) hpn
    have nP := (d0.ne hpn).1
    have d1 := d0.same s1
    have T1 := hT.same s1
    have e1 : KD da.1 H (upd H p (.lst (bs.map V.ref))) := Same.kd s1
    have hP : (upd H p (.lst (bs.map V.ref))) p = some (.lst (bs.map V.ref)) := upd_same
    have L1' := L1.mono (Same.kt s1)
    change gName 2 _ _ (upd H p (.lst (bs.map V.ref))) _
    generalize upd H p (.lst (bs.map V.ref)) = H1 at *
    generalize bs.map V.ref = ys at *
    have yl : ys.length ≤ 64 := by rw [L1.length, hp.length_eq]; exact lotsI_len h6
    refine ⟨_, rfl, da, 3, rfl, d1, by decide, by decide, fun kd H2 k0 k1 d2 e2 => ⟨_, rfl, rfl, _, rfl, ?_⟩⟩
    have P2 := e2 _ _ nP hP
    have M2 := L1'.mono (d1.kt e2)
    have T2 := T1.kd d1 e2 nd
    have e02 := e1.trans e2
    clear hP L1' T1 d1 e1 e2 L1 s1 hbs hd hk hpn hT d0
    refine (?f1 : (∀ (P : Addr) (ys : List V) (ls : List (List Nat)) H', H' P = some (.lst ys) → LotsH H' ys ls → ls.Perm (lotsI n) → P ≠ da.1 → TabF K H' d f n → Dice H' da → KD da.1 H H' → (?R1 : Addr → List V → List (List Nat) → Hp → Prop) P ys ls H') → _) ?rest1
    case f1 =>
      intro rest
      refine ite2 (fun _ => ?m1) (fun _ => ?m2)
      case m1 =>
        refine ⟨_, rfl, p, ys, rfl, SqL.of P2, fun q hq => ?_⟩
        have s3 := same_new (o := .lst ys.reverse) hq
        have cs : ∃ (ys' : List V) (ls' : List (List Nat)), (upd H2 q (.lst ys.reverse)) q = some (.lst ys') ∧ LotsH (upd H2 q (.lst ys.reverse)) ys' ls' ∧ ls'.Perm (lotsI n) ∧ q ≠ da.1 ∧ TabF K (upd H2 q (.lst ys.reverse)) d f n ∧ Dice (upd H2 q (.lst ys.reverse)) da ∧ KD da.1 H (upd H2 q (.lst ys.reverse)) := by
          obtain ⟨M, pm, lm⟩ := (M2.mono (Same.kt s3)).perm (List.reverse_perm ys).symm
          exact ⟨_, M, upd_same, lm, pm.symm.trans hp, (d2.ne hq).1, T2.same s3, d2.same s3, e02.trans (Same.kd s3)⟩
        revert cs
        generalize upd H2 q (.lst ys.reverse) = HZ
        rintro ⟨ys', ls', c1, c2, c3, c4, c5, c6, c7⟩
        exact rest q ys' ls' HZ c1 c2 c3 c4 c5 c6 c7
      case m2 =>
        exact rest p ys ls H2 P2 M2 hp nP T2 d2 e02
    case rest1 =>
      clear P2 M2 hp nP T2 d2 e02 yl
      intro p ys ls H2 P2 M2 hp nP T2 d2 e02
      have yl : ys.length ≤ 64 := by rw [M2.length, hp.length_eq]; exact lotsI_len h6
      have y1 : 1 ≤ ys.length := by
        rw [M2.length, hp.length_eq]
        exact List.length_pos_of_mem ((lotsI_perm h6).mem_iff.mpr (subs_filter (fun _ => false) n))
      refine ⟨_, rfl, rfl, _, rfl, ?_⟩
      refine (?f2 : (∀ (P : Addr) (ys : List V) (ls : List (List Nat)) (x4 : Option V) H', H' P = some (.lst ys) → LotsH H' ys ls → ls.Perm (lotsI n) → P ≠ da.1 → TabF K H' d f n → Dice H' da → KD da.1 H H' → (?R2 : Addr → List V → List (List Nat) → Option V → Hp → Prop) P ys ls x4 H') → _) ?rest2
      case f2 =>
        intro rest
        refine ite2 (fun _ => ?n1) (fun _ => ?n2)
        case n1 =>
          refine ⟨_, rfl, _, rfl, p, ys, rfl, .inl (SqL.of P2), da, (ys.length : Int), rfl, d2, by omega, by omega, fun z H3 z0 z1 d3 e3 => ?_⟩
          obtain ⟨j, hj⟩ : ∃ j : Nat, z = (j : Int) := ⟨z.toNat, (Int.toNat_of_nonneg z0).symm⟩
          subst hj
          have P3 := e3 _ _ nP P2
          have L3 := M2.mono (d2.kt e3)
          have T3 := T2.kd d2 e3 nd
          have e03 := e02.trans e3
          refine ⟨_, rfl, _, rfl, (j : Int), rfl, ?_⟩
          dsimp only [tNoPart]
          refine ⟨p, ys, rfl, SqL.of P3, fun q1 hq1 => ?_⟩
          have v1 := same_new (o := .lst (cutV ys (some (j : Int)) none)) hq1
          refine ⟨_, rfl, ?_⟩
          dsimp only [tNoPart]
          refine ⟨_, rfl, (j : Int), rfl, p, ys, rfl, SqL.of (v1 _ _ P3), fun q2 hq2 => ?_⟩
          have v2 := same_new (o := .lst (cutV ys none (some (j : Int)))) hq2
          have c1 : cutV ys (some (j : Int)) none = ys.drop j := by
            unfold cutV
            rw [HT.sIx_none, HT.sIx_nat, Nat.min_eq_left (by omega), List.take_of_length_le (by rw [List.length_drop]; exact Nat.le_refl _)]
          have c2 : cutV ys none (some (j : Int)) = ys.take j := by
            unfold cutV
            rw [HT.sIx_none, HT.sIx_nat, Nat.min_eq_left (by omega), List.drop_zero, Nat.sub_zero]
          refine ⟨q1, q2, _, _, rfl, rfl, v2 _ _ upd_same, upd_same, Nat.le_of_lt (small1000 (by rw [c1, c2, List.length_drop, List.length_take]; omega)), fun q hq => ?_⟩
          have v3 := same_new (o := .lst (cutV ys (some (j : Int)) none ++ cutV ys none (some (j : Int)))) hq
          have v13 := (v1.trans v2).trans v3
          have cs : ∃ (ys' : List V) (ls' : List (List Nat)), (upd (upd (upd H3 q1 (.lst (cutV ys (some (j : Int)) none))) q2 (.lst (cutV ys none (some (j : Int))))) q (.lst (cutV ys (some (j : Int)) none ++ cutV ys none (some (j : Int))))) q = some (.lst ys') ∧ LotsH (upd (upd (upd H3 q1 (.lst (cutV ys (some (j : Int)) none))) q2 (.lst (cutV ys none (some (j : Int))))) q (.lst (cutV ys (some (j : Int)) none ++ cutV ys none (some (j : Int))))) ys' ls' ∧ ls'.Perm (lotsI n) ∧ q ≠ da.1 ∧ TabF K (upd (upd (upd H3 q1 (.lst (cutV ys (some (j : Int)) none))) q2 (.lst (cutV ys none (some (j : Int))))) q (.lst (cutV ys (some (j : Int)) none ++ cutV ys none (some (j : Int))))) d f n ∧ Dice (upd (upd (upd H3 q1 (.lst (cutV ys (some (j : Int)) none))) q2 (.lst (cutV ys none (some (j : Int))))) q (.lst (cutV ys (some (j : Int)) none ++ cutV ys none (some (j : Int))))) da ∧ KD da.1 H (upd (upd (upd H3 q1 (.lst (cutV ys (some (j : Int)) none))) q2 (.lst (cutV ys none (some (j : Int))))) q (.lst (cutV ys (some (j : Int)) none ++ cutV ys none (some (j : Int))))) := by
            obtain ⟨M, pm, lm⟩ := (L3.mono (Same.kt v13)).perm (show ys.Perm (ys.drop j ++ ys.take j) from (by
              have := (List.perm_append_comm (l₁ := ys.take j) (l₂ := ys.drop j))
              rwa [List.take_append_drop] at this))
            refine ⟨_, M, upd_same, ?_, pm.symm.trans hp, ((d3.same (v1.trans v2)).ne hq).1, T3.same v13, d3.same v13, e03.trans (Same.kd v13)⟩
            rw [c1, c2] at *
            exact lm
          revert cs
          generalize (upd (upd (upd H3 q1 (.lst (cutV ys (some (j : Int)) none))) q2 (.lst (cutV ys none (some (j : Int))))) q (.lst (cutV ys (some (j : Int)) none ++ cutV ys none (some (j : Int))))) = HZ
          generalize some (V.int (j : Int)) = x4
          rintro ⟨ys', ls', c1, c2, c3, c4, c5, c6, c7⟩
          exact rest q ys' ls' x4 HZ c1 c2 c3 c4 c5 c6 c7
        case n2 =>
          exact rest p ys ls none H2 P2 M2 hp nP T2 d2 e02
      case rest2 =>
        clear P2 M2 hp nP T2 d2 e02 yl y1
        intro p ys ls x4 H2 P2 M2 hp nP T2 d2 e02
        have yl : ys.length ≤ 64 := by rw [M2.length, hp.length_eq]; exact lotsI_len h6
        refine ⟨_, rfl, p, rfl, ⟨_, SqL.of P2⟩, fun D hD => ?_⟩
        refine it_list (K := K) (a := p) (xs := ys) (fun j H' => ∃ (ts : List Addr) (kvs : List (List L2.Key × V)), H' D = some (.lst (ts.map V.ref)) ∧ DiT.KeyPairs K H' ts kvs ∧ KvL (fun v l => RF K H' v (f l)) kvs (ls.take j) ∧ Same H2 H')
          ⟨[], [], upd_same, .nil, by rw [List.take_zero]; exact .nil, same_new hD⟩ (fun j H' ⟨_, _, _, _, _, e⟩ => SqL.of (e _ _ P2)) ?_ ?_
        · rintro j yv H' hy ⟨ts, kvs, g1, g2, g3, g5⟩
          obtain ⟨l, hl1, ⟨tp, rfl, tl⟩⟩ := (M2.mono (Same.kt g5)).getV hy
          have tl' : H' tp = some (.tup (pV l)) := tl
          have lm := hp.mem_iff.mp (List.mem_of_getElem? hl1)
          obtain ⟨v, gv, rv⟩ := (T2.same g5).at h6 lm tl'
          have tk := take_succ' hl1
          have jl : j < ls.length := (List.getElem?_eq_some_iff.mp hl1).1
          have ll := M2.length
          have kl := g3.len
          rw [List.length_take] at kl
          have tsl : ts.length = kvs.length := Paired.length g2
          refine ⟨rfl, _, rfl, _, rfl, _, rfl, d, v, rfl, gv, (by show 2 ≤ sizeLine; decide), fun q hq => ?_⟩
          have v8 := same_new (o := .tup [.ref tp, v]) hq
          have g1' := v8 _ _ g1
          have kU := KT.updl (o := .lst (ts.map V.ref ++ [.ref q])) g1'
          have kA := (Same.kt v8).trans kU
          refine ⟨_, g1', small1000 (by rw [List.length_map]; omega), ts ++ [q], kvs ++ [(keyK l, v)], by rw [List.map_append]; exact upd_same, ?_, ?_, Same.mut (g5.trans v8) hD⟩
          · refine (kpairs_monoT kA g2).snoc ⟨tp, kU.sq (SqT.of upd_same), ?_⟩
            rw [keyK_V]
            exact kA.1 _ _ tl'
          · rw [tk]
            exact (g3.imp fun v l rf => rf.mono kA).snoc (rv.mono kA)
        rintro H7 ⟨ts, kvs, g1, g2, g3, s7⟩
        rw [M2.length, List.take_length] at g3
        have ndk : (kvs.map (·.1)).Nodup := by
          rw [g3.keys]
          exact List.Pairwise.map keyK (fun a b e z => e (keyK_inj z)) (hp.nodup_iff.mpr (lotsI_nodup h6))
        refine ⟨D, ts, kvs, rfl, SqL.of g1, g2, ndk, fun tb htb => ?_⟩
        have v8 := same_new (o := .dT kvs) htb
        have s78 := s7.trans v8
        exact k tb _ ⟨kvs, ls, upd_same, g3.imp fun v l rf => rf.mono (Same.kt v8), hp⟩ ((d2.same s7).ne htb).1 (d2.same s78) (e02.trans (Same.kd s78))
end
end CB

set_option Elab.async false
set_option linter.all false
set_option maxRecDepth 100000
set_option maxHeartbeats 4000000
namespace CB
open PySem PySem.Spec PyProof.Rows L2
open C8 (Cal Met Mak pe_c pe_mk pe_mt pe_mt0 pe_gc CalAt)
section
variable {P : Program} {w : World} {K : PySem.W.Frag} {mg : Str → Option Value} {base : Heap}
theorem catH_ok {a b : Addr} {xs ys : List V} {H : Hp} {Q : VK} (ha : H a = some (.tup xs)) (hb : H b = some (.tup ys)) (hl : xs.length + ys.length < 1000) (q : ∀ p H', Same H H' → H' p = some (.tup (xs ++ ys)) → Q (.ref p) H') : rCatA K (.ref a) (.ref b) H Q := by
  refine ⟨a, b, xs, ys, rfl, rfl, SqT.of ha, SqT.of hb, Nat.le_of_lt (small1000 (by omega)), fun e => ?_, fun _ e => ?_, fun _ _ p hp => q p _ (same_new hp) upd_same⟩
  · exact q b H (Same.refl H) (by rw [e]; exact hb)
  · exact q a H (Same.refl H) (by rw [e, List.append_nil]; exact ha)
def sp__law_by_sizeH (K : PySem.W.Frag) : Sp := fun vs H Q _ => ∃ (a : Addr) (xs : List V) (n : Nat), vs = [.ref a] ∧ n ≤ 6 ∧ SqL K H a xs ∧ LotsH H xs (subs n) ∧
  ∀ (p : Addr) (ys : List V) (L : List (List Nat)) H', Same H H' → H p = none → H' p = some (.lst ys) → LotsH H' ys L → L.Perm (subs n) → LotsBy L → Q (.ref p) H'
theorem ok__law_by_size_t (F : FnD K mg "_law_by_size" s__law_by_size) (T_len : mg "len" = none) (T_range : mg "range" = none) (T_sorted : mg "sorted" = none) : Cal P w K mg base 1 "_law_by_size" (sp__law_by_sizeH K) [] := by
  refine calOf F sc__law_by_size (fun _ _ _ _ _ _ us hl => match us, hl with | [_], _ => rfl) (fun vs H Q E h => ?_) (fun cdv f A outer s H vs Q E hr h => ?_)
  · obtain ⟨_, _, _, rfl, _⟩ := h
    rfl
  · obtain ⟨a, xs, n, rfl, hn, hS, hL, k⟩ := h
    have xl : xs.length = 2 ^ n := by rw [hL.length, subs_len]
    have p2 : 2 ^ n ≤ 64 := Nat.le_trans (Nat.pow_le_pow_right (by omega) hn) (show 2 ^ 6 ≤ 64 by decide)
    have n2 : n < 2 ^ n := Nat.lt_two_pow_self
    refine ⟨_, (pss_cons (ps_set (i := 1) sc__law_by_size.nd rfl (Or.inl rfl) (pe_lst pa_nil))
    (pss_cons (ps_for PassesOwn.never rfl (pi_range1 (by rfl) T_range (pa_cons (pe_callB call_len_seq (by rfl) T_len PySem.boot_len (pa_cons (pv 0) pa_nil)) pa_nil)) (pg_name (i := 2) sc__law_by_size.nd rfl (Or.inr rfl)) (pss_one (ps_set (i := 1) sc__law_by_size.nd rfl (Or.inl rfl) (pe_op op_cat (pv 1) (pe_callB (cr_sortL (B := 64)) (by rfl) T_sorted (by decide +kernel) (pa_cons (pe_lc (own := [("_law_lot", 3)]) (tt := tTest (tOp rEq (tCB (fun xs H Q => ∃ p ys, xs = [.ref p] ∧ (SqL K H p ys ∨ SqT K H p ys) ∧ Q (.int ys.length) H) (tCons (tVar 3) tNil)) (tVar 2))) (by rfl) sc__law_by_size.nd (pi_list (pv 0)) (blkOk_by (own := [("_law_lot", 3)]) (N := ["_law_lots_here", "_law_found", "_law_size", "_law_lot"]) (sc := defScope s__law_by_size) (by decide +kernel)) (fun _ _ _ _ _ => (pg_name (i := 3) sc__law_by_size.nd rfl (Or.inl rfl))) (fun _ _ _ _ _ => (pts_one (pt_cmpR op_eq (pe_callB call_len_seq (by rfl) T_len PySem.boot_len (pa_cons (pv 3) pa_nil)) (pv 2) (nomark _)))) (fun _ _ _ _ _ => (pv 3))) pa_nil))))))
    (pss_one (ps_ret (pv 1))))), ?_⟩
    refine ⟨Nat.zero_le _, fun p0 hp0 => ?_⟩
    have s0 := same_new (o := .lst []) hp0
    refine ⟨_, rfl, a, xs, rfl, .inl (s0.seq hS), _, rfl, by omega, by omega, ?_⟩
    refine for_range (lo := 0) (n := ((xs.length : Nat) : Int).toNat) (fun i σ H' => ∃ (p : Addr) (ys : List V) (L : List (List Nat)) (x2 x3 : Option V), σ = [some (.ref a), some (.ref p), x2, x3] ∧ Same H H' ∧ H p = none ∧ H' p = some (.lst ys) ∧ LotsH H' ys L ∧ L.Perm ((subs n).filter fun l => decide (l.length < i)) ∧ LotsBy L)
      ⟨p0, [], [], none, none, rfl, s0, hp0, upd_same, .nil, by rw [List.filter_eq_nil_iff.mpr (by simp)], .nil⟩ ?_ ?_
    · rintro i σ H1 hi ⟨p, ys, L, _, _, rfl, s1, g0, g1, g2, g3, g4⟩
      have il : i < 64 := by omega
      have few := subs_few n hn i il
      rw [show (0 : Int) + (i : Int) = (i : Int) by omega]
      refine ⟨_, rfl, _, rfl, a, rfl, ⟨_, s1.seq hS⟩, fun D hD => ?_⟩
      have sD := same_new (o := .lst []) hD
      refine it_list (K := K) (a := a) (xs := xs) (fun j H' => ∃ zs, H' D = some (.lst zs) ∧ LotsH H' zs (((subs n).take j).filter fun l => decide (l.length = i)) ∧ Same H1 H')
        ⟨[], upd_same, by rw [List.take_zero]; exact .nil, sD⟩ (fun j H' ⟨_, _, _, s5⟩ => (s1.trans s5).seq hS) ?_ ?_
      · rintro j x H2 hx ⟨zs, f1, f2, f3⟩
        have s2 := s1.trans f3
        obtain ⟨l, hl, ⟨t, rfl, tl⟩⟩ := (hL.mono (Same.kt s2)).getV hx
        have tk := take_succ' hl
        have zl : zs.length ≤ 64 := by
          rw [f2.length]
          refine Nat.le_trans (List.length_filter_le _ _) ?_
          rw [List.length_take, subs_len]
          omega
        refine ⟨rfl, _, rfl, t, _, rfl, .inr (SqT.of tl), _, rfl, rfl, _, rfl, ?_⟩
        rw [List.length_map, pI, List.length_map]
        show if decide (V.int ((l.length : Nat) : Int) = V.int (i : Int)) = true then _ else _
        by_cases c : l.length = i
        · rw [decide_eq_true (by rw [c])]
          refine iteT ?_
          refine ⟨_, rfl, _, f1, small1000 (by omega), zs ++ [.ref t], upd_same, ?_, Same.mut f3 hD⟩
          rw [tk, List.filter_append, List.filter_cons_of_pos (by simp [c]), List.filter_nil]
          exact (f2.snoc ⟨t, rfl, tl⟩).mono (KT.updl f1)
        · have c' : ¬ (V.int ((l.length : Nat) : Int) = V.int (i : Int)) := by
            intro e
            injection e with e
            omega
          rw [decide_eq_false c']
          refine iteF ⟨zs, f1, ?_, f3⟩
          rw [tk, List.filter_append, List.filter_cons_of_neg (by simp [c]), List.filter_nil, List.append_nil]
          exact f2
      · rintro H2 ⟨zs, f1, f2, f3⟩
        rw [xl, ← subs_len n, List.take_length] at f2
        have zl := f2.length
        refine ⟨D, zs, i, rfl, SqL.of f1, by omega, fun x hx => ?_, fun e => by rw [zl]; exact few.2 e, fun us q pu ou hq => ?_⟩
        · obtain ⟨l, hl, tl⟩ := f2.memV hx
          have hl2 := List.mem_filter.mp hl
          exact ⟨_, tl.to, by rw [pI, List.length_map]; exact of_decide_eq_true hl2.2, pI_bd (subs_lt hl2.1) hn⟩
        · obtain ⟨M, m1, m2⟩ := f2.perm pu.symm
          have om := (m2.to (K := K)).pairs ou
          have sq := same_new (o := .lst us) hq
          have s12 := f3.trans sq
          have g1' := s12 _ _ g1
          have Ll : ys.length + us.length ≤ 128 := by
            rw [g2.length, g3.length_eq, pu.length_eq, zl]
            have := List.length_filter_le (fun l : List Nat => decide (l.length < i)) (subs n)
            have := subs_len n
            omega
          refine ⟨p, q, ys, us, rfl, rfl, g1', upd_same, Nat.le_of_lt (small1000 (by omega)), fun r hr => ?_⟩
          have sr := same_new (o := .lst (ys ++ us)) hr
          refine ⟨r, ys ++ us, L ++ M, _, _, rfl, s1.trans (s12.trans sr), none_back (s1.trans s12) hr, upd_same, (g2.mono (Same.kt (s12.trans sr))).append ((m2.mono (Same.kt (sq.trans sr)))), ?_, ?_⟩
          · exact (g3.append m1.symm).trans filt_succ.symm
          · refine List.pairwise_append.mpr ⟨g4, ?_, fun x hx y hy => ?_⟩
            · refine List.Pairwise.imp_of_mem (fun {x y} hx hy h => .inr ⟨?_, h⟩) om
              have a1 := of_decide_eq_true (List.mem_filter.mp (m1.mem_iff.mpr hx)).2
              have a2 := of_decide_eq_true (List.mem_filter.mp (m1.mem_iff.mpr hy)).2
              omega
            · have a1 := of_decide_eq_true (List.mem_filter.mp (g3.mem_iff.mp hx)).2
              have a2 := of_decide_eq_true (List.mem_filter.mp (m1.mem_iff.mpr hy)).2
              left
              omega
    · rintro σ H1 ⟨p, ys, L, _, _, rfl, s1, g0, g1, g2, g3, g4⟩
      refine ⟨_, rfl, k p ys L H1 s1 g0 g1 g2 ?_ g4⟩
      have e : ((subs n).filter fun l => decide (l.length < ((xs.length : Nat) : Int).toNat)) = subs n := List.filter_eq_self.mpr fun l hl => by
        have := subs_size hl
        exact decide_eq_true (by omega)
      rw [e] at g3
      exact g3
def sp__law_lotsH (K : PySem.W.Frag) : Sp := fun vs H Q _ => ∃ n : Nat, vs = [.int (n : Int)] ∧ n ≤ 6 ∧ ∀ (p : Addr) (ys : List V) (L : List (List Nat)) H', Same H H' → H p = none → H' p = some (.lst ys) → LotsH H' ys L → L.Perm (subs n) → LotsBy L → Q (.ref p) H'
theorem ok__law_lots_t (F : FnD K mg "_law_lots" s__law_lots) (c__law_by_size_t : Cal P w K mg base 1 "_law_by_size" (sp__law_by_sizeH K) []) (T_range : mg "range" = none) : Cal P w K mg base 2 "_law_lots" (sp__law_lotsH K) [] := by
  refine calOf F sc__law_lots (fun _ _ _ _ _ _ us hl => match us, hl with | [_], _ => rfl) (fun vs H Q E h => ?_) (fun cdv f A outer s H vs Q E hr h => ?_)
  · obtain ⟨_, rfl, _⟩ := h
    rfl
  · obtain ⟨n, rfl, hn, k⟩ := h
    have c__law_by_size := c__law_by_size_t
    refine ⟨_, (pss_cons (ps_set (i := 1) sc__law_lots.nd rfl (Or.inl rfl) (pe_lst (pa_cons (pe_tup pa_nil) pa_nil)))
    (pss_cons (ps_for PassesOwn.never rfl (pi_range1 (by rfl) T_range (pa_cons (pv 0) pa_nil)) (pg_name (i := 2) sc__law_lots.nd rfl (Or.inr rfl)) (pss_one (ps_set (i := 1) sc__law_lots.nd rfl (Or.inl rfl) (pe_op op_cat (pv 1) (pe_lc (own := [("_law_lot", 3)]) (te := tOp (rCatA K) (tVar 3) (tTup (tCons (tVar 2) tNil))) (by rfl) sc__law_lots.nd (pi_list (pv 1)) (blkOk_by (own := [("_law_lot", 3)]) (N := ["_law_people_here", "_law_found", "_law_person", "_law_lot"]) (sc := defScope s__law_lots) (by decide +kernel)) (fun _ _ _ _ _ => (pg_name (i := 3) sc__law_lots.nd rfl (Or.inl rfl))) (fun _ _ _ _ _ => pts_nil) (fun _ _ _ _ _ => (pe_op op_catA (pv 3) (pe_tup (pa_cons (pv 2) pa_nil)))))))))
    (pss_one (ps_ret (pe_c c__law_by_size hr (by first | decide | omega) rfl (pa_cons (pv 1) pa_nil)))))), ?_⟩
    refine ⟨Nat.zero_le _, fun pe hpe => ⟨(by show 1 ≤ sizeLine; decide), fun p0 hp0 => ?_⟩⟩
    have se := same_new (o := .tup []) hpe
    have s0 := same_new (o := .lst [.ref pe]) hp0
    refine ⟨_, rfl, _, rfl, by omega, by omega, ?_⟩
    refine for_range (lo := 0) (n := ((n : Nat) : Int).toNat) (fun i σ H' => ∃ (p : Addr) (ys : List V) (x2 x3 : Option V), σ = [some (.int (n : Int)), some (.ref p), x2, x3] ∧ Same H H' ∧ H' p = some (.lst ys) ∧ LotsH H' ys (subs i))
      ⟨p0, _, none, none, rfl, se.trans s0, upd_same, .cons ⟨pe, rfl, s0 _ _ upd_same⟩ .nil⟩ ?_ ?_
    · rintro i σ H1 hi ⟨p, ys, _, _, rfl, s1, g1, g2⟩
      have il : i < 6 := by omega
      have yl : ys.length = 2 ^ i := by rw [g2.length, subs_len]
      have p2 : 2 ^ i ≤ 32 := Nat.le_trans (Nat.pow_le_pow_right (by omega) (show i ≤ 5 by omega)) (show 2 ^ 5 ≤ 32 by decide)
      rw [show (0 : Int) + (i : Int) = (i : Int) by omega]
      refine ⟨_, rfl, _, rfl, p, rfl, ⟨_, SqL.of g1⟩, fun D hD => ?_⟩
      have sD := same_new (o := .lst []) hD
      refine it_list (K := K) (a := p) (xs := ys) (fun j H' => ∃ zs, H' D = some (.lst zs) ∧ LotsH H' zs (((subs i).take j).map fun l => l ++ [i]) ∧ Same H1 H')
        ⟨[], upd_same, by rw [List.take_zero]; exact .nil, sD⟩ (fun j H' ⟨_, _, _, s5⟩ => s5.seq (SqL.of g1)) ?_ ?_
      · rintro j x H2 hx ⟨zs, f1, f2, f3⟩
        obtain ⟨l, hl, ⟨t, rfl, tl⟩⟩ := (g2.mono (Same.kt f3)).getV hx
        have tk := take_succ' hl
        have ll := subs_size (List.mem_of_getElem? hl)
        have zl : zs.length ≤ 64 := by rw [f2.length, List.length_map, List.length_take, subs_len]; omega
        refine ⟨rfl, _, rfl, _, rfl, (by show 1 ≤ sizeLine; decide), fun q hq => ?_⟩
        have sq := same_new (o := .tup [.int (i : Int)]) hq
        refine catH_ok (sq _ _ tl) upd_same (by rw [List.length_map, pI, List.length_map]; show l.length + 1 < 1000; omega) fun r H3 s3 hr' => ?_
        have s23 := sq.trans s3
        refine ⟨zs, s23 _ _ f1, small1000 (by omega), zs ++ [.ref r], upd_same, ?_, Same.mut (f3.trans s23) hD⟩
        rw [tk, List.map_append]
        refine ((f2.mono (Same.kt s23)).snoc ⟨r, rfl, ?_⟩).mono (KT.updl (s23 _ _ f1))
        show H3 r = some (.tup (pV (l ++ [i])))
        rw [pV_snoc]
        exact hr'
      · rintro H2 ⟨zs, f1, f2, f3⟩
        rw [yl, ← subs_len i, List.take_length] at f2
        refine ⟨p, D, ys, zs, rfl, rfl, f3 _ _ g1, f1, Nat.le_of_lt (small1000 ?_), fun r hr' => ?_⟩
        · rw [f2.length, List.length_map, subs_len, yl]; omega
        · have sr := same_new (o := .lst (ys ++ zs)) hr'
          exact ⟨r, _, _, _, rfl, s1.trans (f3.trans sr), upd_same, (g2.mono (Same.kt (f3.trans sr))).append (f2.mono (Same.kt sr))⟩
    · rintro σ H1 ⟨p, ys, _, _, rfl, s1, g1, g2⟩
      rw [Int.toNat_natCast] at g2
      exact ⟨_, rfl, p, ys, n, rfl, hn, SqL.of g1, g2, fun r us L H2 s2 h0 h1 h2 h3 h4 => k r us L H2 (s1.trans s2) (none_back s1 h0) h1 h2 h3 h4⟩
end
end CB

set_option Elab.async false
set_option linter.all false
set_option maxRecDepth 100000
set_option maxHeartbeats 4000000
/-! worked, told_by of terms and bids with known bottoms -/
namespace CB
open PySem PySem.Spec PyProof.Rows L2
open C8 (Cal Met Mak pe_c pe_mk pe_mt pe_mt0 pe_gc CalAt)
section
variable {P : Program} {w : World} {K : PySem.W.Frag} {mg : Str → Option Value} {base : Heap}
/-- the parts of a mean of terms -/
def mpC (s : Nat) (bs : List Rat) (ws : List Int) (ts : List Tm) : List MPart := List.zipWith (fun w t => (w, t.val bs, 1000)) ws ts
theorem mpC_ws (s : Nat) (bs : List Rat) : ∀ {ws : List Int} {ts : List Tm}, ws.length = ts.length → (mpC s bs ws ts).map (fun x => x.1) = ws
  | [], [], _ => rfl
  | w :: ws, t :: ts, h => by
    have ih := mpC_ws s bs (ws := ws) (ts := ts) (by simpa using h)
    show w :: (mpC s bs ws ts).map (fun x => x.1) = w :: ws
    rw [ih]
theorem mpC_qs (s : Nat) (bs : List Rat) : ∀ {ws : List Int} {ts : List Tm}, ws.length = ts.length → (mpC s bs ws ts).map (fun x => x.2.1) = Tm.vals bs ts
  | [], [], _ => rfl
  | w :: ws, t :: ts, h => by
    have ih := mpC_qs s bs (ws := ws) (ts := ts) (by simpa using h)
    show t.val bs :: (mpC s bs ws ts).map (fun x => x.2.1) = _
    rw [ih, Tm.vals]
theorem mpC_sz (s : Nat) (bs : List Rat) : ∀ {ws : List Int} {ts : List Tm}, ws.length = ts.length → wsz (mpC s bs ws ts) = ts.length * 1008
  | [], [], _ => rfl
  | w :: ws, t :: ts, h => by
    have ih := mpC_sz s bs (ws := ws) (ts := ts) (by simpa using h)
    show (1000 + 8) + wsz (mpC s bs ws ts) = _
    rw [ih, List.length_cons]; omega
theorem mpC_avg (s : Nat) (bs : List Rat) {ws : List Int} {ts : List Tm} (h : ws.length = ts.length) : wsum (mpC s bs ws ts) / ((wtot (mpC s bs ws ts) : Int) : Rat) = wavg ws (Tm.vals bs ts) := by
  have e1 : wtot (mpC s bs ws ts) = ws.sum := by
    unfold wtot
    rw [mpC_ws s bs h]
  have e2 : wsum (mpC s bs ws ts) = (List.zipWith (fun (w : Int) (q : Rat) => (w : Rat) * q) ws (Tm.vals bs ts)).sum := by
    clear e1
    induction ws generalizing ts with
    | nil =>
      cases ts with
      | nil => rfl
      | cons t ts => simp at h
    | cons w ws ih =>
      cases ts with
      | nil => simp at h
      | cons t ts =>
        have := ih (ts := ts) (by simpa using h)
        show wsum ((w, t.val bs, 1000) :: mpC s bs ws ts) = _
        rw [wsum_cons, this, Tm.vals]
        simp
  rw [e1, e2]
  rfl
theorem mpC_mem {s : Nat} {bs : List Rat} {ws : List Int} {ts : List Tm} {x : MPart} (h : x ∈ mpC s bs ws ts) : x.1 ∈ ws ∧ ∃ t ∈ ts, x.2 = (t.val bs, 1000) := by
  induction ws generalizing ts with
  | nil => cases h
  | cons w ws ih =>
    cases ts with
    | nil => cases h
    | cons t ts =>
      rcases List.mem_cons.mp (show x ∈ (w, t.val bs, 1000) :: mpC s bs ws ts from h) with e | e
      · subst e
        exact ⟨List.mem_cons_self, t, List.mem_cons_self, rfl⟩
      · obtain ⟨h1, u, h2, h3⟩ := ih e
        exact ⟨List.mem_cons_of_mem _ h1, u, List.mem_cons_of_mem _ h2, h3⟩
theorem mpC_length {s : Nat} {bs : List Rat} {ws : List Int} {ts : List Tm} (h : ws.length = ts.length) : (mpC s bs ws ts).length = ts.length := by
  unfold mpC
  rw [List.length_zipWith, h, Nat.min_self]
theorem DvB.kid {t u : Tm} {bs : List Rat} (h : DvB t bs) (m : u ∈ t.children) : DvB u bs := by
  obtain ⟨N, W, h1, h2, h3, h4, h5⟩ := h
  have dl : u.dep ≤ t.dep := by rw [dep_children t]; have := deps_mem m; omega
  refine ⟨N, W, h1, h2, ?_, Nat.lt_of_le_of_lt (Nat.mul_le_mul_left _ (Nat.pow_le_pow_right h2 dl)) h4, h5⟩
  cases t with
  | bid p => cases m
  | fixed q => cases m
  | mean ws ts => exact (dvs_iff _ _ _).mp h3.2.2 u m
  | least ts => exact (dvs_iff _ _ _).mp h3 u m
  | greatest ts => exact (dvs_iff _ _ _).mp h3 u m
  | ranked k ts => exact (dvs_iff _ _ _).mp h3 u m
  | between lo hi t => rw [List.mem_singleton.mp m]; exact h3.2.2
def spWd (K : PySem.W.Frag) (C : Addr) (D : Nat) : Sp := fun vs H Q _ => ∃ (v : V) (ab b dx : Addr) (n s : Nat) (bs : List Rat) (t : Tm), vs = [v, .ref ab, .ref b] ∧ Rp K H v t.data ∧ t.Ok n s ∧ s ≤ 9000 ∧ t.dep ≤ D ∧ DvB t bs ∧ Bids K H ab n s bs ∧ H b = some (.ins C dx []) ∧
  ∀ v H', Same H H' → RF K H' v (t.val bs) → Q v H'
theorem ok_worked_t {C : Addr} (F : FnD K mg "worked" s_worked) (c_inner_terms : Cal P w K mg base 1 "inner_terms" (sp_inner_terms K) []) (m_fixed : Met P w K mg base 1 C "fixed" (sp_fixed C) []) (m_mean : Met P w K mg base 4 C "mean" (sp_self (sp_mean_of K)) [])
    (m_lesser : Met P w K mg base 3 C "lesser" (sp_self (sp_lesser K)) []) (m_greater : Met P w K mg base 3 C "greater" (sp_self (sp_greater K)) []) (c_least_of : Cal P w K mg base 4 "least_of" (sp_pick K C minL) []) (c_greatest_of : Cal P w K mg base 4 "greatest_of" (sp_pick K C maxL) [])
    (c_kth_greatest : Cal P w K mg base 5 "kth_greatest" (sp_kth K C) []) : ∀ D : Nat, Cal P w K mg base (D + 6) "worked" (spWd K C D) [] := by
  intro D
  induction D with
  | zero => exact calOf (k := 5) F sc_worked (fun _ _ _ _ _ _ us hl => match us, hl with | [_, _, _], _ => rfl) (fun vs H Q E h => by obtain ⟨_, _, _, _, _, _, _, t, _, _, _, _, h, _⟩ := h; rw [dep_children t] at h; omega) (fun cdv f A outer s H vs Q E hr h => by obtain ⟨_, _, _, _, _, _, _, t, _, _, _, _, h, _⟩ := h; rw [dep_children t] at h; omega)
  | succ D ih =>
    have c_worked := ih
    refine calOf (k := D + 6) F sc_worked (fun _ _ _ _ _ _ us hl => match us, hl with | [_, _, _], _ => rfl) (fun vs H Q E h => ?_) (fun cdv f A outer s H vs Q E hr h => ?_)
    · obtain ⟨_, _, _, _, _, _, _, _, rfl, _⟩ := h
      rfl
    · obtain ⟨v, ab, b, dx, n, sz, bs, t, rfl, rt, ho, hsz, hdep, hwt, hB, hb, k⟩ := h
      have hdc := dep_children t
      have hno : ∀ f : Str, ([] : List (Str × V)).lookup f = none := fun _ => rfl
      obtain ⟨us, hB1, hB2, hB3, hB4⟩ := id hB
      refine ⟨_, (pss_cons (ps_set (i := 3) sc_worked.nd rfl (Or.inl rfl) (pe_ix ix_tup (pv 0) pe_int (fun _ _ => rfl)))
    (pss_cons (ps_if (pt_cmpR op_eq (pv 3) pe_str (nomark _)) (pss_one (ps_ret (pe_ix ix_tup (pv 1) (pe_ix ix_tup (pv 0) pe_int (fun _ _ => rfl)) (fun _ _ => rfl)))) pss_nil)
    (pss_cons (ps_if (pt_cmpR op_eq (pv 3) pe_str (nomark _)) (pss_one (ps_ret (pe_mt m_fixed hr (by first | decide | omega) (pv 2) (pa_cons (pe_ix ix_tup (pv 0) pe_int (fun _ _ => rfl)) pa_nil)))) pss_nil)
    (pss_cons (ps_setLc (i := 4) (own := [("part", 5)]) (by rfl) sc_worked.nd rfl rfl (sw_true rfl rfl rfl (by decide +kernel)) (pi_tup (pe_c c_inner_terms hr (by first | decide | omega) rfl (pa_cons (pv 0) pa_nil))) (blkOk_by (own := [("part", 5)]) (N := ["term", "bids", "ways", "word", "inner", "part", "weight", "_"]) (sc := defScope s_worked) (by decide +kernel)) (fun _ _ _ _ _ => (pg_name (i := 5) sc_worked.nd rfl (Or.inl rfl))) (fun _ _ _ _ _ => pts_nil) (fun _ _ _ _ _ => (pe_c c_worked hr (by first | decide | omega) rfl (pa_cons (pv 5) (pa_cons (pv 1) (pa_cons (pv 2) pa_nil))))))
    (pss_cons (ps_if (pt_cmpR op_eq (pv 3) pe_str (nomark _)) (pss_one (ps_ret (pe_mt m_mean hr (by first | decide | omega) (pv 2) (pa_cons (pe_lc (own := [("weight", 6), ("_", 7)]) (g := (gTup K 2 (gCons (gName 6) (gCons (gName 7) gNil)))) (by rfl) sc_worked.nd (pi_tup (pe_ix ix_tup (pv 0) pe_int (fun _ _ => rfl))) (blkOk_by (own := [("weight", 6), ("_", 7)]) (N := ["term", "bids", "ways", "word", "inner", "part", "weight", "_"]) (sc := defScope s_worked) (by decide +kernel)) (fun _ _ _ _ _ => (pg_tup rfl (pgs_cons (pg_name (i := 6) sc_worked.nd rfl (Or.inl rfl)) (pgs_cons (pg_name (i := 7) sc_worked.nd rfl (Or.inl rfl)) pgs_nil)))) (fun _ _ _ _ _ => pts_nil) (fun _ _ _ _ _ => (pv 6))) (pa_cons (pv 4) pa_nil))))) pss_nil)
    (pss_cons (ps_if (pt_cmpR op_eq (pv 3) pe_str (nomark _)) (pss_one (ps_ret (pe_mt m_greater hr (by first | decide | omega) (pv 2) (pa_cons (pe_mt m_fixed hr (by first | decide | omega) (pv 2) (pa_cons (pe_ix ix_tup (pv 0) pe_int (fun _ _ => rfl)) pa_nil)) (pa_cons (pe_mt m_lesser hr (by first | decide | omega) (pv 2) (pa_cons (pe_mt m_fixed hr (by first | decide | omega) (pv 2) (pa_cons (pe_ix ix_tup (pv 0) pe_int (fun _ _ => rfl)) pa_nil)) (pa_cons (pe_ix ix_list (pv 4) pe_int (fun _ _ => rfl)) pa_nil))) pa_nil))))) pss_nil)
    (pss_cons (ps_if (pt_cmpR op_eq (pv 3) pe_str (nomark _)) (pss_one (ps_ret (pe_c c_least_of hr (by first | decide | omega) rfl (pa_cons (pv 4) (pa_cons (pv 2) pa_nil))))) pss_nil)
    (pss_cons (ps_if (pt_cmpR op_eq (pv 3) pe_str (nomark _)) (pss_one (ps_ret (pe_c c_greatest_of hr (by first | decide | omega) rfl (pa_cons (pv 4) (pa_cons (pv 2) pa_nil))))) pss_nil)
    (pss_one (ps_ret (pe_c c_kth_greatest hr (by first | decide | omega) rfl (pa_cons (pe_ix ix_tup (pv 0) pe_int (fun _ _ => rfl)) (pa_cons (pv 4) (pa_cons (pv 2) pa_nil)))))))))))))), ?_⟩
      obtain ⟨a, r, rfl, ha⟩ := t_head rt
      refine ⟨_, rfl, _, _, _, _, rfl, rfl, ha, at_of (j := 0) rfl rfl, ?_⟩
      refine ⟨_, rfl, rfl, _, rfl, ite2 (fun c => ?_) (fun c1 => ?_)⟩
      · cases t with
        | bid p =>
          obtain ⟨a2, e, ha2⟩ := t_bid rt
          cases e
          have hp : p < bs.length := by rw [hB3]; exact ho
          obtain ⟨x, hx, rx⟩ := RQ.get hB2 (List.getElem?_eq_getElem hp)
          have ev : (Tm.bid p).val bs = bs[p] := by show bs.getD p 0 = _; rw [List.getD_eq_getElem?_getD, List.getElem?_eq_getElem hp]; rfl
          refine ⟨_, rfl, _, rfl, _, _, _, _, rfl, rfl, ha2, rfl, ab, us, _, x, rfl, rfl, hB1, at_of (j := p) rfl hx, k x _ (Same.refl _) ?_⟩
          rw [ev]
          exact rx
        | _ => exact absurd (of_decide_eq_true c) (by simp only [Tm.word]; decide +kernel)
      refine ⟨_, rfl, rfl, _, rfl, ite2 (fun c => ?_) (fun c2 => ?_)⟩
      · cases t with
        | fixed q =>
          obtain ⟨a2, x, e, ha2, hx⟩ := t_fixed rt
          cases e
          exact ⟨_, rfl, b, dx, [], rfl, hb, rfl, _, rfl, _, _, _, _, rfl, rfl, ha2, rfl, b, x, rfl, k x _ (Same.refl _) hx⟩
        | _ => exact absurd (of_decide_eq_true c) (by simp only [Tm.word]; decide +kernel)
      -- what comes of the terms within
      refine ⟨_, rfl, _, t, rfl, rt, mean_of_ok ho, fun p ws H1 s1 hp hw => ⟨p, rfl, ⟨_, hp⟩, fun L hL => ?_⟩⟩
      have kl := kids_len ho
      have hwl : ws.length = t.children.length := RTs.length hw
      refine it_tup (K := K) (a := p) (xs := ws) (fun i H' => ∃ zs : List V, H' L = some (.lst zs) ∧ RQ K H' zs (Tm.vals bs (t.children.take i)) ∧ Same H1 H')
        ⟨[], upd_same, by rw [List.take_zero]; exact .nil, same_new hL⟩ (fun i H' ⟨_, _, _, s5⟩ => (Same.kt s5).sq hp) ?_ ?_
      · rintro i x H' hx ⟨zs, g1, g2, g3⟩
        obtain ⟨u, hu, ru⟩ := RTs.getV hw hx
        have mu := List.mem_of_getElem? hu
        have ud := deps_mem mu
        have zl : zs.length ≤ 8 := by rw [RQ.length g2, vals_length, List.length_take]; omega
        have kt := Same.kt (s1.trans g3)
        refine ⟨rfl, _, rfl, _, rfl, _, rfl, x, ab, b, dx, n, sz, bs, u, rfl, ru.mono (Same.kt g3), (oks_iff _ _ _).mp (ok_children ho) u mu, hsz, by omega, hwt.kid mu, hB.mono kt, (s1.trans g3) _ _ hb, fun y H2 s2 ry => ?_⟩
        refine ⟨zs, s2 _ _ g1, small1000 (by omega), zs ++ [y], upd_same, ?_, Same.mut (g3.trans s2) hL⟩
        have e1 : Tm.vals bs (t.children.take (i + 1)) = Tm.vals bs (t.children.take i) ++ [u.val bs] := by
          rw [take_succ' hu, vals_map, vals_map, List.map_append]
          rfl
        rw [e1]
        exact RpAll.mono (KT.updl (s2 _ _ g1)) (RQ.snoc (RpAll.mono (Same.kt s2) g2) ry)
      · rintro H2 ⟨zs, g1, g2, g3⟩
        rw [hwl, List.take_length] at g2
        have s2 := s1.trans g3
        have hb2 := s2 _ _ hb
        have hz : ∀ q ∈ Tm.vals bs t.children, Sz 9000 q := by
          intro q hq
          rw [vals_map] at hq
          obtain ⟨u, hu, rfl⟩ := List.mem_map.mp hq
          exact ((hwt.kid hu).sz ((oks_iff _ _ _).mp (ok_children ho) u hu) hB3 fun q h => ⟨(hB4 q h).1, (hB4 q h).2.1⟩).mono (by omega)
        cases t with
        | bid p => exact absurd (decide_eq_true rfl) c1
        | fixed q => exact absurd (decide_eq_true rfl) c2
        | mean ws2 ts =>
          obtain ⟨wl, tne, tl, hwb, hob⟩ := ho
          refine ⟨_, rfl, rfl, _, rfl, ite2 (fun _ => ?_) (fun c => absurd (decide_eq_true rfl) c)⟩
          obtain ⟨a2, b2, us2, e, ha2, hb3, hu2⟩ := t_mean rt
          cases e
          have ha3 := (Same.kt s2).sq ha2
          have hb4 := (Same.kt s2).sq hb3
          have hu3 := RpAll.mono (Same.kt s2) hu2
          have ul : us2.length = ts.length := by rw [hu2.length, meanD_length _ _ (by rw [datas_map, List.length_map]; exact wl), datas_map, List.length_map]
          refine ⟨_, rfl, b, dx, [], rfl, hb2, rfl, _, rfl, _, _, _, _, rfl, rfl, ha3, rfl, b2, rfl, ⟨_, hb4⟩, fun M hM => ?_⟩
          refine it_tup (K := K) (a := b2) (xs := us2) (fun i H' => H' M = some (.lst ((ws2.take i).map V.int)) ∧ Same H2 H')
            ⟨by rw [List.take_zero]; exact upd_same, same_new hM⟩ (fun i H' ⟨_, s5⟩ => (Same.kt s5).sq hb4) ?_ ?_
          · rintro i x H' hx ⟨q1, q2⟩
            obtain ⟨c, z, t, y, rfl, e1, e2, p1, p2⟩ := mean_part hu3 hx
            have hi := (List.getElem?_eq_some_iff.mp hx).1
            refine ⟨c, _, rfl, (Same.kt q2).sq p1, rfl, _, _, rfl, _, _, rfl, rfl, rfl, _, rfl, _, q1, by rw [List.length_map, List.length_take]; exact small1000 (by omega), ?_, Same.mut q2 hM⟩
            rw [take_succ' e1, List.map_append]
            exact upd_same
          · rintro H3 ⟨q1, q2⟩
            rw [ul, ← wl, List.take_length] at q1
            have nML : L ≠ M := ne_of_none g1 hM
            refine ⟨_, rfl, b, [.ref M, .ref L], rfl, rfl, M, L, zs, mpC sz bs ws2 ts, rfl, ?_, SqL.of (q2 _ _ g1), ?_, ?_, ?_, by rw [mpC_length wl]; exact tl, ?_, fun v H4 s4 r4 _ => ?_⟩
            · have e1 : (mpC sz bs ws2 ts).map (fun x => V.int x.1) = ws2.map V.int := by
                have e0 := congrArg (List.map V.int) (mpC_ws sz bs wl)
                rw [List.map_map] at e0
                exact e0
              rw [e1]
              exact SqL.of q1
            · have e1 : (mpC sz bs ws2 ts).map (fun x => qd x.2.1) = (Tm.vals bs ts).map qd := by
                have e0 := congrArg (List.map qd) (mpC_qs sz bs wl)
                rw [List.map_map] at e0
                exact e0
              rw [e1]
              exact RpAll.mono (Same.kt q2) g2
            · intro e
              have := mpC_length (s := sz) (bs := bs) wl
              rw [e] at this
              exact tne (List.eq_nil_of_length_eq_zero this.symm)
            · intro x hx
              obtain ⟨h1, t, h2, h3⟩ := mpC_mem hx
              have g := hwb _ h1
              rw [MOk, h3]
              exact ⟨g.1, g.2, (hwt.kid (show t ∈ Tm.children (.mean ws2 ts) from h2)).sz ((oks_iff _ _ _).mp hob t h2) hB3 fun q h => ⟨(hB4 q h).1, (hB4 q h).2.1⟩⟩
            · rw [mpC_sz sz bs wl]
              omega
            · rw [mpC_avg sz bs wl] at r4
              exact k v H4 ((s2.trans q2).trans s4) r4
        | least ts =>
          refine ⟨_, rfl, rfl, _, rfl, ite2 (fun c => absurd (of_decide_eq_true c) (by simp only [Tm.word]; decide +kernel)) (fun _ => ?_)⟩
          refine ⟨_, rfl, rfl, _, rfl, ite2 (fun c => absurd (of_decide_eq_true c) (by simp only [Tm.word]; decide +kernel)) (fun _ => ?_)⟩
          refine ⟨_, rfl, rfl, _, rfl, ite2 (fun _ => ?_) (fun c => absurd (decide_eq_true rfl) c)⟩
          exact ⟨_, rfl, _, rfl, L, b, dx, zs, Tm.vals bs ts, rfl, SqL.of g1, hb2, g2, vals_ne ho.1, hz, fun v H3 s3 r3 => k v H3 (s2.trans s3) r3⟩
        | greatest ts =>
          refine ⟨_, rfl, rfl, _, rfl, ite2 (fun c => absurd (of_decide_eq_true c) (by simp only [Tm.word]; decide +kernel)) (fun _ => ?_)⟩
          refine ⟨_, rfl, rfl, _, rfl, ite2 (fun c => absurd (of_decide_eq_true c) (by simp only [Tm.word]; decide +kernel)) (fun _ => ?_)⟩
          refine ⟨_, rfl, rfl, _, rfl, ite2 (fun c => absurd (of_decide_eq_true c) (by simp only [Tm.word]; decide +kernel)) (fun _ => ?_)⟩
          refine ⟨_, rfl, rfl, _, rfl, ite2 (fun _ => ?_) (fun c => absurd (decide_eq_true rfl) c)⟩
          exact ⟨_, rfl, _, rfl, L, b, dx, zs, Tm.vals bs ts, rfl, SqL.of g1, hb2, g2, vals_ne ho.1, hz, fun v H3 s3 r3 => k v H3 (s2.trans s3) r3⟩
        | ranked kk ts =>
          obtain ⟨k1, k2, tl, hob⟩ := ho
          refine ⟨_, rfl, rfl, _, rfl, ite2 (fun c => absurd (of_decide_eq_true c) (by simp only [Tm.word]; decide +kernel)) (fun _ => ?_)⟩
          refine ⟨_, rfl, rfl, _, rfl, ite2 (fun c => absurd (of_decide_eq_true c) (by simp only [Tm.word]; decide +kernel)) (fun _ => ?_)⟩
          refine ⟨_, rfl, rfl, _, rfl, ite2 (fun c => absurd (of_decide_eq_true c) (by simp only [Tm.word]; decide +kernel)) (fun _ => ?_)⟩
          refine ⟨_, rfl, rfl, _, rfl, ite2 (fun c => absurd (of_decide_eq_true c) (by simp only [Tm.word]; decide +kernel)) (fun _ => ?_)⟩
          obtain ⟨a2, b2, us2, e, ha2, _, _⟩ := t_ranked rt
          cases e
          have ek : (kk : Int) = ((kk - 1 : Nat) : Int) + 1 := by omega
          refine ⟨_, rfl, _, _, _, _, rfl, rfl, (Same.kt s2).sq ha2, rfl, _, rfl, _, rfl, L, b, dx, zs, Tm.vals bs ts, kk - 1, congrArg (fun z => [V.int z, V.ref L, V.ref b]) ek, SqL.of g1, hb2, g2, by rw [vals_length]; omega, by rw [vals_length]; exact tl, hz, fun v H3 s3 r3 => k v H3 (s2.trans s3) r3⟩
        | between lo hi t =>
          obtain ⟨n1, n2, hl, hob⟩ := ho
          obtain ⟨a2, x, y, z, e, ha2, rx, ry, rz⟩ := t_between rt
          cases e
          have ha3 := (Same.kt s2).sq ha2
          refine ⟨_, rfl, rfl, _, rfl, ite2 (fun c => absurd (of_decide_eq_true c) (by simp only [Tm.word]; decide +kernel)) (fun _ => ?_)⟩
          refine ⟨_, rfl, rfl, _, rfl, ite2 (fun _ => ?_) (fun c => absurd (decide_eq_true rfl) c)⟩
          obtain ⟨x0, xs0, rfl, r0, rn⟩ := RpAll.consI (show RpAll K H2 zs (qd (t.val bs) :: []) from g2)
          have rf0 := PF.of r0
          have z0 := hz (t.val bs) List.mem_cons_self
          refine ⟨_, rfl, b, dx, [], rfl, hb2, rfl, _, rfl, b, dx, [], rfl, hb2, rfl, _, rfl, _, _, _, _, rfl, rfl, ha3, rfl, b, x, rfl, ?_⟩
          refine ⟨_, rfl, b, dx, [], rfl, hb2, rfl, _, rfl, b, dx, [], rfl, hb2, rfl, _, rfl, _, _, _, _, rfl, rfl, ha3, rfl, b, y, rfl, ?_⟩
          refine ⟨_, rfl, L, _, 0, x0, rfl, rfl, SqL.of g1, at_of (j := 0) rfl rfl, b, [y, x0], rfl, rfl, y, x0, hi, t.val bs, 9000, 9000, rfl, ry.mono (Same.kt s2), rf0, n2.2.2.mono (by omega), z0, by omega, fun v1 r1 => ?_⟩
          exact ⟨b, [x, v1], rfl, rfl, x, v1, lo, _, 9000, 9000, rfl, rx.mono (Same.kt s2), r1, n1.2.2.mono (by omega), sz_rmin (n2.2.2.mono (by omega)) z0, by omega, fun v2 r2 => k v2 H2 s2 r2⟩
def sp_told_byD (K : PySem.W.Frag) : Sp := fun vs H Q _ => ∃ (v : V) (ab : Addr) (n s : Nat) (bs : List Rat) (t : Tm), vs = [v, .ref ab] ∧ Rp K H v t.data ∧ t.Ok n s ∧ s ≤ 9000 ∧ t.dep ≤ 60 ∧ DvB t bs ∧ Bids K H ab n s bs ∧
  ∀ v H', Same H H' → RF K H' v (t.val bs) → Q v H'
theorem ok_told_by_t {C : Addr} (F : FnD K mg "told_by" s_told_by) (c_worked_t : Cal P w K mg base 66 "worked" (spWd K C 60) []) (M_Numbers : Mk0 K C) (g_Numbers : mg "Numbers" = some (.ref C)) : Cal P w K mg base 67 "told_by" (sp_told_byD K) [] := by
  refine calOf F sc_told_by (fun _ _ _ _ _ _ us hl => match us, hl with | [_, _], _ => rfl) (fun vs H Q E h => ?_) (fun cdv f A outer s H vs Q E hr h => ?_)
  · obtain ⟨_, _, _, _, _, _, rfl, _⟩ := h
    rfl
  · obtain ⟨v, ab, n, sz, bs, t, rfl, rt, ho, hs, hd, hw, hB, k⟩ := h
    have c_worked := c_worked_t
    refine ⟨_, (pss_one (ps_ret (pe_c c_worked hr (by first | decide | omega) rfl (pa_cons (pv 0) (pa_cons (pv 1) (pa_cons (pe_mk0 M_Numbers rfl g_Numbers) pa_nil)))))), ?_⟩
    refine ⟨_, rfl, _, rfl, fun x dx nx ndx nex => ?_⟩
    have s1 : Same H (upd (upd H dx (.own x)) x (.ins C dx [])) := (same_new ndx).trans (same_new (by rw [upd_ne (Ne.symm nex)]; exact nx))
    exact ⟨v, ab, x, dx, n, sz, bs, t, rfl, rt.mono (Same.kt s1), ho, hs, hd, hw, hB.mono (Same.kt s1), upd_same, fun v H' s2 r => k v H' (s1.trans s2) r⟩
end
end CB

set_option Elab.async false
set_option linter.all false
set_option maxRecDepth 100000
set_option maxHeartbeats 4000000
namespace CB
open PySem PySem.Spec PyProof.Rows L2
open C8 (Cal Met Mak pe_c pe_mk pe_mt pe_mt0 pe_gc CalAt)
section
variable {P : Program} {w : World} {K : PySem.W.Frag} {mg : Str → Option Value} {base : Heap}
/-- what the bottoms of drawn numbers, the sums of drawn weights divide -/
def N0 : Nat := 119997960
def W0 : Nat := 12252240
theorem N0_pos : 0 < N0 := by decide
theorem W0_pos : 0 < W0 := by decide
theorem den_dvd {a b : Int} (hb : 0 < b) : (Rat.divInt a b).den ∣ b.toNat := by
  have e := divInt_den (a := a) hb
  have g : Nat.gcd a.natAbs b.natAbs ∣ b.natAbs := Nat.gcd_dvd_right _ _
  obtain ⟨c, hc⟩ := g
  have gp := gcd_pos (a := a) hb
  have eb : b = ((Nat.gcd a.natAbs b.natAbs : Nat) : Int) * (c : Int) := by rw [← Int.natCast_mul, ← hc]; omega
  have : ((Rat.divInt a b).den : Int) = (c : Int) := by
    rw [e]
    conv => lhs; lhs; rw [eb]
    rw [Int.mul_ediv_cancel_left _ (by omega)]
  exact ⟨Nat.gcd a.natAbs b.natAbs, by rw [show (Rat.divInt a b).den = c by omega, Nat.mul_comm, ← hc]; omega⟩
theorem bottoms_dvd : ∀ z ∈ bottoms, z.toNat ∣ N0 := by decide
theorem sums_dvd : ∀ s : Nat, 1 ≤ s → s ≤ 18 → s ∣ W0 := by
  intro s h1 h2
  have : ∀ s, s < 19 → (s = 0 ∨ s ∣ W0) := by decide +kernel
  rcases this s (by omega) with h | h
  · omega
  · exact h
theorem sum_dvd {s : Int} (h1 : 1 ≤ s) (h2 : s ≤ 18) : 0 < s ∧ s ∣ (W0 : Int) := by
  refine ⟨by omega, ?_⟩
  have := Int.natCast_dvd_natCast.mpr (sums_dvd s.toNat (by omega) (by omega))
  rwa [Int.toNat_of_nonneg (by omega)] at this
theorem sum_bd {m : Int} : ∀ {ws : List Int}, (∀ w ∈ ws, 1 ≤ w ∧ w ≤ m) → (ws.length : Int) ≤ ws.sum ∧ ws.sum ≤ m * (ws.length : Int)
  | [], _ => by simp
  | w :: ws, h => by
    have ih := sum_bd (ws := ws) fun x hx => h x (List.mem_cons_of_mem _ hx)
    have hw := h w List.mem_cons_self
    rw [List.sum_cons, List.length_cons]
    push_cast
    rw [Int.mul_add, Int.mul_one]
    omega
def sp__law_numberD (K : PySem.W.Frag) : Sp := fun vs H Q _ => ∃ d : Addr × Addr, vs = [.ref d.1] ∧ Dice H d ∧ ∀ v q H', NumOk 20 q → q.den ∣ N0 → RF K H' v q → Dice H' d → KD d.1 H H' → Q v H'
theorem ok__law_number_t (F : FnD K mg "_law_number" s__law_number) (c__law_draw : Cal P w K mg base 1 "_law_draw" sp__law_draw []) (c__law_lowest : Cal P w K mg base 1 "_law_lowest" (sp_lowest K) []) : Cal P w K mg base 2 "_law_number" (sp__law_numberD K) [] := by
  refine calOf F sc__law_number (fun _ _ _ _ _ _ us hl => match us, hl with | [_], _ => rfl) (fun vs H Q E h => ?_) (fun cdv f A outer s H vs Q E hr h => ?_)
  · obtain ⟨_, rfl, _⟩ := h
    rfl
  · obtain ⟨da, rfl, hd, k⟩ := h
    refine ⟨_, (pss_cons (ps_set (i := 1) sc__law_number.nd rfl (Or.inl rfl) (pe_ix ix_list (pe_lst (pa_cons pe_int (pa_cons pe_int (pa_cons pe_int (pa_cons pe_int (pa_cons pe_int (pa_cons pe_int (pa_cons pe_int (pa_cons pe_int (pa_cons pe_int (pa_cons pe_int (pa_cons pe_int pa_nil)))))))))))) (pe_c c__law_draw hr (by first | decide | omega) rfl (pa_cons (pv 0) (pa_cons pe_int pa_nil))) (fun _ _ => rfl)))
    (pss_one (ps_ret (pe_c c__law_lowest hr (by first | decide | omega) rfl (pa_cons (pe_c c__law_draw hr (by first | decide | omega) rfl (pa_cons (pv 0) (pa_cons (pe_op op_add (pv 1) pe_int) pa_nil))) (pa_cons (pv 1) pa_nil)))))), ?_⟩
    refine ⟨(by show 11 ≤ sizeLine; decide), fun p hp => ?_⟩
    have npd := (hd.ne hp).1
    refine ⟨_, rfl, da, 11, rfl, hd.same (same_new hp), by decide, by decide, fun r H1 r0 r1 d1 k1 => ?_⟩
    have hl : H1 p = some (.lst (bottoms.map V.int)) := k1 p _ npd upd_same
    obtain ⟨z, hz⟩ : ∃ z, bottoms[r.toNat]? = some z := ⟨bottoms[r.toNat]'(by show r.toNat < 11; omega), List.getElem?_eq_getElem _⟩
    have zb := bottoms_ok z (List.mem_of_getElem? hz)
    have hz' : (bottoms.map V.int)[r.toNat]? = some (.int z) := by rw [List.getElem?_map, hz]; rfl
    refine ⟨p, _, r, _, rfl, rfl, SqL.of hl, at_of (j := r.toNat) (by omega) hz', ?_⟩
    refine ⟨_, rfl, _, rfl, _, _, rfl, rfl, da, z + 1, rfl, d1, by omega, by omega, fun r2 H2 g0 g1 d2 k2 => ?_⟩
    refine ⟨_, rfl, r2, z, rfl, by omega, Nat.lt_of_lt_of_le (show z.natAbs < 2 ^ 20 by omega) (Nat.pow_le_pow_right (by omega) (by omega)), fun v H3 e3 r3 => ?_⟩
    exact k v _ H3 (numOk_divInt g0 (by omega) (by omega) (by omega)) (Nat.dvd_trans (den_dvd (by omega)) (bottoms_dvd z (List.mem_of_getElem? hz))) r3 (d2.same e3) ((((Same.kd (same_new hp)).trans k1).trans k2).trans (Same.kd e3))
def sp__law_numbersD (K : PySem.W.Frag) : Sp := fun vs H Q _ => ∃ (d : Addr × Addr) (n : Nat), vs = [.ref d.1, .int (n : Int)] ∧ Dice H d ∧ n ≤ 1000 ∧ ∀ (v : V) (qs : List Rat) (H' : Hp), qs.length = n → (∀ q ∈ qs, NumOk 20 q ∧ q.den ∣ N0) → Rp K H' v (.tuple (qs.map qd)) → Dice H' d → KD d.1 H H' → Q v H'
end
end CB

set_option Elab.async false
set_option linter.all false
set_option maxRecDepth 100000
set_option maxHeartbeats 4000000
namespace CB
open PySem PySem.Spec PyProof.Rows L2
open C8 (Cal Met Mak pe_c pe_mk pe_mt pe_mt0 pe_gc CalAt)
section
variable {P : Program} {w : World} {K : PySem.W.Frag} {mg : Str → Option Value} {base : Heap}
/-- a drawn term, with what its bottoms divide -/
structure DrawnD (n d : Nat) (t : Tm) : Prop extends Drawn n d t where
  dv : t.Dv N0 W0
def sp__law_termD (K : PySem.W.Frag) (d : Nat) : Sp := fun vs H Q _ => ∃ (da : Addr × Addr) (n : Nat) (m : Bool), vs = [.ref da.1, .int (n : Int), .int ((d : Int) + 1), .bl m] ∧ Dice H da ∧ 1 ≤ n ∧ n ≤ 6 ∧
  ∀ (v : V) (t : Tm) (H' : Hp), Rp K H' v t.data → DrawnD n d t → Dice H' da → KD da.1 H H' → Q v H'
/-- the promise of a call that goes less than D + 1 deep -/
def spTD (K : PySem.W.Frag) (D : Nat) : Sp := fun vs H Q E => ∃ d, d < D ∧ sp__law_termD K d vs H Q E
theorem ok__law_term_t (F : FnD K mg "_law_term" s__law_term) (c__law_draw : Cal P w K mg base 1 "_law_draw" sp__law_draw []) (c__law_number_t : Cal P w K mg base 2 "_law_number" (sp__law_numberD K) [])
    (c__law_sorted : Cal P w K mg base 2 "_law_sorted" (sp__law_sorted K) []) (T_len : mg "len" = none) (T_range : mg "range" = none) (T_tuple : mg "tuple" = none) : ∀ D : Nat, Cal P w K mg base (D + 4) "_law_term" (spTD K D) [] := by
  have c__law_number := c__law_number_t
  intro D
  induction D with
  | zero => exact calOf (k := 3) F sc__law_term (fun _ _ _ _ _ _ us hl => match us, hl with | [_, _, _, _], _ => rfl) (fun vs H Q E h => by obtain ⟨d, h, _⟩ := h; cases h) (fun cdv f A outer s H vs Q E hr h => by obtain ⟨d, h, _⟩ := h; cases h)
  | succ D ih =>
    have c__law_term := ih
    refine calOf (k := D + 4) F sc__law_term (fun _ _ _ _ _ _ us hl => match us, hl with | [_, _, _, _], _ => rfl) (fun vs H Q E h => ?_) (fun cdv f A outer s H vs Q E hr h => ?_)
    · obtain ⟨_, _, _, _, _, rfl, _⟩ := h
      rfl
    · obtain ⟨d, hdD, da, n, m, rfl, hd, hn1, hn6, k⟩ := h
      refine ⟨_, (pss_cons (ps_set (i := 4) sc__law_term.nd rfl (Or.inl rfl) (pe_c c__law_draw hr (by first | decide | omega) rfl (pa_cons (pv 0) (pa_cons pe_int pa_nil))))
    (C8.pss_cut (ps_if (PW.pt (pw_or (pt_cmpR op_eq (pv 2) pe_int (nomark _)) (pw_or1 (pt_cmpR op_eq (pv 4) pe_int (nomark _))))) (pss_cons (ps_if (pt_cmpR op_eq (pe_c c__law_draw hr (by first | decide | omega) rfl (pa_cons (pv 0) (pa_cons pe_int pa_nil))) pe_int (nomark _)) (pss_one (ps_ret (pe_tup (pa_cons pe_str (pa_cons (pe_c c__law_number hr (by first | decide | omega) rfl (pa_cons (pv 0) pa_nil)) pa_nil))))) pss_nil)
    (pss_one (ps_ret (pe_tup (pa_cons pe_str (pa_cons (pe_c c__law_draw hr (by first | decide | omega) rfl (pa_cons (pv 0) (pa_cons (pv 1) pa_nil))) pa_nil)))))) pss_nil)
    (pss_cons (ps_setLc (i := 5) (own := [("_law_k", 7)]) (by rfl) sc__law_term.nd rfl rfl (sw_true rfl rfl rfl (by decide +kernel)) (pi_range1 (by rfl) T_range (pa_cons (pe_op op_add pe_int (pe_c c__law_draw hr (by first | decide | omega) rfl (pa_cons (pv 0) (pa_cons pe_int pa_nil)))) pa_nil)) (blkOk_by (own := [("_law_k", 7)]) (N := ["_law_dice_here", "_law_people_here", "_law_deep", "_law_means", "_law_kind", "_law_parts", "_law_ends", "_law_k", "_law_part"]) (sc := defScope s__law_term) (by decide +kernel)) (fun _ _ _ _ _ => (pg_name (i := 7) sc__law_term.nd rfl (Or.inl rfl))) (fun _ _ _ _ _ => pts_nil) (fun _ _ _ _ _ => (pe_c c__law_term hr (by first | decide | omega) rfl (pa_cons (pv 0) (pa_cons (pv 1) (pa_cons (pe_op op_sub (pv 2) pe_int) (pa_cons (pv 3) pa_nil)))))))
    (pss_cons (ps_if (pt_cmpR op_eq (pv 4) pe_int (nomark _)) (pss_cons (ps_set (i := 6) sc__law_term.nd rfl (Or.inl rfl) (pe_c c__law_sorted hr (by first | decide | omega) rfl (pa_cons (pe_lst (pa_cons (pe_c c__law_number hr (by first | decide | omega) rfl (pa_cons (pv 0) pa_nil)) (pa_cons (pe_c c__law_number hr (by first | decide | omega) rfl (pa_cons (pv 0) pa_nil)) pa_nil))) pa_nil)))
    (pss_one (ps_ret (pe_tup (pa_cons pe_str (pa_cons (pe_ix ix_list (pv 6) pe_int (fun _ _ => rfl)) (pa_cons (pe_ix ix_list (pv 6) pe_int (fun _ _ => rfl)) (pa_cons (pe_ix ix_list (pv 5) pe_int (fun _ _ => rfl)) pa_nil)))))))) pss_nil)
    (pss_cons (ps_if (pt_cmpR op_eq (pv 4) pe_int (nomark _)) (pss_one (ps_ret (pe_tup (pa_cons pe_str (pa_cons (pe_callTy call_tuple_of (by rfl) T_tuple (by decide +kernel) (pa_cons (pv 5) pa_nil)) pa_nil))))) pss_nil)
    (pss_cons (ps_if (pt_cmpR op_eq (pv 4) pe_int (nomark _)) (pss_one (ps_ret (pe_tup (pa_cons pe_str (pa_cons (pe_callTy call_tuple_of (by rfl) T_tuple (by decide +kernel) (pa_cons (pv 5) pa_nil)) pa_nil))))) pss_nil)
    (pss_cons (ps_if (PW.pt (pw_or (pt_cmpR op_eq (pv 4) pe_int (nomark _)) (pw_or1 (pt_not (pt_val (pv 3)))))) (pss_one (ps_ret (pe_tup (pa_cons pe_str (pa_cons (pe_op op_add pe_int (pe_c c__law_draw hr (by first | decide | omega) rfl (pa_cons (pv 0) (pa_cons (pe_callB call_len_seq (by rfl) T_len PySem.boot_len (pa_cons (pv 5) pa_nil)) pa_nil)))) (pa_cons (pe_callTy call_tuple_of (by rfl) T_tuple (by decide +kernel) (pa_cons (pv 5) pa_nil)) pa_nil)))))) pss_nil)
    (pss_one (ps_ret (pe_tup (pa_cons pe_str (pa_cons (pe_callTy call_tuple_of (by rfl) T_tuple (by decide +kernel) (pa_cons (pe_lc (own := [("_law_part", 8)]) (by rfl) sc__law_term.nd (pi_list (pv 5)) (blkOk_by (own := [("_law_part", 8)]) (N := ["_law_dice_here", "_law_people_here", "_law_deep", "_law_means", "_law_kind", "_law_parts", "_law_ends", "_law_k", "_law_part"]) (sc := defScope s__law_term) (by decide +kernel)) (fun _ _ _ _ _ => (pg_name (i := 8) sc__law_term.nd rfl (Or.inl rfl))) (fun _ _ _ _ _ => pts_nil) (fun _ _ _ _ _ => (pe_tup (pa_cons (pe_op op_add pe_int (pe_c c__law_draw hr (by first | decide | omega) rfl (pa_cons (pv 0) (pa_cons pe_int pa_nil)))) (pa_cons (pv 8) pa_nil))))) pa_nil)) pa_nil)))))))))))), ?_⟩
      refine ⟨_, rfl, da, 8, rfl, hd, by decide, by decide, fun kind H1 kd0 kd1 d1 e1 => ?_⟩
      have fin : ∀ (v : V) (t : Tm) (H' : Hp), Rp K H' v t.data → DrawnD n d t → Dice H' da → KD da.1 H1 H' → Q v H' := fun v t H' a b c e => k v t H' a b c (e1.trans e)
      clear k hd e1
      have nd : ∀ {D : Addr} {H' : Hp}, Dice H' da → H' D = none → D ≠ da.1 ∧ D ≠ da.2 := fun a b => a.ne b
      refine ⟨fun σ H' => σ = [some (.ref da.1), some (.int (n : Int)), some (.int ((d : Int) + 1)), some (.bl m), some (.int kind), none, none, none, none] ∧ H' = H1 ∧ d ≠ 0, ?_, ?_⟩
      · -- a bid or a fixed number
        refine ⟨_, rfl, rfl, _, rfl, ?_⟩
        refine (fun leaf => ite2 (fun _ => leaf) (fun c1 => ⟨_, rfl, rfl, _, rfl, ite2 (fun _ => leaf) (fun c2 => ⟨rfl, rfl, fun z => c1 (decide_eq_true (by rw [z]; rfl))⟩)⟩)) ?_
        refine ⟨_, rfl, da, 5, rfl, d1, by decide, by decide, fun r H2 _ _ d2 e2 => ⟨rfl, _, rfl, ite2 (fun _ => ?_) (fun _ => ?_)⟩⟩
        · refine ⟨_, rfl, da, rfl, d2, fun v q H3 nq dq rq d3 e3 => ⟨(by show 2 ≤ sizeLine; decide), fun p hp => ?_⟩⟩
          refine fin _ (.fixed q) _ (.tup (SqT.of upd_same) (.cons (.str _) (.cons (rq.mono (Same.kt (same_new hp))).rp .nil))) ⟨⟨nq, by show 1 ≤ d + 1; omega, cB_pos d, fun s => wB_ge s d, fun s => wC_ge s d⟩, dq⟩ (d3.same (same_new hp)) ((e2.trans e3).new hp)
        · refine ⟨_, rfl, _, rfl, da, (n : Int), rfl, d2, by omega, by omega, fun r3 H3 g0 g1 d3 e3 => ⟨(by show 2 ≤ sizeLine; decide), fun p hp => ?_⟩⟩
          have er : ((r3.toNat : Nat) : Int) = r3 := Int.toNat_of_nonneg g0
          refine fin _ (.bid r3.toNat) _ (.tup (SqT.of upd_same) (.cons (.str _) (.cons (by rw [er]; exact .int _) .nil))) ⟨⟨(by show r3.toNat < n; omega), by show 1 ≤ d + 1; omega, cB_pos d, fun s => wB_ge s d, fun s => wC_ge s d⟩, trivial⟩ (d3.same (same_new hp)) ((e2.trans e3).new hp)
      · rintro σ H' ⟨rfl, rfl, hd0⟩
        obtain ⟨d', rfl⟩ : ∃ d', d = d' + 1 := ⟨d - 1, by omega⟩
        refine ⟨_, rfl, da, 3, rfl, d1, by decide, by decide, fun r H2 r0 r1 d2 e2 => ⟨_, _, rfl, rfl, _, rfl, by omega, by omega, fun D hD => ?_⟩⟩
        have nD := nd d2 hD
        refine lc_range (lo := 0) (n := (1 + r).toNat) (fun i H' => ∃ (ys : List V) (ts : List Tm), H' D = some (.lst ys) ∧ ts.length = i ∧ RTs K H' ys ts ∧ (∀ t ∈ ts, DrawnD n d' t) ∧ Dice H' da ∧ KD da.1 H2 H')
          ⟨[], [], upd_same, rfl, .nil, by simp, d2.same (same_new hD), Same.kd (same_new hD)⟩ ?_ ?_
        · rintro i H' hi ⟨ys, ts, h1, h2, h3, h4, h5, h6⟩
          have ea : ((d' + 1 : Nat) : Int) + 1 - 1 = (d' : Int) + 1 := by omega
          refine ⟨rfl, _, rfl, _, rfl, _, rfl, _, _, rfl, rfl, _, rfl, d', by omega, da, n, m, congrArg (fun z => [V.ref da.1, V.int (n : Int), V.int z, V.bl m]) ea, h5, hn1, hn6, fun v t H3 rt dt d3 e3 => ?_⟩
          have hD3 := e3 D _ nD.1 h1
          refine ⟨ys, hD3, small1000 (by rw [h3.length, h2]; omega), ys ++ [v], ts ++ [t], upd_same, by simp [h2], RpAll.mono (KT.updl hD3) (RTs.snoc (RpAll.mono (h5.kt e3) h3) rt), ?_, d3.upd nD, (h6.trans e3).mut hD⟩
          intro x hx
          rcases List.mem_append.mp hx with h | h
          · exact h4 x h
          · rw [List.mem_singleton.mp h]
            exact dt
        · rintro H3 ⟨ys, ts, h1, h2, h3, h4, d3, e3⟩
          have e13 := e2.trans e3
          obtain ⟨po, pne, pdep, pcnt, pwt, pwt2⟩ := parts_ok (fun t h => (h4 t h).toDrawn) (by omega) (by omega)
          have pdv : Tm.Dvs N0 W0 ts := (dvs_iff _ _ _).mpr fun t h => (h4 t h).dv
          have tl : ts.length ≤ 3 := by omega
          have hyl := h3.length
          have tup : ∀ (p : Addr) (H' : Hp), KT H3 H' → H' p = some (.tup ys) → Rp K H' (.ref p) (.tuple (Tm.datas ts)) := fun p H' e hp => .tup (SqT.of hp) (RpAll.mono e h3)
          have drawn : ∀ t : Tm, t.Ok n 20 → t.dep ≤ d' + 1 + 1 → t.cnt ≤ 3 * cB d' + 1 → (∀ s, t.wt s ≤ 3 * (wB s d' + 8) + 12 + 2 * s) → (∀ s, t.wt s ≤ max (3 * (wC s d' + 8) + 12) (wC s d' + 2 * s)) → t.Dv N0 W0 → DrawnD n (d' + 1) t := fun t a b c e e2 dv => ⟨⟨a, b, by show _ ≤ 1 + 3 * cB d'; omega, e, e2⟩, dv⟩
          -- between
          refine ⟨_, rfl, rfl, _, rfl, ite2 (fun _ => ?_) (fun _ => ?_)⟩
          · refine ⟨_, rfl, da, rfl, d3, fun v1 q1 H4 nq1 dq1 rq1 d4 e4 => ⟨_, rfl, da, rfl, d4, fun v2 q2 H5 nq2 dq2 rq2 d5 e5 => ⟨(by show 2 ≤ sizeLine; decide), fun p hp => ?_⟩⟩⟩
            have s6 := same_new (o := .lst [v1, v2]) hp
            have rq1' := (rq1.mono (d4.kt e5)).mono (Same.kt s6)
            have rq2' := rq2.mono (Same.kt s6)
            refine ⟨p, [v1, v2], [q1, q2], rfl, SqL.of upd_same, .cons rq1'.rp (.cons rq2'.rp .nil), ?_, by show 2 ≤ 100; decide, fun pl zs H6 hpl s7 hz rz => ?_⟩
            · intro q hq
              rcases List.mem_cons.mp hq with h | h
              · rw [h]; exact nq1.2.2.mono (by omega)
              · rw [List.mem_singleton.mp h]; exact nq2.2.2.mono (by omega)
            have all : ∀ q ∈ isort [q1, q2], NumOk 20 q := by
              intro q hq
              rcases List.mem_cons.mp ((isort_perm [q1, q2]).mem_iff.mp hq) with h | h
              · rw [h]; exact nq1
              · rw [List.mem_singleton.mp h]; exact nq2
            have allD : ∀ q ∈ isort [q1, q2], q.den ∣ N0 := by
              intro q hq
              rcases List.mem_cons.mp ((isort_perm [q1, q2]).mem_iff.mp hq) with h | h
              · rw [h]; exact dq1
              · rw [List.mem_singleton.mp h]; exact dq2
            have hlen : (isort [q1, q2]).length = 2 := isort_length _
            obtain ⟨lo, hlo⟩ : ∃ lo, (isort [q1, q2])[0]? = some lo := ⟨_, List.getElem?_eq_getElem (by omega)⟩
            obtain ⟨hi, hhi⟩ : ∃ hi, (isort [q1, q2])[1]? = some hi := ⟨_, List.getElem?_eq_getElem (by omega)⟩
            obtain ⟨u0, z0, ru0⟩ := RQ.get rz hlo
            obtain ⟨u1, z1, ru1⟩ := RQ.get rz hhi
            obtain ⟨t0, ht0⟩ : ∃ t0, ts[0]? = some t0 := ⟨_, List.getElem?_eq_getElem (by omega)⟩
            have e35 : KD da.1 H3 H5 := e4.trans e5
            have kt35 : KT H3 H6 := ((d3.kt e4).trans (d4.kt e5)).trans (Same.kt (s6.trans s7))
            have hD6 : H6 D = some (.lst ys) := (s6.trans s7) D _ (e35 D _ nD.1 h1)
            obtain ⟨w0, y0, rw0⟩ := h3.get ht0
            refine ⟨_, rfl, _, _, _, _, rfl, rfl, SqL.of hz, at_of (j := 0) rfl z0, _, rfl, _, _, _, _, rfl, rfl, SqL.of hz, at_of (j := 1) rfl z1, _, rfl, _, _, _, _, rfl, rfl, SqL.of hD6, at_of (j := 0) rfl y0, (by show 4 ≤ sizeLine; decide), fun p4 hp4 => ?_⟩
            have s8 := same_new (o := .tup [.str "between", u0, u1, w0]) hp4
            have mt0 := List.mem_of_getElem? ht0
            have g0 := h4 t0 mt0
            refine fin _ (.between lo hi t0) _ (.tup (SqT.of upd_same) (.cons (.str _) (.cons (ru0.mono (Same.kt s8)).rp (.cons (ru1.mono (Same.kt s8)).rp (.cons ((rw0.mono kt35).mono (Same.kt s8)) .nil))))) ?_ (((d5.same s6).same s7).same s8) ((((e13.trans e35).trans (Same.kd (s6.trans s7))).new hp4))
            refine drawn _ ⟨all lo (List.mem_of_getElem? hlo), all hi (List.mem_of_getElem? hhi), srt_get_le (isort_srt _) hlo hhi (by omega), g0.ok⟩ ?_ ?_ ?_ ?_ ⟨allD lo (List.mem_of_getElem? hlo), allD hi (List.mem_of_getElem? hhi), g0.dv⟩
            · show t0.dep + 1 ≤ _
              have := g0.dep
              omega
            · show t0.cnt + 1 ≤ _
              have := g0.cnt
              have := cB_pos d'
              omega
            · intro s
              show t0.wt s + s + s ≤ _
              have := g0.wt s
              omega
            · intro s
              show t0.wt s + s + s ≤ _
              have := g0.wt2 s
              omega
          -- least
          refine ⟨_, rfl, rfl, _, rfl, ite2 (fun _ => ?_) (fun _ => ?_)⟩
          · refine ⟨_, rfl, D, ys, rfl, .inl ⟨SqL.of h1, fun l hl => ⟨(by show 2 ≤ sizeLine; decide), fun p hp => ?_⟩⟩⟩
            have s4 := same_new (o := .tup ys) hl
            have s5 := same_new (o := .tup [.str "least", .ref l]) hp
            refine fin _ (.least ts) _ (.tup (SqT.of upd_same) (.cons (.str _) (.cons (tup l _ (Same.kt (s4.trans s5)) (s5 _ _ upd_same)) .nil))) ?_ (d3.same (s4.trans s5)) (e13.trans (Same.kd (s4.trans s5)))
            exact drawn _ ⟨pne, by omega, po⟩ (by show Tm.deps ts + 1 ≤ _; omega) (by show Tm.cnts ts + 1 ≤ _; omega) (fun s => by show Tm.wts s ts ≤ _; have := pwt s; omega) (fun s => by show Tm.wts s ts ≤ _; have := pwt2 s; omega) pdv
          refine ⟨_, rfl, rfl, _, rfl, ite2 (fun _ => ?_) (fun _ => ?_)⟩
          · refine ⟨_, rfl, D, ys, rfl, .inl ⟨SqL.of h1, fun l hl => ⟨(by show 2 ≤ sizeLine; decide), fun p hp => ?_⟩⟩⟩
            have s4 := same_new (o := .tup ys) hl
            have s5 := same_new (o := .tup [.str "greatest", .ref l]) hp
            refine fin _ (.greatest ts) _ (.tup (SqT.of upd_same) (.cons (.str _) (.cons (tup l _ (Same.kt (s4.trans s5)) (s5 _ _ upd_same)) .nil))) ?_ (d3.same (s4.trans s5)) (e13.trans (Same.kd (s4.trans s5)))
            exact drawn _ ⟨pne, by omega, po⟩ (by show Tm.deps ts + 1 ≤ _; omega) (by show Tm.cnts ts + 1 ≤ _; omega) (fun s => by show Tm.wts s ts ≤ _; have := pwt s; omega) (fun s => by show Tm.wts s ts ≤ _; have := pwt2 s; omega) pdv
          -- ranked
          refine ⟨_, rfl, rfl, _, rfl, ?_⟩
          refine (fun rank => ite2 (fun _ => rank) (fun _ => ⟨_, rfl, _, rfl, ite2 (fun _ => rank) (fun _ => ?mean)⟩)) ?rank
          case mean =>
            -- mean
            refine ⟨_, rfl, D, rfl, ⟨_, SqL.of h1⟩, fun D2 hD2 => ?_⟩
            have nD2 := nd d3 hD2
            have nDD : D ≠ D2 := ne_of_none h1 hD2
            refine lc_list (K := K) (a := D) (xs := ys) (fun i H' => ∃ (zs : List V) (ws : List Int), H' D2 = some (.lst zs) ∧ ws.length = i ∧ RpAll K H' zs (meanD ws (Tm.datas (ts.take i))) ∧ (∀ w ∈ ws, 1 ≤ w ∧ w ≤ 5) ∧ Dice H' da ∧ KD da.1 H3 H' ∧ H' D = some (.lst ys))
              ⟨[], [], upd_same, rfl, .nil, by simp, d3.same (same_new hD2), Same.kd (same_new hD2), by rw [upd_ne nDD]; exact h1⟩ (fun i H' _ ⟨_, _, _, _, _, _, _, _, g⟩ => SqL.of g) ?_ ?_
            · rintro i y H' hi ⟨zs, ws, g1, g2, g3, g4, g5, g6, g7⟩
              obtain ⟨t, ht, rt⟩ := h3.getV hi
              refine ⟨rfl, _, rfl, da, 5, rfl, g5, by decide, by decide, fun x H5 x0 x1 d5 e5 => ⟨_, _, rfl, rfl, _, rfl, (by show 2 ≤ sizeLine; decide), fun p hp => ?_⟩⟩
              have s6 := same_new (o := .tup [.int (1 + x), y]) hp
              have hD5 := e5 D2 _ nD2.1 g1
              have hD6 := s6 _ _ hD5
              have kt36 : KT H3 H5 := (d3.kt g6).trans (g5.kt e5)
              have zl : zs.length ≤ 3 := by
                rw [g3.length]
                unfold meanD
                rw [List.length_zipWith, g2]
                have := (List.getElem?_eq_some_iff.mp hi).1
                omega
              have nDp : D ≠ p := ne_of_none (e5 D _ nD.1 g7) hp
              refine ⟨zs, hD6, small1000 (by omega), zs ++ [.ref p], ws ++ [1 + x], upd_same, by simp [g2], ?_, ?_, (d5.same s6).upd nD2, ((g6.trans e5).trans (Same.kd s6)).mut hD2, ?_⟩
              · refine RpAll.mono (KT.updl hD6) ?_
                have e1 : ts.take (i + 1) = ts.take i ++ [t] := take_succ' ht
                have e2 : meanD (ws ++ [1 + x]) (Tm.datas (ts.take (i + 1))) = meanD ws (Tm.datas (ts.take i)) ++ [.tuple [.int (1 + x), t.data]] := by
                  rw [e1, datas_map, datas_map, List.map_append]
                  unfold meanD
                  rw [List.zipWith_append]
                  · rfl
                  · rw [List.length_map, List.length_take, g2]
                    have := (List.getElem?_eq_some_iff.mp ht).1
                    omega
                rw [e2]
                exact RpAll.append (RpAll.mono ((g5.kt e5).trans (Same.kt s6)) g3) (.cons (.tup (SqT.of upd_same) (.cons (.int _) (.cons ((rt.mono kt36).mono (Same.kt s6)) .nil))) .nil)
              · intro w hw
                rcases List.mem_append.mp hw with h | h
                · exact g4 w h
                · rw [List.mem_singleton.mp h]
                  omega
              · rw [upd_ne nDD]
                exact s6 _ _ (e5 D _ nD.1 g7)
            · rintro H4 ⟨zs, ws, g1, g2, g3, g4, d4, e4, g7⟩
              rw [hyl, List.take_length] at g3
              refine ⟨D2, zs, rfl, .inl ⟨SqL.of g1, fun l hl => ⟨(by show 2 ≤ sizeLine; decide), fun p hp => ?_⟩⟩⟩
              have s4 := same_new (o := .tup zs) hl
              have s5 := same_new (o := .tup [.str "mean", .ref l]) hp
              refine fin _ (.mean ws ts) _ (.tup (SqT.of upd_same) (.cons (.str _) (.cons (.tup (SqT.of (s5 _ _ upd_same)) (RpAll.mono (Same.kt (s4.trans s5)) g3)) .nil))) ?_ (d4.same (s4.trans s5)) ((e13.trans e4).trans (Same.kd (s4.trans s5)))
              have g5w : ∀ w ∈ ws, 1 ≤ w ∧ w ≤ 5 := g4
              exact drawn _ ⟨by rw [g2, hyl], pne, by omega, fun w h => ⟨(g4 w h).1, by have := (g4 w h).2; omega⟩, po⟩ (by show Tm.deps ts + 1 ≤ _; omega) (by show Tm.cnts ts + 1 ≤ _; omega) (fun s => by show Tm.wts s ts + 12 ≤ _; have := pwt s; omega) (fun s => by show Tm.wts s ts + 12 ≤ _; have := pwt2 s; omega) ⟨(sum_dvd (by have := (sum_bd g5w).1; omega) (by have := (sum_bd g5w).2; omega)).1, (sum_dvd (by have := (sum_bd g5w).1; omega) (by have := (sum_bd g5w).2; omega)).2, pdv⟩
          case rank =>
            refine ⟨_, rfl, _, rfl, D, ys, rfl, .inl (SqL.of h1), da, (ys.length : Int), rfl, d3, by omega, by omega, fun x H4 x0 x1 d4 e4 => ⟨_, _, rfl, rfl, _, rfl, D, ys, rfl, .inl ⟨SqL.of (e4 D _ nD.1 h1), fun l hl => ⟨(by show 3 ≤ sizeLine; decide), fun p hp => ?_⟩⟩⟩⟩
            have s4 := same_new (o := .tup ys) hl
            have s5 := same_new (o := .tup [.str "ranked", .int (1 + x), .ref l]) hp
            have er : (((1 + x).toNat : Nat) : Int) = 1 + x := Int.toNat_of_nonneg (by omega)
            refine fin _ (.ranked (1 + x).toNat ts) _ (.tup (SqT.of upd_same) (.cons (.str _) (.cons (by rw [er]; exact .int _) (.cons (tup l _ ((d3.kt e4).trans (Same.kt (s4.trans s5))) (s5 _ _ upd_same)) .nil)))) ?_ (d4.same (s4.trans s5)) ((e13.trans e4).trans (Same.kd (s4.trans s5)))
            exact drawn _ ⟨by omega, by omega, by omega, po⟩ (by show Tm.deps ts + 1 ≤ _; omega) (by show Tm.cnts ts + 1 ≤ _; omega) (fun s => by show Tm.wts s ts ≤ _; have := pwt s; omega) (fun s => by show Tm.wts s ts ≤ _; have := pwt2 s; omega) pdv
end
end CB

set_option Elab.async false
set_option linter.all false
set_option maxRecDepth 100000
set_option maxHeartbeats 4000000
namespace CB
open PySem PySem.Spec PyProof.Rows L2
open C8 (Cal Met Mak pe_c pe_mk pe_mt pe_mt0 pe_gc CalAt)
section
variable {P : Program} {w : World} {K : PySem.W.Frag} {mg : Str → Option Value} {base : Heap}
/-- a drawn term, with what its bottoms divide; no mean where none may be -/
structure DrawnE (n d : Nat) (m : Bool) (t : Tm) : Prop extends DrawnD n d t where
  nm : m = false → t.nomean = true
theorem nomeans_all : ∀ {ts : List Tm}, (∀ t ∈ ts, t.nomean = true) → Tm.nomeans ts = true
  | [], _ => rfl
  | t :: ts, h => by
    show (t.nomean && Tm.nomeans ts) = true
    rw [h t List.mem_cons_self, nomeans_all (ts := ts) fun u hu => h u (List.mem_cons_of_mem _ hu)]; rfl
def sp__law_termE (K : PySem.W.Frag) (d : Nat) : Sp := fun vs H Q _ => ∃ (da : Addr × Addr) (n : Nat) (m : Bool), vs = [.ref da.1, .int (n : Int), .int ((d : Int) + 1), .bl m] ∧ Dice H da ∧ 1 ≤ n ∧ n ≤ 6 ∧
  ∀ (v : V) (t : Tm) (H' : Hp), Rp K H' v t.data → DrawnE n d m t → Dice H' da → KD da.1 H H' → Q v H'
def spTE (K : PySem.W.Frag) (D : Nat) : Sp := fun vs H Q E => ∃ d, d < D ∧ sp__law_termE K d vs H Q E
theorem ok__law_term_n_t (F : FnD K mg "_law_term" s__law_term) (c__law_draw : Cal P w K mg base 1 "_law_draw" sp__law_draw []) (c__law_number_t : Cal P w K mg base 2 "_law_number" (sp__law_numberD K) [])
    (c__law_sorted : Cal P w K mg base 2 "_law_sorted" (sp__law_sorted K) []) (T_len : mg "len" = none) (T_range : mg "range" = none) (T_tuple : mg "tuple" = none) : ∀ D : Nat, Cal P w K mg base (D + 4) "_law_term" (spTE K D) [] := by
  have c__law_number := c__law_number_t
  intro D
  induction D with
  | zero => exact calOf (k := 3) F sc__law_term (fun _ _ _ _ _ _ us hl => match us, hl with | [_, _, _, _], _ => rfl) (fun vs H Q E h => by obtain ⟨d, h, _⟩ := h; cases h) (fun cdv f A outer s H vs Q E hr h => by obtain ⟨d, h, _⟩ := h; cases h)
  | succ D ih =>
    have c__law_term := ih
    refine calOf (k := D + 4) F sc__law_term (fun _ _ _ _ _ _ us hl => match us, hl with | [_, _, _, _], _ => rfl) (fun vs H Q E h => ?_) (fun cdv f A outer s H vs Q E hr h => ?_)
    · obtain ⟨_, _, _, _, _, rfl, _⟩ := h
      rfl
    · obtain ⟨d, hdD, da, n, m, rfl, hd, hn1, hn6, k⟩ := h
      refine ⟨_, (pss_cons (ps_set (i := 4) sc__law_term.nd rfl (Or.inl rfl) (pe_c c__law_draw hr (by first | decide | omega) rfl (pa_cons (pv 0) (pa_cons pe_int pa_nil))))
    (C8.pss_cut (ps_if (PW.pt (pw_or (pt_cmpR op_eq (pv 2) pe_int (nomark _)) (pw_or1 (pt_cmpR op_eq (pv 4) pe_int (nomark _))))) (pss_cons (ps_if (pt_cmpR op_eq (pe_c c__law_draw hr (by first | decide | omega) rfl (pa_cons (pv 0) (pa_cons pe_int pa_nil))) pe_int (nomark _)) (pss_one (ps_ret (pe_tup (pa_cons pe_str (pa_cons (pe_c c__law_number hr (by first | decide | omega) rfl (pa_cons (pv 0) pa_nil)) pa_nil))))) pss_nil)
    (pss_one (ps_ret (pe_tup (pa_cons pe_str (pa_cons (pe_c c__law_draw hr (by first | decide | omega) rfl (pa_cons (pv 0) (pa_cons (pv 1) pa_nil))) pa_nil)))))) pss_nil)
    (pss_cons (ps_setLc (i := 5) (own := [("_law_k", 7)]) (by rfl) sc__law_term.nd rfl rfl (sw_true rfl rfl rfl (by decide +kernel)) (pi_range1 (by rfl) T_range (pa_cons (pe_op op_add pe_int (pe_c c__law_draw hr (by first | decide | omega) rfl (pa_cons (pv 0) (pa_cons pe_int pa_nil)))) pa_nil)) (blkOk_by (own := [("_law_k", 7)]) (N := ["_law_dice_here", "_law_people_here", "_law_deep", "_law_means", "_law_kind", "_law_parts", "_law_ends", "_law_k", "_law_part"]) (sc := defScope s__law_term) (by decide +kernel)) (fun _ _ _ _ _ => (pg_name (i := 7) sc__law_term.nd rfl (Or.inl rfl))) (fun _ _ _ _ _ => pts_nil) (fun _ _ _ _ _ => (pe_c c__law_term hr (by first | decide | omega) rfl (pa_cons (pv 0) (pa_cons (pv 1) (pa_cons (pe_op op_sub (pv 2) pe_int) (pa_cons (pv 3) pa_nil)))))))
    (pss_cons (ps_if (pt_cmpR op_eq (pv 4) pe_int (nomark _)) (pss_cons (ps_set (i := 6) sc__law_term.nd rfl (Or.inl rfl) (pe_c c__law_sorted hr (by first | decide | omega) rfl (pa_cons (pe_lst (pa_cons (pe_c c__law_number hr (by first | decide | omega) rfl (pa_cons (pv 0) pa_nil)) (pa_cons (pe_c c__law_number hr (by first | decide | omega) rfl (pa_cons (pv 0) pa_nil)) pa_nil))) pa_nil)))
    (pss_one (ps_ret (pe_tup (pa_cons pe_str (pa_cons (pe_ix ix_list (pv 6) pe_int (fun _ _ => rfl)) (pa_cons (pe_ix ix_list (pv 6) pe_int (fun _ _ => rfl)) (pa_cons (pe_ix ix_list (pv 5) pe_int (fun _ _ => rfl)) pa_nil)))))))) pss_nil)
    (pss_cons (ps_if (pt_cmpR op_eq (pv 4) pe_int (nomark _)) (pss_one (ps_ret (pe_tup (pa_cons pe_str (pa_cons (pe_callTy call_tuple_of (by rfl) T_tuple (by decide +kernel) (pa_cons (pv 5) pa_nil)) pa_nil))))) pss_nil)
    (pss_cons (ps_if (pt_cmpR op_eq (pv 4) pe_int (nomark _)) (pss_one (ps_ret (pe_tup (pa_cons pe_str (pa_cons (pe_callTy call_tuple_of (by rfl) T_tuple (by decide +kernel) (pa_cons (pv 5) pa_nil)) pa_nil))))) pss_nil)
    (pss_cons (ps_if (PW.pt (pw_or (pt_cmpR op_eq (pv 4) pe_int (nomark _)) (pw_or1 (pt_not (pt_val (pv 3)))))) (pss_one (ps_ret (pe_tup (pa_cons pe_str (pa_cons (pe_op op_add pe_int (pe_c c__law_draw hr (by first | decide | omega) rfl (pa_cons (pv 0) (pa_cons (pe_callB call_len_seq (by rfl) T_len PySem.boot_len (pa_cons (pv 5) pa_nil)) pa_nil)))) (pa_cons (pe_callTy call_tuple_of (by rfl) T_tuple (by decide +kernel) (pa_cons (pv 5) pa_nil)) pa_nil)))))) pss_nil)
    (pss_one (ps_ret (pe_tup (pa_cons pe_str (pa_cons (pe_callTy call_tuple_of (by rfl) T_tuple (by decide +kernel) (pa_cons (pe_lc (own := [("_law_part", 8)]) (by rfl) sc__law_term.nd (pi_list (pv 5)) (blkOk_by (own := [("_law_part", 8)]) (N := ["_law_dice_here", "_law_people_here", "_law_deep", "_law_means", "_law_kind", "_law_parts", "_law_ends", "_law_k", "_law_part"]) (sc := defScope s__law_term) (by decide +kernel)) (fun _ _ _ _ _ => (pg_name (i := 8) sc__law_term.nd rfl (Or.inl rfl))) (fun _ _ _ _ _ => pts_nil) (fun _ _ _ _ _ => (pe_tup (pa_cons (pe_op op_add pe_int (pe_c c__law_draw hr (by first | decide | omega) rfl (pa_cons (pv 0) (pa_cons pe_int pa_nil)))) (pa_cons (pv 8) pa_nil))))) pa_nil)) pa_nil)))))))))))), ?_⟩
      refine ⟨_, rfl, da, 8, rfl, hd, by decide, by decide, fun kind H1 kd0 kd1 d1 e1 => ?_⟩
      have fin : ∀ (v : V) (t : Tm) (H' : Hp), Rp K H' v t.data → DrawnE n d m t → Dice H' da → KD da.1 H1 H' → Q v H' := fun v t H' a b c e => k v t H' a b c (e1.trans e)
      clear k hd e1
      have nd : ∀ {D : Addr} {H' : Hp}, Dice H' da → H' D = none → D ≠ da.1 ∧ D ≠ da.2 := fun a b => a.ne b
      refine ⟨fun σ H' => σ = [some (.ref da.1), some (.int (n : Int)), some (.int ((d : Int) + 1)), some (.bl m), some (.int kind), none, none, none, none] ∧ H' = H1 ∧ d ≠ 0, ?_, ?_⟩
      · -- a bid or a fixed number
        refine ⟨_, rfl, rfl, _, rfl, ?_⟩
        refine (fun leaf => ite2 (fun _ => leaf) (fun c1 => ⟨_, rfl, rfl, _, rfl, ite2 (fun _ => leaf) (fun c2 => ⟨rfl, rfl, fun z => c1 (decide_eq_true (by rw [z]; rfl))⟩)⟩)) ?_
        refine ⟨_, rfl, da, 5, rfl, d1, by decide, by decide, fun r H2 _ _ d2 e2 => ⟨rfl, _, rfl, ite2 (fun _ => ?_) (fun _ => ?_)⟩⟩
        · refine ⟨_, rfl, da, rfl, d2, fun v q H3 nq dq rq d3 e3 => ⟨(by show 2 ≤ sizeLine; decide), fun p hp => ?_⟩⟩
          refine fin _ (.fixed q) _ (.tup (SqT.of upd_same) (.cons (.str _) (.cons (rq.mono (Same.kt (same_new hp))).rp .nil))) ⟨⟨⟨nq, by show 1 ≤ d + 1; omega, cB_pos d, fun s => wB_ge s d, fun s => wC_ge s d⟩, dq⟩, fun _ => rfl⟩ (d3.same (same_new hp)) ((e2.trans e3).new hp)
        · refine ⟨_, rfl, _, rfl, da, (n : Int), rfl, d2, by omega, by omega, fun r3 H3 g0 g1 d3 e3 => ⟨(by show 2 ≤ sizeLine; decide), fun p hp => ?_⟩⟩
          have er : ((r3.toNat : Nat) : Int) = r3 := Int.toNat_of_nonneg g0
          refine fin _ (.bid r3.toNat) _ (.tup (SqT.of upd_same) (.cons (.str _) (.cons (by rw [er]; exact .int _) .nil))) ⟨⟨⟨(by show r3.toNat < n; omega), by show 1 ≤ d + 1; omega, cB_pos d, fun s => wB_ge s d, fun s => wC_ge s d⟩, trivial⟩, fun _ => rfl⟩ (d3.same (same_new hp)) ((e2.trans e3).new hp)
      · rintro σ H' ⟨rfl, rfl, hd0⟩
        obtain ⟨d', rfl⟩ : ∃ d', d = d' + 1 := ⟨d - 1, by omega⟩
        refine ⟨_, rfl, da, 3, rfl, d1, by decide, by decide, fun r H2 r0 r1 d2 e2 => ⟨_, _, rfl, rfl, _, rfl, by omega, by omega, fun D hD => ?_⟩⟩
        have nD := nd d2 hD
        refine lc_range (lo := 0) (n := (1 + r).toNat) (fun i H' => ∃ (ys : List V) (ts : List Tm), H' D = some (.lst ys) ∧ ts.length = i ∧ RTs K H' ys ts ∧ (∀ t ∈ ts, DrawnE n d' m t) ∧ Dice H' da ∧ KD da.1 H2 H')
          ⟨[], [], upd_same, rfl, .nil, by simp, d2.same (same_new hD), Same.kd (same_new hD)⟩ ?_ ?_
        · rintro i H' hi ⟨ys, ts, h1, h2, h3, h4, h5, h6⟩
          have ea : ((d' + 1 : Nat) : Int) + 1 - 1 = (d' : Int) + 1 := by omega
          refine ⟨rfl, _, rfl, _, rfl, _, rfl, _, _, rfl, rfl, _, rfl, d', by omega, da, n, m, congrArg (fun z => [V.ref da.1, V.int (n : Int), V.int z, V.bl m]) ea, h5, hn1, hn6, fun v t H3 rt dt d3 e3 => ?_⟩
          have hD3 := e3 D _ nD.1 h1
          refine ⟨ys, hD3, small1000 (by rw [h3.length, h2]; omega), ys ++ [v], ts ++ [t], upd_same, by simp [h2], RpAll.mono (KT.updl hD3) (RTs.snoc (RpAll.mono (h5.kt e3) h3) rt), ?_, d3.upd nD, (h6.trans e3).mut hD⟩
          intro x hx
          rcases List.mem_append.mp hx with h | h
          · exact h4 x h
          · rw [List.mem_singleton.mp h]
            exact dt
        · rintro H3 ⟨ys, ts, h1, h2, h3, h4, d3, e3⟩
          have e13 := e2.trans e3
          obtain ⟨po, pne, pdep, pcnt, pwt, pwt2⟩ := parts_ok (fun t h => (h4 t h).toDrawnD.toDrawn) (by omega) (by omega)
          have pdv : Tm.Dvs N0 W0 ts := (dvs_iff _ _ _).mpr fun t h => (h4 t h).dv
          have pnm : m = false → Tm.nomeans ts = true := fun e => nomeans_all fun t h => (h4 t h).nm e
          have tl : ts.length ≤ 3 := by omega
          have hyl := h3.length
          have tup : ∀ (p : Addr) (H' : Hp), KT H3 H' → H' p = some (.tup ys) → Rp K H' (.ref p) (.tuple (Tm.datas ts)) := fun p H' e hp => .tup (SqT.of hp) (RpAll.mono e h3)
          have drawn : ∀ t : Tm, t.Ok n 20 → t.dep ≤ d' + 1 + 1 → t.cnt ≤ 3 * cB d' + 1 → (∀ s, t.wt s ≤ 3 * (wB s d' + 8) + 12 + 2 * s) → (∀ s, t.wt s ≤ max (3 * (wC s d' + 8) + 12) (wC s d' + 2 * s)) → t.Dv N0 W0 → (m = false → t.nomean = true) → DrawnE n (d' + 1) m t := fun t a b c e e2 dv nm => ⟨⟨⟨a, b, by show _ ≤ 1 + 3 * cB d'; omega, e, e2⟩, dv⟩, nm⟩
          -- between
          refine ⟨_, rfl, rfl, _, rfl, ite2 (fun _ => ?_) (fun _ => ?_)⟩
          · refine ⟨_, rfl, da, rfl, d3, fun v1 q1 H4 nq1 dq1 rq1 d4 e4 => ⟨_, rfl, da, rfl, d4, fun v2 q2 H5 nq2 dq2 rq2 d5 e5 => ⟨(by show 2 ≤ sizeLine; decide), fun p hp => ?_⟩⟩⟩
            have s6 := same_new (o := .lst [v1, v2]) hp
            have rq1' := (rq1.mono (d4.kt e5)).mono (Same.kt s6)
            have rq2' := rq2.mono (Same.kt s6)
            refine ⟨p, [v1, v2], [q1, q2], rfl, SqL.of upd_same, .cons rq1'.rp (.cons rq2'.rp .nil), ?_, by show 2 ≤ 100; decide, fun pl zs H6 hpl s7 hz rz => ?_⟩
            · intro q hq
              rcases List.mem_cons.mp hq with h | h
              · rw [h]; exact nq1.2.2.mono (by omega)
              · rw [List.mem_singleton.mp h]; exact nq2.2.2.mono (by omega)
            have all : ∀ q ∈ isort [q1, q2], NumOk 20 q := by
              intro q hq
              rcases List.mem_cons.mp ((isort_perm [q1, q2]).mem_iff.mp hq) with h | h
              · rw [h]; exact nq1
              · rw [List.mem_singleton.mp h]; exact nq2
            have allD : ∀ q ∈ isort [q1, q2], q.den ∣ N0 := by
              intro q hq
              rcases List.mem_cons.mp ((isort_perm [q1, q2]).mem_iff.mp hq) with h | h
              · rw [h]; exact dq1
              · rw [List.mem_singleton.mp h]; exact dq2
            have hlen : (isort [q1, q2]).length = 2 := isort_length _
            obtain ⟨lo, hlo⟩ : ∃ lo, (isort [q1, q2])[0]? = some lo := ⟨_, List.getElem?_eq_getElem (by omega)⟩
            obtain ⟨hi, hhi⟩ : ∃ hi, (isort [q1, q2])[1]? = some hi := ⟨_, List.getElem?_eq_getElem (by omega)⟩
            obtain ⟨u0, z0, ru0⟩ := RQ.get rz hlo
            obtain ⟨u1, z1, ru1⟩ := RQ.get rz hhi
            obtain ⟨t0, ht0⟩ : ∃ t0, ts[0]? = some t0 := ⟨_, List.getElem?_eq_getElem (by omega)⟩
            have e35 : KD da.1 H3 H5 := e4.trans e5
            have kt35 : KT H3 H6 := ((d3.kt e4).trans (d4.kt e5)).trans (Same.kt (s6.trans s7))
            have hD6 : H6 D = some (.lst ys) := (s6.trans s7) D _ (e35 D _ nD.1 h1)
            obtain ⟨w0, y0, rw0⟩ := h3.get ht0
            refine ⟨_, rfl, _, _, _, _, rfl, rfl, SqL.of hz, at_of (j := 0) rfl z0, _, rfl, _, _, _, _, rfl, rfl, SqL.of hz, at_of (j := 1) rfl z1, _, rfl, _, _, _, _, rfl, rfl, SqL.of hD6, at_of (j := 0) rfl y0, (by show 4 ≤ sizeLine; decide), fun p4 hp4 => ?_⟩
            have s8 := same_new (o := .tup [.str "between", u0, u1, w0]) hp4
            have mt0 := List.mem_of_getElem? ht0
            have g0 := h4 t0 mt0
            refine fin _ (.between lo hi t0) _ (.tup (SqT.of upd_same) (.cons (.str _) (.cons (ru0.mono (Same.kt s8)).rp (.cons (ru1.mono (Same.kt s8)).rp (.cons ((rw0.mono kt35).mono (Same.kt s8)) .nil))))) ?_ (((d5.same s6).same s7).same s8) ((((e13.trans e35).trans (Same.kd (s6.trans s7))).new hp4))
            refine drawn _ ⟨all lo (List.mem_of_getElem? hlo), all hi (List.mem_of_getElem? hhi), srt_get_le (isort_srt _) hlo hhi (by omega), g0.ok⟩ ?_ ?_ ?_ ?_ ⟨allD lo (List.mem_of_getElem? hlo), allD hi (List.mem_of_getElem? hhi), g0.dv⟩ g0.nm
            · show t0.dep + 1 ≤ _
              have := g0.dep
              omega
            · show t0.cnt + 1 ≤ _
              have := g0.cnt
              have := cB_pos d'
              omega
            · intro s
              show t0.wt s + s + s ≤ _
              have := g0.wt s
              omega
            · intro s
              show t0.wt s + s + s ≤ _
              have := g0.wt2 s
              omega
          -- least
          refine ⟨_, rfl, rfl, _, rfl, ite2 (fun _ => ?_) (fun _ => ?_)⟩
          · refine ⟨_, rfl, D, ys, rfl, .inl ⟨SqL.of h1, fun l hl => ⟨(by show 2 ≤ sizeLine; decide), fun p hp => ?_⟩⟩⟩
            have s4 := same_new (o := .tup ys) hl
            have s5 := same_new (o := .tup [.str "least", .ref l]) hp
            refine fin _ (.least ts) _ (.tup (SqT.of upd_same) (.cons (.str _) (.cons (tup l _ (Same.kt (s4.trans s5)) (s5 _ _ upd_same)) .nil))) ?_ (d3.same (s4.trans s5)) (e13.trans (Same.kd (s4.trans s5)))
            exact drawn _ ⟨pne, by omega, po⟩ (by show Tm.deps ts + 1 ≤ _; omega) (by show Tm.cnts ts + 1 ≤ _; omega) (fun s => by show Tm.wts s ts ≤ _; have := pwt s; omega) (fun s => by show Tm.wts s ts ≤ _; have := pwt2 s; omega) pdv pnm
          refine ⟨_, rfl, rfl, _, rfl, ite2 (fun _ => ?_) (fun _ => ?_)⟩
          · refine ⟨_, rfl, D, ys, rfl, .inl ⟨SqL.of h1, fun l hl => ⟨(by show 2 ≤ sizeLine; decide), fun p hp => ?_⟩⟩⟩
            have s4 := same_new (o := .tup ys) hl
            have s5 := same_new (o := .tup [.str "greatest", .ref l]) hp
            refine fin _ (.greatest ts) _ (.tup (SqT.of upd_same) (.cons (.str _) (.cons (tup l _ (Same.kt (s4.trans s5)) (s5 _ _ upd_same)) .nil))) ?_ (d3.same (s4.trans s5)) (e13.trans (Same.kd (s4.trans s5)))
            exact drawn _ ⟨pne, by omega, po⟩ (by show Tm.deps ts + 1 ≤ _; omega) (by show Tm.cnts ts + 1 ≤ _; omega) (fun s => by show Tm.wts s ts ≤ _; have := pwt s; omega) (fun s => by show Tm.wts s ts ≤ _; have := pwt2 s; omega) pdv pnm
          -- ranked
          refine ⟨_, rfl, rfl, _, rfl, ?_⟩
          refine (fun rank => ite2 (fun _ => rank) (fun _ => ⟨_, rfl, _, rfl, ite2 (fun _ => rank) (fun cm => ?mean)⟩)) ?rank
          case mean =>
            -- mean
            refine ⟨_, rfl, D, rfl, ⟨_, SqL.of h1⟩, fun D2 hD2 => ?_⟩
            have nD2 := nd d3 hD2
            have nDD : D ≠ D2 := ne_of_none h1 hD2
            refine lc_list (K := K) (a := D) (xs := ys) (fun i H' => ∃ (zs : List V) (ws : List Int), H' D2 = some (.lst zs) ∧ ws.length = i ∧ RpAll K H' zs (meanD ws (Tm.datas (ts.take i))) ∧ (∀ w ∈ ws, 1 ≤ w ∧ w ≤ 5) ∧ Dice H' da ∧ KD da.1 H3 H' ∧ H' D = some (.lst ys))
              ⟨[], [], upd_same, rfl, .nil, by simp, d3.same (same_new hD2), Same.kd (same_new hD2), by rw [upd_ne nDD]; exact h1⟩ (fun i H' _ ⟨_, _, _, _, _, _, _, _, g⟩ => SqL.of g) ?_ ?_
            · rintro i y H' hi ⟨zs, ws, g1, g2, g3, g4, g5, g6, g7⟩
              obtain ⟨t, ht, rt⟩ := h3.getV hi
              refine ⟨rfl, _, rfl, da, 5, rfl, g5, by decide, by decide, fun x H5 x0 x1 d5 e5 => ⟨_, _, rfl, rfl, _, rfl, (by show 2 ≤ sizeLine; decide), fun p hp => ?_⟩⟩
              have s6 := same_new (o := .tup [.int (1 + x), y]) hp
              have hD5 := e5 D2 _ nD2.1 g1
              have hD6 := s6 _ _ hD5
              have kt36 : KT H3 H5 := (d3.kt g6).trans (g5.kt e5)
              have zl : zs.length ≤ 3 := by
                rw [g3.length]
                unfold meanD
                rw [List.length_zipWith, g2]
                have := (List.getElem?_eq_some_iff.mp hi).1
                omega
              have nDp : D ≠ p := ne_of_none (e5 D _ nD.1 g7) hp
              refine ⟨zs, hD6, small1000 (by omega), zs ++ [.ref p], ws ++ [1 + x], upd_same, by simp [g2], ?_, ?_, (d5.same s6).upd nD2, ((g6.trans e5).trans (Same.kd s6)).mut hD2, ?_⟩
              · refine RpAll.mono (KT.updl hD6) ?_
                have e1 : ts.take (i + 1) = ts.take i ++ [t] := take_succ' ht
                have e2 : meanD (ws ++ [1 + x]) (Tm.datas (ts.take (i + 1))) = meanD ws (Tm.datas (ts.take i)) ++ [.tuple [.int (1 + x), t.data]] := by
                  rw [e1, datas_map, datas_map, List.map_append]
                  unfold meanD
                  rw [List.zipWith_append]
                  · rfl
                  · rw [List.length_map, List.length_take, g2]
                    have := (List.getElem?_eq_some_iff.mp ht).1
                    omega
                rw [e2]
                exact RpAll.append (RpAll.mono ((g5.kt e5).trans (Same.kt s6)) g3) (.cons (.tup (SqT.of upd_same) (.cons (.int _) (.cons ((rt.mono kt36).mono (Same.kt s6)) .nil))) .nil)
              · intro w hw
                rcases List.mem_append.mp hw with h | h
                · exact g4 w h
                · rw [List.mem_singleton.mp h]
                  omega
              · rw [upd_ne nDD]
                exact s6 _ _ (e5 D _ nD.1 g7)
            · rintro H4 ⟨zs, ws, g1, g2, g3, g4, d4, e4, g7⟩
              rw [hyl, List.take_length] at g3
              refine ⟨D2, zs, rfl, .inl ⟨SqL.of g1, fun l hl => ⟨(by show 2 ≤ sizeLine; decide), fun p hp => ?_⟩⟩⟩
              have s4 := same_new (o := .tup zs) hl
              have s5 := same_new (o := .tup [.str "mean", .ref l]) hp
              refine fin _ (.mean ws ts) _ (.tup (SqT.of upd_same) (.cons (.str _) (.cons (.tup (SqT.of (s5 _ _ upd_same)) (RpAll.mono (Same.kt (s4.trans s5)) g3)) .nil))) ?_ (d4.same (s4.trans s5)) ((e13.trans e4).trans (Same.kd (s4.trans s5)))
              have g5w : ∀ w ∈ ws, 1 ≤ w ∧ w ≤ 5 := g4
              exact drawn _ ⟨by rw [g2, hyl], pne, by omega, fun w h => ⟨(g4 w h).1, by have := (g4 w h).2; omega⟩, po⟩ (by show Tm.deps ts + 1 ≤ _; omega) (by show Tm.cnts ts + 1 ≤ _; omega) (fun s => by show Tm.wts s ts + 12 ≤ _; have := pwt s; omega) (fun s => by show Tm.wts s ts + 12 ≤ _; have := pwt2 s; omega) ⟨(sum_dvd (by have := (sum_bd g5w).1; omega) (by have := (sum_bd g5w).2; omega)).1, (sum_dvd (by have := (sum_bd g5w).1; omega) (by have := (sum_bd g5w).2; omega)).2, pdv⟩ (fun e => absurd (show (!m) = true by rw [e]; rfl) cm)
          case rank =>
            refine ⟨_, rfl, _, rfl, D, ys, rfl, .inl (SqL.of h1), da, (ys.length : Int), rfl, d3, by omega, by omega, fun x H4 x0 x1 d4 e4 => ⟨_, _, rfl, rfl, _, rfl, D, ys, rfl, .inl ⟨SqL.of (e4 D _ nD.1 h1), fun l hl => ⟨(by show 3 ≤ sizeLine; decide), fun p hp => ?_⟩⟩⟩⟩
            have s4 := same_new (o := .tup ys) hl
            have s5 := same_new (o := .tup [.str "ranked", .int (1 + x), .ref l]) hp
            have er : (((1 + x).toNat : Nat) : Int) = 1 + x := Int.toNat_of_nonneg (by omega)
            refine fin _ (.ranked (1 + x).toNat ts) _ (.tup (SqT.of upd_same) (.cons (.str _) (.cons (by rw [er]; exact .int _) (.cons (tup l _ ((d3.kt e4).trans (Same.kt (s4.trans s5))) (s5 _ _ upd_same)) .nil)))) ?_ (d4.same (s4.trans s5)) ((e13.trans e4).trans (Same.kd (s4.trans s5)))
            exact drawn _ ⟨by omega, by omega, by omega, po⟩ (by show Tm.deps ts + 1 ≤ _; omega) (by show Tm.cnts ts + 1 ≤ _; omega) (fun s => by show Tm.wts s ts ≤ _; have := pwt s; omega) (fun s => by show Tm.wts s ts ≤ _; have := pwt2 s; omega) pdv pnm
end
end CB

set_option Elab.async false
set_option linter.all false
set_option maxRecDepth 100000
set_option maxHeartbeats 4000000
namespace CB
open PySem PySem.Spec PyProof.Rows L2
/-- a table that is right: it does not fall, its numbers are numbers, and their bottoms divide N -/
structure RightT (f : List Nat → Rat) (n N : Nat) : Prop where
  mono : MonoF f n
  zo : ∀ l, 0 ≤ f l ∧ f l ≤ 1
  den : ∀ l, (f l).den ∣ N
theorem right_without {f : List Nat → Rat} {n N p : Nat} (h6 : n ≤ 6) (h : RightT f n N) : RightT (fun l => f (l.filter fun q => !decide (q = p))) n N :=
  ⟨mono_without h6 h.mono, fun l => h.zo _, fun l => h.den _⟩
theorem getD_of {ss : List Rat} {k : Nat} {P : Rat → Prop} (h0 : P 0) (h : ∀ q ∈ ss, P q) : P (ss.getD k 0) := by
  rw [List.getD_eq_getElem?_getD]
  cases e : ss[k]? with
  | none => exact h0
  | some q => exact h q (List.mem_of_getElem? e)
theorem right_steps {ss : List Rat} {n N : Nat} (h6 : n ≤ 6) (hl : ss.length = n + 1) (hs : Srt ss) (h01 : ∀ q ∈ ss, 0 ≤ q ∧ q ≤ 1) (hd : ∀ q ∈ ss, q.den ∣ N) : RightT (fun l => ss.getD l.length 0) n N :=
  ⟨mono_steps h6 hl hs, fun l => getD_of (P := fun q => 0 ≤ q ∧ q ≤ 1) ⟨by grind, by grind⟩ h01, fun l => getD_of (P := fun q => q.den ∣ N) (Nat.one_dvd _) hd⟩
/-- what some weigh -/
def weigh (ws : List Nat) (l : List Nat) : Nat := (l.map fun p => ws.getD p 0).sum
theorem weigh_filter (ws : List Nat) (P Q : Nat → Bool) (h : ∀ p, P p = true → Q p = true) : ∀ r : List Nat, weigh ws (r.filter P) ≤ weigh ws (r.filter Q)
  | [] => Nat.le_refl _
  | p :: r => by
    have ih := weigh_filter ws P Q h r
    unfold weigh at ih ⊢
    cases cp : P p with
    | true =>
      rw [List.filter_cons_of_pos cp, List.filter_cons_of_pos (h p cp), List.map_cons, List.sum_cons, List.map_cons, List.sum_cons]
      omega
    | false =>
      rw [List.filter_cons_of_neg (by rw [cp]; decide)]
      cases cq : Q p with
      | true => rw [List.filter_cons_of_pos cq, List.map_cons, List.sum_cons]; omega
      | false => rw [List.filter_cons_of_neg (by rw [cq]; decide)]; exact ih
theorem lots_filter : ∀ n, n < 7 → ∀ l ∈ subs n, l = (List.range n).filter fun p => l.contains p := by decide +kernel
theorem weigh_mono {ws : List Nat} {n : Nat} {l m : List Nat} (h6 : n ≤ 6) (hl : l ∈ lotsI n) (hm : m ∈ lotsI n) (s : ∀ q ∈ l, q ∈ m) : weigh ws l ≤ weigh ws m := by
  have e1 := lots_filter n (by omega) l ((lotsI_perm h6).mem_iff.mp hl)
  have e2 := lots_filter n (by omega) m ((lotsI_perm h6).mem_iff.mp hm)
  rw [e1, e2]
  exact weigh_filter ws _ _ (fun p hp => by simp only [List.contains_iff_mem] at hp ⊢; exact s p hp) _
theorem right_corner {t : Tm} {n s : Nat} (ho : t.Ok n s) (hd : t.Dv N0 W0) : RightT (fun l => t.val (end01 n l)) n (N0 * W0 ^ t.dep) := by
  refine ⟨mono_corner ho, fun l => val_01 (end01_len _ _) (end01_01 n l) t ho, fun l => den_of (Nat.mul_pos N0_pos (Nat.pow_pos (show 0 < W0 by decide))) (val_dn (fun q hq => ?_) (end01_len n l) ho hd)⟩
  obtain ⟨i, hi, rfl⟩ := List.getElem_of_mem hq
  have il : i < n := by rw [end01_len] at hi; exact hi
  have e := end01_get (ps := l) il
  rw [List.getElem?_eq_getElem hi] at e
  rw [Option.some.inj e]
  split <;> exact Nat.one_dvd _
end CB

set_option Elab.async false
set_option linter.all false
set_option maxRecDepth 100000
set_option maxHeartbeats 4000000
/-! _law_value of terms and bids with known bottoms -/
namespace CB
open PySem PySem.Spec PyProof.Rows L2
open C8 (Cal Met Mak pe_c pe_mk pe_mt pe_mt0 pe_gc CalAt)
section
variable {P : Program} {w : World} {K : PySem.W.Frag} {mg : Str → Option Value} {base : Heap}
def spLVd (K : PySem.W.Frag) (D : Nat) : Sp := fun vs H Q _ => ∃ (v : V) (ab : Addr) (n s : Nat) (bs : List Rat) (t : Tm), vs = [v, .ref ab] ∧ Rp K H v t.data ∧ t.Ok n s ∧ s ≤ 9000 ∧ t.dep ≤ D ∧ DvB t bs ∧ Bids K H ab n s bs ∧
  ∀ v H', Same H H' → RF K H' v (t.val bs) → Q v H'
theorem psumC_take {bs : List Rat} {ws : List Int} {ts : List Tm} {i : Nat} {z : Int} {t : Tm} (s : Nat) (e1 : ws[i]? = some z) (e2 : ts[i]? = some t) : (mpC s bs ws ts).take (i + 1) = (mpC s bs ws ts).take i ++ [(z, t.val bs, 1000)] := by
  refine take_succ' ?_
  unfold mpC
  rw [List.getElem?_zipWith, e1, e2]
theorem ok__law_value_t (F : FnD K mg "_law_value" s__law_value) (c__law_sum : Cal P w K mg base 2 "_law_sum" (sp__law_sum K) []) (c__law_product : Cal P w K mg base 2 "_law_product" (sp__law_product K) []) (c__law_sorted : Cal P w K mg base 2 "_law_sorted" (sp__law_sorted K) [])
    (T_len : mg "len" = none) (T_sum : mg "sum" = none) : ∀ D : Nat, Cal P w K mg base (D + 3) "_law_value" (spLVd K D) [] := by
  intro D
  induction D with
  | zero => exact calOf (k := 2) F sc__law_value (fun _ _ _ _ _ _ us hl => match us, hl with | [_, _], _ => rfl) (fun vs H Q E h => by obtain ⟨_, _, _, _, _, t, _, _, _, _, h, _⟩ := h; rw [dep_children t] at h; omega) (fun cdv f A outer s H vs Q E hr h => by obtain ⟨_, _, _, _, _, t, _, _, _, _, h, _⟩ := h; rw [dep_children t] at h; omega)
  | succ D ih =>
    have c__law_value := ih
    refine calOf (k := D + 3) F sc__law_value (fun _ _ _ _ _ _ us hl => match us, hl with | [_, _], _ => rfl) (fun vs H Q E h => ?_) (fun cdv f A outer s H vs Q E hr h => ?_)
    · obtain ⟨_, _, _, _, _, _, rfl, _⟩ := h
      rfl
    · obtain ⟨v, ab, n, sz, bs, t, rfl, rt, ho, hsz, hdep, hwt, hB, k⟩ := h
      have hdc := dep_children t
      obtain ⟨us, hB1, hB2, hB3, hB4⟩ := id hB
      have hB01 : ∀ q ∈ bs, In01 q := fun q h => ⟨(hB4 q h).1, (hB4 q h).2.1⟩
      refine ⟨_, (pss_cons (ps_set (i := 2) sc__law_value.nd rfl (Or.inl rfl) (pe_ix ix_tup (pv 0) pe_int (fun _ _ => rfl)))
    (pss_cons (ps_if (pt_cmpR op_eq (pv 2) pe_str (nomark _)) (pss_one (ps_ret (pe_ix ix_tup (pv 1) (pe_ix ix_tup (pv 0) pe_int (fun _ _ => rfl)) (fun _ _ => rfl)))) pss_nil)
    (pss_cons (ps_if (pt_cmpR op_eq (pv 2) pe_str (nomark _)) (pss_one (ps_ret (pe_ix ix_tup (pv 0) pe_int (fun _ _ => rfl)))) pss_nil)
    (pss_cons (ps_if (pt_cmpR op_eq (pv 2) pe_str (nomark _)) (pss_cons (ps_set (i := 3) sc__law_value.nd rfl (Or.inl rfl) (pe_tup (pa_cons pe_int (pa_cons pe_int pa_nil))))
    (pss_cons (ps_for PassesOwn.never rfl (pi_tup (pe_ix ix_tup (pv 0) pe_int (fun _ _ => rfl))) (pg_tup rfl (pgs_cons (pg_name (i := 4) sc__law_value.nd rfl (Or.inl rfl)) (pgs_cons (pg_name (i := 5) sc__law_value.nd rfl (Or.inl rfl)) pgs_nil))) (pss_one (ps_set (i := 3) sc__law_value.nd rfl (Or.inl rfl) (pe_c c__law_sum hr (by first | decide | omega) rfl (pa_cons (pv 3) (pa_cons (pe_c c__law_product hr (by first | decide | omega) rfl (pa_cons (pe_tup (pa_cons (pv 4) (pa_cons pe_int pa_nil))) (pa_cons (pe_c c__law_value hr (by first | decide | omega) rfl (pa_cons (pv 5) (pa_cons (pv 1) pa_nil))) pa_nil))) (pa_cons pe_int pa_nil)))))))
    (pss_one (ps_ret (pe_c c__law_product hr (by first | decide | omega) rfl (pa_cons (pv 3) (pa_cons (pe_tup (pa_cons pe_int (pa_cons (pe_callB (cr_sum rfl) (by rfl) T_sum (by decide +kernel) (pa_cons (pe_lc (own := [("_law_weight", 4), ("_law_part", 5)]) (g := (gTup K 2 (gCons (gName 4) (gCons (gName 5) gNil)))) (by rfl) sc__law_value.nd (pi_tup (pe_ix ix_tup (pv 0) pe_int (fun _ _ => rfl))) (blkOk_by (own := [("_law_weight", 4), ("_law_part", 5)]) (N := ["_law_term_here", "_law_bids", "_law_word", "_law_whole", "_law_weight", "_law_part", "_law_told"]) (sc := defScope s__law_value) (by decide +kernel)) (fun _ _ _ _ _ => (pg_tup rfl (pgs_cons (pg_name (i := 4) sc__law_value.nd rfl (Or.inl rfl)) (pgs_cons (pg_name (i := 5) sc__law_value.nd rfl (Or.inl rfl)) pgs_nil)))) (fun _ _ _ _ _ => pts_nil) (fun _ _ _ _ _ => (pv 4))) pa_nil)) pa_nil))) pa_nil))))))) pss_nil)
    (pss_cons (ps_if (pt_cmpR op_eq (pv 2) pe_str (nomark _)) (pss_one (ps_ret (pe_ix ix_list (pe_c c__law_sorted hr (by first | decide | omega) rfl (pa_cons (pe_lst (pa_cons (pe_ix ix_tup (pv 0) pe_int (fun _ _ => rfl)) (pa_cons (pe_ix ix_tup (pv 0) pe_int (fun _ _ => rfl)) (pa_cons (pe_c c__law_value hr (by first | decide | omega) rfl (pa_cons (pe_ix ix_tup (pv 0) pe_int (fun _ _ => rfl)) (pa_cons (pv 1) pa_nil))) pa_nil)))) pa_nil)) pe_int (fun _ _ => rfl)))) pss_nil)
    (pss_cons (ps_set (i := 6) sc__law_value.nd rfl (Or.inl rfl) (pe_c c__law_sorted hr (by first | decide | omega) rfl (pa_cons (pe_lc (own := [("_law_part", 5)]) (by rfl) sc__law_value.nd (pi_tup (pe_ix ix_tup (pv 0) (pe_un un_neg pe_int) (fun _ _ => rfl))) (blkOk_by (own := [("_law_part", 5)]) (N := ["_law_term_here", "_law_bids", "_law_word", "_law_whole", "_law_weight", "_law_part", "_law_told"]) (sc := defScope s__law_value) (by decide +kernel)) (fun _ _ _ _ _ => (pg_name (i := 5) sc__law_value.nd rfl (Or.inl rfl))) (fun _ _ _ _ _ => pts_nil) (fun _ _ _ _ _ => (pe_c c__law_value hr (by first | decide | omega) rfl (pa_cons (pv 5) (pa_cons (pv 1) pa_nil))))) pa_nil)))
    (pss_cons (ps_if (pt_cmpR op_eq (pv 2) pe_str (nomark _)) (pss_one (ps_ret (pe_ix ix_list (pv 6) pe_int (fun _ _ => rfl)))) pss_nil)
    (pss_cons (ps_if (pt_cmpR op_eq (pv 2) pe_str (nomark _)) (pss_one (ps_ret (pe_ix ix_list (pv 6) (pe_un un_neg pe_int) (fun _ _ => rfl)))) pss_nil)
    (pss_one (ps_ret (pe_ix ix_list (pv 6) (pe_op op_sub (pe_callB call_len_seq (by rfl) T_len PySem.boot_len (pa_cons (pv 6) pa_nil)) (pe_ix ix_tup (pv 0) pe_int (fun _ _ => rfl))) (fun _ _ => rfl)))))))))))), ?_⟩
      obtain ⟨a, r, rfl, ha⟩ := t_head rt
      refine ⟨_, rfl, _, _, _, _, rfl, rfl, ha, at_of (j := 0) rfl rfl, ?_⟩
      refine ⟨_, rfl, rfl, _, rfl, ite2 (fun c => ?_) (fun c1 => ?_)⟩
      · cases t with
        | bid p =>
          obtain ⟨a2, e, ha2⟩ := t_bid rt
          cases e
          have hp : p < bs.length := by rw [hB3]; exact ho
          obtain ⟨x, hx, rx⟩ := RQ.get hB2 (List.getElem?_eq_getElem hp)
          have ev : (Tm.bid p).val bs = bs[p] := by show bs.getD p 0 = _; rw [List.getD_eq_getElem?_getD, List.getElem?_eq_getElem hp]; rfl
          refine ⟨_, rfl, _, rfl, _, _, _, _, rfl, rfl, ha2, rfl, ab, us, _, x, rfl, rfl, hB1, at_of (j := p) rfl hx, k x _ (Same.refl _) ?_⟩
          rw [ev]
          exact rx
        | _ => exact absurd (of_decide_eq_true c) (by simp only [Tm.word]; decide +kernel)
      refine ⟨_, rfl, rfl, _, rfl, ite2 (fun c => ?_) (fun c2 => ?_)⟩
      · cases t with
        | fixed q =>
          obtain ⟨a2, x, e, ha2, hx⟩ := t_fixed rt
          cases e
          exact ⟨_, rfl, _, _, _, _, rfl, rfl, ha2, rfl, k x _ (Same.refl _) hx⟩
        | _ => exact absurd (of_decide_eq_true c) (by simp only [Tm.word]; decide +kernel)
      refine ⟨_, rfl, rfl, _, rfl, ite2 (fun c => ?_) (fun c3 => ?_)⟩
      · cases t with
        | mean ws ts =>
          obtain ⟨a2, b2, us2, e, ha2, hb2, hu2⟩ := t_mean rt
          cases e
          obtain ⟨wl, tne, tl, hwb, hob⟩ := ho
          have hd2 : Tm.deps ts + 1 ≤ D + 1 := by rw [hdc] at hdep; exact hdep
          have ul : us2.length = ts.length := by rw [hu2.length, meanD_length _ _ (by rw [datas_map, List.length_map]; exact wl), datas_map, List.length_map]
          have pl : (mpC sz bs ws ts).length = ts.length := mpC_length wl
          have pok : ∀ x ∈ mpC sz bs ws ts, MOk x := fun x hx => by
            obtain ⟨h1, t, h2, h3⟩ := mpC_mem hx
            have g := hwb _ h1
            rw [MOk, h3]
            exact ⟨g.1, g.2, (hwt.kid (show t ∈ Tm.children (.mean ws ts) from h2)).sz ((oks_iff _ _ _).mp hob t h2) hB3 hB01⟩
          have psz := mpC_sz sz bs wl
          refine ⟨(by show 2 ≤ sizeLine; decide), fun p0 hp0 => ?_⟩
          have s0 := same_new (o := .tup [.int 0, .int 1]) hp0
          refine ⟨_, rfl, _, _, _, _, rfl, rfl, (Same.kt s0).sq ha2, rfl, b2, rfl, ⟨_, (Same.kt s0).sq hb2⟩, for_tup (K := K) (a := b2) (xs := us2) (fun i σ H' => ∃ (vw : V) (x y : Option V), σ = [some (.ref a), some (.ref ab), some (.str "mean"), some vw, x, y, none] ∧ Same H H' ∧ RF K H' vw (wsum ((mpC sz bs ws ts).take i)))
            ⟨.ref p0, none, none, rfl, s0, zero_rf (SqT.of upd_same)⟩ (fun i σ H' _ ⟨_, _, _, _, s5, _⟩ => (Same.kt s5).sq hb2) ?_ ?_⟩
          · rintro i x σ H' hx ⟨vw, _, _, rfl, s5, r5⟩
            obtain ⟨c, z, t, y, rfl, e1, e2, p1, p2⟩ := mean_part hu2 hx
            have hz := hwb z (List.mem_of_getElem? e1)
            have mt := List.mem_of_getElem? e2
            have kt5 := Same.kt s5
            have tdp := deps_mem mt
            refine ⟨c, _, rfl, kt5.sq p1, rfl, _, _, rfl, _, _, rfl, rfl, ?_⟩
            refine ⟨_, rfl, _, rfl, (by show 2 ≤ sizeLine; decide), fun p1 hp1 => ?_⟩
            have s1 := same_new (o := .tup [.int z, .int 1]) hp1
            have mk : t ∈ Tm.children (.mean ws ts) := mt
            have hzt := (hwt.kid mk).sz ((oks_iff _ _ _).mp hob t mt) hB3 hB01
            refine ⟨_, rfl, _, rfl, y, ab, n, sz, bs, t, rfl, (p2.mono kt5).mono (Same.kt s1), (oks_iff _ _ _).mp hob t mt, hsz, by omega, hwt.kid mk, (hB.mono kt5).mono (Same.kt s1), fun u H2 s2 ru => ?_⟩
            have hw7 : z.natAbs < 2 ^ 7 := by omega
            refine ⟨.ref p1, u, z, 1, _, _, 7, 1000, rfl, ⟨p1, rfl, (Same.kt s2).sq (SqT.of upd_same)⟩, ru, by omega, den_pos _, hw7, by decide, hzt.1, hzt.d, by omega, fun u2 H3 s3 r3 => ?_⟩
            rw [divInt_self', ← int_rat] at r3
            have pt := psumC_take (bs := bs) sz e1 e2
            have le := wsz_take_le (L := mpC sz bs ws ts) (i := i + 1)
            rw [psz] at le
            have lz : wsz ((mpC sz bs ws ts).take (i + 1)) = wsz ((mpC sz bs ws ts).take i) + (1000 + 8) := by rw [pt, wsz_snoc]
            have zs : Sz (wsz ((mpC sz bs ws ts).take i) + 1) (wsum ((mpC sz bs ws ts).take i)) := wsum_sz fun x hx => pok x (List.mem_of_mem_take hx)
            have zp : Sz (7 + 1000) (((z : Int) : Rat) * t.val bs) := by
              rw [mul_divInt]
              exact divInt_sz (den_pos _) (wide_lt hw7 hzt.1) (Nat.lt_of_lt_of_le hzt.d (Nat.pow_le_pow_right (by omega) (by omega)))
            refine ⟨vw, u2, _, _, _, _, 1, _, _, rfl, r5.mono (Same.kt ((s1.trans s2).trans s3)), r3, den_pos _, den_pos _, .inl rfl, zs.1, zs.d, zp.1, zp.d, by omega, fun u3 H4 s4 r4 => ?_⟩
            rw [divInt_self', divInt_self', rat_one_mul] at r4
            refine ⟨u3, _, _, rfl, s5.trans (((s1.trans s2).trans s3).trans s4), ?_⟩
            rw [pt, wsum_snoc]
            exact r4
          · rintro σ H' ⟨vw, _, _, rfl, s5, r5⟩
            rw [ul, ← pl, List.take_length] at r5
            have kt5 := Same.kt s5
            have wb := wtot_bound pok
            have ewt : wtot (mpC sz bs ws ts) = ws.sum := by unfold wtot; rw [mpC_ws sz bs wl]
            have l1 := List.length_pos_iff.mpr tne
            refine ⟨_, rfl, _, rfl, _, _, _, _, rfl, rfl, kt5.sq ha2, rfl, b2, rfl, ⟨_, kt5.sq hb2⟩, fun M hM => ?_⟩
            refine it_tup (K := K) (a := b2) (xs := us2) (fun i H2 => H2 M = some (.lst ((ws.take i).map V.int)) ∧ Same H' H2)
              ⟨by rw [List.take_zero]; exact upd_same, same_new hM⟩ (fun i H2 ⟨_, s6⟩ => (Same.kt (s5.trans s6)).sq hb2) ?_ ?_
            · rintro i x H2 hx ⟨q1, q2⟩
              obtain ⟨c, z, t, y, rfl, e1, e2, p1, p2⟩ := mean_part hu2 hx
              have hi := (List.getElem?_eq_some_iff.mp hx).1
              refine ⟨c, _, rfl, (Same.kt (s5.trans q2)).sq p1, rfl, _, _, rfl, _, _, rfl, rfl, rfl, _, rfl, _, q1, by rw [List.length_map, List.length_take]; exact small1000 (by omega), ?_, Same.mut q2 hM⟩
              rw [take_succ' e1, List.map_append]
              exact upd_same
            · rintro H2 ⟨q1, q2⟩
              rw [ul, ← wl, List.take_length] at q1
              refine ⟨M, ws, rfl, SqL.of q1, (by show 2 ≤ sizeLine; decide), fun p hp => ?_⟩
              have s7 := same_new (o := .tup [.int 1, .int ws.sum]) hp
              have zs : Sz (wsz (mpC sz bs ws ts) + 1) (wsum (mpC sz bs ws ts)) := wsum_sz pok
              rw [psz] at zs
              refine ⟨vw, .ref p, _, _, 1, ws.sum, _, 10, rfl, r5.mono (Same.kt (q2.trans s7)), ⟨p, rfl, SqT.of upd_same⟩, den_pos _, by omega, zs.1, zs.d, by decide, by omega, by omega, fun u H3 s8 r8 => ?_⟩
              rw [divInt_self'] at r8
              refine k u H3 ((s5.trans q2).trans (s7.trans s8)) ?_
              have em : wsum (mpC sz bs ws ts) * Rat.divInt 1 ws.sum = (Tm.mean ws ts).val bs := by
                show _ = wavg ws (Tm.vals bs ts)
                rw [← mpC_avg sz bs wl, ewt]
                have e1 : Rat.divInt 1 ws.sum = 1 / ((ws.sum : Int) : Rat) := by rw [Rat.divInt_eq_div]; rfl
                rw [e1]
                grind
              rw [← em]
              exact r8
        | _ => exact absurd (of_decide_eq_true c) (by simp only [Tm.word]; decide +kernel)
      refine ⟨_, rfl, rfl, _, rfl, ite2 (fun c => ?_) (fun c4 => ?_)⟩
      · cases t with
        | between lo hi t =>
          obtain ⟨n1, n2, hl, hob⟩ := ho
          obtain ⟨a2, x, y, z, e, ha2, rx, ry, rz⟩ := t_between rt
          cases e
          have mk : t ∈ Tm.children (.between lo hi t) := List.mem_singleton.mpr rfl
          have hd2 : t.dep + 1 ≤ D + 1 := hdep
          have hzt := (hwt.kid mk).sz hob hB3 hB01
          refine ⟨_, rfl, _, _, _, _, rfl, rfl, ha2, rfl, _, rfl, _, _, _, _, rfl, rfl, ha2, rfl, _, rfl, _, _, _, _, rfl, rfl, ha2, rfl, _, rfl, z, ab, n, sz, bs, t, rfl, rz, hob, hsz, by omega, hwt.kid mk, hB, fun u H1 s1 ru => ?_⟩
          refine ⟨(by show 3 ≤ sizeLine; decide), fun p hp => ?_⟩
          have s2 := same_new (o := .lst [x, y, u]) hp
          have kt1 := Same.kt (s1.trans s2)
          refine ⟨p, [x, y, u], [lo, hi, t.val bs], rfl, SqL.of upd_same, .cons (rx.mono kt1).rp (.cons (ry.mono kt1).rp (.cons (ru.mono (Same.kt s2)).rp .nil)), ?_, (by show 3 ≤ 100; decide), fun pl ys H2 _ s3 hys rys => ?_⟩
          · intro q hq
            rcases List.mem_cons.mp hq with h | h
            · rw [h]; exact n1.2.2.mono hsz
            · rcases List.mem_cons.mp h with h | h
              · rw [h]; exact n2.2.2.mono hsz
              · rw [List.mem_singleton.mp h]; exact hzt.mono (by omega)
          obtain ⟨v1, e1, r1⟩ := RQ.get rys (isort_mid (x := t.val bs) hl)
          exact ⟨pl, _, 1, v1, rfl, rfl, SqL.of hys, at_of (j := 1) rfl e1, k v1 H2 ((s1.trans s2).trans s3) r1⟩
        | _ => exact absurd (of_decide_eq_true c) (by simp only [Tm.word]; decide +kernel)
      -- least, greatest, ranked
      have kids : ∃ b2 us2, SqT K H b2 us2 ∧ RTs K H us2 t.children ∧ ∃ r2, SqT K H a (.str t.word :: (r2 ++ [V.ref b2])) ∧ t.children ≠ [] ∧ r2.length ≤ 1 := by
        cases t with
        | bid p => exact absurd (decide_eq_true rfl) c1
        | fixed q => exact absurd (decide_eq_true rfl) c2
        | mean ws ts => exact absurd (decide_eq_true rfl) c3
        | between lo hi t => exact absurd (decide_eq_true rfl) c4
        | least ts => obtain ⟨a2, b2, us2, e, ha2, hb2, hu2⟩ := t_least rt; cases e; exact ⟨b2, us2, hb2, hu2, [], ha2, ho.1, Nat.zero_le _⟩
        | greatest ts => obtain ⟨a2, b2, us2, e, ha2, hb2, hu2⟩ := t_greatest rt; cases e; exact ⟨b2, us2, hb2, hu2, [], ha2, ho.1, Nat.zero_le _⟩
        | ranked kk ts =>
          obtain ⟨a2, b2, us2, e, ha2, hb2, hu2⟩ := t_ranked rt
          cases e
          refine ⟨b2, us2, hb2, hu2, [V.int (kk : Int)], ha2, ?_, Nat.le_refl _⟩
          intro e
          have h1 := ho.1
          have h2 := ho.2.1
          have e' : ts = [] := e
          rw [e'] at h2
          simp at h2
          omega
      obtain ⟨b2, us2, hb2, hu2, r2, ha3, cne, rl⟩ := kids
      have hlast : atI (V.str t.word :: (r2 ++ [V.ref b2])) (-1) = some (V.ref b2) := by
        cases r2 with
        | nil => rfl
        | cons y r2 =>
          have : r2 = [] := by simpa using rl
          subst this
          rfl
      have cl8 := kids_len ho
      have ul : us2.length = t.children.length := RTs.length hu2
      refine ⟨_, rfl, _, rfl, _, _, _, _, rfl, rfl, ha3, hlast, b2, rfl, ⟨_, hb2⟩, fun L hL => ?_⟩
      refine it_tup (K := K) (a := b2) (xs := us2) (fun i H' => ∃ zs : List V, H' L = some (.lst zs) ∧ RQ K H' zs (Tm.vals bs (t.children.take i)) ∧ Same H H')
        ⟨[], upd_same, by rw [List.take_zero]; exact .nil, same_new hL⟩ (fun i H' ⟨_, _, _, s5⟩ => (Same.kt s5).sq hb2) ?_ ?_
      · rintro i x H' hx ⟨zs, g1, g2, g3⟩
        obtain ⟨u, hu, ru⟩ := RTs.getV hu2 hx
        have mu := List.mem_of_getElem? hu
        have ud := deps_mem mu
        have zl : zs.length ≤ 8 := by rw [RQ.length g2, vals_length, List.length_take]; omega
        refine ⟨rfl, _, rfl, _, rfl, x, ab, n, sz, bs, u, rfl, ru.mono (Same.kt g3), (oks_iff _ _ _).mp (ok_children ho) u mu, hsz, by omega, hwt.kid mu, hB.mono (Same.kt g3), fun y H2 s2 ry => ?_⟩
        refine ⟨zs, s2 _ _ g1, small1000 (by omega), zs ++ [y], upd_same, ?_, Same.mut (g3.trans s2) hL⟩
        have e1 : Tm.vals bs (t.children.take (i + 1)) = Tm.vals bs (t.children.take i) ++ [u.val bs] := by
          rw [take_succ' hu, vals_map, vals_map, List.map_append]
          rfl
        rw [e1]
        exact RpAll.mono (KT.updl (s2 _ _ g1)) (RQ.snoc (RpAll.mono (Same.kt s2) g2) ry)
      · rintro H1 ⟨zs, g1, g2, g3⟩
        rw [ul, List.take_length] at g2
        have hz : ∀ q ∈ Tm.vals bs t.children, Sz 9000 q := by
          intro q hq
          rw [vals_map] at hq
          obtain ⟨u, hu, rfl⟩ := List.mem_map.mp hq
          exact ((hwt.kid hu).sz ((oks_iff _ _ _).mp (ok_children ho) u hu) hB3 hB01).mono (by omega)
        have vl := vals_length bs t.children
        have vne : Tm.vals bs t.children ≠ [] := vals_ne cne
        refine ⟨L, zs, _, rfl, SqL.of g1, g2, hz, by omega, fun pl ys H2 _ s3 hys rys => ?_⟩
        have s2 := g3.trans s3
        have yl : ys.length = t.children.length := by rw [RQ.length rys, isort_length, vl]
        have yp : 0 < ys.length := by rw [yl]; exact List.length_pos_iff.mpr cne
        cases t with
        | bid p => exact absurd (decide_eq_true rfl) c1
        | fixed q => exact absurd (decide_eq_true rfl) c2
        | mean ws ts => exact absurd (decide_eq_true rfl) c3
        | between lo hi t => exact absurd (decide_eq_true rfl) c4
        | least ts =>
          refine ⟨_, rfl, rfl, _, rfl, ite2 (fun _ => ?_) (fun c => absurd (decide_eq_true rfl) c)⟩
          obtain ⟨v1, e1, r1⟩ := RQ.get rys (isort_first vne)
          exact ⟨_, rfl, pl, _, 0, v1, rfl, rfl, SqL.of hys, at_of (j := 0) rfl e1, k v1 H2 s2 r1⟩
        | greatest ts =>
          refine ⟨_, rfl, rfl, _, rfl, ite2 (fun c => absurd (of_decide_eq_true c) (by simp only [Tm.word]; decide +kernel)) (fun _ => ?_)⟩
          refine ⟨_, rfl, rfl, _, rfl, ite2 (fun _ => ?_) (fun c => absurd (decide_eq_true rfl) c)⟩
          obtain ⟨v1, e1, r1⟩ := RQ.get rys (isort_last vne)
          have e2 : atI ys (-1) = some v1 := by
            unfold atI ixN
            rw [if_neg (by omega), if_pos (by omega)]
            have e3 : (-1 + (ys.length : Int)).toNat = (Tm.vals bs (Tm.greatest ts).children).length - 1 := by rw [vl, ← yl]; omega
            show ys[(-1 + (ys.length : Int)).toNat]? = some v1
            rw [e3]
            exact e1
          exact ⟨_, rfl, _, rfl, pl, _, -1, v1, rfl, rfl, SqL.of hys, e2, k v1 H2 s2 r1⟩
        | ranked kk ts =>
          refine ⟨_, rfl, rfl, _, rfl, ite2 (fun c => absurd (of_decide_eq_true c) (by simp only [Tm.word]; decide +kernel)) (fun _ => ?_)⟩
          refine ⟨_, rfl, rfl, _, rfl, ite2 (fun c => absurd (of_decide_eq_true c) (by simp only [Tm.word]; decide +kernel)) (fun _ => ?_)⟩
          obtain ⟨a2, b3, us3, e, ha4, _, _⟩ := t_ranked rt
          cases e
          obtain ⟨k1, k2, tl, hob⟩ := ho
          have vl2 : (Tm.vals bs ts).length = ts.length := vals_length bs ts
          have yl2 : ys.length = ts.length := yl
          obtain ⟨v1, e1, r1⟩ := RQ.get rys (kthG_isort (kk - 1) (Tm.vals bs ts) (by rw [vl2]; omega))
          refine ⟨_, rfl, _, rfl, pl, ys, rfl, .inl (SqL.of hys), _, rfl, _, _, _, _, rfl, rfl, (Same.kt s2).sq ha4, rfl, _, _, rfl, rfl, pl, _, _, v1, rfl, rfl, SqL.of hys, at_of (j := (Tm.vals bs ts).length - 1 - (kk - 1)) (by rw [vl2]; show (ys.length : Int) - (kk : Int) = _; omega) e1, k v1 H2 s2 r1⟩
end
end CB

set_option Elab.async false
set_option linter.all false
set_option maxRecDepth 100000
set_option maxHeartbeats 4000000
/-! value and outcome of terms with known bottoms -/
namespace CB
open PySem PySem.Spec PyProof.Rows L2
open C8 (Cal Met Mak pe_c pe_mk pe_mt pe_mt0 pe_gc CalAt)
section
variable {P : Program} {w : World} {K : PySem.W.Frag} {mg : Str → Option Value} {base : Heap}
def sp_valueD (K : PySem.W.Frag) (C : Addr) : Sp := fun vs H Q _ => ∃ (r a : Addr) (n s : Nat) (t : Tm) (bs : List Rat), vs = [.ref r, .ref a] ∧ RuleAt K C H r n t ∧ t.Ok n s ∧ s ≤ 9000 ∧ t.dep ≤ 60 ∧ DvB t bs ∧ Bids K H a n s bs ∧ n ≤ 6 ∧
  ∀ v H', Same H H' → RF K H' v (t.val bs) → Q v H'
def sp_settledD (K : PySem.W.Frag) (C : Addr) : Sp := fun vs H Q _ => ∃ (vt : V) (a b b2 l x dx : Addr) (n s z : Nat) (t : Tm) (ws lo hi : List Rat) (ls : List Nat), vs = [vt, .ref a, .ref b, .ref b2, .ref l, .ref x] ∧ Rp K H vt t.data ∧ t.Ok n s ∧ 1 ≤ s ∧ s ≤ 9000 ∧ t.dep ≤ 20 ∧ (∀ bs : List Rat, (∀ q ∈ bs, q ∈ lo ∨ q ∈ hi) → DvB t bs) ∧ n ≤ 6 ∧ z ≤ 9000 ∧
  Bids K H a n z ws ∧ Bids K H b n s lo ∧ Bids K H b2 n s hi ∧ SqT K H l (pV ls) ∧ (∀ p ∈ ls, p < n) ∧ ls.length ≤ 6 ∧ H x = some (.ins C dx []) ∧ ∀ v H', Same H H' → RF K H' v (outM t ws lo hi ls) → Q v H'
def sp_settled_betweenD (K : PySem.W.Frag) (C : Addr) : Sp := fun vs H Q _ => ∃ (r a b b2 : Addr) (n s z : Nat) (t : Tm) (ws lo hi : List Rat), vs = [.ref r, .ref a, .ref b, .ref b2] ∧ RuleAt K C H r n t ∧ t.Ok n s ∧ 1 ≤ s ∧ s ≤ 9000 ∧ t.dep ≤ 20 ∧ (∀ bs : List Rat, (∀ q ∈ bs, q ∈ lo ∨ q ∈ hi) → DvB t bs) ∧ n ≤ 6 ∧ z ≤ 9000 ∧ Bids K H a n z ws ∧ Bids K H b n s lo ∧ Bids K H b2 n s hi ∧
  ∀ v H', Same H H' → RF K H' v (outM t ws lo hi (List.range n)) → Q v H'
def sp_outcome_ofD (K : PySem.W.Frag) (C : Addr) : Sp := fun vs H Q _ => ∃ (r a : Addr) (n s z : Nat) (t : Tm) (ws : List Rat), vs = [.ref r, .ref a] ∧ RuleAt K C H r n t ∧ t.Ok n s ∧ 1 ≤ s ∧ s ≤ 9000 ∧ t.dep ≤ 20 ∧ DvB t [] ∧ 1 ≤ n ∧ n ≤ 6 ∧ z ≤ 9000 ∧ Bids K H a n z ws ∧
  ∀ v H', Same H H' → RF K H' v (outc t n ws) → Q v H'
end
end CB

set_option Elab.async false
set_option linter.all false
set_option maxRecDepth 100000
set_option maxHeartbeats 4000000
/-! corners of terms with known bottoms -/
namespace CB
open PySem PySem.Spec PyProof.Rows L2
open C8 (Cal Met Mak pe_c pe_mk pe_mt pe_mt0 pe_gc CalAt)
section
variable {P : Program} {w : World} {K : PySem.W.Frag} {mg : Str → Option Value} {base : Heap}
theorem DvB.end01 {t : Tm} (h : DvB t []) (n : Nat) (S : List Nat) : DvB t (put S 1 (List.replicate n 0)) := h.put01 fun q hq => .inl (by
  rcases put_mem hq with e | e
  · rw [e]; rfl
  · rw [(List.mem_replicate.mp e).2]; rfl)
def sp_corner_ofD (K : PySem.W.Frag) (C : Addr) : Sp := fun vs H Q _ => ∃ (r b : Addr) (n s : Nat) (t : Tm) (ps : List Nat), vs = [.ref r, .ref b] ∧ RuleAt K C H r n t ∧ t.Ok n s ∧ 1 ≤ s ∧ s ≤ 9000 ∧ t.dep ≤ 60 ∧ DvB t [] ∧ 1 ≤ n ∧ n ≤ 6 ∧ (SqL K H b (pV ps) ∨ SqT K H b (pV ps)) ∧
  ∀ v H', Same H H' → RF K H' v (t.val (end01 n ps)) → Q v H'
theorem ok_corner_of_t {C aZ aO : Addr} (F : FnD K mg "corner_of" s_corner_of) (hc : Cls K C) (n1 : NoAttr K C "people") (n2 : NoAttr K C "term") (c_told_by_t : Cal P w K mg base 67 "told_by" (sp_told_byD K) []) (c_replaced : Cal P w K mg base 1 "replaced" (sp_replaced K) [])
    (g_ZERO : ∃ u, mg "ZERO" = some u ∧ RelV (.ref aZ) u) (z0 : ∀ H, SqT K H aZ [.int 0, .int 1]) (g_ONE : ∃ u, mg "ONE" = some u ∧ RelV (.ref aO) u) (z1 : ∀ H, SqT K H aO [.int 1, .int 1]) : Cal P w K mg base 68 "corner_of" (sp_corner_ofD K C) [] := by
  refine calOf F sc_corner_of (fun _ _ _ _ _ _ us hl => match us, hl with | [_, _], _ => rfl) (fun vs H Q E h => ?_) (fun cdv f A outer s H vs Q E hr h => ?_)
  · obtain ⟨_, _, _, _, _, _, rfl, _⟩ := h
    rfl
  · obtain ⟨r, b, n, sz, t, ps, rfl, hR, ho, hs1, hsz, hdep, hwt, hn1, hn, hb, k⟩ := h
    obtain ⟨dx0, v, hr1, rt⟩ := id hR
    have rz : ∀ H, RF K H (.ref aZ) 0 := fun H => zero_rf (z0 H)
    have ro : ∀ H, RF K H (.ref aO) 1 := fun H => ⟨aO, rfl, z1 H⟩
    have c_told_by := c_told_by_t
    refine ⟨_, (pss_one (ps_ret (pe_c c_told_by hr (by first | decide | omega) rfl (pa_cons (pe_fld (pv 0) rfl) (pa_cons (pe_c c_replaced hr (by first | decide | omega) rfl (pa_cons (pe_op op_repN (pe_tup (pa_cons (pe_gc rfl g_ZERO) pa_nil)) (pe_fld (pv 0) rfl)) (pa_cons (pv 1) (pa_cons (pe_gc rfl g_ONE) pa_nil)))) pa_nil))))), ?_⟩
    refine ⟨_, rfl, r, C, dx0, _, _, rfl, hr1, hc, n2, ruleF_term n v, ?_⟩
    refine ⟨(by show 1 ≤ sizeLine; decide), fun p1 hp1 => ⟨_, rfl, r, C, dx0, _, _, rfl, (same_new hp1) _ _ hr1, hc, n1, ruleF_people n v, ?_⟩⟩
    have s1 := same_new (o := .tup [.ref aZ]) hp1
    refine repZ_ok (SqT.of upd_same) hn1 hn fun p2 H2 s2 q2 => ?_
    have s12 := s1.trans s2
    refine ⟨_, rfl, p2, b, .ref aO, _, List.replicate n 0, ps, 1, rfl, q2, rq_repl (rz _) n, by rw [List.length_replicate]; omega, hb.imp (fun h => s12.seq h) (fun h => (Same.kt s12).sq h), ro _, fun p zs H3 s3 h3 r3 => ?_⟩
    have s13 := s12.trans s3
    refine ⟨v, p, n, sz, put ps 1 (List.replicate n 0), t, rfl, rt.mono (Same.kt s13), ho, hsz, hdep, hwt.end01 n ps, Bids.put h3 r3 List.length_replicate (nok_one hs1) (fun x hx => by rw [(List.mem_replicate.mp hx).2]; exact nok_zero hs1), fun v' H' s4 r4 => k v' H' (s13.trans s4) r4⟩
end
end CB

set_option Elab.async false
set_option linter.all false
set_option maxRecDepth 100000
set_option maxHeartbeats 4000000
namespace CB
open PySem PySem.Spec PyProof.Rows L2
open C8 (Cal Met Mak pe_c pe_mk pe_mt pe_mt0 pe_gc CalAt)
section
variable {P : Program} {w : World} {K : PySem.W.Frag} {mg : Str → Option Value} {base : Heap}
def sp__law_cornerF (K : PySem.W.Frag) : Sp := fun vs H Q _ => ∃ (v : V) (b : Addr) (n s : Nat) (t : Tm) (ps : List Nat), vs = [.int (n : Int), v, .ref b] ∧ n ≤ 6 ∧ SqT K H b (pV ps) ∧ Rp K H v t.data ∧ t.Ok n s ∧ 1 ≤ s ∧ s ≤ 9000 ∧ t.dep ≤ 10 ∧ DvB t [] ∧
  ∀ v H', Same H H' → RF K H' v (t.val (end01 n ps)) → Q v H'
theorem ok__law_corner_f_t (F : FnD K mg "_law_corner" s__law_corner) (c__law_value_t : Cal P w K mg base 13 "_law_value" (spLVd K 10) []) (c__law_at_ends : Cal P w K mg base 1 "_law_at_ends" (sp__law_at_ends K) []) : Cal P w K mg base 14 "_law_corner" (sp__law_cornerF K) [] := by
  refine calOf F sc__law_corner (fun _ _ _ _ _ _ us hl => match us, hl with | [_, _, _], _ => rfl) (fun vs H Q E h => ?_) (fun cdv f A outer s H vs Q E hr h => ?_)
  · obtain ⟨_, _, _, _, _, _, rfl, _⟩ := h
    rfl
  · obtain ⟨v, b, n, sz, t, ps, rfl, hn, hb, rt, ho, hs1, hsz, hdep, hwt, k⟩ := h
    have c__law_value := c__law_value_t
    refine ⟨_, (pss_one (ps_ret (pe_c c__law_value hr (by first | decide | omega) rfl (pa_cons (pv 1) (pa_cons (pe_c c__law_at_ends hr (by first | decide | omega) rfl (pa_cons (pv 0) (pa_cons (pv 2) pa_nil))) pa_nil))))), ?_⟩
    refine ⟨_, rfl, _, rfl, _, rfl, b, n, ps, rfl, hn, hb, fun p H1 s1 hB => ?_⟩
    obtain ⟨us, e1, e2, e3, e4⟩ := hB
    have e5 : ∀ q ∈ ends n ps, NumOk sz q := fun q h => (e4 q h).mono hs1
    exact ⟨v, p, n, sz, ends n ps, t, rfl, rt.mono (Same.kt s1), ho, hsz, hdep, hwt.end01 n ps, ⟨us, e1, e2, e3, e5⟩, fun v' H2 s2 r2 => k v' H2 (s1.trans s2) r2⟩
theorem lt900 {N k : Nat} (h : N < 2 ^ k) (hk : k ≤ 900) : N < 2 ^ 900 := Nat.lt_of_lt_of_le h (Nat.pow_le_pow_right (by decide) hk)
theorem pV_atA {ps : List Nat} {i p : Nat} (h : ps[i]? = some p) : (pV ps)[i]? = some (.int (p : Int)) := by
  unfold pV pI
  rw [List.getElem?_map, List.getElem?_map, h]; rfl
theorem pI_sum' (l : List Nat) : (pI l).sum = ((l.sum : Nat) : Int) := by
  induction l with
  | nil => rfl
  | cons x l ih =>
    show (x : Int) + (pI l).sum = _
    rw [ih, List.sum_cons]
    omega
theorem sum_lt4 {ws : List Nat} (h : ∀ x ∈ ws, x < 4) : ws.sum ≤ 4 * ws.length := by
  induction ws with
  | nil => simp
  | cons x l ih =>
    have := ih fun y hy => h y (List.mem_cons_of_mem _ hy)
    have := h x List.mem_cons_self
    rw [List.sum_cons, List.length_cons]
    omega
theorem weigh_range : ∀ ws : List Nat, weigh ws (List.range ws.length) = ws.sum
  | ws => by
    unfold weigh
    congr 1
    refine List.ext_getElem (by simp) fun i h1 h2 => ?_
    simp [List.getD_eq_getElem?_getD, List.getElem?_eq_getElem h2]
theorem weigh_sum {ws : List Nat} {n : Nat} {l : List Nat} (h6 : n ≤ 6) (hl : ws.length = n) (h : l ∈ lotsI n) : weigh ws l ≤ ws.sum := by
  have m := (lotsI_perm h6).mem_iff.mp h
  have e1 := lots_filter n (by omega) l m
  rw [e1, ← weigh_range ws, hl]
  have e2 : List.range n = (List.range n).filter fun _ => true := (List.filter_eq_self.mpr fun _ _ => rfl).symm
  conv => rhs; rw [e2]
  exact weigh_filter ws _ _ (fun p _ => rfl) _
theorem divInt_mono {a c b : Int} (h : a ≤ c) (hb : 0 < b) : Rat.divInt a b ≤ Rat.divInt c b := by
  have hb' : (0 : Rat) < (b : Rat) := Rat.intCast_pos.mpr hb
  have hi : (0:Rat) ≤ (b : Rat)⁻¹ := Rat.le_of_lt (Rat.inv_pos.mpr hb')
  rw [Rat.divInt_eq_div, Rat.divInt_eq_div, Rat.div_def, Rat.div_def]
  exact Rat.mul_le_mul_of_nonneg_right (Rat.intCast_le_intCast.mpr h) hi
theorem right_weights {ws : List Nat} {n a b : Nat} (h6 : n ≤ 6) (hl : ws.length = n) : RightT (fun l => if l ∈ lotsI n then Rat.divInt ((a : Int) + (weigh ws l : Int)) (((ws.sum + a + b + 1 : Nat)) : Int) else 0) n (ws.sum + a + b + 1) := by
  have bp : (0 : Int) < ((ws.sum + a + b + 1 : Nat) : Int) := by omega
  refine ⟨fun l h m hm s => ?_, fun l => ?_, fun l => ?_⟩
  · rw [if_pos h, if_pos hm]
    have := weigh_mono (ws := ws) h6 h hm s
    exact divInt_mono (by omega) bp
  · split
    · rename_i h
      have := weigh_sum h6 hl h
      have o := numOk_divInt (k := ((ws.sum + a + b + 1 : Nat) : Int).natAbs) (a := (a : Int) + (weigh ws l : Int)) (b := ((ws.sum + a + b + 1 : Nat) : Int)) (by omega) (by omega) bp Nat.lt_two_pow_self
      exact ⟨o.1, o.2.1⟩
    · constructor <;> decide +kernel
  · split
    · exact den_dvd (a := (a : Int) + (weigh ws l : Int)) bp
    · exact Nat.one_dvd _
theorem lots_low {n p : Nat} {l : List Nat} (h6 : n ≤ 6) (hl : l ∈ lotsI n) : (l.filter fun q => !decide (q = p)) ∈ lotsI n := by
  have : ∀ n, n < 7 → ∀ p, p < 7 → ∀ l ∈ subs n, (l.filter fun q => !decide (q = p)) ∈ subs n := by decide +kernel
  have hs := (lotsI_perm h6).mem_iff.mp hl
  by_cases c : p < 7
  · exact (lotsI_perm h6).mem_iff.mpr (this n (by omega) p c l hs)
  · rw [List.filter_eq_self.mpr fun q hq => by have := subs_lt hs q hq; have : ¬ q = p := (by omega); simp [this]]
    exact hl
/-- a list of pairs (lot, number) that grows -/
def Grow (K : PySem.W.Frag) (H2 : Hp) (D : Addr) (f : List Nat → Rat) (L : List (List Nat)) (j : Nat) (H' : Hp) : Prop :=
  ∃ (ts : List Addr) (kvs : List (List L2.Key × V)), H' D = some (.lst (ts.map V.ref)) ∧ DiT.KeyPairs K H' ts kvs ∧ KvL (fun v l => RF K H' v (f l)) kvs (L.take j) ∧ Same H2 H'
theorem Grow.start {H2 : Hp} {D : Addr} {f : List Nat → Rat} {L : List (List Nat)} (hD : H2 D = none) : Grow K H2 D f L 0 (upd H2 D (.lst [])) :=
  ⟨[], [], upd_same, .nil, by rw [List.take_zero]; exact .nil, same_new hD⟩
theorem Grow.step {H2 H' H3 : Hp} {D tp q : Addr} {f : List Nat → Rat} {L : List (List Nat)} {j : Nat} {l : List Nat} {v : V} (g : Grow K H2 D f L j H') (hD : H2 D = none) (hL : L.length ≤ 64) (hl : L[j]? = some l) (s3 : Same H' H3) (tl : H3 tp = some (.tup (pV l))) (rv : RF K H3 v (f l)) (hq : H3 q = none) :
    ∃ acc, (upd H3 q (.tup [.ref tp, v])) D = some (.lst acc) ∧ acc.length < sizeLine ∧ Grow K H2 D f L (j + 1) (upd (upd H3 q (.tup [.ref tp, v])) D (.lst (acc ++ [.ref q]))) := by
  obtain ⟨ts, kvs, g1, g2, g3, g5⟩ := g
  have tk := take_succ' hl
  have jl : j < L.length := (List.getElem?_eq_some_iff.mp hl).1
  have kl := g3.len
  rw [List.length_take] at kl
  have tsl : ts.length = kvs.length := Paired.length g2
  have v8 := same_new (o := .tup [.ref tp, v]) hq
  have s8 := s3.trans v8
  have g1' := s8 _ _ g1
  have kU := KT.updl (o := .lst (ts.map V.ref ++ [.ref q])) g1'
  have kA := (Same.kt s8).trans kU
  refine ⟨_, g1', small1000 (by rw [List.length_map]; omega), ts ++ [q], kvs ++ [(keyK l, v)], by rw [List.map_append]; exact upd_same, ?_, ?_, Same.mut (g5.trans s8) hD⟩
  · refine (kpairs_monoT kA g2).snoc ⟨tp, kU.sq (SqT.of upd_same), ?_⟩
    rw [keyK_V]
    exact ((Same.kt v8).trans kU).1 _ _ tl
  · rw [tk]
    exact (g3.imp fun v l rf => rf.mono kA).snoc (rv.mono ((Same.kt v8).trans kU))
theorem Grow.done {H2 H' : Hp} {D : Addr} {f : List Nat → Rat} {L : List (List Nat)} {n j : Nat} (g : Grow K H2 D f L j H') (hj : L.length ≤ j) (h6 : n ≤ 6) (hp : L.Perm (lotsI n)) {Q : Value → Hp → Prop}  :
    ∃ ts kvs, H' D = some (.lst (ts.map V.ref)) ∧ DiT.KeyPairs K H' ts kvs ∧ (kvs.map (·.1)).Nodup ∧ Same H2 H' ∧ ∀ tb, H' tb = none → Same H' (upd H' tb (.dT kvs)) ∧ TabF K (upd H' tb (.dT kvs)) tb f n := by
  obtain ⟨ts, kvs, g1, g2, g3, s7⟩ := g
  rw [List.take_of_length_le hj] at g3
  refine ⟨ts, kvs, g1, g2, ?_, s7, fun tb htb => ?_⟩
  · rw [g3.keys]
    exact List.Pairwise.map keyK (fun a b e z => e (keyK_inj z)) (hp.nodup_iff.mpr (lotsI_nodup h6))
  · have v8 := same_new (o := .dT kvs) htb
    exact ⟨v8, kvs, L, upd_same, g3.imp fun v l rf => rf.mono (Same.kt v8), hp⟩
abbrev n__law_table : List Str := ["_law_dice_here", "_law_people_here", "_law_kind", "_law_lots_here", "_law_steps", "_law_weights", "_law_last", "_law_bottom", "_law_term_here", "_law_bids", "_law_table_here", "_law_person", "_law_k", "_law_lot", "_law_one"]
theorem sc__law_table : FnScope ["_law_dice_here", "_law_people_here", "_law_kind", "_law_lots_here", "_law_steps", "_law_weights", "_law_last", "_law_bottom", "_law_term_here", "_law_bids", "_law_table_here", "_law_person", "_law_k", "_law_lot", "_law_one"] ["_law_dice_here", "_law_people_here"] (defScope s__law_table) := ⟨rfl, rfl, rfl, by decide +kernel, rfl, by decide +kernel, by decide +kernel⟩
def sp__law_table (K : PySem.W.Frag) : Sp := fun vs H Q _ => ∃ (da : Addr × Addr) (n : Nat), vs = [.ref da.1, .int (n : Int)] ∧ Dice H da ∧ 1 ≤ n ∧ n ≤ 6 ∧
  ∀ d f N H', TabF K H' d f n → RightT f n N → 0 < N → N < 2 ^ 900 → d ≠ da.1 → Dice H' da → KD da.1 H H' → Q (.ref d) H'
theorem ok__law_table (F : FnD K mg "_law_table" s__law_table) (c__law_draw : Cal P w K mg base 1 "_law_draw" sp__law_draw []) (c__law_number_t : Cal P w K mg base 2 "_law_number" (sp__law_numberD K) []) (c__law_lots_t : Cal P w K mg base 2 "_law_lots" (sp__law_lotsH K) [])
    (c__law_sorted : Cal P w K mg base 2 "_law_sorted" (sp__law_sorted K) []) (c__law_lowest : Cal P w K mg base 1 "_law_lowest" (sp_lowest K) []) (c__law_term_n_t : Cal P w K mg base 7 "_law_term" (spTE K 3) []) (c__law_corner_f_t : Cal P w K mg base 14 "_law_corner" (sp__law_cornerF K) [])
    (T_range : mg "range" = none) (T_len : mg "len" = none) (T_dict : mg "dict" = none) (T_sum : mg "sum" = none) (T_tuple : mg "tuple" = none) : Cal P w K mg base 15 "_law_table" (sp__law_table K) [] := by
  refine calOf F sc__law_table (fun _ _ _ _ _ _ us hl => match us, hl with | [_, _], _ => rfl) (fun vs H Q E h => ?_) (fun cdv fz A outer s H vs Q E hr h => ?_)
  · obtain ⟨_, _, rfl, _⟩ := h
    rfl
  · obtain ⟨da, n, rfl, d0, n1, n6, k⟩ := h
    have c__law_number := c__law_number_t
    have c__law_lots := c__law_lots_t
    have c__law_corner := c__law_corner_f_t
    have c__law_term := c__law_term_n_t
    refine ⟨_, (pss_cons (ps_set (i := 2) sc__law_table.nd rfl (Or.inl rfl) (pe_c c__law_draw hr (by first | decide | omega) rfl (pa_cons (pv 0) (pa_cons pe_int pa_nil))))
    (pss_cons (ps_set (i := 3) sc__law_table.nd rfl (Or.inl rfl) (pe_c c__law_lots hr (by first | decide | omega) rfl (pa_cons (pv 1) pa_nil)))
    (pss_cons (ps_if (pt_cmpR op_eq (pv 2) pe_int (nomark _)) (pss_cons (ps_set (i := 4) sc__law_table.nd rfl (Or.inr rfl) (pe_c c__law_sorted hr (by first | decide | omega) rfl (pa_cons (pe_lc (own := [("_law_k", 12)]) (by rfl) sc__law_table.nd (pi_range1 (by rfl) T_range (pa_cons (pe_op op_add (pv 1) pe_int) pa_nil)) (blkOk_by (own := [("_law_k", 12)]) (N := ["_law_dice_here", "_law_people_here", "_law_kind", "_law_lots_here", "_law_steps", "_law_weights", "_law_last", "_law_bottom", "_law_term_here", "_law_bids", "_law_table_here", "_law_person", "_law_k", "_law_lot", "_law_one"]) (sc := defScope s__law_table) (by decide +kernel)) (fun _ _ _ _ _ => (pg_name (i := 12) sc__law_table.nd rfl (Or.inl rfl))) (fun _ _ _ _ _ => pts_nil) (fun _ _ _ _ _ => (pe_c c__law_number hr (by first | decide | omega) rfl (pa_cons (pv 0) pa_nil)))) pa_nil)))
    (pss_one (ps_ret (pe_callTy (DiT.call_dictT rfl hr.units) (by rfl) T_dict (by decide +kernel) (pa_cons (pe_lc (own := [("_law_lot", 13)]) (te := tTup (tCons (tVar 13) (tCons (tOp (rIxL K) (tVar 4) (tCB (fun xs H Q => ∃ p ys, xs = [.ref p] ∧ (SqL K H p ys ∨ SqT K H p ys) ∧ Q (.int ys.length) H) (tCons (tVar 13) tNil))) tNil))) (by rfl) sc__law_table.nd (pi_list (pv 3)) (blkOk_by (own := [("_law_lot", 13)]) (N := ["_law_dice_here", "_law_people_here", "_law_kind", "_law_lots_here", "_law_steps", "_law_weights", "_law_last", "_law_bottom", "_law_term_here", "_law_bids", "_law_table_here", "_law_person", "_law_k", "_law_lot", "_law_one"]) (sc := defScope s__law_table) (by decide +kernel)) (fun _ _ _ _ _ => (pg_name (i := 13) sc__law_table.nd rfl (Or.inl rfl))) (fun _ _ _ _ _ => pts_nil) (fun _ _ _ _ _ => (pe_tup (pa_cons (pv 13) (pa_cons (pe_ix ix_list (pv 4) (pe_callB call_len_seq (by rfl) T_len PySem.boot_len (pa_cons (pv 13) pa_nil)) (fun _ _ => rfl)) pa_nil))))) pa_nil))))) pss_nil)
    (pss_cons (ps_if (pt_cmpR op_eq (pv 2) pe_int (nomark _)) (pss_cons (ps_set (i := 5) sc__law_table.nd rfl (Or.inr rfl) (pe_lc (own := [("_law_person", 11)]) (by rfl) sc__law_table.nd (pi_range1 (by rfl) T_range (pa_cons (pv 1) pa_nil)) (blkOk_by (own := [("_law_person", 11)]) (N := ["_law_dice_here", "_law_people_here", "_law_kind", "_law_lots_here", "_law_steps", "_law_weights", "_law_last", "_law_bottom", "_law_term_here", "_law_bids", "_law_table_here", "_law_person", "_law_k", "_law_lot", "_law_one"]) (sc := defScope s__law_table) (by decide +kernel)) (fun _ _ _ _ _ => (pg_name (i := 11) sc__law_table.nd rfl (Or.inl rfl))) (fun _ _ _ _ _ => pts_nil) (fun _ _ _ _ _ => (pe_c c__law_draw hr (by first | decide | omega) rfl (pa_cons (pv 0) (pa_cons pe_int pa_nil))))))
    (pss_cons (ps_set (i := 6) sc__law_table.nd rfl (Or.inr rfl) (pe_c c__law_draw hr (by first | decide | omega) rfl (pa_cons (pv 0) (pa_cons pe_int pa_nil))))
    (pss_cons (ps_set (i := 7) sc__law_table.nd rfl (Or.inr rfl) (pe_op op_add (pe_op op_add (pe_op op_add (pe_callB (cr_sum rfl) (by rfl) T_sum (by decide +kernel) (pa_cons (pv 5) pa_nil)) (pv 6)) (pe_c c__law_draw hr (by first | decide | omega) rfl (pa_cons (pv 0) (pa_cons pe_int pa_nil)))) pe_int))
    (pss_one (ps_ret (pe_callTy (DiT.call_dictT rfl hr.units) (by rfl) T_dict (by decide +kernel) (pa_cons (pe_lc (own := [("_law_lot", 13)]) (te := tTup (tCons (tVar 13) (tCons (tCall (sp_lowest K) [] C8.E0 (tCons (tOp (rI0 fun i j => V.int (i + j)) (tVar 6) (tCB (rSum K) (tCons (tLc (iTup K (tVar 13)) (gName 11) tYes (tOp (rIxL K) (tVar 5) (tVar 11)) [11]) tNil))) (tCons (tVar 7) tNil))) tNil))) (by rfl) sc__law_table.nd (pi_list (pv 3)) (blkOk_by (own := [("_law_lot", 13)]) (N := ["_law_dice_here", "_law_people_here", "_law_kind", "_law_lots_here", "_law_steps", "_law_weights", "_law_last", "_law_bottom", "_law_term_here", "_law_bids", "_law_table_here", "_law_person", "_law_k", "_law_lot", "_law_one"]) (sc := defScope s__law_table) (by decide +kernel)) (fun _ _ _ _ _ => (pg_name (i := 13) sc__law_table.nd rfl (Or.inl rfl))) (fun _ _ _ _ _ => pts_nil) (fun _ _ _ _ _ => (pe_tup (pa_cons (pv 13) (pa_cons (pe_c c__law_lowest hr (by first | decide | omega) rfl (pa_cons (pe_op op_add (pv 6) (pe_callB (cr_sum rfl) (by rfl) T_sum (by decide +kernel) (pa_cons (pe_lc (own := [("_law_person", 11)]) (by rfl) sc__law_table.nd (pi_tup (pv 13)) (blkOk_by (by kernel_rfl)) (fun _ _ _ _ _ => (pg_name (i := 11) sc__law_table.nd rfl (Or.inl rfl))) (fun _ _ _ _ _ => pts_nil) (fun _ _ _ _ _ => (pe_ix ix_list (pv 5) (pv 11) (fun _ _ => rfl)))) pa_nil))) (pa_cons (pv 7) pa_nil))) pa_nil))))) pa_nil))))))) pss_nil)
    (pss_cons (ps_set (i := 8) sc__law_table.nd rfl (Or.inr rfl) (pe_c c__law_term hr (by first | decide | omega) rfl (pa_cons (pv 0) (pa_cons (pv 1) (pa_cons (pe_op op_add pe_int (pe_c c__law_draw hr (by first | decide | omega) rfl (pa_cons (pv 0) (pa_cons pe_int pa_nil)))) (pa_cons pe_bl pa_nil))))))
    (pss_cons (ps_if (pt_cmpR op_eq (pv 2) pe_int (nomark _)) (pss_cons (ps_set (i := 9) sc__law_table.nd rfl (Or.inl rfl) (pe_callTy call_tuple_of (by rfl) T_tuple (by decide +kernel) (pa_cons (pe_lc (own := [("_law_person", 11)]) (by rfl) sc__law_table.nd (pi_range1 (by rfl) T_range (pa_cons (pv 1) pa_nil)) (blkOk_by (own := [("_law_person", 11)]) (N := ["_law_dice_here", "_law_people_here", "_law_kind", "_law_lots_here", "_law_steps", "_law_weights", "_law_last", "_law_bottom", "_law_term_here", "_law_bids", "_law_table_here", "_law_person", "_law_k", "_law_lot", "_law_one"]) (sc := defScope s__law_table) (by decide +kernel)) (fun _ _ _ _ _ => (pg_name (i := 11) sc__law_table.nd rfl (Or.inl rfl))) (fun _ _ _ _ _ => pts_nil) (fun _ _ _ _ _ => (pe_tup (pa_cons (pe_op op_add pe_int (pe_c c__law_draw hr (by first | decide | omega) rfl (pa_cons (pv 0) (pa_cons pe_int pa_nil)))) (pa_cons (pe_tup (pa_cons pe_str (pa_cons (pv 11) pa_nil))) pa_nil))))) pa_nil)))
    (pss_one (ps_set (i := 8) sc__law_table.nd rfl (Or.inr rfl) (pe_tup (pa_cons pe_str (pa_cons (pe_tup (pa_cons (pe_tup (pa_cons pe_int (pa_cons (pv 8) pa_nil))) (pa_cons (pe_tup (pa_cons (pe_op op_add pe_int (pe_c c__law_draw hr (by first | decide | omega) rfl (pa_cons (pv 0) (pa_cons pe_int pa_nil)))) (pa_cons (pe_tup (pa_cons pe_str (pa_cons (pv 9) pa_nil))) pa_nil))) pa_nil))) pa_nil)))))) pss_nil)
    (pss_cons (ps_set (i := 10) sc__law_table.nd rfl (Or.inr rfl) (pe_callTy (DiT.call_dictT rfl hr.units) (by rfl) T_dict (by decide +kernel) (pa_cons (pe_lc (own := [("_law_lot", 13)]) (by rfl) sc__law_table.nd (pi_list (pv 3)) (blkOk_by (own := [("_law_lot", 13)]) (N := ["_law_dice_here", "_law_people_here", "_law_kind", "_law_lots_here", "_law_steps", "_law_weights", "_law_last", "_law_bottom", "_law_term_here", "_law_bids", "_law_table_here", "_law_person", "_law_k", "_law_lot", "_law_one"]) (sc := defScope s__law_table) (by decide +kernel)) (fun _ _ _ _ _ => (pg_name (i := 13) sc__law_table.nd rfl (Or.inl rfl))) (fun _ _ _ _ _ => pts_nil) (fun _ _ _ _ _ => (pe_tup (pa_cons (pv 13) (pa_cons (pe_c c__law_corner hr (by first | decide | omega) rfl (pa_cons (pv 1) (pa_cons (pv 8) (pa_cons (pv 13) pa_nil)))) pa_nil))))) pa_nil)))
    (pss_cons (ps_if (pt_cmpR op_eq (pv 2) pe_int (nomark _)) (pss_cons (ps_set (i := 11) sc__law_table.nd rfl (Or.inr rfl) (pe_c c__law_draw hr (by first | decide | omega) rfl (pa_cons (pv 0) (pa_cons (pv 1) pa_nil))))
    (pss_one (ps_set (i := 10) sc__law_table.nd rfl (Or.inr rfl) (pe_callTy (DiT.call_dictT rfl hr.units) (by rfl) T_dict (by decide +kernel) (pa_cons (pe_lc (own := [("_law_lot", 13)]) (te := tTup (tCons (tVar 13) (tCons (tDGet (tVar 10) (tCB (fun xs H Q => ∃ p ys, xs = [.ref p] ∧ ((SqL K H p ys ∧ ∀ l, H l = none → Q (.ref l) (upd H l (.tup ys))) ∨ (SqT K H p ys ∧ Q (.ref p) H))) (tCons (tLc (iTup K (tVar 13)) (gName 14) (tTest (tOp rNe (tVar 14) (tVar 11))) (tVar 14) [14]) tNil))) tNil))) (by rfl) sc__law_table.nd (pi_list (pv 3)) (blkOk_by (own := [("_law_lot", 13)]) (N := ["_law_dice_here", "_law_people_here", "_law_kind", "_law_lots_here", "_law_steps", "_law_weights", "_law_last", "_law_bottom", "_law_term_here", "_law_bids", "_law_table_here", "_law_person", "_law_k", "_law_lot", "_law_one"]) (sc := defScope s__law_table) (by decide +kernel)) (fun _ _ _ _ _ => (pg_name (i := 13) sc__law_table.nd rfl (Or.inl rfl))) (fun _ _ _ _ _ => pts_nil) (fun _ _ _ _ _ => (pe_tup (pa_cons (pv 13) (pa_cons (pe_dget (CDu.lt hr.units) (pv 10) (pe_callTy call_tuple_of (by rfl) T_tuple (by decide +kernel) (pa_cons (pe_lc (own := [("_law_one", 14)]) (by rfl) sc__law_table.nd (pi_tup (pv 13)) (blkOk_by (by kernel_rfl)) (fun _ _ _ _ _ => (pg_name (i := 14) sc__law_table.nd rfl (Or.inl rfl))) (fun _ _ _ _ _ => (pts_one (pt_cmpR op_ne (pv 14) (pv 11) (nomark _)))) (fun _ _ _ _ _ => (pv 14))) pa_nil)) (fun _ _ => rfl)) pa_nil))))) pa_nil))))) pss_nil)
    (pss_one (ps_ret (pv 10))))))))))), ?_⟩
    refine ⟨_, rfl, da, 5, rfl, d0, by decide, by decide, fun kd H1 k0 k1 d1 e1 => ⟨_, rfl, _, rfl, n6, fun P ys L H2 s2 hPn hP hL hp2 hby => ?_⟩⟩
    have hp : L.Perm (lotsI n) := hp2.trans (lotsI_perm n6).symm
    have L64 : L.length ≤ 64 := by rw [hp.length_eq]; exact lotsI_len n6
    have d2 := d1.same s2
    have e2 := e1.trans (Same.kd s2)
    have nP := (d1.ne hPn).1
    clear d1 e1 s2 hPn hp2 hby d0
    refine ⟨_, rfl, rfl, _, rfl, ite2 (fun _ => ?g0) (fun _ => ?g1)⟩
    case g0 =>

      refine ⟨_, rfl, _, _, rfl, rfl, _, rfl, by omega, by omega, fun D hD => ?_⟩
      have ndd := d2.ne hD
      refine lc_range (lo := 0) (n := ((n : Int) + 1).toNat) (fun i H' => ∃ (zs : List V) (qs : List Rat), H' D = some (.lst zs) ∧ qs.length = i ∧ RQ K H' zs qs ∧ (∀ q ∈ qs, NumOk 20 q ∧ q.den ∣ N0) ∧ Dice H' da ∧ KD da.1 H2 H')
        ⟨[], [], upd_same, rfl, .nil, by simp, d2.same (same_new hD), Same.kd (same_new hD)⟩ ?_ ?_
      · rintro i H' hi ⟨zs, qs, h1, h2, h3, h4, h5, h6⟩
        refine ⟨rfl, _, rfl, da, rfl, h5, fun v q H2 nq dq rq d2 k2 => ?_⟩
        have hD2 := k2 D _ ndd.1 h1
        have h3' := h3.mono (h5.kt k2)
        refine ⟨zs, hD2, small1000 (by rw [h3.length, h2]; omega), zs ++ [v], qs ++ [q], upd_same, by simp [h2], RpAll.mono (KT.updl hD2) (RQ.snoc h3' rq), ?_, ?_, ?_⟩
        · intro x hx
          rcases List.mem_append.mp hx with h | h
          · exact h4 x h
          · rw [List.mem_singleton.mp h]
            exact ⟨nq, dq⟩
        · exact d2.upd ndd
        · exact (h6.trans k2).mut hD
      rintro H3 ⟨zs, qs, h1, h2, h3, h4, h5, h6⟩
      have ql : qs.length = n + 1 := by rw [h2]; omega
      refine ⟨D, zs, qs, rfl, SqL.of h1, h3, fun q hq => (h4 q hq).1.2.2.mono (by omega), by omega, fun p ss H4 hp4 s4 hs4 rs => ⟨_, rfl, P, rfl, ⟨_, SqL.of (s4 _ _ (h6 _ _ nP hP))⟩, fun T hT => ?_⟩⟩
      have M4 := (hL.mono (d2.kt h6)).mono (Same.kt s4)
      have P4 := s4 _ _ (h6 _ _ nP hP)
      have sl : (isort qs).length = n + 1 := by rw [isort_length]; exact ql
      have d4 := h5.same s4
      have e4 := (e2.trans h6).trans (Same.kd s4)
      have rt := right_steps (n := n) (N := N0) n6 sl (isort_srt qs) (fun q hq => ⟨(h4 q ((isort_perm qs).mem_iff.mp hq)).1.1, (h4 q ((isort_perm qs).mem_iff.mp hq)).1.2.1⟩) (fun q hq => (h4 q ((isort_perm qs).mem_iff.mp hq)).2)
      refine it_list (K := K) (a := P) (xs := ys) (fun j H' => Grow K H4 T (fun l => (isort qs).getD l.length 0) L j H') (Grow.start hT) (fun j H' ⟨_, _, _, _, _, e⟩ => SqL.of (e _ _ P4)) ?_ ?_
      · rintro j yv H' hy g
        have sG : Same H4 H' := g.choose_spec.choose_spec.2.2.2
        obtain ⟨l, hl1, ⟨tp, rfl, tl⟩⟩ := (M4.mono (Same.kt sG)).getV hy
        have tl' : H' tp = some (.tup (pV l)) := tl
        have lm := hp.mem_iff.mp (List.mem_of_getElem? hl1)
        have ll : l.length ≤ n := subs_size ((lotsI_perm n6).mem_iff.mp lm)
        obtain ⟨v, hv, rv⟩ := rs.get (show (isort qs)[l.length]? = some ((isort qs).getD l.length 0) by rw [List.getD_eq_getElem?_getD, List.getElem?_eq_getElem (by omega)]; rfl)
        refine ⟨rfl, _, rfl, _, rfl, _, rfl, tp, pV l, rfl, .inr (SqT.of tl'), p, ss, ((pV l).length : Int), v, rfl, rfl, SqL.of (sG _ _ hs4), ?_, (by show 2 ≤ sizeLine; decide), fun q hq => ?_⟩
        · rw [pV_len]
          exact atI_nat hv
        · exact g.step hT L64 hl1 (fun _ _ e => e) tl' (rv.mono (Same.kt sG)) hq
      · rintro H7 g
        obtain ⟨ts, kvs, g1, g2, g3, g4, g5⟩ := g.done (by rw [M4.length]; exact Nat.le_refl _) n6 hp (Q := fun _ _ => True)
        refine ⟨T, ts, kvs, rfl, SqL.of g1, g2, g3, fun tb htb => ?_⟩
        obtain ⟨v8, tf⟩ := g5 tb htb
        exact k tb _ N0 _ tf rt N0_pos (lt900 (k := 30) (by decide) (by decide)) ((d4.same g4).ne htb).1 (d4.same (g4.trans v8)) (e4.trans (Same.kd (g4.trans v8)))
    case g1 =>
      refine ⟨_, rfl, rfl, _, rfl, ite2 (fun _ => ?a1) (fun _ => ?a2)⟩
      case a1 =>
        refine ⟨_, rfl, _, rfl, by omega, by omega, fun W hW => ?_⟩
        have ndw := d2.ne hW
        refine lc_range (lo := 0) (n := (n : Int).toNat) (fun i H' => ∃ (ws : List Nat), H' W = some (.lst (pV ws)) ∧ ws.length = i ∧ (∀ x ∈ ws, x < 4) ∧ Dice H' da ∧ KD da.1 H2 H')
          ⟨[], upd_same, rfl, by simp, d2.same (same_new hW), Same.kd (same_new hW)⟩ ?_ ?_
        · rintro i H' hi ⟨ws, h1, h2, h3, h5, h6⟩
          refine ⟨rfl, _, rfl, da, 4, rfl, h5, by decide, by decide, fun z H3 z0 z1 d3 e3 => ?_⟩
          have hW3 := e3 W _ ndw.1 h1
          obtain ⟨j, hj⟩ : ∃ j : Nat, z = (j : Int) := ⟨z.toNat, (Int.toNat_of_nonneg z0).symm⟩
          subst hj
          refine ⟨pV ws, hW3, small1000 (by rw [pV_len, h2]; omega), ws ++ [j], (by rw [pV_snoc]; exact upd_same), by simp [h2], ?_, d3.upd ndw, (h6.trans e3).mut hW⟩
          intro x hx
          rcases List.mem_append.mp hx with h | h
          · exact h3 x h
          · rw [List.mem_singleton.mp h]; omega
        rintro H3 ⟨ws, h1, h2, h3, h5, h6⟩
        refine ⟨_, rfl, da, 3, rfl, h5, by decide, by decide, fun z H4 z0 z1 d4 e4 => ⟨_, rfl, ?_⟩⟩
        obtain ⟨a, ha⟩ : ∃ j : Nat, z = (j : Int) := ⟨z.toNat, (Int.toNat_of_nonneg z0).symm⟩
        subst ha
        have W4 := e4 W _ ndw.1 h1
        refine ⟨W, pI ws, rfl, SqL.of W4, _, rfl, _, _, rfl, rfl, _, rfl, da, 3, rfl, d4, by decide, by decide, fun y H5 y0 y1 d5 e5 => ⟨_, _, rfl, rfl, _, _, rfl, rfl, ?_⟩⟩
        obtain ⟨b, hb⟩ : ∃ j : Nat, y = (j : Int) := ⟨y.toNat, (Int.toNat_of_nonneg y0).symm⟩
        subst hb
        refine ⟨_, rfl, P, rfl, ⟨_, SqL.of (e5 _ _ nP (e4 _ _ nP (h6 _ _ nP hP)))⟩, fun T hT => ?_⟩
        have P5 := e5 _ _ nP (e4 _ _ nP (h6 _ _ nP hP))
        have W5 := e5 W _ ndw.1 W4
        have M5 := hL.mono (((d2.kt h6).trans (h5.kt e4)).trans (d4.kt e5))
        have e05 := ((e2.trans h6).trans e4).trans e5
        have sm : ∀ l ∈ lotsI n, weigh ws l ≤ ws.sum := fun l hl => weigh_sum n6 h2 hl
        have rt := right_weights (a := a) (b := b) n6 h2
        have wsum : (pI ws).sum = ((ws.sum : Nat) : Int) := pI_sum' ws
        have wle := sum_lt4 h3
        refine it_list (K := K) (a := P) (xs := ys) (fun j H' => Grow K H5 T (fun l => if l ∈ lotsI n then Rat.divInt ((a : Int) + (weigh ws l : Int)) (((ws.sum + a + b + 1 : Nat)) : Int) else 0) L j H') (Grow.start hT) (fun j H' ⟨_, _, _, _, _, e⟩ => SqL.of (e _ _ P5)) ?_ ?_
        · rintro j yv H' hy g
          have sG : Same H5 H' := g.choose_spec.choose_spec.2.2.2
          obtain ⟨l, hl1, ⟨tp, rfl, tl⟩⟩ := (M5.mono (Same.kt sG)).getV hy
          have tl' : H' tp = some (.tup (pV l)) := tl
          have lm := hp.mem_iff.mp (List.mem_of_getElem? hl1)
          refine ⟨rfl, _, rfl, _, rfl, _, rfl, tp, rfl, ⟨_, SqT.of tl'⟩, fun D hD => ?_⟩
          have TD : T ≠ D := by
            intro e
            obtain ⟨_, _, gg, _⟩ := id g
            rw [← e] at hD
            rw [hD] at gg
            cases gg
          have W' := sG _ _ W5
          refine it_tup (K := K) (a := tp) (xs := pV l) (fun i HH => HH D = some (.lst (pV ((l.take i).map fun p => ws.getD p 0))) ∧ Same H' HH) ⟨upd_same, same_new hD⟩ (fun i HH h => SqT.of (h.2 _ _ tl')) ?_ ?_
          · rintro i x HH hx ⟨i1, i2⟩
            obtain ⟨q, hq, rfl⟩ := pV_get hx
            have qn : q < ws.length := by
              rw [h2]
              have := subs_lt ((lotsI_perm n6).mem_iff.mp lm) q (List.mem_of_getElem? hq)
              omega
            have il := (List.getElem?_eq_some_iff.mp hq).1
            have ll : l.length ≤ n := subs_size ((lotsI_perm n6).mem_iff.mp lm)
            refine ⟨rfl, _, rfl, _, rfl, W, pV ws, (q : Int), .int ((ws.getD q 0 : Nat) : Int), rfl, rfl, SqL.of (i2 _ _ W'), ?_, ?_⟩
            · exact atI_nat (pV_atA (by rw [List.getD_eq_getElem?_getD, List.getElem?_eq_getElem qn]; rfl))
            · refine ⟨_, i1, small1000 (by rw [pV_len, List.length_map, List.length_take]; omega), ?_, Same.mut i2 hD⟩
              rw [upd_same, take_succ' hq, List.map_append, List.map_singleton, pV_snoc]
          · rintro HH ⟨i1, i2⟩
            rw [pV_len, List.take_length] at i1
            have ew : (pI (l.map fun p => ws.getD p 0)).sum = ((weigh ws l : Nat) : Int) := pI_sum' _
            refine ⟨D, pI (l.map fun p => ws.getD p 0), rfl, SqL.of i1, _, _, rfl, rfl, _, rfl, _, _, rfl, by rw [wsum]; omega, by rw [wsum]; omega, fun v H8 s8 rv => ⟨(by show 2 ≤ sizeLine; decide), fun q hq => ?_⟩⟩
            refine g.step hT L64 hl1 (i2.trans s8) (s8 _ _ (i2 _ _ tl')) ?_ hq
            rw [if_pos lm]
            rw [ew, wsum] at rv
            have eb : ((ws.sum : Nat) : Int) + (a : Int) + (b : Int) + 1 = ((ws.sum + a + b + 1 : Nat) : Int) := by omega
            rw [← eb]
            exact rv
        · rintro H7 g
          obtain ⟨ts, kvs, g1, g2, g3, g4, g5⟩ := g.done (by rw [M5.length]; exact Nat.le_refl _) n6 hp (Q := fun _ _ => True)
          refine ⟨T, ts, kvs, rfl, SqL.of g1, g2, g3, fun tb htb => ?_⟩
          obtain ⟨v8, tf⟩ := g5 tb htb
          exact k tb _ _ _ tf rt (by omega) (lt900 (k := 30) (by omega) (by decide)) ((d5.same g4).ne htb).1 (d5.same (g4.trans v8)) (e05.trans (Same.kd (g4.trans v8)))
      case a2 =>
        refine ⟨_, rfl, _, rfl, _, rfl, da, 3, rfl, d2, by decide, by decide, fun x H3 x0 x1 d3 e3 => ⟨_, _, rfl, rfl, ?_⟩⟩
        obtain ⟨d, hx⟩ : ∃ d : Nat, x = (d : Int) := ⟨x.toNat, (Int.toNat_of_nonneg (by omega)).symm⟩
        have ed : (1 : Int) + x = (d : Int) + 1 := by omega
        refine ⟨d, by omega, da, n, true, congrArg (fun z => [V.ref da.1, V.int (n : Int), V.int z, V.bl true]) ed, d3, n1, n6, fun v t H4 rt dt d4 e4 => ?_⟩
        have tdp := dt.dep
        have e24 := e3.trans e4
        have M4 := hL.mono (d2.kt e24)
        have P4 := e24 _ _ nP hP
        have e04 := e2.trans e24
        have ok0 : t.Ok n 20 := dt.ok
        have dv0 : t.Dv N0 W0 := dt.dv
        have dp0 : t.dep ≤ 8 := by omega
        clear d3 e3 e24 d2 e2 hL hP e4
        refine ⟨_, rfl, rfl, _, rfl, ?_⟩
        refine (?f1 : (∀ (v : V) (x9 : Option V) (t : Tm) (H' : Hp), Rp K H' v t.data → t.Ok n 20 → t.Dv N0 W0 → t.dep ≤ 8 → LotsH H' ys L → H' P = some (.lst ys) → Dice H' da → KD da.1 H H' → (?R1 : V → Option V → Tm → Hp → Prop) v x9 t H') → _) ?rest1
        case f1 =>
          intro rest
          refine ite2 (fun _ => ?m1) (fun _ => ?m2)
          case m1 =>
            refine ⟨_, rfl, _, rfl, by omega, by omega, fun D hD => ?_⟩
            have nD := d4.ne hD
            refine lc_range (lo := 0) (n := ((n : Nat) : Int).toNat) (fun i H' => ∃ (zs : List V) (ws : List Int), H' D = some (.lst zs) ∧ ws.length = i ∧ RpAll K H' zs (meanD ws (Tm.datas (bidsOf i))) ∧ (∀ w ∈ ws, 1 ≤ w ∧ w ≤ 3) ∧ Dice H' da ∧ KD da.1 H4 H')
              ⟨[], [], upd_same, rfl, .nil, by simp, d4.same (same_new hD), Same.kd (same_new hD)⟩ ?_ ?_
            · rintro i H' hi ⟨zs, ws, h1, h2, h3, h4, h5, h6⟩
              refine ⟨rfl, _, rfl, da, 3, rfl, h5, by decide, by decide, fun z H5 z0 z1 d5 e5 => ⟨_, _, rfl, rfl, _, rfl, (by show 2 ≤ sizeLine; decide), fun p hp => ⟨(by show 2 ≤ sizeLine; decide), fun q hq => ?_⟩⟩⟩
              have ez : (0 : Int) + ((i : Nat) : Int) = ((i : Nat) : Int) := Int.zero_add _
              have s6 := same_new (o := .tup [.str "bid", .int (0 + ((i : Nat) : Int))]) hp
              have s7 := same_new (o := .tup [.int (1 + z), .ref p]) hq
              have hD5 := e5 D _ nD.1 h1
              have hD7 := (s6.trans s7) _ _ hD5
              have yl : zs.length ≤ 6 := by
                rw [h3.length]
                unfold meanD
                rw [List.length_zipWith, h2]
                omega
              refine ⟨zs, hD7, small1000 (by omega), zs ++ [.ref q], ws ++ [1 + z], upd_same, by simp [h2], ?_, ?_, (d5.same (s6.trans s7)).upd nD, ((h6.trans e5).trans (Same.kd (s6.trans s7))).mut hD⟩
              · refine RpAll.mono (KT.updl hD7) ?_
                have eb : bidsOf (i + 1) = bidsOf i ++ [.bid i] := by simp [bidsOf, List.range_succ]
                have em : meanD (ws ++ [1 + z]) (Tm.datas (bidsOf (i + 1))) = meanD ws (Tm.datas (bidsOf i)) ++ [.tuple [.int (1 + z), (Tm.bid i).data]] := by
                  rw [eb, datas_map, datas_map, List.map_append]
                  unfold meanD
                  rw [List.zipWith_append]
                  · rfl
                  · rw [List.length_map, bidsOf_length, h2]
                rw [em]
                refine RpAll.append (RpAll.mono ((h5.kt e5).trans (Same.kt (s6.trans s7))) h3) (.cons (.tup (SqT.of upd_same) (.cons (.int _) (.cons ?_ .nil))) .nil)
                rw [ez] at s7 ⊢
                exact .tup (SqT.of (by rw [upd_ne (ne_of_none upd_same hq)]; exact upd_same)) (.cons (.str _) (.cons (.int _) .nil))
              · intro w hw
                rcases List.mem_append.mp hw with h | h
                · exact h4 w h
                · rw [List.mem_singleton.mp h]
                  omega
            rintro H5 ⟨zs, ws, h1, h2, h3, h4, d5, e5⟩
            rw [Int.toNat_natCast] at h2 h3
            refine ⟨D, zs, rfl, .inl ⟨SqL.of h1, fun l hl => ?_⟩⟩
            have s6 := same_new (o := .tup zs) hl
            refine ⟨_, rfl, (by show 2 ≤ sizeLine; decide), fun p1 hp1 => ?_⟩
            have s7 := same_new (o := .tup [.int 1, v]) hp1
            refine ⟨_, rfl, da, 2, rfl, d5.same (s6.trans s7), by decide, by decide, fun b H7 b0 b1 d7 e7 => ⟨_, _, rfl, rfl, _, rfl, (by show 2 ≤ sizeLine; decide), fun p2 hp2 => ⟨(by show 2 ≤ sizeLine; decide), fun p3 hp3 => ⟨(by show 2 ≤ sizeLine; decide), fun p4 hp4 => ⟨(by show 2 ≤ sizeLine; decide), fun p5 hp5 => ?_⟩⟩⟩⟩⟩
            have s8 := same_new (o := .tup [.str "mean", .ref l]) hp2
            have s9 := same_new (o := .tup [.int (1 + b), .ref p2]) hp3
            have s10 := same_new (o := .tup [.ref p1, .ref p3]) hp4
            have s11 := same_new (o := .tup [.str "mean", .ref p4]) hp5
            have s8e := (s8.trans s9).trans (s10.trans s11)
            have k57 := (Same.kt (s6.trans s7)).trans ((d5.same (s6.trans s7)).kt e7)
            have k7e := Same.kt s8e
            have kl : KT _ _ := ((Same.kt s7).trans ((d5.same (s6.trans s7)).kt e7)).trans k7e
            have kp1 : KT _ _ := ((d5.same (s6.trans s7)).kt e7).trans k7e
            have r_t := rt.mono ((d4.kt e5).trans (k57.trans k7e))
            have r_l : Rp K _ (.ref l) (.tuple (meanD ws (Tm.datas (bidsOf n)))) := .tup (kl.sq (SqT.of upd_same)) (RpAll.mono (k57.trans k7e) h3)
            have r_p2 : Rp K _ (.ref p2) (Tm.mean ws (bidsOf n)).data := .tup ((Same.kt (s9.trans (s10.trans s11))).sq (SqT.of upd_same)) (.cons (.str _) (.cons r_l .nil))
            have r_p1 : Rp K _ (.ref p1) (.tuple [.int 1, t.data]) := .tup (kp1.sq (SqT.of upd_same)) (.cons (.int _) (.cons r_t .nil))
            have r_p3 : Rp K _ (.ref p3) (.tuple [.int (1 + b), (Tm.mean ws (bidsOf n)).data]) := .tup ((Same.kt (s10.trans s11)).sq (SqT.of upd_same)) (.cons (.int _) (.cons r_p2 .nil))
            have r_p4 : Rp K _ (.ref p4) (.tuple (meanD [1, 1 + b] (Tm.datas [t, Tm.mean ws (bidsOf n)]))) := .tup ((Same.kt s11).sq (SqT.of upd_same)) (.cons r_p1 (.cons r_p3 .nil))
            have r_p5 : Rp K _ (.ref p5) (Tm.mean [1, 1 + b] [t, Tm.mean ws (bidsOf n)]).data := .tup (SqT.of upd_same) (.cons (.str _) (.cons r_p4 .nil))
            have dE : Dice _ da := d7.same s8e
            have e4E : KD da.1 H4 _ := ((e5.trans (Same.kd (s6.trans s7))).trans e7).trans (Same.kd s8e)
            have bd := bids_dep n
            have inner : (Tm.mean ws (bidsOf n)).Ok n 20 := ⟨by rw [h2, bidsOf_length], (by intro e; have := bidsOf_length n; rw [e] at this; simp at this; omega), by rw [bidsOf_length]; omega, fun w h => ⟨(h4 w h).1, by have := (h4 w h).2; omega⟩, oks_bids (Nat.le_refl n)⟩
            have si := sum_bd h4
            have dvi : (Tm.mean ws (bidsOf n)).Dv N0 W0 := ⟨(sum_dvd (by omega) (by omega)).1, (sum_dvd (by omega) (by omega)).2, (dvs_iff _ _ _).mpr fun u hu => by
              obtain ⟨p, hp, rfl⟩ := List.mem_map.mp hu
              exact trivial⟩
            have so : (1 : Int) + ((1 + b) + 0) = ([1, 1 + b] : List Int).sum := rfl
            have dvo : (Tm.mean [1, 1 + b] [t, Tm.mean ws (bidsOf n)]).Dv N0 W0 := ⟨(sum_dvd (s := ([1, 1 + b] : List Int).sum) (by omega) (by omega)).1, (sum_dvd (by omega) (by omega)).2, dv0, dvi, trivial⟩
            have oko : (Tm.mean [1, 1 + b] [t, Tm.mean ws (bidsOf n)]).Ok n 20 := ⟨rfl, by simp, by show 2 ≤ 8; decide, fun w hw => (by
              rcases List.mem_cons.mp hw with h | h
              · rw [h]; omega
              · rw [List.mem_singleton.mp h]; omega), ok0, inner, trivial⟩
            have dpo : (Tm.mean [1, 1 + b] [t, Tm.mean ws (bidsOf n)]).dep ≤ 8 := by
              show max t.dep (max (Tm.deps (bidsOf n) + 1) 0) + 1 ≤ 8
              omega
            have ME := M4.mono (d4.kt e4E)
            have PE := e4E _ _ nP P4
            have eE := e04.trans e4E
            have cs : ∃ tt : Tm, Rp K (upd (upd (upd (upd H7 p2 (.tup [.str "mean", .ref l])) p3 (.tup [.int (1 + b), .ref p2])) p4 (.tup [.ref p1, .ref p3])) p5 (.tup [.str "mean", .ref p4])) (.ref p5) tt.data ∧ tt.Ok n 20 ∧ tt.Dv N0 W0 ∧ tt.dep ≤ 8 ∧ LotsH (upd (upd (upd (upd H7 p2 (.tup [.str "mean", .ref l])) p3 (.tup [.int (1 + b), .ref p2])) p4 (.tup [.ref p1, .ref p3])) p5 (.tup [.str "mean", .ref p4])) ys L ∧ (upd (upd (upd (upd H7 p2 (.tup [.str "mean", .ref l])) p3 (.tup [.int (1 + b), .ref p2])) p4 (.tup [.ref p1, .ref p3])) p5 (.tup [.str "mean", .ref p4])) P = some (.lst ys) ∧ Dice (upd (upd (upd (upd H7 p2 (.tup [.str "mean", .ref l])) p3 (.tup [.int (1 + b), .ref p2])) p4 (.tup [.ref p1, .ref p3])) p5 (.tup [.str "mean", .ref p4])) da ∧ KD da.1 H (upd (upd (upd (upd H7 p2 (.tup [.str "mean", .ref l])) p3 (.tup [.int (1 + b), .ref p2])) p4 (.tup [.ref p1, .ref p3])) p5 (.tup [.str "mean", .ref p4])) :=
              ⟨_, r_p5, oko, dvo, dpo, ME, PE, dE, eE⟩
            clear r_p5 oko dvo dpo ME PE dE eE r_p4 r_p3 r_p2 r_p1 r_l r_t e4E kp1 kl k7e s8e s11 s10 s9 s8
            dsimp only
            revert cs
            generalize (upd (upd (upd (upd H7 p2 (.tup [.str "mean", .ref l])) p3 (.tup [.int (1 + b), .ref p2])) p4 (.tup [.ref p1, .ref p3])) p5 (.tup [.str "mean", .ref p4])) = HZ
            generalize V.ref p5 = vz
            generalize some (V.ref l) = x9
            rintro ⟨tt, r_p5, oko, dvo, dpo, ME, PE, dE, eE⟩
            exact rest vz x9 tt HZ r_p5 oko dvo dpo ME PE dE eE
          case m2 =>
            exact rest v none t H4 rt ok0 dv0 dp0 M4 P4 d4 e04
        case rest1 =>
          clear M4 P4 d4 e04 rt
          intro v x9 t H4 rt ok0 dv0 dp0 M4 P4 d4 e04
          have rt0 := right_corner ok0 dv0
          have lt0 : N0 * W0 ^ t.dep < 2 ^ 900 := Nat.lt_of_le_of_lt (Nat.mul_le_mul_left _ (Nat.pow_le_pow_right W0_pos dp0)) (lt900 (k := 256) (by decide +kernel) (by decide))
          have lt1 : N0 * W0 ^ t.dep < 2 ^ 1000 := Nat.lt_of_le_of_lt (Nat.mul_le_mul_left _ (Nat.pow_le_pow_right W0_pos dp0)) (by decide +kernel)
          have pos0 : 0 < N0 * W0 ^ t.dep := Nat.mul_pos N0_pos (Nat.pow_pos W0_pos)
          have dvb : DvB t [] := ⟨N0, W0, N0_pos, W0_pos, dv0, lt1, fun q hq => nomatch hq⟩
          refine ⟨_, rfl, P, rfl, ⟨_, SqL.of P4⟩, fun T hT => ?_⟩
          refine it_list (K := K) (a := P) (xs := ys) (fun j H' => Grow K H4 T (fun l => t.val (end01 n l)) L j H') (Grow.start hT) (fun j H' ⟨_, _, _, _, _, e⟩ => SqL.of (e _ _ P4)) ?_ ?_
          · rintro j yv H' hy g
            have sG : Same H4 H' := g.choose_spec.choose_spec.2.2.2
            obtain ⟨l, hl1, ⟨tp, rfl, tl⟩⟩ := (M4.mono (Same.kt sG)).getV hy
            have tl' : H' tp = some (.tup (pV l)) := tl
            refine ⟨rfl, _, rfl, _, rfl, _, rfl, _, rfl, v, tp, n, 20, t, l, rfl, n6, SqT.of tl', rt.mono (Same.kt sG), ok0, by decide, by decide, by omega, dvb, fun u H8 s8 ru => ⟨(by show 2 ≤ sizeLine; decide), fun q hq => ?_⟩⟩
            exact g.step hT L64 hl1 s8 (s8 _ _ tl') ru hq
          rintro H7 g
          obtain ⟨ts, kvs, g1, g2, g3, g4, g5⟩ := g.done (by rw [M4.length]; exact Nat.le_refl _) n6 hp (Q := fun _ _ => True)
          refine ⟨T, ts, kvs, rfl, SqL.of g1, g2, g3, fun tb htb => ?_⟩
          obtain ⟨v8, tf⟩ := g5 tb htb
          have d8 := d4.same (g4.trans v8)
          have e8 := e04.trans (Same.kd (g4.trans v8))
          have P8 := (g4.trans v8) _ _ P4
          have M8 := M4.mono (Same.kt (g4.trans v8))
          have nb := ((d4.same g4).ne htb).1
          generalize upd H7 tb (.dT kvs) = H8 at *
          clear g g1 g2 g3 g4 g5 v8 htb hT P4 M4 d4 e04 rt
          refine ⟨_, rfl, rfl, _, rfl, ite2 (fun _ => ?q1) (fun _ => ?q2)⟩
          case q1 =>
            refine ⟨_, rfl, _, rfl, da, (n : Int), rfl, d8, by omega, by omega, fun z H9 z0 z1 d9 e9 => ?_⟩
            obtain ⟨p, hp9⟩ : ∃ j : Nat, z = (j : Int) := ⟨z.toNat, (Int.toNat_of_nonneg z0).symm⟩
            subst hp9
            have T9 := tf.kd d8 e9 nb
            have M9 := M8.mono (d8.kt e9)
            have P9 := e9 _ _ nP P8
            have e09 := e8.trans e9
            refine ⟨_, rfl, P, rfl, ⟨_, SqL.of P9⟩, fun T hT => ?_⟩
            refine it_list (K := K) (a := P) (xs := ys) (fun j H' => Grow K H9 T (fun l => (fun l => t.val (end01 n l)) (l.filter fun q => !decide (q = p))) L j H') (Grow.start hT) (fun j H' ⟨_, _, _, _, _, e⟩ => SqL.of (e _ _ P9)) ?_ ?_
            · rintro j yv H' hy g
              have sG : Same H9 H' := g.choose_spec.choose_spec.2.2.2
              obtain ⟨l, hl1, ⟨tp, rfl, tl⟩⟩ := (M9.mono (Same.kt sG)).getV hy
              have tl' : H' tp = some (.tup (pV l)) := tl
              have lm := hp.mem_iff.mp (List.mem_of_getElem? hl1)
              have ll : l.length ≤ n := subs_size ((lotsI_perm n6).mem_iff.mp lm)
              refine ⟨rfl, _, rfl, _, rfl, _, rfl, tp, rfl, ⟨_, SqT.of tl'⟩, fun D hD => ?_⟩
              refine it_tup (K := K) (a := tp) (xs := pV l) (fun i HH => HH D = some (.lst (pV ((l.take i).filter fun q => !decide (q = p)))) ∧ Same H' HH) ⟨upd_same, same_new hD⟩ (fun i HH h => SqT.of (h.2 _ _ tl')) ?_ ?_
              · rintro i x HH hx ⟨i1, i2⟩
                obtain ⟨q, hq, rfl⟩ := pV_get hx
                have il := (List.getElem?_eq_some_iff.mp hq).1
                have tk := take_succ' hq
                refine ⟨rfl, _, rfl, _, rfl, rfl, _, rfl, ?_⟩
                rw [tk, List.filter_append]
                by_cases c : q = p
                · subst c
                  simp only [decide_true, Bool.not_true, Bool.false_eq_true, if_false]
                  exact ⟨by rw [i1]; simp, i2⟩
                · have c2 : ¬ (V.int (q : Int) = V.int (p : Int)) := fun e => c (by injection e with e; omega)
                  rw [decide_eq_false c2]
                  simp only [Bool.not_false, if_true]
                  refine ⟨_, rfl, _, i1, small1000 (by
                    rw [pV_len]
                    have := List.length_filter_le (fun q => !decide (q = p)) (l.take i)
                    rw [List.length_take] at this
                    omega), ?_, Same.mut i2 hD⟩
                  rw [upd_same, ← pV_snoc]
                  simp [c]
              · rintro HH ⟨i1, i2⟩
                rw [pV_len, List.take_length] at i1
                refine ⟨D, _, rfl, .inl ⟨SqL.of i1, fun tq htq => ?_⟩⟩
                have v9 := same_new (o := .tup (pV (l.filter fun q => !decide (q = p)))) htq
                obtain ⟨u, gu, ru⟩ := (T9.same ((sG.trans i2).trans v9)).at n6 (lots_low n6 lm) (upd_same (H := HH) (a := tq))
                refine ⟨tb, u, rfl, gu, (by show 2 ≤ sizeLine; decide), fun q hq => ?_⟩
                exact g.step hT L64 hl1 (i2.trans v9) ((i2.trans v9) _ _ tl') ru hq
            rintro H10 g
            obtain ⟨ts, kvs, g1, g2, g3, g4, g5⟩ := g.done (by rw [M9.length]; exact Nat.le_refl _) n6 hp (Q := fun _ _ => True)
            refine ⟨T, ts, kvs, rfl, SqL.of g1, g2, g3, fun tc htc => ?_⟩
            obtain ⟨v8, tf2⟩ := g5 tc htc
            exact ⟨_, rfl, k tc _ _ _ tf2 (right_without n6 rt0) pos0 lt0 ((d9.same g4).ne htc).1 (d9.same (g4.trans v8)) (e09.trans (Same.kd (g4.trans v8)))⟩
          case q2 =>
            exact ⟨_, rfl, k tb _ _ _ tf rt0 pos0 lt0 nb d8 e8⟩
end
end CB

set_option Elab.async false
set_option linter.all false
set_option maxRecDepth 100000
set_option maxHeartbeats 4000000
/-! list(d.items()) of a dict with tuples as keys; sorted of a list of data, however long -/
namespace CB
open PySem PySem.Spec PyProof.Rows L2 L2.DX
section
variable {X : Cx}
/-- xs are the pairs of kvs -/
def ItemsT (H : Hp) (kvs : List (List L2.Key × V)) (xs : List V) : Prop := xs.length = kvs.length ∧ ∀ (j : Nat) (kv : List L2.Key × V), kvs[j]? = some kv → ∃ z b, xs[j]? = some (V.ref z) ∧ H z = some (.tup [.ref b, kv.2]) ∧ H b = some (.tup (kv.1.map kV))
def rItemsL0 : List V → Hp → VK → Prop := fun vs H Q => ∃ (p a : Addr) (kvs : List (List L2.Key × V)), vs = [V.ref p] ∧ H p = some (itemsO p a) ∧ H a = some (.dT kvs) ∧
  ∀ H' l xs, Same H H' → H l = none → H' l = some (.lst xs) → ItemsT H' kvs xs → Q (.ref l) H'
inductive rItemsL : List V → Hp → VK → Prop
  | mk {vs : List V} {H : Hp} {Q : VK} (h : rItemsL0 vs H Q) : rItemsL vs H Q
theorem cr_itemsL (calm : X.calm = true) : CallR X (.type "list") rItemsL := by
  intro pins s σ H vs us Q inv rel hh
  obtain ⟨h⟩ := hh
  obtain ⟨p, a, kvs, rfl, hp, ha, k⟩ := h
  obtain rfl := Vals.ref1 rel
  have vw : s.heap.IsItemsView p a := (show ObjOk X.prog X.w H s.heap p (itemsO p a) from inv.hok p _ hp).1
  obtain ⟨zl, ns, qs, pr, ob, es, ep, g, ex, dt, eqs, _, nd⟩ := dt_of inv.hok ha
  have n1 : kvs.length = qs.length := Paired.length pr
  have n2 : es.size = qs.length := size_of_entries eqs
  refine PySem.W.dil_call (es := es) (ep := ep) (inv.ok.hd calm) vw ⟨ob, g, ex, dt⟩ (by omega) fun h' tk acc c as kp hl la G eacc => ?_
  have none0 : H s.heap.objs.size = none := inv.hok.fresh (Nat.le_refl _)
  have lz : (as.map V.ref).length ≤ sizeLine := by rw [List.length_map]; omega
  have inv1 : Inv X pins σ (upd H s.heap.objs.size (.lst (as.map V.ref))) { s with heap := h', toks := tk } :=
    inv.laid (t' := tk) (o := .lst (as.map V.ref)) kp (Nat.le_refl _) ⟨lz, acc.toList, c, (by rw [eacc]; exact vals_refs _), (by rw [Array.toArray_toList]; exact hl)⟩
  have nodup : as.Nodup := G.rise.imp fun q => Nat.ne_of_lt q
  obtain ⟨H2, inv2, keep, got⟩ := takeT (P := fun a vs => ∀ j, as[j]? = some a → ∃ (kv : List L2.Key × V) (b : Addr), kvs[j]? = some kv ∧ H b = some (.tup (kv.1.map kV)) ∧ vs = [V.ref b, kv.2]) inv as _ inv1 nodup fun x hx => by
    have lo := G.above x hx
    obtain ⟨j, hj⟩ := List.mem_iff_getElem?.mp hx
    obtain ⟨lt, gx⟩ := G.pairs j x hj
    obtain ⟨q, hq⟩ : ∃ q, qs[j]? = some q := ⟨_, List.getElem?_eq_getElem (by omega)⟩
    have een : es[j] = entryOfKey (tupleKind (mixKind X.prog X.w)) q := by
      have e := entry_at eqs j
      rw [hq, Array.getElem?_eq_getElem lt] at e
      exact Option.some.inj e
    obtain ⟨kv, hkv, r1, r2, r3⟩ := pget pr hq
    refine ⟨Nat.le_of_lt lo, ?_, [V.ref q.2.1, kv.2], fun i hi => ?_, fun H3 => ?_⟩
    · rw [upd_ne (Nat.ne_of_gt lo)]
      exact inv.hok.fresh (Nat.le_of_lt lo)
    · have ij : i = j := by
        obtain ⟨il, ie⟩ := List.getElem?_eq_some_iff.mp hi
        obtain ⟨jl, je⟩ := List.getElem?_eq_some_iff.mp hj
        rcases Nat.lt_trichotomy i j with q | q | q
        · exact absurd (ie.trans je.symm) (Nat.ne_of_lt ((List.pairwise_iff_getElem.mp G.rise) i j il jl q))
        · exact q
        · exact absurd (je.trans ie.symm) (Nat.ne_of_lt ((List.pairwise_iff_getElem.mp G.rise) j i jl il q))
      subst ij
      exact ⟨kv, q.2.1, hkv, r2, rfl⟩
    · refine ⟨by show 2 ≤ sizeLine; decide, [Value.ref q.2.1, q.2.2], .cons rfl (.cons r3 .nil), ?_⟩
      rw [een] at gx
      exact ⟨_, gx, rfl, 0, rfl⟩
  have g2 : Same H H2 := fun b o e => keep b o (by rw [upd_ne (ne_of_none e none0)]; exact e)
  refine ⟨.ref s.heap.objs.size, H2, inv2, rfl, k H2 _ (as.map V.ref) g2 none0 (keep _ _ upd_same) ⟨by rw [List.length_map]; omega, fun j kv hkv => ?_⟩⟩
  have jl : j < as.length := by
    have := (List.getElem?_eq_some_iff.mp hkv).1
    omega
  obtain ⟨vs, hP, hz⟩ := got _ (List.getElem_mem jl)
  obtain ⟨kv', b, e1, e2, rfl⟩ := hP j (List.getElem?_eq_getElem jl)
  rw [hkv] at e1
  cases e1
  exact ⟨as[j], b, by rw [List.getElem?_map, List.getElem?_eq_getElem jl]; rfl, hz, g2 _ _ e2⟩
/-- sorted(xs), xs a list of data -/
def rSortD0 (K : PySem.W.Frag) : List V → Hp → VK → Prop := fun vs H Q => ∃ (a : Addr) (xs : List V) (ds : List PyData), vs = [V.ref a] ∧ SqL K H a xs ∧ RpAll K H xs ds ∧ PySem.W.AllAlike ds ∧ PySem.W.Sortable ds ∧ ds.length ≤ sizeLine ∧ (∀ d ∈ ds, d.depth ≤ 50) ∧
  ∀ (ys : List V) (p : Addr), RpAll K H ys (ds.mergeSort (PySem.W.dataLe false id)) → H p = none → Q (.ref p) (upd H p (.lst ys))
inductive rSortD (K : PySem.W.Frag) : List V → Hp → VK → Prop
  | mk {vs : List V} {H : Hp} {Q : VK} (h : rSortD0 K vs H Q) : rSortD K vs H Q
theorem each_back {K : PySem.W.Frag} {H : Hp} : ∀ {us : List Value} {ds : List PyData}, PySem.W.EachIs (fun v d => ∃ y : V, RelV y v ∧ Rp K H y d) us ds → ∃ ys, Vals ys us ∧ RpAll K H ys ds
  | _, _, .nil => ⟨[], .nil, .nil⟩
  | _, _, .cons ⟨y, r, d⟩ t => by
    obtain ⟨ys, a, b⟩ := each_back t
    exact ⟨y :: ys, .cons r a, .cons d b⟩
theorem each_made {pins : List (Addr × Obj)} {σ : L2.St} {H : Hp} {s : Shared} (I : Inv X pins σ H s) : ∀ {xs : List V} {us : List Value} {ds : List PyData}, Vals xs us → RpAll X.K H xs ds →
    PySem.W.EachIs (fun v d => ∃ y : V, RelV y v ∧ Rp X.K H y d) us ds ∧ PySem.W.EachIs (fun v d => ∃ as, Reads s.heap v (id d) as) us ds
  | _, _, _, .nil, h => by cases h; exact ⟨.nil, .nil⟩
  | _, _, _, .cons r t, h => by
    cases h with
    | cons a b =>
      obtain ⟨e1, e2⟩ := each_made I t b
      exact ⟨.cons ⟨_, r, a⟩ e1, .cons (Dp.reads I _ _ _ (Rp.dp a) r) e2⟩
theorem cr_sortD (room : X.A.units + 64 < cLine) : CallR X (.builtin "sorted") (rSortD X.K) := by
  intro pins s σ H vs us Q inv rel hh
  obtain ⟨h⟩ := hh
  obtain ⟨a, xs, ds, rfl, hs, hd, al, so, sz, dp, k⟩ := h
  obtain rfl := Vals.ref1 rel
  obtain ⟨its, rv, isl, zz⟩ := inv.list hs
  obtain ⟨e1, e2⟩ := each_made inv rv hd
  refine PySem.W.sorted_data (enc := id) isl.isList e1 e2 (by rw [List.map_id]; exact al) (by rw [List.map_id]; exact so) sz (fun b hb => by have := dp b hb; show X.A.units + 2 + b.depth < cLine; omega) fun out lo eo => ?_
  obtain ⟨ys, ry, dy⟩ := each_back eo
  obtain ⟨c, hc⟩ := PyProof.Rows.sortedAll_at s.heap its (List.toArray out)
  exact ⟨.ref _, upd H (s.heap.objs.size + 1) (.lst ys), inv.laid (t' := s.toks) (fun _ _ => PyProof.Rows.sortedAll_old) (Nat.le_succ _) ⟨by rw [ry.length, lo]; exact sz, out, c, ry, hc⟩, rfl, k ys _ dy (inv.hok.fresh (Nat.le_succ _))⟩
end
/-- a lot and its number, as data -/
def lotQ (f : List Nat → Rat) (l : List Nat) : PyData := .tuple [.tuple ((pI l).map .int), qd (f l)]
theorem dp_ints {K : PySem.W.Frag} {H : Hp} : ∀ l : List Nat, RpAll K H (pV l) ((pI l).map .int)
  | [] => .nil
  | n :: l => .cons (.int _) (dp_ints l)
theorem dp_qd {K : PySem.W.Frag} {H : Hp} {v : V} {q : Rat} (h : RF K H v q) : Rp K H v (qd q) := by
  obtain ⟨p, rfl, e⟩ := h
  exact .tup e (.cons (.int _) (.cons (.int _) .nil))
theorem items_data {K : PySem.W.Frag} {H : Hp} {f : List Nat → Rat} : ∀ {kvs : List (List L2.Key × V)} {ls : List (List Nat)} {xs : List V}, KvL (fun v l => RF K H v (f l)) kvs ls → ItemsT H kvs xs → RpAll K H xs (ls.map (lotQ f))
  | _, _, xs, .nil, h => by
    have : xs = [] := List.length_eq_zero_iff.mp h.1
    subst this
    exact .nil
  | _, _, xs, .cons r t, h => by
    obtain ⟨hl, hh⟩ := h
    match xs, hl, hh with
    | x :: xs, hl, hh =>
      obtain ⟨z, b, e1, e2, e3⟩ := hh 0 _ rfl
      have e1' : x = .ref z := by simpa using e1
      subst e1'
      rw [keyK_V] at e3
      refine .cons (.tup (SqT.of e2) (.cons (.tup (SqT.of e3) (dp_ints _)) (.cons (dp_qd r) .nil))) (items_data t ⟨by simpa using hl, fun j kv hj => ?_⟩)
      obtain ⟨z', b', a1, a2, a3⟩ := hh (j + 1) kv (by simpa using hj)
      exact ⟨z', b', by simpa using a1, a2, a3⟩
theorem lotQ_alike (f : List Nat → Rat) (ls : List (List Nat)) : PySem.W.AllAlike (ls.map (lotQ f)) := by
  refine PySem.W.AllAlike.of fun a b => ?_
  simp [lotQ, qd, PySem.W.alike, PySem.W.alikeAll, PySem.W.alike_ints]
theorem lotQ_sortable (f : List Nat → Rat) (ls : List (List Nat)) : PySem.W.Sortable (ls.map (lotQ f)) := PySem.W.Sortable.tuples fun b => ⟨_, _, rfl⟩
theorem lotQ_depth (f : List Nat → Rat) (l : List Nat) : (lotQ f l).depth ≤ 4 := by
  have := PySem.W.depth_ints (pI l)
  have := qd_depth (f l)
  simp only [lotQ, PyData.depth, PyData.depthAll]
  omega
theorem lay_ints : ∀ l : List Int, PyData.canLayAll0 (l.map .int) = true
  | [] => rfl
  | x :: l => by
    show PyData.canLayAll0 (.int x :: l.map .int) = true
    simp [PyData.canLayAll0, PyData.canLay0, lay_ints l]
theorem lotQ_lay (f : List Nat → Rat) (l : List Nat) : (lotQ f l).canLay0 = true := by
  simp [lotQ, PyData.canLay0, PyData.canLayAll0, qd_lay, lay_ints]
theorem lay_all {ds : List PyData} (h : ∀ d ∈ ds, d.canLay0 = true) : PyData.canLayAll0 ds = true := by
  induction ds with
  | nil => rfl
  | cons d ds ih => simp [PyData.canLayAll0, h d (List.mem_cons_self ..), ih fun x hx => h x (List.mem_cons_of_mem _ hx)]
theorem depth_all {ds : List PyData} {n : Nat} (h : ∀ d ∈ ds, d.depth ≤ n) : PyData.depthAll ds ≤ n := by
  induction ds with
  | nil => simp [PyData.depthAll]
  | cons d ds ih =>
    have h1 := h d (List.mem_cons_self ..)
    have h2 := ih fun x hx => h x (List.mem_cons_of_mem _ hx)
    simp only [PyData.depthAll]
    omega
/-- the sorted items as one -/
def keptD (f : List Nat → Rat) (ls : List (List Nat)) : PyData := .list ((ls.map (lotQ f)).mergeSort (PySem.W.dataLe false id))
theorem kept_mem {f : List Nat → Rat} {ls : List (List Nat)} {d : PyData} (h : d ∈ (ls.map (lotQ f)).mergeSort (PySem.W.dataLe false id)) : ∃ l, d = lotQ f l := by
  rw [List.mem_mergeSort] at h
  obtain ⟨l, _, rfl⟩ := List.mem_map.mp h
  exact ⟨l, rfl⟩
theorem kept_lay (f : List Nat → Rat) (ls : List (List Nat)) : (keptD f ls).canLay0 = true := by
  have := lay_all (ds := (ls.map (lotQ f)).mergeSort (PySem.W.dataLe false id)) fun d hd => by
    obtain ⟨l, rfl⟩ := kept_mem hd
    exact lotQ_lay f l
  simpa [keptD, PyData.canLay0] using this
theorem kept_shaped (f : List Nat → Rat) (ls : List (List Nat)) : SeqAt.shaped (keptD f ls) = true := by
  unfold SeqAt.shaped
  rw [kept_lay, Bool.true_and]
  refine decide_eq_true ?_
  have := depth_all (n := 4) (ds := (ls.map (lotQ f)).mergeSort (PySem.W.dataLe false id)) fun d hd => by
    obtain ⟨l, rfl⟩ := kept_mem hd
    exact lotQ_depth f l
  simp only [keptD, PyData.depth]
  omega
theorem kept_eqv (f : List Nat → Rat) (ls : List (List Nat)) : PyData.eqv (keptD f ls) (keptD f ls) = true := PySem.SeqAt.eqv_refl _ (kept_lay f ls)
/-- the sorted items stand at p -/
def KeptAt (K : PySem.W.Frag) (H : Hp) (p : Addr) (f : List Nat → Rat) (ls : List (List Nat)) : Prop := ∃ ys, H p = some (.lst ys) ∧ RpAll K H ys ((ls.map (lotQ f)).mergeSort (PySem.W.dataLe false id))
theorem KeptAt.kd {K : PySem.W.Frag} {H H' : Hp} {p d : Addr} {f : List Nat → Rat} {ls : List (List Nat)} (h : KeptAt K H p f ls) (e : KD d H H') (k : KT H H') (ne : p ≠ d) : KeptAt K H' p f ls := by
  obtain ⟨ys, h1, h2⟩ := h
  exact ⟨ys, e _ _ ne h1, RpAll.mono k h2⟩
theorem KeptAt.same {K : PySem.W.Frag} {H H' : Hp} {p : Addr} {f : List Nat → Rat} {ls : List (List Nat)} (h : KeptAt K H p f ls) (e : Same H H') : KeptAt K H' p f ls := by
  obtain ⟨ys, h1, h2⟩ := h
  exact ⟨ys, e _ _ h1, RpAll.mono (Same.kt e) h2⟩
theorem KeptAt.dp {K : PySem.W.Frag} {H : Hp} {p : Addr} {f : List Nat → Rat} {ls : List (List Nat)} (h : KeptAt K H p f ls) : Dp K H (.ref p) (keptD f ls) := by
  obtain ⟨ys, h1, h2⟩ := h
  exact .lst (SqL.of h1) (RpAll.dp h2)
section
variable {X : Cx}
theorem pe_ditemsT {o : Expr} {to : TE} {apos cpos : Pos} (ho : PE X o to) (hbase : attributeBase o "items" X.env (eval o X.env) = eval o X.env := by rfl) (hline : (apos.endLine == cpos.line) = true := by rfl) : PE X (.Call (.Attribute o "items" apos) [] [] cpos) (tBM0 X.K "dict" rItemsT to) :=
  pe_bm0 PySem.F.plainAttrs_dict PySem.F.slot_dict_items PySem.F.type_dict_items mt_itemsT ho hbase hline
end
/-- sorted(list(d.items())), as it is read -/
theorem kept_ok {K : PySem.W.Frag} {H : Hp} {d : Addr} {f : List Nat → Rat} {kvs : List (List L2.Key × V)} {ls : List (List Nat)} {Q : VK} (hd : H d = some (.dT kvs)) (hk : KvL (fun v l => RF K H v (f l)) kvs ls) (hl : ls.length ≤ 64)
    {R S : VK} (hR : ∀ x H1, rItemsL [x] H1 S → R x H1) (hS : ∀ y H2, rSortD K [y] H2 Q → S y H2) (k : ∀ p H', Same H H' → H p = none → KeptAt K H' p f ls → Q (.ref p) H') : rItemsT (.ref d) [] H R := by
  refine ⟨d, kvs, rfl, rfl, hd, fun q hq => ?_⟩
  have s1 := same_new (o := itemsO q d) hq
  refine hR _ _ (.mk ⟨q, d, kvs, rfl, upd_same, s1 _ _ hd, fun H2 l xs s2 hl0 hll hit => ?_⟩)
  have s12 := s1.trans s2
  refine hS _ _ (.mk ⟨l, xs, _, rfl, SqL.of hll, items_data (hk.imp fun v l r => r.mono (Same.kt s12)) hit, lotQ_alike _ _, lotQ_sortable _ _, ?_, fun e he => ?_, fun ys p dy hp => ?_⟩)
  · rw [List.length_map]
    exact Nat.le_trans hl (by decide)
  · obtain ⟨m, _, rfl⟩ := List.mem_map.mp he
    exact Nat.le_trans (lotQ_depth f m) (by decide)
  · have s3 := same_new (o := .lst ys) hp
    refine k p _ (s12.trans s3) (by cases e : H p with
      | none => rfl
      | some o => rw [s12 _ _ e] at hp; cases hp) ⟨ys, upd_same, RpAll.mono (Same.kt s3) dy⟩
end CB

set_option Elab.async false
set_option linter.all false
set_option maxRecDepth 100000
set_option maxHeartbeats 4000000
namespace CB
open PySem PySem.Spec PyProof.Rows L2
open C8 (Cal Met Mak pe_c pe_mk pe_mt pe_mt0 pe_gc CalAt)
section
variable {P : Program} {w : World} {K : PySem.W.Frag} {mg : Str → Option Value} {base : Heap}
/-- a person's rise over a lot -/
def upF (f : List Nat → Rat) (n p : Nat) (l : List Nat) : Rat := f (joinL n l p) - f l
def wtB (f : List Nat → Rat) (n : Nat) : Bool := (List.range n).all fun p => (woP n p).all fun l => decide (upF f n p l = upF f n p [])
def wtD (f : List Nat → Rat) (n : Nat) : PyData := if wtB f n = true then .tuple [.tuple (((List.range n).map fun p => upF f n p []).map qd), qd (f [])] else .none
theorem nil_sub : ∀ n, n < 7 → ([] : List Nat) ∈ subs n := by decide +kernel
abbrev n_rise : List Str := ["table", "lot", "person"]
theorem sc_rise : FnScope ["table", "lot", "person"] ["table", "lot", "person"] (defScope s_rise) := ⟨rfl, rfl, rfl, by decide +kernel, rfl, by decide +kernel, by decide +kernel⟩
def sp_rise (K : PySem.W.Frag) : Sp := fun vs H Q _ => ∃ (d b : Addr) (f : List Nat → Rat) (n p : Nat) (l : List Nat), vs = [.ref d, .ref b, .int (p : Int)] ∧ n ≤ 6 ∧ l ∈ lotsI n ∧ p < n ∧ l.contains p = false ∧ H b = some (.tup (pV l)) ∧ TabF K H d f n ∧ (∀ l, Sz 1000 (f l)) ∧
  ∀ v H', Same H H' → RF K H' v (upF f n p l) → Q v H'
theorem ok_rise (F : FnD K mg "rise" s_rise) (c_joined : Cal P w K mg base 1 "joined" (sp_joined K) []) (c_minus : Cal P w K mg base 2 "minus" (sp_minus K) []) : Cal P w K mg base 3 "rise" (sp_rise K) [] := by
  refine calOf F sc_rise (fun _ _ _ _ _ _ us hl => match us, hl with | [_, _, _], _ => rfl) (fun vs H Q E h => ?_) (fun cdv fz A outer s H vs Q E hr h => ?_)
  · obtain ⟨_, _, _, _, _, _, rfl, _⟩ := h
    rfl
  · obtain ⟨d, b, f, n, p, l, rfl, h6, hl, hp, hcp, hb, hT, hz, k⟩ := h
    refine ⟨_, (pss_one (ps_ret (pe_c c_minus hr (by first | decide | omega) rfl (pa_cons (pe_dget (CDu.lt hr.units) (pv 0) (pe_c c_joined hr (by first | decide | omega) rfl (pa_cons (pv 1) (pa_cons (pv 2) pa_nil))) (fun _ _ => rfl)) (pa_cons (pe_dget (CDu.lt hr.units) (pv 0) (pv 1) (fun _ _ => rfl)) pa_nil))))), ?_⟩
    refine ⟨_, rfl, _, rfl, _, rfl, b, n, p, l, rfl, h6, hl, hp, hcp, SqT.of hb, fun a H1 s1 ha => ?_⟩
    obtain ⟨v1, g1, r1⟩ := (hT.same s1).at h6 (joinL_mem h6 l p) ha
    obtain ⟨v2, g2, r2⟩ := (hT.same s1).at h6 hl (s1 _ _ hb)
    refine ⟨d, v1, rfl, g1, _, rfl, _, rfl, d, v2, rfl, g2, v1, v2, _, _, _, _, 1000, 1000, rfl, r1, r2, ?_, ?_, (hz _).1, ?_, (hz _).1, ?_, by decide, fun v H2 s2 rv => ?_⟩
    · have := (f (joinL n l p)).den_pos; omega
    · have := (f l).den_pos; omega
    · exact (hz (joinL n l p)).2
    · exact (hz l).2
    · rw [divInt_self', divInt_self'] at rv
      exact k v H2 (s1.trans s2) rv
abbrev n_first_bar_to_weights : List Str := ["people", "table", "person", "lot"]
theorem sc_first_bar_to_weights : FnScope ["people", "table", "person", "lot"] ["people", "table"] (defScope s_first_bar_to_weights) := ⟨rfl, rfl, rfl, by decide +kernel, rfl, by decide +kernel, by decide +kernel⟩
def sp_first_bar_to_weights (K : PySem.W.Frag) : Sp := fun vs H Q _ => ∃ (d : Addr) (f : List Nat → Rat) (n : Nat), vs = [.int (n : Int), .ref d] ∧ n ≤ 6 ∧ TabF K H d f n ∧ (∀ l, Sz 1000 (f l)) ∧
  ∀ v H', Same H H' → (wtB f n = true ∧ v = .non ∨ wtB f n = false ∧ ∃ a, v = .ref a) → Q v H'
theorem ok_first_bar_to_weights (F : FnD K mg "first_bar_to_weights" s_first_bar_to_weights) (c_lots_without : Cal P w K mg base 3 "lots_without" (sp_lots_without K) []) (c_rise : Cal P w K mg base 3 "rise" (sp_rise K) []) (T_range : mg "range" = none) : Cal P w K mg base 4 "first_bar_to_weights" (sp_first_bar_to_weights K) [] := by
  refine calOf F sc_first_bar_to_weights (fun _ _ _ _ _ _ us hl => match us, hl with | [_, _], _ => rfl) (fun vs H Q E h => ?_) (fun cdv fz A outer s H vs Q E hr h => ?_)
  · obtain ⟨_, _, _, rfl, _⟩ := h
    rfl
  · obtain ⟨d, f, n, rfl, h6, hT, hz, k⟩ := h
    refine ⟨_, (pss_cons (ps_for PassesOwn.never rfl (pi_range1 (by rfl) T_range (pa_cons (pv 0) pa_nil)) (pg_name (i := 2) sc_first_bar_to_weights.nd rfl (Or.inl rfl)) (pss_one (ps_for PassesOwn.never rfl (pi_list (pe_c c_lots_without hr (by first | decide | omega) rfl (pa_cons (pv 0) (pa_cons (pv 2) pa_nil)))) (pg_name (i := 3) sc_first_bar_to_weights.nd rfl (Or.inl rfl)) (pss_one (ps_if (pt_cmpR (op_neD hr.units) (pe_c c_rise hr (by first | decide | omega) rfl (pa_cons (pv 1) (pa_cons (pv 3) (pa_cons (pv 2) pa_nil)))) (pe_c c_rise hr (by first | decide | omega) rfl (pa_cons (pv 1) (pa_cons (pe_tup pa_nil) (pa_cons (pv 2) pa_nil)))) (nomark _)) (pss_one (ps_ret (pe_tup (pa_cons (pv 2) (pa_cons (pe_tup pa_nil) (pa_cons (pv 3) pa_nil)))))) pss_nil)))))
    (pss_one (ps_ret pe_non))), ?_⟩
    have nil_in : ([] : List Nat) ∈ lotsI n := (lotsI_perm h6).mem_iff.mpr (nil_sub n (by omega))
    refine ⟨_, rfl, _, rfl, by omega, by omega, ?_⟩
    refine for_range (lo := 0) (n := ((n : Nat) : Int).toNat) (fun i σ H' => ∃ x2 x3 : Option V, σ = [some (.int (n : Int)), some (.ref d), x2, x3] ∧ Same H H' ∧ ∀ q, q < i → ∀ l ∈ woP n q, upF f n q l = upF f n q [])
      ⟨none, none, rfl, Same.refl _, fun q h => by omega⟩ ?_ ?_
    · rintro i σ H1 hi ⟨_, x3, rfl, s1, al⟩
      rw [show (0 : Int) + (i : Int) = (i : Int) by omega]
      have ii : i < n := by omega
      refine ⟨_, rfl, _, rfl, n, i, rfl, h6, fun D ys H2 s2 hD hL => ⟨D, rfl, ⟨_, SqL.of hD⟩, ?_⟩⟩
      have T2 := (hT.same s1).same s2
      refine for_list (K := K) (a := D) (xs := ys) (fun j σ H' => ∃ x3 : Option V, σ = [some (.int (n : Int)), some (.ref d), some (.int (i : Int)), x3] ∧ Same H2 H' ∧ ∀ l ∈ (woP n i).take j, upF f n i l = upF f n i [])
        ⟨x3, rfl, Same.refl _, by simp⟩ (fun j σ H' _ ⟨_, _, s, _⟩ => SqL.of (s _ _ hD)) ?_ ?_
      · rintro j y σ H3 hy ⟨_, rfl, s3, al2⟩
        obtain ⟨l, hl, ⟨b, rfl, hb⟩⟩ := (hL.mono (Same.kt s3)).getV hy
        have hb' : H3 b = some (.tup (pV l)) := hb
        have hm := List.mem_filter.mp (List.mem_of_getElem? hl)
        have hc : l.contains i = false := by simpa using hm.2
        have T3 := T2.same s3
        refine ⟨_, rfl, _, rfl, _, rfl, d, b, f, n, i, l, rfl, h6, hm.1, ii, hc, hb', T3, hz, fun v1 H4 s4 r1 => ⟨_, rfl, Nat.zero_le _, fun q hq => ?_⟩⟩
        have s5 := same_new (o := .tup []) hq
        refine ⟨_, rfl, d, q, f, n, i, [], rfl, h6, nil_in, ii, rfl, upd_same, (T3.same s4).same s5, hz, fun v2 H6 s6 r2 => ?_⟩
        have s36 := s4.trans (s5.trans s6)
        refine ⟨_, _, Rp.dp (dp_qd (PF.mono (Same.kt (s5.trans s6)) r1)), Rp.dp (dp_qd r2), qd_shaped _, qd_shaped _, _, rfl, ?_⟩
        rw [qd_eqv]
        by_cases c : upF f n i l = upF f n i []
        · rw [decide_eq_true c]
          refine iteF ⟨_, rfl, s3.trans s36, fun l' hl' => ?_⟩
          rw [take_succ' hl] at hl'
          rcases List.mem_append.mp hl' with h | h
          · exact al2 l' h
          · rw [List.mem_singleton.mp h]; exact c
        · rw [decide_eq_false c]
          refine iteT ⟨_, rfl, Nat.zero_le _, fun q2 hq2 => ⟨_, rfl, (by show 3 ≤ sizeLine; decide), fun q3 hq3 => ?_⟩⟩
          refine k _ _ ((((s1.trans s2).trans s3).trans s36).trans ((same_new hq2).trans (same_new hq3))) (.inr ⟨Bool.eq_false_iff.mpr fun e => c ?_, q3, rfl⟩)
          exact of_decide_eq_true (List.all_eq_true.mp (List.all_eq_true.mp e i (List.mem_range.mpr ii)) l (List.mem_of_getElem? hl))
      · rintro σ H3 ⟨x3, rfl, s3, al2⟩
        rw [hL.length, List.take_length] at al2
        refine ⟨_, _, rfl, (s1.trans s2).trans s3, fun q hq l hl => ?_⟩
        rcases Nat.lt_or_ge q i with h | h
        · exact al q h l hl
        · have e : q = i := by omega
          subst e
          exact al2 l hl
    · rintro σ H1 ⟨_, x3, rfl, s1, al⟩
      rw [Int.toNat_natCast] at al
      exact k _ _ s1 (.inl ⟨List.all_eq_true.mpr fun p hp => List.all_eq_true.mpr fun l hl => decide_eq_true (al p (List.mem_range.mp hp) l hl), rfl⟩)
abbrev n_weights_of : List Str := ["people", "table", "person"]
theorem sc_weights_of : FnScope ["people", "table", "person"] ["people", "table"] (defScope s_weights_of) := ⟨rfl, rfl, rfl, by decide +kernel, rfl, by decide +kernel, by decide +kernel⟩
def sp_weights_of (K : PySem.W.Frag) : Sp := fun vs H Q _ => ∃ (d : Addr) (f : List Nat → Rat) (n z : Nat), vs = [.int (n : Int), .ref d] ∧ 1 ≤ n ∧ n ≤ 6 ∧ TabF K H d f n ∧ z ≤ 9000 ∧ (∀ l ∈ lotsI n, NumOk z (f l)) ∧ badT f n = false ∧ (∀ l, Sz 1000 (f l)) ∧
  ∀ v H', Same H H' → Rp K H' v (wtD f n) → Q v H'
theorem ok_weights_of (F : FnD K mg "weights_of" s_weights_of) (c_need_table : Cal P w K mg base 6 "need_table" (sp_need_table K) []) (c_first_bar_to_weights : Cal P w K mg base 4 "first_bar_to_weights" (sp_first_bar_to_weights K) []) (c_rise : Cal P w K mg base 3 "rise" (sp_rise K) []) (T_range : mg "range" = none) (T_tuple : mg "tuple" = none) : Cal P w K mg base 7 "weights_of" (sp_weights_of K) [] := by
  refine calOf F sc_weights_of (fun _ _ _ _ _ _ us hl => match us, hl with | [_, _], _ => rfl) (fun vs H Q E h => ?_) (fun cdv fz A outer s H vs Q E hr h => ?_)
  · obtain ⟨_, _, _, _, rfl, _⟩ := h
    rfl
  · obtain ⟨d, f, n, z, rfl, h1, h6, hT, hz, hf, hb, hsz, k⟩ := h
    refine ⟨_, (pss_cons (ps_expr (pe_c c_need_table hr (by first | decide | omega) rfl (pa_cons (pv 0) (pa_cons (pv 1) pa_nil))))
    (pss_cons (ps_if (pt_cmpR op_notN (pe_c c_first_bar_to_weights hr (by first | decide | omega) rfl (pa_cons (pv 0) (pa_cons (pv 1) pa_nil))) pe_non (nomark _)) (pss_one (ps_ret pe_non)) pss_nil)
    (pss_one (ps_ret (pe_tup (pa_cons (pe_callTy call_tuple_of (by rfl) T_tuple (by decide +kernel) (pa_cons (pe_lc (own := [("person", 2)]) (te := tCall (sp_rise K) [] C8.E0 (tCons (tVar 1) (tCons (tTup tNil) (tCons (tVar 2) tNil)))) (by rfl) sc_weights_of.nd (pi_range1 (by rfl) T_range (pa_cons (pv 0) pa_nil)) (blkOk_by (own := [("person", 2)]) (N := ["people", "table", "person"]) (sc := defScope s_weights_of) (by decide +kernel)) (fun _ _ _ _ _ => (pg_name (i := 2) sc_weights_of.nd rfl (Or.inl rfl))) (fun _ _ _ _ _ => pts_nil) (fun _ _ _ _ _ => (pe_c c_rise hr (by first | decide | omega) rfl (pa_cons (pv 1) (pa_cons (pe_tup pa_nil) (pa_cons (pv 2) pa_nil)))))) pa_nil)) (pa_cons (pe_dget (CDu.lt hr.units) (pv 1) (pe_tup pa_nil) (fun _ _ => rfl)) pa_nil))))))), ?_⟩
    have nil_in : ([] : List Nat) ∈ lotsI n := (lotsI_perm h6).mem_iff.mpr (nil_sub n (by omega))
    refine ⟨_, rfl, _, rfl, d, f, n, z, rfl, h1, h6, hT, hz, hf, hb, fun H1 s1 => ?_⟩
    refine ⟨_, rfl, _, rfl, d, f, n, rfl, h6, hT.same s1, hsz, fun v H2 s2 hv => ?_⟩
    refine ⟨rfl, ?_⟩
    rcases hv with ⟨cb, rfl⟩ | ⟨cb, a, rfl⟩
    · refine ⟨_, rfl, ?_⟩
      rw [show (!decide (V.non = V.non)) = false by decide]
      refine iteF ?_
      have T2 := (hT.same s1).same s2
      refine ⟨_, rfl, _, rfl, by omega, by omega, fun D hD => ?_⟩
      refine lc_range (lo := 0) (n := ((n : Nat) : Int).toNat) (fun i H' => ∃ zs, H' D = some (.lst zs) ∧ RQ K H' zs ((List.range i).map fun p => upF f n p []) ∧ Same H2 H') ⟨[], upd_same, .nil, same_new hD⟩ ?_ ?_
      · rintro i H' hi ⟨zs, g1, g2, g3⟩
        have ez : (0 : Int) + ((i : Nat) : Int) = ((i : Nat) : Int) := Int.zero_add _
        rw [ez]
        refine ⟨rfl, _, rfl, Nat.zero_le _, fun q hq => ?_⟩
        have s5 := same_new (o := .tup []) hq
        refine ⟨_, rfl, d, q, f, n, i, [], rfl, h6, nil_in, by omega, rfl, upd_same, (T2.same g3).same s5, hsz, fun v2 H6 s6 r2 => ?_⟩
        have s56 := s5.trans s6
        have g1' := s56 _ _ g1
        refine ⟨zs, g1', small1000 (by rw [RQ.length g2, List.length_map, List.length_range]; omega), zs ++ [v2], upd_same, ?_, Same.mut (g3.trans s56) hD⟩
        rw [List.range_succ, List.map_append]
        exact RpAll.mono (KT.updl g1') (RQ.snoc (RpAll.mono (Same.kt s56) g2) r2)
      · rintro H' ⟨zs, g1, g2, g3⟩
        rw [Int.toNat_natCast] at g2
        refine ⟨D, zs, rfl, .inl ⟨SqL.of g1, fun p hp => ?_⟩⟩
        have sp := same_new (o := .tup zs) hp
        refine ⟨_, rfl, Nat.zero_le _, fun q hq => ?_⟩
        have sq := same_new (o := .tup []) hq
        obtain ⟨v0, gv, r0⟩ := ((T2.same g3).same (sp.trans sq)).at h6 nil_in (upd_same (o := .tup (pV [])))
        refine ⟨d, v0, rfl, gv, (by show 2 ≤ sizeLine; decide), fun r hr => ?_⟩
        have sr := same_new (o := .tup [.ref p, v0]) hr
        refine k _ _ ((s1.trans s2).trans (g3.trans (sp.trans (sq.trans sr)))) ?_
        unfold wtD
        rw [if_pos cb]
        exact .tup (SqT.of upd_same) (.cons (.tup ((Same.kt (sq.trans sr)).sq (SqT.of upd_same)) (RpAll.mono (Same.kt (sp.trans (sq.trans sr))) g2)) (.cons (dp_qd (PF.mono (Same.kt sr) r0)) .nil))
    · refine ⟨_, rfl, ?_⟩
      rw [show (!decide (V.ref a = V.non)) = true by rw [decide_eq_false (by intro z; cases z)]; rfl]
      refine iteT ?_
      refine k _ H2 (s1.trans s2) ?_
      unfold wtD
      rw [if_neg (by rw [cb]; decide)]
      exact .non
end
end CB

set_option Elab.async false
set_option linter.all false
set_option maxRecDepth 100000
set_option maxHeartbeats 4000000
namespace CB
open PySem PySem.Spec PyProof.Rows L2
open C8 (Cal Met Mak pe_c pe_mk pe_mt pe_mt0 pe_gc CalAt)
section
variable {P : Program} {w : World} {K : PySem.W.Frag} {mg : Str → Option Value} {base : Heap}
theorem catA_okT {a b : Addr} {xs ys : List V} {H : Hp} {Q : VK} (ha : SqT K H a xs) (hb : SqT K H b ys) (hl : xs.length + ys.length < 1000) (q : ∀ p H', Same H H' → SqT K H' p (xs ++ ys) → Q (.ref p) H') : rCatA K (.ref a) (.ref b) H Q := by
  refine ⟨a, b, xs, ys, rfl, rfl, ha, hb, Nat.le_of_lt (small1000 (by omega)), fun e => ?_, fun _ e => ?_, fun _ _ p hp => q p _ (same_new hp) (SqT.of upd_same)⟩
  · exact q b H (Same.refl H) (by rw [e]; exact hb)
  · exact q a H (Same.refl H) (by rw [e, List.append_nil]; exact ha)
abbrev n__law_with : List Str := ["_law_lot", "_law_person"]
theorem sc__law_with : FnScope ["_law_lot", "_law_person"] ["_law_lot", "_law_person"] (defScope s__law_with) := ⟨rfl, rfl, rfl, by decide +kernel, rfl, by decide +kernel, by decide +kernel⟩
theorem ok__law_with (F : FnD K mg "_law_with" s__law_with) (T_tuple : mg "tuple" = none) (T_sorted : mg "sorted" = none) : Cal P w K mg base 1 "_law_with" (sp_joined K) [] := by
  refine calOf F sc__law_with (fun _ _ _ _ _ _ us hl => match us, hl with | [_, _], _ => rfl) (fun vs H Q E h => ?_) (fun cdv f A outer s H vs Q E hr h => ?_)
  · obtain ⟨_, _, _, _, rfl, _⟩ := h
    rfl
  · obtain ⟨b, n, p, l, rfl, h6, hl, hp, hc, hb, k⟩ := h
    have hs := (lotsI_perm h6).mem_iff.mp hl
    have ll := subs_size hs
    obtain ⟨jp, js⟩ := joinL_facts n (by omega) l hs p hp hc
    refine ⟨_, (pss_one (ps_ret (pe_callTy call_tuple_of (by rfl) T_tuple (by decide +kernel) (pa_cons (pe_callB cr_sortedTup (by rfl) T_sorted (by decide +kernel) (pa_cons (pe_op op_catA (pv 0) (pe_tup (pa_cons (pv 1) pa_nil))) pa_nil)) pa_nil)))), ?_⟩
    refine ⟨_, rfl, _, rfl, (by show 1 ≤ sizeLine; decide), fun q hq => ?_⟩
    have sq := same_new (o := .tup [.int (p : Int)]) hq
    refine catA_okT ((Same.kt sq).sq hb) (SqT.of upd_same) (by rw [pV_len]; show l.length + 1 < 1000; omega) fun r H3 s3 hr' => ?_
    have e1 : pV l ++ [.int (p : Int)] = (pI (l ++ [p])).map V.int := by unfold pV pI; rw [List.map_append, List.map_append]; rfl
    rw [e1] at hr'
    refine ⟨r, pI (l ++ [p]), rfl, hr', by unfold pI; rw [List.length_map, List.length_append]; show l.length + 1 < 64; omega, fun ms r2 perm pw hr2 => ?_⟩
    have em : ms = pI (joinL n l p) := by
      refine List.Perm.eq_of_pairwise (fun a b _ _ h1 h2 => by omega) pw ?_ (perm.trans ((List.isPerm_iff.mp jp).symm.map _))
      exact List.Pairwise.map _ (fun a b h => Int.ofNat_le.mpr h) js
    subst em
    have s2 := same_new (o := .lst ((pI (joinL n l p)).map V.int)) hr2
    refine ⟨r2, _, rfl, .inl ⟨SqL.of upd_same, fun z hz => ?_⟩⟩
    exact k z _ (((sq.trans s3).trans s2).trans (same_new hz)) upd_same
abbrev n__law_without : List Str := ["_law_people_here", "_law_person", "_law_lot"]
theorem sc__law_without : FnScope ["_law_people_here", "_law_person", "_law_lot"] ["_law_people_here", "_law_person"] (defScope s__law_without) := ⟨rfl, rfl, rfl, by decide +kernel, rfl, by decide +kernel, by decide +kernel⟩
def sp__law_without (K : PySem.W.Frag) : Sp := fun vs H Q _ => ∃ (n p : Nat), vs = [.int (n : Int), .int (p : Int)] ∧ n ≤ 6 ∧
  ∀ D ys M H', Same H H' → H' D = some (.lst ys) → LotsH H' ys M → M.Perm (woP n p) → Q (.ref D) H'
theorem ok__law_without (F : FnD K mg "_law_without" s__law_without) (c__law_lots_t : Cal P w K mg base 2 "_law_lots" (sp__law_lotsH K) []) : Cal P w K mg base 3 "_law_without" (sp__law_without K) [] := by
  refine calOf F sc__law_without (fun _ _ _ _ _ _ us hl => match us, hl with | [_, _], _ => rfl) (fun vs H Q E h => ?_) (fun cdv f A outer s H vs Q E hr h => ?_)
  · obtain ⟨_, _, rfl, _⟩ := h
    rfl
  · obtain ⟨n, p, rfl, h6, k⟩ := h
    have c__law_lots := c__law_lots_t
    refine ⟨_, (pss_one (ps_ret (pe_lc (own := [("_law_lot", 2)]) (tt := tTest (tOp (rIn K true) (tVar 1) (tVar 2))) (by rfl) sc__law_without.nd (pi_list (pe_c c__law_lots hr (by first | decide | omega) rfl (pa_cons (pv 0) pa_nil))) (blkOk_by (own := [("_law_lot", 2)]) (N := ["_law_people_here", "_law_person", "_law_lot"]) (sc := defScope s__law_without) (by decide +kernel)) (fun _ _ _ _ _ => (pg_name (i := 2) sc__law_without.nd rfl (Or.inl rfl))) (fun _ _ _ _ _ => (pts_one (pt_cmpR op_notIn_seq (pv 1) (pv 2) rfl))) (fun _ _ _ _ _ => (pv 2))))), ?_⟩
    refine ⟨_, rfl, n, rfl, h6, fun pl ys L H1 s1 hpn hp hL pm hby => ⟨pl, rfl, ⟨_, SqL.of hp⟩, fun D hD => ?_⟩⟩
    have L64 : L.length ≤ 64 := by rw [(pm.trans (lotsI_perm h6).symm).length_eq]; exact lotsI_len h6
    refine it_list (K := K) (a := pl) (xs := ys) (fun i H' => ∃ zs, H' D = some (.lst zs) ∧ LotsH H' zs ((L.take i).filter fun l => !l.contains p) ∧ Same H1 H')
      ⟨[], upd_same, by rw [List.take_zero]; exact .nil, same_new hD⟩ (fun i H' ⟨_, _, _, s5⟩ => s5.seq (SqL.of hp)) ?_ ?_
    · rintro i x H' hx ⟨zs, g1, g2, g3⟩
      obtain ⟨l, hl, tl⟩ := (hL.mono (Same.kt g3)).getV hx
      obtain ⟨b, rfl, hb⟩ := id tl
      have zl : zs.length ≤ 64 := by
        have := (List.length_filter_le (fun l : List Nat => !l.contains p) (L.take i))
        rw [g2.length]
        rw [List.length_take] at this
        omega
      refine ⟨rfl, _, rfl, _, rfl, b, pV l, rfl, .inr (SqT.of hb), rfl, pV_flat l, _, rfl, ?_⟩
      rw [pV_in]
      cases cc : !l.contains p with
      | true =>
        have c2 : decide (p ∈ l) = false := by simpa using cc
        rw [c2]
        refine ⟨_, rfl, zs, g1, small1000 (by omega), zs ++ [.ref b], upd_same, ?_, Same.mut g3 hD⟩
        rw [take_succ' hl, List.filter_append, List.filter_cons_of_pos (p := fun l : List Nat => !l.contains p) cc]
        exact (g2.mono (KT.updl g1)).snoc ⟨b, rfl, (KT.updl g1).1 _ _ hb⟩
      | false =>
        have c2 : decide (p ∈ l) = true := by simpa using cc
        rw [c2]
        refine ⟨zs, g1, ?_, g3⟩
        rw [take_succ' hl, List.filter_append, List.filter_cons_of_neg (p := fun l : List Nat => !l.contains p) (by rw [cc]; decide), List.filter_nil, List.append_nil]
        exact g2
    · rintro H' ⟨zs, g1, g2, g3⟩
      rw [hL.length, List.take_length] at g2
      refine k D zs _ H' (s1.trans g3) g1 g2 ?_
      exact (pm.trans (lotsI_perm h6).symm).filter _
end
end CB

set_option Elab.async false
set_option linter.all false
set_option maxRecDepth 100000
set_option maxHeartbeats 4000000
namespace CB
open PySem PySem.Spec PyProof.Rows L2
open C8 (Cal Met Mak pe_c pe_mk pe_mt pe_mt0 pe_gc CalAt)
/-- what the weights of a lot come to -/
def wsumF (f : List Nat → Rat) (n : Nat) (l : List Nat) : Rat := (l.map fun p => upF f n p []).sum
theorem lot_cut : ∀ n, n < 7 → ∀ l ∈ subs n, ∀ p ∈ l, (l.filter fun q => !decide (q = p)) ∈ subs n ∧ p < n ∧ (l.filter fun q => !decide (q = p)).contains p = false ∧ joinL n (l.filter fun q => !decide (q = p)) p = l ∧ (l.filter fun q => !decide (q = p)).length + 1 = l.length ∧ l.isPerm (p :: l.filter fun q => !decide (q = p)) = true := by decide +kernel
theorem ratsum_perm {a b : List Rat} (h : a.Perm b) : a.sum = b.sum := by
  induction h with
  | nil => rfl
  | cons x _ ih => rw [List.sum_cons, List.sum_cons, ih]
  | swap x y l => rw [List.sum_cons, List.sum_cons, List.sum_cons, List.sum_cons]; grind
  | trans _ _ i1 i2 => exact i1.trans i2
theorem wsum_perm {f : List Nat → Rat} {n : Nat} {a b : List Nat} (h : a.Perm b) : wsumF f n a = wsumF f n b := ratsum_perm (h.map _)
theorem wt_all {f : List Nat → Rat} {n : Nat} (h6 : n ≤ 6) (h : wtB f n = true) : ∀ (k : Nat) (l : List Nat), l ∈ lotsI n → l.length = k → f [] + wsumF f n l = f l
  | 0, l, hl, e => by
    have : l = [] := List.length_eq_zero_iff.mp e
    subst this
    show f [] + 0 = f []
    grind
  | k + 1, l, hl, e => by
    match l, e with
    | p :: r, e =>
      have ms := (lotsI_perm h6).mem_iff.mp hl
      obtain ⟨c1, c2, c3, c4, c5, c6⟩ := lot_cut n (by omega) _ ms p List.mem_cons_self
      have li := (lotsI_perm h6).mem_iff.mpr c1
      have ih := wt_all h6 h k _ li (by omega)
      have up := of_decide_eq_true (List.all_eq_true.mp (List.all_eq_true.mp h p (List.mem_range.mpr c2)) _ (List.mem_filter.mpr ⟨li, by rw [c3]; rfl⟩))
      have e1 : upF f n p ((p :: r).filter fun q => !decide (q = p)) = f (p :: r) - f ((p :: r).filter fun q => !decide (q = p)) := by
        show f (joinL n _ p) - f _ = _
        rw [c4]
      rw [e1] at up
      have e2 := wsum_perm (f := f) (n := n) (List.isPerm_iff.mp c6)
      have e3 : wsumF f n (p :: (p :: r).filter fun q => !decide (q = p)) = upF f n p [] + wsumF f n ((p :: r).filter fun q => !decide (q = p)) := rfl
      rw [e2, e3]
      grind
theorem wt_of {f : List Nat → Rat} {n : Nat} (h6 : n ≤ 6) (h : ∀ l ∈ lotsI n, f [] + wsumF f n l = f l) : wtB f n = true := by
  refine List.all_eq_true.mpr fun p hp => List.all_eq_true.mpr fun l hl => decide_eq_true ?_
  have hpn := List.mem_range.mp hp
  obtain ⟨lm, hc⟩ := List.mem_filter.mp hl
  have hc' : l.contains p = false := by simpa using hc
  obtain ⟨jp, _⟩ := joinL_facts n (by omega) l ((lotsI_perm h6).mem_iff.mp lm) p hpn hc'
  have a := h l lm
  have b := h _ (joinL_mem h6 l p)
  have e2 := wsum_perm (f := f) (n := n) (List.isPerm_iff.mp jp)
  have e3 : wsumF f n (l ++ [p]) = wsumF f n l + upF f n p [] := by
    unfold wsumF
    rw [List.map_append, List.sum_append]
    show _ + (upF f n p [] + 0) = _
    grind
  rw [e2, e3] at b
  show f (joinL n l p) - f l = _
  grind
theorem dn_small {N : Nat} {q : Rat} (h0 : 0 < N) (h9 : N < 2 ^ 900) (d : Dn N q) (lo : 0 ≤ q) (hi : q ≤ 16) : Sz 1000 q := by
  have dd := Nat.le_of_dvd h0 (den_of h0 d)
  have hn : 0 ≤ q.num := Rat.num_nonneg.mpr lo
  have hl : q.num ≤ 16 * (q.den : Int) := by
    have := hi
    rw [Rat.le_iff] at this
    simpa using this
  have d9 : q.den < 2 ^ 900 := Nat.lt_of_le_of_lt dd h9
  have pw : 16 * 2 ^ 900 ≤ 2 ^ 1000 := by decide +kernel
  exact ⟨by omega, Nat.lt_of_lt_of_le d9 (Nat.pow_le_pow_right (by decide) (by decide))⟩
section
variable {P : Program} {w : World} {K : PySem.W.Frag} {mg : Str → Option Value} {base : Heap}
theorem up_dn {f : List Nat → Rat} {n N p : Nat} (hr : RightT f n N) : Dn N (upF f n p []) := by
  have a := dn_of (hr.den (joinL n [] p))
  have b := dn_neg (dn_of (hr.den []))
  have c := dn_add a b
  have e : f (joinL n [] p) + -f [] = upF f n p [] := by
    show _ = f (joinL n [] p) - f []
    grind
  rw [e] at c
  exact c
theorem up_zo {f : List Nat → Rat} {n N p : Nat} (h6 : n ≤ 6) (hr : RightT f n N) : 0 ≤ upF f n p [] ∧ upF f n p [] ≤ 1 := by
  have ni : ([] : List Nat) ∈ lotsI n := (lotsI_perm h6).mem_iff.mpr (nil_sub n (by omega))
  have m := hr.mono [] ni _ (joinL_mem h6 [] p) (fun q hq => nomatch hq)
  have z1 := hr.zo (joinL n [] p)
  have z0 := hr.zo []
  show 0 ≤ f (joinL n [] p) - f [] ∧ f (joinL n [] p) - f [] ≤ 1
  constructor <;> grind
/-- a sum of weights stays small -/
theorem part_ok {f : List Nat → Rat} {n N : Nat} (h6 : n ≤ 6) (hr : RightT f n N) : ∀ (l : List Nat), Dn N (f [] + wsumF f n l) ∧ 0 ≤ f [] + wsumF f n l ∧ f [] + wsumF f n l ≤ 1 + ((l.length : Nat) : Rat)
  | [] => by
    have z0 := hr.zo []
    have e : f [] + wsumF f n [] = f [] := by show f [] + 0 = f []; grind
    rw [e]
    refine ⟨dn_of (hr.den []), z0.1, ?_⟩
    have : (((([] : List Nat).length : Nat)) : Rat) = 0 := rfl
    rw [this]
    grind
  | p :: l => by
    obtain ⟨a, b, c⟩ := part_ok h6 hr l
    have z := up_zo (p := p) h6 hr
    have e : f [] + wsumF f n (p :: l) = (f [] + wsumF f n l) + upF f n p [] := by
      show f [] + (upF f n p [] + wsumF f n l) = _
      grind
    have ec : (((p :: l).length : Nat) : Rat) = ((l.length : Nat) : Rat) + 1 := by
      rw [List.length_cons, Rat.natCast_add]
      rfl
    rw [e, ec]
    exact ⟨dn_add a (up_dn hr), by grind, by grind⟩
theorem neg_one_up (a b : Rat) : a + ((-1 : Int) : Rat) * b = a - b := by
  have : (((-1 : Int)) : Rat) = -1 := by decide +kernel
  rw [this]; grind
abbrev n__law_rise : List Str := ["_law_table_here", "_law_lot", "_law_person"]
theorem sc__law_rise : FnScope ["_law_table_here", "_law_lot", "_law_person"] ["_law_table_here", "_law_lot", "_law_person"] (defScope s__law_rise) := ⟨rfl, rfl, rfl, by decide +kernel, rfl, by decide +kernel, by decide +kernel⟩
theorem ok__law_rise (F : FnD K mg "_law_rise" s__law_rise) (c__law_with : Cal P w K mg base 1 "_law_with" (sp_joined K) []) (c__law_sum : Cal P w K mg base 2 "_law_sum" (sp__law_sum K) []) : Cal P w K mg base 3 "_law_rise" (sp_rise K) [] := by
  refine calOf F sc__law_rise (fun _ _ _ _ _ _ us hl => match us, hl with | [_, _, _], _ => rfl) (fun vs H Q E h => ?_) (fun cdv fz A outer s H vs Q E hr h => ?_)
  · obtain ⟨_, _, _, _, _, _, rfl, _⟩ := h
    rfl
  · obtain ⟨d, b, f, n, p, l, rfl, h6, hl, hp, hcp, hb, hT, hz, k⟩ := h
    refine ⟨_, (pss_one (ps_ret (pe_c c__law_sum hr (by first | decide | omega) rfl (pa_cons (pe_dget (CDu.lt hr.units) (pv 0) (pe_c c__law_with hr (by first | decide | omega) rfl (pa_cons (pv 1) (pa_cons (pv 2) pa_nil))) (fun _ _ => rfl)) (pa_cons (pe_dget (CDu.lt hr.units) (pv 0) (pv 1) (fun _ _ => rfl)) (pa_cons (pe_un un_neg pe_int) pa_nil)))))), ?_⟩
    refine ⟨_, rfl, _, rfl, _, rfl, b, n, p, l, rfl, h6, hl, hp, hcp, SqT.of hb, fun a H1 s1 ha => ?_⟩
    obtain ⟨v1, g1, r1⟩ := (hT.same s1).at h6 (joinL_mem h6 l p) ha
    obtain ⟨v2, g2, r2⟩ := (hT.same s1).at h6 hl (s1 _ _ hb)
    refine ⟨d, v1, rfl, g1, _, rfl, _, rfl, d, v2, rfl, g2, 1, rfl, v1, v2, _, _, _, _, -1, 1000, 1000, rfl, r1, r2, ?_, ?_, .inr rfl, (hz _).1, ?_, (hz _).1, ?_, by decide, fun v H2 s2 rv => ?_⟩
    · have := (f (joinL n l p)).den_pos; omega
    · have := (f l).den_pos; omega
    · exact (hz (joinL n l p)).2
    · exact (hz l).2
    · rw [divInt_self', divInt_self', neg_one_up] at rv
      exact k v H2 (s1.trans s2) rv
abbrev n__law_due : List Str := ["_law_people_here", "_law_table_here", "_law_weights", "_law_lot", "_law_whole", "_law_person"]
theorem sc__law_due : FnScope ["_law_people_here", "_law_table_here", "_law_weights", "_law_lot", "_law_whole", "_law_person"] ["_law_people_here", "_law_table_here"] (defScope s__law_due) := ⟨rfl, rfl, rfl, by decide +kernel, rfl, by decide +kernel, by decide +kernel⟩
def sp__law_dueW (K : PySem.W.Frag) : Sp := fun vs H Q _ => ∃ (d : Addr) (f : List Nat → Rat) (n N : Nat), vs = [.int (n : Int), .ref d] ∧ n ≤ 6 ∧ TabF K H d f n ∧ RightT f n N ∧ 0 < N ∧ N < 2 ^ 900 ∧ (∀ l, Sz 1000 (f l)) ∧
  ∀ v H', Same H H' → Rp K H' v (wtD f n) → Q v H'
theorem ok__law_due (F : FnD K mg "_law_due" s__law_due) (c__law_rise : Cal P w K mg base 3 "_law_rise" (sp_rise K) []) (c__law_lots_t : Cal P w K mg base 2 "_law_lots" (sp__law_lotsH K) []) (c__law_sum : Cal P w K mg base 2 "_law_sum" (sp__law_sum K) []) (T_range : mg "range" = none) (T_tuple : mg "tuple" = none) : Cal P w K mg base 4 "_law_due" (sp__law_dueW K) [] := by
  refine calOf F sc__law_due (fun _ _ _ _ _ _ us hl => match us, hl with | [_, _], _ => rfl) (fun vs H Q E h => ?_) (fun cdv fz A outer s H vs Q E hr h => ?_)
  · obtain ⟨_, _, _, _, rfl, _⟩ := h
    rfl
  · obtain ⟨d, f, n, N, rfl, h6, hT, rt, N1, N9, hsz, k⟩ := h
    have c__law_lots := c__law_lots_t
    refine ⟨_, (pss_cons (ps_set (i := 2) sc__law_due.nd rfl (Or.inl rfl) (pe_callTy call_tuple_of (by rfl) T_tuple (by decide +kernel) (pa_cons (pe_lc (own := [("_law_person", 5)]) (te := tCall (sp_rise K) [] C8.E0 (tCons (tVar 1) (tCons (tTup tNil) (tCons (tVar 5) tNil)))) (by rfl) sc__law_due.nd (pi_range1 (by rfl) T_range (pa_cons (pv 0) pa_nil)) (blkOk_by (own := [("_law_person", 5)]) (N := ["_law_people_here", "_law_table_here", "_law_weights", "_law_lot", "_law_whole", "_law_person"]) (sc := defScope s__law_due) (by decide +kernel)) (fun _ _ _ _ _ => (pg_name (i := 5) sc__law_due.nd rfl (Or.inl rfl))) (fun _ _ _ _ _ => pts_nil) (fun _ _ _ _ _ => (pe_c c__law_rise hr (by first | decide | omega) rfl (pa_cons (pv 1) (pa_cons (pe_tup pa_nil) (pa_cons (pv 5) pa_nil)))))) pa_nil)))
    (pss_cons (ps_for PassesOwn.never rfl (pi_list (pe_c c__law_lots hr (by first | decide | omega) rfl (pa_cons (pv 0) pa_nil))) (pg_name (i := 3) sc__law_due.nd rfl (Or.inl rfl)) (pss_cons (ps_set (i := 4) sc__law_due.nd rfl (Or.inl rfl) (pe_dget (CDu.lt hr.units) (pv 1) (pe_tup pa_nil) (fun _ _ => rfl)))
    (pss_cons (ps_for PassesOwn.never rfl (pi_tup (pv 3)) (pg_name (i := 5) sc__law_due.nd rfl (Or.inl rfl)) (pss_one (ps_set (i := 4) sc__law_due.nd rfl (Or.inl rfl) (pe_c c__law_sum hr (by first | decide | omega) rfl (pa_cons (pv 4) (pa_cons (pe_ix ix_tup (pv 2) (pv 5) (fun _ _ => rfl)) (pa_cons pe_int pa_nil)))))))
    (pss_one (ps_if (pt_cmpR (op_neD hr.units) (pv 4) (pe_dget (CDu.lt hr.units) (pv 1) (pv 3) (fun _ _ => rfl)) (nomark _)) (pss_one (ps_ret pe_non)) pss_nil)))))
    (pss_one (ps_ret (pe_tup (pa_cons (pv 2) (pa_cons (pe_dget (CDu.lt hr.units) (pv 1) (pe_tup pa_nil) (fun _ _ => rfl)) pa_nil))))))), ?_⟩
    have nil_in : ([] : List Nat) ∈ lotsI n := (lotsI_perm h6).mem_iff.mpr (nil_sub n (by omega))
    refine ⟨_, rfl, _, rfl, by omega, by omega, fun D hD => ?_⟩
    refine lc_range (lo := 0) (n := ((n : Nat) : Int).toNat) (fun i H' => ∃ zs, H' D = some (.lst zs) ∧ RQ K H' zs ((List.range i).map fun p => upF f n p []) ∧ Same H H') ⟨[], upd_same, .nil, same_new hD⟩ ?_ ?_
    · rintro i H' hi ⟨zs, g1, g2, g3⟩
      have ez : (0 : Int) + ((i : Nat) : Int) = ((i : Nat) : Int) := Int.zero_add _
      rw [ez]
      refine ⟨rfl, _, rfl, Nat.zero_le _, fun q hq => ?_⟩
      have s5 := same_new (o := .tup []) hq
      refine ⟨_, rfl, d, q, f, n, i, [], rfl, h6, nil_in, by omega, rfl, upd_same, (hT.same g3).same s5, hsz, fun v2 H6 s6 r2 => ?_⟩
      have s56 := s5.trans s6
      have g1' := s56 _ _ g1
      refine ⟨zs, g1', small1000 (by rw [RQ.length g2, List.length_map, List.length_range]; omega), zs ++ [v2], upd_same, ?_, Same.mut (g3.trans s56) hD⟩
      rw [List.range_succ, List.map_append]
      exact RpAll.mono (KT.updl g1') (RQ.snoc (RpAll.mono (Same.kt s56) g2) r2)
    rintro H1 ⟨us, g1, g2, g3⟩
    rw [Int.toNat_natCast] at g2
    refine ⟨D, us, rfl, .inl ⟨SqL.of g1, fun pw hpw => ?_⟩⟩
    have s2 := same_new (o := .tup us) hpw
    have w2 : (upd H1 pw (.tup us)) pw = some (.tup us) := upd_same
    have u2 := g2.mono (Same.kt s2)
    have s02 := g3.trans s2
    change gName 2 _ _ (upd H1 pw (.tup us)) _
    generalize upd H1 pw (.tup us) = H2 at w2 u2 s02 ⊢
    clear s2 g1 g2 g3 hpw hD
    refine ⟨_, rfl, n, rfl, h6, fun pl ys L H3 s3 hpn hpl hL pm hby => ⟨pl, rfl, ⟨_, SqL.of hpl⟩, ?_⟩⟩
    have hp := pm.trans (lotsI_perm h6).symm
    have s03 := s02.trans s3
    have w3 := s3 _ _ w2
    have u3 := u2.mono (Same.kt s3)
    refine for_list (K := K) (a := pl) (xs := ys) (fun i σ H' => ∃ x3 x4 x5 : Option V, σ = [some (.int (n : Int)), some (.ref d), some (.ref pw), x3, x4, x5] ∧ Same H3 H' ∧ ∀ l ∈ L.take i, f [] + wsumF f n l = f l)
      ⟨none, none, none, rfl, Same.refl _, by simp⟩ (fun i σ H' _ ⟨_, _, _, _, s, _⟩ => SqL.of (s _ _ hpl)) ?_ ?_
    · rintro i y σ H4 hy ⟨_, x4, x5, rfl, s4, al⟩
      obtain ⟨l, hl, ⟨bl, rfl, hbl⟩⟩ := (hL.mono (Same.kt s4)).getV hy
      have hbl' : H4 bl = some (.tup (pV l)) := hbl
      have lm := hp.mem_iff.mp (List.mem_of_getElem? hl)
      have ll : l.length ≤ n := subs_size ((lotsI_perm h6).mem_iff.mp lm)
      have lt := subs_lt ((lotsI_perm h6).mem_iff.mp lm)
      refine ⟨_, rfl, Nat.zero_le _, fun q hq => ?_⟩
      have s5 := same_new (o := .tup []) hq
      have T5 := (hT.same (s03.trans s4)).same s5
      obtain ⟨v0, gv, r0⟩ := T5.at h6 nil_in (upd_same (o := .tup (pV [])))
      refine ⟨d, v0, rfl, gv, ?_⟩
      change gName 4 _ _ (upd H4 q (.tup [])) _
      have b5 := s5 _ _ hbl'
      have s35 := s4.trans s5
      generalize upd H4 q (.tup []) = H5 at T5 r0 b5 s35 ⊢
      clear s5 hq
      refine ⟨_, rfl, bl, rfl, ⟨_, SqT.of b5⟩, ?_⟩
      have e0 : f [] + wsumF f n (l.take 0) = f [] := by rw [List.take_zero]; show f [] + 0 = f []; grind
      refine for_tup (K := K) (a := bl) (xs := pV l) (fun j σ H' => ∃ (v : V) (x5 : Option V), σ = [some (.int (n : Int)), some (.ref d), some (.ref pw), some (.ref bl), some v, x5] ∧ RF K H' v (f [] + wsumF f n (l.take j)) ∧ Same H5 H')
        ⟨v0, x5, rfl, by rw [e0]; exact r0, Same.refl _⟩ (fun j σ H' _ ⟨_, _, _, _, s⟩ => SqT.of (s _ _ b5)) ?_ ?_
      · rintro j x σ H6 hx ⟨v, _, rfl, rv, s6⟩
        obtain ⟨p, hpj, rfl⟩ := pV_get hx
        have pn := lt p (List.mem_of_getElem? hpj)
        obtain ⟨u, hu, ru⟩ := RQ.get u3 (show ((List.range n).map fun p => upF f n p [])[p]? = some (upF f n p []) by rw [List.getElem?_map, List.getElem?_range pn]; rfl)
        have s36 := s35.trans s6
        have po := part_ok h6 rt (l.take j)
        have jl : (l.take j).length ≤ 6 := by rw [List.length_take]; omega
        have sz1 : Sz 1000 (f [] + wsumF f n (l.take j)) := dn_small N1 N9 po.1 po.2.1 (by
          have : (((l.take j).length : Nat) : Rat) ≤ 6 := by
            have e : ((6 : Nat) : Rat) = 6 := rfl
            rw [← e]
            exact Rat.natCast_le_natCast.mpr jl
          have := po.2.2
          grind)
        have uz := up_zo (p := p) h6 rt
        have sz2 : Sz 1000 (upF f n p []) := dn_small N1 N9 (up_dn rt) uz.1 (by have := uz.2; grind)
        refine ⟨_, rfl, _, rfl, _, rfl, pw, us, _, u, rfl, rfl, SqT.of (s36 _ _ w3), atI_nat hu, v, u, _, _, _, _, 1, 1000, 1000, rfl, rv, PF.mono (Same.kt s36) ru, ?_, ?_, .inl rfl, sz1.1, ?_, sz2.1, ?_, by decide, fun v' H7 s7 r' => ⟨v', _, rfl, ?_, s6.trans s7⟩⟩
        · have := (f [] + wsumF f n (l.take j)).den_pos; omega
        · have := (upF f n p []).den_pos; omega
        · exact sz1.2
        · exact sz2.2
        · rw [divInt_self', divInt_self'] at r'
          have e1 : ((1 : Int) : Rat) * upF f n p [] = upF f n p [] := by
            have : (((1 : Int)) : Rat) = 1 := by decide +kernel
            rw [this]; grind
          rw [e1] at r'
          have e2 : f [] + wsumF f n (l.take (j + 1)) = f [] + wsumF f n (l.take j) + upF f n p [] := by
            rw [take_succ' hpj]
            unfold wsumF
            rw [List.map_append, List.sum_append]
            show f [] + (_ + (upF f n p [] + 0)) = _
            grind
          rw [e2]
          exact r'
      · rintro σ H6 ⟨v, x5, rfl, rv, s6⟩
        rw [pV_len, List.take_length] at rv
        have s36 := s35.trans s6
        obtain ⟨v2, gv2, r2⟩ := (T5.same s6).at h6 lm (s6 _ _ b5)
        refine ⟨_, rfl, _, rfl, _, rfl, d, v2, rfl, gv2, _, _, Rp.dp (dp_qd rv), Rp.dp (dp_qd r2), qd_shaped _, qd_shaped _, _, rfl, ?_⟩
        rw [qd_eqv]
        by_cases c : f [] + wsumF f n l = f l
        · rw [decide_eq_true c]
          refine iteF ⟨_, _, _, rfl, s36, fun l' hl' => ?_⟩
          rw [take_succ' hl] at hl'
          rcases List.mem_append.mp hl' with h | h
          · exact al l' h
          · rw [List.mem_singleton.mp h]; exact c
        · rw [decide_eq_false c]
          refine iteT (k _ _ (s03.trans s36) ?_)
          unfold wtD
          rw [if_neg (fun cb => c (wt_all h6 cb _ l lm rfl))]
          exact .non
    · rintro σ H4 ⟨x3, x4, x5, rfl, s4, al⟩
      rw [hL.length, List.take_length] at al
      have cb : wtB f n = true := wt_of h6 fun l hl => al l (hp.mem_iff.mpr hl)
      refine ⟨_, rfl, _, rfl, Nat.zero_le _, fun q hq => ?_⟩
      have s5 := same_new (o := .tup []) hq
      obtain ⟨v0, gv, r0⟩ := ((hT.same (s03.trans s4)).same s5).at h6 nil_in (upd_same (o := .tup (pV [])))
      refine ⟨d, v0, rfl, gv, (by show 2 ≤ sizeLine; decide), fun r hr => ?_⟩
      have sr := same_new (o := .tup [.ref pw, v0]) hr
      refine k _ _ ((s03.trans s4).trans (s5.trans sr)) ?_
      unfold wtD
      rw [if_pos cb]
      exact .tup (SqT.of upd_same) (.cons (.tup (SqT.of ((s4.trans (s5.trans sr)) _ _ w3)) (RpAll.mono (Same.kt (s4.trans (s5.trans sr))) u3)) (.cons (dp_qd (PF.mono (Same.kt sr) r0)) .nil))
end
end CB

set_option Elab.async false
set_option linter.all false
set_option maxRecDepth 100000
set_option maxHeartbeats 4000000
namespace CB
open PySem PySem.Spec PyProof.Rows L2
open C8 (Cal Met Mak pe_c pe_mk pe_mt pe_mt0 pe_gc CalAt)
theorem ite_offW {a b : Prop} (h : b) : if (!true) = true then a else b := h
theorem wt_lay (f : List Nat → Rat) (n : Nat) : (wtD f n).canLay0 = true := by
  unfold wtD
  split
  · have := lay_all (ds := ((List.range n).map fun p => upF f n p []).map qd) fun d hd => by
      obtain ⟨q, _, rfl⟩ := List.mem_map.mp hd
      exact qd_lay q
    have q0 := qd_lay (f [])
    simp [PyData.canLay0, PyData.canLayAll0, q0] at this ⊢
    exact this
  · rfl
theorem wt_shaped (f : List Nat → Rat) (n : Nat) : SeqAt.shaped (wtD f n) = true := by
  unfold SeqAt.shaped
  rw [wt_lay, Bool.true_and]
  refine decide_eq_true ?_
  unfold wtD
  split
  · have := depth_all (n := 2) (ds := ((List.range n).map fun p => upF f n p []).map qd) fun d hd => by
      obtain ⟨q, _, rfl⟩ := List.mem_map.mp hd
      exact qd_depth q
    have := qd_depth (f [])
    simp only [PyData.depth, PyData.depthAll]
    omega
  · simp [PyData.depth]
theorem wt_eqv (f : List Nat → Rat) (n : Nat) : PyData.eqv (wtD f n) (wtD f n) = true := PySem.SeqAt.eqv_refl _ (wt_lay f n)
section
variable {P : Program} {w : World} {K : PySem.W.Frag} {mg : Str → Option Value} {base : Heap}
abbrev n__law_is_fraction : List Str := ["_law_thing", "_law_part"]
theorem sc__law_is_fraction : FnScope ["_law_thing", "_law_part"] ["_law_thing"] (defScope s__law_is_fraction) := ⟨rfl, rfl, rfl, by decide +kernel, rfl, by decide +kernel, by decide +kernel⟩
def sp__law_is_fraction (K : PySem.W.Frag) : Sp := fun vs H Q _ => ∃ (v : V) (q : Rat), vs = [v] ∧ RF K H v q ∧ ∀ H', Same H H' → Q (.bl true) H'
theorem ok__law_is_fraction (F : FnD K mg "_law_is_fraction" s__law_is_fraction) (T_isinstance : mg "isinstance" = none) (T_tuple : mg "tuple" = none) (T_len : mg "len" = none) (T_all : mg "all" = none) (T_int : mg "int" = none) (T_bool : mg "bool" = none) : Cal P w K mg base 1 "_law_is_fraction" (sp__law_is_fraction K) [] := by
  refine calOf F sc__law_is_fraction (fun _ _ _ _ _ _ us hl => match us, hl with | [_], _ => rfl) (fun vs H Q E h => ?_) (fun cdv f A outer s H vs Q E hr h => ?_)
  · obtain ⟨_, _, rfl, _⟩ := h
    rfl
  · obtain ⟨v, q, rfl, ⟨a, rfl, ha⟩, k⟩ := h
    have dp := q.den_pos
    refine ⟨_, (pss_cons (ps_if (PW.pt (pw_or (pt_not (pt_val (pe_callB call_isi (by rfl) T_isinstance (by decide +kernel) (pa_cons (pv 0) (pa_cons (pe_ty (n := "tuple") (by rfl) T_tuple (by decide +kernel)) pa_nil))))) (pw_or1 (pt_cmpR op_ne (pe_callB call_len_seq (by rfl) T_len PySem.boot_len (pa_cons (pv 0) pa_nil)) pe_int (nomark _))))) (pss_one (ps_ret pe_bl)) pss_nil)
    (pss_one (ps_ret (pe_and (pe_callB (cr_all rfl) (by rfl) T_all (by decide +kernel) (pa_cons (pe_lc (own := [("_law_part", 1)]) (te := tAndV (tCB (rIsi K) (tCons (tVar 1) (tCons (tC (.ty "int")) tNil))) (tNotV (tCB (rIsi K) (tCons (tVar 1) (tCons (tC (.ty "bool")) tNil))))) (by rfl) sc__law_is_fraction.nd (pi_tup (pv 0)) (blkOk_by (own := [("_law_part", 1)]) (N := ["_law_thing", "_law_part"]) (sc := defScope s__law_is_fraction) (by decide +kernel)) (fun _ _ _ _ _ => (pg_name (i := 1) sc__law_is_fraction.nd rfl (Or.inl rfl))) (fun _ _ _ _ _ => pts_nil) (fun _ _ _ _ _ => (pe_and (pe_callB call_isi (by rfl) T_isinstance (by decide +kernel) (pa_cons (pv 1) (pa_cons (pe_ty (n := "int") (by rfl) T_int (by decide +kernel)) pa_nil))) (pe_one (pe_not (pe_callB call_isi (by rfl) T_isinstance (by decide +kernel) (pa_cons (pv 1) (pa_cons (pe_ty (n := "bool") (by rfl) T_bool (by decide +kernel)) pa_nil)))))))) pa_nil)) (pe_one (pe_cmpR op_ge (pe_ix ix_tup (pv 0) pe_int (fun _ _ => rfl)) pe_int (nomark _))))))), ?_⟩
    refine ⟨_, rfl, _, _, _, _, true, rfl, .ty _, tyT ha, kit_ty (by decide +kernel), _, rfl, iteF ⟨_, rfl, a, _, rfl, .inr ha, rfl, _, rfl, iteF ?_⟩⟩
    refine ⟨_, rfl, a, rfl, ⟨_, ha⟩, fun D hD => ?_⟩
    refine it_tup (K := K) (a := a) (xs := [.int q.num, .int (q.den : Int)]) (fun i H' => H' D = some (.lst ((List.replicate i true).map V.bl)) ∧ Same H H')
      ⟨upd_same, same_new hD⟩ (fun i H' ⟨_, s5⟩ => (Same.kt s5).sq ha) ?_ ?_
    · rintro i x H' hx ⟨g1, g4⟩
      have hi := (List.getElem?_eq_some_iff.mp hx).1
      obtain ⟨j, rfl⟩ : ∃ j : Int, x = .int j := by
        have m := List.mem_of_getElem? hx
        simp only [List.mem_cons, List.not_mem_nil, or_false] at m
        rcases m with e | e <;> exact ⟨_, e⟩
      refine ⟨rfl, _, rfl, _, _, _, _, true, rfl, .ty _, .base (.int j), kit_ty (by decide +kernel), _, rfl, iteT ⟨_, rfl, _, _, _, _, false, rfl, .ty _, .base (.int j), kit_ty (by decide +kernel), _, rfl, _, g1, by rw [List.length_map, List.length_replicate]; exact small1000 (by simp at hi; omega), ?_, Same.mut g4 hD⟩⟩
      rw [upd_same, List.replicate_succ', List.map_append]
      rfl
    rintro H' ⟨g1, g4⟩
    refine ⟨D, _, rfl, SqL.of g1, ?_⟩
    rw [show (List.replicate ([.int q.num, .int (q.den : Int)] : List V).length true).all id = true by rfl]
    have h' := (Same.kt g4).sq ha
    refine ⟨_, rfl, iteT ?_⟩
    refine ⟨_, rfl, _, _, _, _, rfl, rfl, h', rfl, _, _, rfl, rfl, ?_⟩
    show Q (.bl (decide ((1 : Int) ≤ (q.den : Int)))) H'
    rw [decide_eq_true (by omega)]
    exact k H' g4
abbrev n__law_is_told : List Str := ["_law_people_here", "_law_told", "_law_due_here", "_law_one"]
theorem sc__law_is_told : FnScope ["_law_people_here", "_law_told", "_law_due_here", "_law_one"] ["_law_people_here", "_law_told", "_law_due_here"] (defScope s__law_is_told) := ⟨rfl, rfl, rfl, by decide +kernel, rfl, by decide +kernel, by decide +kernel⟩
def sp__law_is_toldW (K : PySem.W.Frag) : Sp := fun vs H Q _ => ∃ (v u : V) (f : List Nat → Rat) (n N : Nat), vs = [.int (n : Int), v, u] ∧ n ≤ 6 ∧ Rp K H v (wtD f n) ∧ Rp K H u (wtD f n) ∧ RightT f n N ∧ ∀ H', Same H H' → Q (.bl true) H'
theorem ok__law_is_told (F : FnD K mg "_law_is_told" s__law_is_told) (c__law_is_fraction : Cal P w K mg base 1 "_law_is_fraction" (sp__law_is_fraction K) []) (T_isinstance : mg "isinstance" = none) (T_tuple : mg "tuple" = none) (T_len : mg "len" = none) (T_all : mg "all" = none) : Cal P w K mg base 2 "_law_is_told" (sp__law_is_toldW K) [] := by
  refine calOf F sc__law_is_told (fun _ _ _ _ _ _ us hl => match us, hl with | [_, _, _], _ => rfl) (fun vs H Q E h => ?_) (fun cdv fz A outer s H vs Q E hr h => ?_)
  · obtain ⟨_, _, _, _, _, rfl, _⟩ := h
    rfl
  · obtain ⟨v, u, f, n, N, rfl, h6, rv, ru, rt, k⟩ := h
    refine ⟨_, (pss_cons (ps_if (PW.pt (pw_or (pt_cmpR op_isN (pv 2) pe_non (nomark _)) (pw_or1 (pt_cmpR op_isN (pv 1) pe_non (nomark _))))) (pss_one (ps_ret (pe_and (pe_cmpR op_isN (pv 1) pe_non (nomark _)) (pe_one (pe_cmpR op_isN (pv 2) pe_non (nomark _)))))) pss_nil)
    (pss_cons (ps_if (PW.pt (pw_or (pt_not (pt_val (pe_callB call_isi (by rfl) T_isinstance (by decide +kernel) (pa_cons (pv 1) (pa_cons (pe_ty (n := "tuple") (by rfl) T_tuple (by decide +kernel)) pa_nil))))) (pw_or (pt_cmpR op_ne (pe_callB call_len_seq (by rfl) T_len PySem.boot_len (pa_cons (pv 1) pa_nil)) pe_int (nomark _)) (pw_or (pt_not (pt_val (pe_callB call_isi (by rfl) T_isinstance (by decide +kernel) (pa_cons (pe_ix ix_tup (pv 1) pe_int (fun _ _ => rfl)) (pa_cons (pe_ty (n := "tuple") (by rfl) T_tuple (by decide +kernel)) pa_nil))))) (pw_or1 (pt_cmpR op_ne (pe_callB call_len_seq (by rfl) T_len PySem.boot_len (pa_cons (pe_ix ix_tup (pv 1) pe_int (fun _ _ => rfl)) pa_nil)) (pv 0) (nomark _))))))) (pss_one (ps_ret pe_bl)) pss_nil)
    (pss_cons (ps_if (pt_not (pt_val (pe_callB (cr_all rfl) (by rfl) T_all (by decide +kernel) (pa_cons (pe_lc (own := [("_law_one", 3)]) (te := tAndV (tCall (sp__law_is_fraction K) [] C8.E0 (tCons (tVar 3) tNil)) (tOp (rI0 fun i j => V.bl (decide (j ≤ i))) (tOp (rIxT K) (tVar 3) (tC (.int 0))) (tC (.int 0)))) (by rfl) sc__law_is_told.nd (pi_tup (pe_op op_catA (pe_ix ix_tup (pv 1) pe_int (fun _ _ => rfl)) (pe_tup (pa_cons (pe_ix ix_tup (pv 1) pe_int (fun _ _ => rfl)) pa_nil)))) (blkOk_by (own := [("_law_one", 3)]) (N := ["_law_people_here", "_law_told", "_law_due_here", "_law_one"]) (sc := defScope s__law_is_told) (by decide +kernel)) (fun _ _ _ _ _ => (pg_name (i := 3) sc__law_is_told.nd rfl (Or.inl rfl))) (fun _ _ _ _ _ => pts_nil) (fun _ _ _ _ _ => (pe_and (pe_c c__law_is_fraction hr (by first | decide | omega) rfl (pa_cons (pv 3) pa_nil)) (pe_one (pe_cmpR op_ge (pe_ix ix_tup (pv 3) pe_int (fun _ _ => rfl)) pe_int (nomark _)))))) pa_nil)))) (pss_one (ps_ret pe_bl)) pss_nil)
    (pss_one (ps_ret (pe_cmpR (op_eqD hr.units) (pv 1) (pv 2) (nomark _))))))), ?_⟩
    by_cases cb : wtB f n = true
    · have rv' := rv
      have ru' := ru
      unfold wtD at rv' ru'
      rw [if_pos cb] at rv' ru'
      obtain ⟨av, xs, rfl, hv, rxs⟩ := Rp.tupI rv'
      obtain ⟨au, zs, rfl, hu, _⟩ := Rp.tupI ru'
      cases rxs with
      | @cons y1 _ _ _ x1 t1 =>
        cases t1 with
        | @cons y2 _ _ _ x2 t2 =>
          cases t2
          obtain ⟨a1, us, rfl, h1, r1⟩ := Rp.tupI x1
          have r1' : RQ K H us ((List.range n).map fun p => upF f n p []) := r1
          have ul : us.length = n := by rw [RQ.length r1', List.length_map, List.length_range]
          have r2 : RpAll K H [y2] ([f []].map qd) := .cons x2 .nil
          have rall : RQ K H (us ++ [y2]) (((List.range n).map fun p => upF f n p []) ++ [f []]) := by
            show RpAll K H (us ++ [y2]) ((((List.range n).map fun p => upF f n p []) ++ [f []]).map qd)
            rw [List.map_append]
            exact RpAll.append r1' r2
          have pos : ∀ q ∈ ((List.range n).map fun p => upF f n p []) ++ [f []], 0 ≤ q := fun q hq => by
            rcases List.mem_append.mp hq with h | h
            · obtain ⟨p, _, rfl⟩ := List.mem_map.mp h
              exact (up_zo h6 rt).1
            · rw [List.mem_singleton.mp h]
              exact (rt.zo []).1
          refine ⟨_, rfl, rfl, _, rfl, ?_⟩
          rw [show decide (V.ref au = V.non) = false from decide_eq_false (by intro z; cases z)]
          refine iteF ?_
          refine ⟨_, rfl, rfl, _, rfl, ?_⟩
          rw [show decide (V.ref av = V.non) = false from decide_eq_false (by intro z; cases z)]
          refine iteF ?_
          refine ⟨_, rfl, _, _, _, _, true, rfl, .ty _, tyT hv, kit_ty (by decide +kernel), _, rfl, ?_⟩
          refine ite_offW ?_
          refine ⟨_, rfl, av, _, rfl, .inr hv, rfl, _, rfl, ?_⟩
          refine ite_offW ?_
          refine ⟨_, rfl, _, _, _, _, rfl, rfl, hv, rfl, _, _, _, _, true, rfl, .ty _, tyT h1, kit_ty (by decide +kernel), _, rfl, ?_⟩
          refine ite_offW ?_
          refine ⟨_, rfl, _, _, _, _, rfl, rfl, hv, rfl, a1, us, rfl, .inr h1, _, rfl, rfl, _, rfl, ?_⟩
          rw [ul, decide_eq_true rfl]
          refine ite_offW ?_
          refine ⟨_, rfl, _, _, _, _, rfl, rfl, hv, rfl, _, rfl, _, _, _, _, rfl, rfl, hv, rfl, (by show 1 ≤ sizeLine; decide), fun q hq => ?_⟩
          have s1 := same_new (o := .tup [y2]) hq
          refine catA_okT ((Same.kt s1).sq h1) (SqT.of upd_same) (by rw [ul]; show n + 1 < 1000; omega) fun r H2 s2 hr2 => ⟨r, rfl, ⟨_, hr2⟩, fun D hD => ?_⟩
          have s12 := s1.trans s2
          refine it_tup (K := K) (a := r) (xs := us ++ [y2]) (fun i H' => H' D = some (.lst ((List.replicate i true).map V.bl)) ∧ Same H2 H') ⟨upd_same, same_new hD⟩ (fun i H' ⟨_, s5⟩ => (Same.kt s5).sq hr2) ?_ ?_
          · rintro i x H' hx ⟨g1, g4⟩
            have hi := (List.getElem?_eq_some_iff.mp hx).1
            rw [List.length_append, ul] at hi
            have hi' : i < n + 1 := hi
            obtain ⟨q0, hq0, rq0⟩ := RQ.getV (rall.mono (Same.kt (s12.trans g4))) hx
            have q0p := pos q0 (List.mem_of_getElem? hq0)
            have n0 : 0 ≤ q0.num := Rat.num_nonneg.mpr q0p
            refine ⟨rfl, _, rfl, x, q0, rfl, rq0, fun H3 s3 => ⟨true, rfl, iteT ?_⟩⟩
            obtain ⟨ax, rfl, hax⟩ := PF.mono (Same.kt s3) rq0
            refine ⟨_, rfl, _, _, _, _, rfl, rfl, hax, rfl, _, _, rfl, rfl, _, s3 _ _ g1, small1000 (by rw [List.length_map, List.length_replicate]; omega), ?_, Same.mut (g4.trans s3) hD⟩
            rw [upd_same, List.replicate_succ', List.map_append]
            show some (HO.lst (_ ++ [V.bl (decide ((0 : Int) ≤ q0.num))])) = _
            rw [decide_eq_true n0]
            rfl
          · rintro H' ⟨g1, g4⟩
            refine ⟨D, _, rfl, SqL.of g1, ?_⟩
            rw [show ∀ m : Nat, (List.replicate m true).all id = true from fun m => by simp]
            refine ⟨_, rfl, ite_offW ?_⟩
            have s14 := s12.trans g4
            refine ⟨_, rfl, _, rfl, _, _, (rv.mono (Same.kt s14)).dp, (ru.mono (Same.kt s14)).dp, wt_shaped _ _, wt_shaped _ _, ?_⟩
            rw [wt_eqv]
            exact k H' s14
    · unfold wtD at rv ru
      rw [if_neg cb] at rv ru
      cases rv
      cases ru
      refine ⟨_, rfl, rfl, _, rfl, ?_⟩
      rw [show decide (V.non = V.non) = true from decide_eq_true rfl]
      refine iteT ?_
      refine ⟨_, rfl, rfl, _, rfl, ?_⟩
      rw [show decide (V.non = V.non) = true from decide_eq_true rfl]
      refine iteT ⟨_, rfl, rfl, ?_⟩
      rw [show decide (V.non = V.non) = true from decide_eq_true rfl]
      exact k H (Same.refl _)
end
end CB

set_option Elab.async false
set_option linter.all false
set_option maxRecDepth 100000
set_option maxHeartbeats 4000000
/-! plain terms: nothing but means; a person that stands there counts -/
namespace CB
open PySem PySem.Spec PyProof.Rows L2
mutual
def Tm.pl : Tm → Bool
  | .bid _ => true
  | .fixed _ => true
  | .mean _ ts => Tm.pls ts
  | _ => false
def Tm.pls : List Tm → Bool
  | [] => true
  | t :: ts => t.pl && Tm.pls ts
end
theorem pls_all : ∀ {ts : List Tm}, (∀ t ∈ ts, t.pl = true) → Tm.pls ts = true
  | [], _ => rfl
  | t :: ts, h => by
    show (t.pl && Tm.pls ts) = true
    rw [h t List.mem_cons_self, pls_all (ts := ts) fun u hu => h u (List.mem_cons_of_mem _ hu)]; rfl
mutual
def Tm.hs (p : Nat) : Tm → Bool
  | .bid q => decide (q = p)
  | .mean _ ts => Tm.hss p ts
  | _ => false
def Tm.hss (p : Nat) : List Tm → Bool
  | [] => false
  | t :: ts => t.hs p || Tm.hss p ts
end
theorem hss_mem {p : Nat} {t : Tm} : ∀ {ts : List Tm}, t ∈ ts → t.hs p = true → Tm.hss p ts = true
  | u :: ts, h, e => by
    show (u.hs p || Tm.hss p ts) = true
    rcases List.mem_cons.mp h with h | h
    · rw [← h, e]; rfl
    · rw [hss_mem h e, Bool.or_true]
inductive LeP : List Rat → List Rat → Prop where
  | nil : LeP [] []
  | cons {a b : Rat} {as bs : List Rat} : a ≤ b → LeP as bs → LeP (a :: as) (b :: bs)
inductive LtP : List Rat → List Rat → Prop where
  | here {a b : Rat} {as bs : List Rat} : a < b → LeP as bs → LtP (a :: as) (b :: bs)
  | there {a b : Rat} {as bs : List Rat} : a ≤ b → LtP as bs → LtP (a :: as) (b :: bs)
theorem w_pos {w : Int} (h : 1 ≤ w) : (0 : Rat) < (w : Rat) := by
  have : ((0 : Int) : Rat) < (w : Rat) := Rat.intCast_lt_intCast.mpr (by omega)
  simpa using this
theorem wsum_leL : ∀ {ws : List Int} {as bs : List Rat}, (∀ w ∈ ws, 1 ≤ w) → LeP as bs → (List.zipWith (fun (w : Int) (q : Rat) => (w : Rat) * q) ws as).sum ≤ (List.zipWith (fun (w : Int) (q : Rat) => (w : Rat) * q) ws bs).sum
  | [], _, _, _, _ => by simp
  | _ :: _, _, _, _, .nil => by simp
  | w :: ws, a :: as, b :: bs, h, .cons l t => by
    have i := wsum_leL (fun v m => h v (List.mem_cons_of_mem _ m)) t
    have p := w_pos (h w List.mem_cons_self)
    have m := Rat.mul_le_mul_of_nonneg_left l (Rat.le_of_lt p)
    simp only [List.zipWith_cons_cons, List.sum_cons]
    grind
theorem wsum_ltL : ∀ {ws : List Int} {as bs : List Rat}, (∀ w ∈ ws, 1 ≤ w) → ws.length = as.length → LtP as bs → (List.zipWith (fun (w : Int) (q : Rat) => (w : Rat) * q) ws as).sum < (List.zipWith (fun (w : Int) (q : Rat) => (w : Rat) * q) ws bs).sum
  | [], _, _, _, e, .here _ _ => by simp at e
  | [], _, _, _, e, .there _ _ => by simp at e
  | w :: ws, a :: as, b :: bs, h, _, .here l t => by
    have i := wsum_leL (ws := ws) (fun v m => h v (List.mem_cons_of_mem _ m)) t
    have p := w_pos (h w List.mem_cons_self)
    have m := Rat.mul_lt_mul_of_pos_left l p
    simp only [List.zipWith_cons_cons, List.sum_cons]
    grind
  | w :: ws, a :: as, b :: bs, h, e, .there l t => by
    have i := wsum_ltL (ws := ws) (fun v m => h v (List.mem_cons_of_mem _ m)) (by simpa using e) t
    have p := w_pos (h w List.mem_cons_self)
    have m := Rat.mul_le_mul_of_nonneg_left l (Rat.le_of_lt p)
    simp only [List.zipWith_cons_cons, List.sum_cons]
    grind
theorem sum_one : ∀ {ws : List Int}, ws ≠ [] → (∀ w ∈ ws, 1 ≤ w) → 1 ≤ ws.sum
  | [], h, _ => absurd rfl h
  | [w], _, h => by have := h w List.mem_cons_self; simp; omega
  | w :: v :: ws, _, h => by
    have a := h w List.mem_cons_self
    have b := sum_one (ws := v :: ws) (by simp) fun u hu => h u (List.mem_cons_of_mem _ hu)
    rw [List.sum_cons]; omega
theorem put_up {p q : Nat} {x : Rat} {bs : List Rat} (hp : p < bs.length) (hx : bs.getD p 0 ≤ x) : bs.getD q 0 ≤ (put [p] x bs).getD q 0 := by
  rw [List.getD_eq_getElem?_getD, List.getD_eq_getElem?_getD]
  cases e : bs[q]? with
  | none =>
    have : (put [p] x bs)[q]? = none := by
      rw [List.getElem?_eq_none_iff, put_len]
      exact List.getElem?_eq_none_iff.mp e
    rw [this]; exact Rat.le_refl
  | some b =>
    rw [put_get e]
    by_cases c : q ∈ [p]
    · rw [if_pos c]
      rw [List.mem_singleton.mp c] at e
      rw [List.getD_eq_getElem?_getD, e] at hx
      exact hx
    · rw [if_neg c]; exact Rat.le_refl
theorem put_at {p : Nat} {x : Rat} {bs : List Rat} (hp : p < bs.length) : (put [p] x bs).getD p 0 = x := by
  rw [List.getD_eq_getElem?_getD, put_get (List.getElem?_eq_getElem hp), if_pos (List.mem_singleton.mpr rfl)]; rfl
mutual
theorem pl_le {p n z : Nat} {x : Rat} {bs : List Rat} (hp : p < bs.length) (hx : bs.getD p 0 ≤ x) : ∀ {t : Tm}, t.Ok n z → t.pl = true → t.val bs ≤ t.val (put [p] x bs)
  | .bid q, _, _ => put_up hp hx
  | .fixed _, _, _ => Rat.le_refl
  | .mean ws ts, ho, h => by
    have l := pl_les hp hx (ts := ts) ho.2.2.2.2 h
    have s := wsum_leL (ws := ws) (fun w m => (ho.2.2.2.1 w m).1) l
    have p1 := w_pos (sum_one (fun e => by have := ho.1; rw [e] at this; exact ho.2.1 (List.length_eq_zero_iff.mp (by simpa using this.symm))) fun w m => (ho.2.2.2.1 w m).1)
    show _ / _ ≤ _ / _
    rw [Rat.div_def, Rat.div_def]
    exact Rat.mul_le_mul_of_nonneg_right s (Rat.le_of_lt (Rat.inv_pos.mpr p1))
  | .least ts, _, h => by cases h
  | .greatest ts, _, h => by cases h
  | .ranked k ts, _, h => by cases h
  | .between lo hi t, _, h => by cases h
theorem pl_les {p n z : Nat} {x : Rat} {bs : List Rat} (hp : p < bs.length) (hx : bs.getD p 0 ≤ x) : ∀ {ts : List Tm}, Tm.Oks n z ts → Tm.pls ts = true → LeP (Tm.vals bs ts) (Tm.vals (put [p] x bs) ts)
  | [], _, _ => .nil
  | t :: ts, ho, h => by
    have h' : (t.pl && Tm.pls ts) = true := h
    rw [Bool.and_eq_true] at h'
    exact .cons (pl_le hp hx (t := t) ho.1 h'.1) (pl_les hp hx (ts := ts) ho.2 h'.2)
end
mutual
theorem pl_lt {p n z : Nat} {x : Rat} {bs : List Rat} (hp : p < bs.length) (hx : bs.getD p 0 < x) : ∀ {t : Tm}, t.Ok n z → t.pl = true → t.hs p = true → t.val bs < t.val (put [p] x bs)
  | .bid q, _, _, g => by
    have e : q = p := of_decide_eq_true g
    subst e
    show bs.getD q 0 < (put [q] x bs).getD q 0
    rw [put_at hp]; exact hx
  | .fixed _, _, _, g => by cases g
  | .mean ws ts, ho, h, g => by
    have l := pl_lts hp hx (ts := ts) ho.2.2.2.2 h g
    have s := wsum_ltL (ws := ws) (fun w m => (ho.2.2.2.1 w m).1) (by rw [vals_map, List.length_map]; exact ho.1) l
    have p1 := w_pos (sum_one (fun e => by have := ho.1; rw [e] at this; exact ho.2.1 (List.length_eq_zero_iff.mp (by simpa using this.symm))) fun w m => (ho.2.2.2.1 w m).1)
    show _ / _ < _ / _
    rw [Rat.div_def, Rat.div_def]
    exact Rat.mul_lt_mul_of_pos_right s (Rat.inv_pos.mpr p1)
  | .least ts, _, h, _ => by cases h
  | .greatest ts, _, h, _ => by cases h
  | .ranked k ts, _, h, _ => by cases h
  | .between lo hi t, _, h, _ => by cases h
theorem pl_lts {p n z : Nat} {x : Rat} {bs : List Rat} (hp : p < bs.length) (hx : bs.getD p 0 < x) : ∀ {ts : List Tm}, Tm.Oks n z ts → Tm.pls ts = true → Tm.hss p ts = true → LtP (Tm.vals bs ts) (Tm.vals (put [p] x bs) ts)
  | t :: ts, ho, h, g => by
    have h' : (t.pl && Tm.pls ts) = true := h
    rw [Bool.and_eq_true] at h'
    have g' : (t.hs p || Tm.hss p ts) = true := g
    rw [Bool.or_eq_true] at g'
    rcases g' with e | e
    · exact .here (pl_lt hp hx (t := t) ho.1 h'.1 e) (pl_les hp (Rat.le_of_lt hx) (ts := ts) ho.2 h'.2)
    · exact .there (pl_le hp (Rat.le_of_lt hx) (t := t) ho.1 h'.1) (pl_lts hp hx (ts := ts) ho.2 h'.2 e)
end
end CB

set_option Elab.async false
set_option linter.all false
set_option maxRecDepth 100000
set_option maxHeartbeats 4000000
/-! how many different numbers a tuple has: len(set(t)) -/
namespace CB
open PySem PySem.Spec PyProof.Rows L2
theorem nodup_len : ∀ {l m : List Int}, l.Nodup → (∀ x ∈ l, x ∈ m) → l.length ≤ m.length
  | [], _, _, _ => Nat.zero_le _
  | a :: l, m, h, s => by
    have h' := List.nodup_cons.mp h
    have am := s a List.mem_cons_self
    have ih := nodup_len (l := l) (m := m.erase a) h'.2 fun x hx => (List.mem_erase_of_ne (by intro e; rw [e] at hx; exact h'.1 hx)).mpr (s x (List.mem_cons_of_mem _ hx))
    rw [List.length_erase_of_mem am] at ih
    have := List.length_pos_of_mem am
    rw [List.length_cons]
    omega
def tLenSetT (K : PySem.W.Frag) (ta : TE) : TE := fun σ H Q => ta σ H fun x H1 => ∃ (a : Addr) (ns D : List Int), x = .ref a ∧ SqT K H1 a (ns.map V.int) ∧ ns.length ≤ 60 ∧ D.Nodup ∧ (∀ k, k ∈ D ↔ k ∈ ns) ∧ Q (.int (D.length : Nat)) H1
theorem ints_of : ∀ {ns : List Int} {us : List Value}, Vals (ns.map V.int) us → PyProof.Rows.IntsAre us ns
  | [], _, h => by cases h; exact .nil
  | n :: ns, _, h => by
    cases h with
    | cons r t =>
      obtain ⟨z, rfl⟩ := r
      exact .cons n z (ints_of t)
theorem pe_lenSetT {X : Cx} {a : Expr} {ta : TE} {p p2 q pos : Pos} (g1 : Gl X "len") (m1 : X.mg "len" = none) (g2 : Gl X "set") (m2 : X.mg "set" = none) (ha : PE X a ta) (hc : X.calm = true := by rfl)
    (na : starEach [a] X.env = (false, eval a X.env) :: starEach [] X.env := by rfl) : PE X (.Call (.Name "len" p) [.Call (.Name "set" p2) [a] [] q] [] pos) (tLenSetT X.K ta) := by
  refine ⟨fun pins s σ H Q I h => ?_⟩
  refine Call_ (ld_blt I g1 m1 boot_len ?_)
  refine PyProof.Rows.callWith_builtin1 (PyProof.Rows.args_cons ?_ rfl) rfl rfl
  refine Call_ (ld_blt I g2 m2 boot_set ?_)
  refine PyProof.Rows.callWith_type1 (PyProof.Rows.args_cons
    (thn (ha.run pins s σ H _ I h) fun v s1 ⟨x, H1, I1, r1, z⟩ => PyProof.Rows.args_nil ?_) na) na rfl
  obtain ⟨l, ns, D, rfl, hq, hl, hD, hm, z⟩ := z
  cases r1
  obtain ⟨its, r, pl, hz⟩ := I1.tuple hq
  refine call_set_tupI ns (I1.ok.hd hc) pl (by simpa using ints_of r) (by unfold scanBound; omega) fun h' tk c hS _ hk => ?_
  refine PyProof.Rows.args_nil ?_
  obtain ⟨o, es, ep, t, ho, hex, hd, _, nd, mem, hb, hf, hn, _⟩ := hS
  have I2 : Inv X pins σ H1 { s1 with heap := h', toks := tk } := I1.kept fun b o e => hk b o e
  have el : D.length = c := by
    have a1 := nodup_len hD (m := es.toList.map keyOf) fun k hk => (mem k).mp (decide_eq_true ((hm k).mp hk))
    have a2 := nodup_len nd (m := D) fun k hk => (hm k).mpr (of_decide_eq_true ((mem k).mpr hk))
    rw [List.length_map] at a1 a2
    have a3 : es.toList.length = es.size := Array.length_toList
    omega
  refine call_len_set ho hex hd hf (by rw [hn]; have := nodup_len hD (m := ns) fun k hk => (hm k).mp hk; omega) ⟨.int c, H1, I2.tok _, ⟨_, by rw [hn]⟩, ?_⟩
  rw [← el]
  exact z
end CB

set_option Elab.async false
set_option linter.all false
set_option maxRecDepth 100000
set_option maxHeartbeats 4000000
/-! plain terms as weighted sums; len(set(list)); x in tuple, of data -/
namespace CB
open PySem PySem.Spec PyProof.Rows L2
section
variable {c a u z : List Rat} {x : Rat}
theorem wsum_aff : ∀ (ws : List Int) (ts : List Tm), (∀ t ∈ ts, t.val c = t.val a + x * (t.val u - t.val z)) →
    (List.zipWith (fun (w : Int) (q : Rat) => (w : Rat) * q) ws (ts.map (Tm.val c))).sum = (List.zipWith (fun (w : Int) (q : Rat) => (w : Rat) * q) ws (ts.map (Tm.val a))).sum + x * ((List.zipWith (fun (w : Int) (q : Rat) => (w : Rat) * q) ws (ts.map (Tm.val u))).sum - (List.zipWith (fun (w : Int) (q : Rat) => (w : Rat) * q) ws (ts.map (Tm.val z))).sum)
  | [], _, _ => by simp; grind
  | _ :: _, [], _ => by simp; grind
  | w :: ws, t :: ts, h => by
    have ih := wsum_aff ws ts fun v hv => h v (List.mem_cons_of_mem _ hv)
    have ht := h t List.mem_cons_self
    simp only [List.map_cons, List.zipWith_cons_cons, List.sum_cons]
    rw [ih, ht]
    grind
variable {p : Nat}
mutual
theorem pl_aff (h1 : ∀ q, c.getD q 0 = if q = p then x else a.getD q 0) (h2 : a.getD p 0 = 0) (h3 : ∀ q, u.getD q 0 = if q = p then 1 else 0) (h4 : ∀ q, z.getD q 0 = 0) : ∀ {t : Tm}, t.pl = true → t.val c = t.val a + x * (t.val u - t.val z)
  | .bid q, _ => by
    show c.getD q 0 = a.getD q 0 + x * (u.getD q 0 - z.getD q 0)
    rw [h1 q, h3 q, h4 q]
    by_cases e : q = p
    · rw [if_pos e, if_pos e, e, h2]; grind
    · rw [if_neg e, if_neg e]; grind
  | .fixed q, _ => by
    show q = q + x * (q - q)
    grind
  | .mean ws ts, h => by
    have l := wsum_aff ws ts (pl_affs h1 h2 h3 h4 (ts := ts) h)
    show wavg ws (Tm.vals c ts) = wavg ws (Tm.vals a ts) + x * (wavg ws (Tm.vals u ts) - wavg ws (Tm.vals z ts))
    unfold wavg
    rw [vals_map, vals_map, vals_map, vals_map, l]
    simp only [Rat.div_def]
    grind
  | .least ts, h => by cases h
  | .greatest ts, h => by cases h
  | .ranked k ts, h => by cases h
  | .between lo hi t, h => by cases h
theorem pl_affs (h1 : ∀ q, c.getD q 0 = if q = p then x else a.getD q 0) (h2 : a.getD p 0 = 0) (h3 : ∀ q, u.getD q 0 = if q = p then 1 else 0) (h4 : ∀ q, z.getD q 0 = 0) : ∀ {ts : List Tm}, Tm.pls ts = true → ∀ t ∈ ts, t.val c = t.val a + x * (t.val u - t.val z)
  | [], _, t, h => by cases h
  | t :: ts, h, v, hv => by
    have h' : (t.pl && Tm.pls ts) = true := h
    rw [Bool.and_eq_true] at h'
    rcases List.mem_cons.mp hv with e | e
    · rw [e]; exact pl_aff h1 h2 h3 h4 (t := t) h'.1
    · exact pl_affs h1 h2 h3 h4 (ts := ts) h'.2 v e
end
end
/-- the first i bids, and 0 for the others -/
def cutB (n i : Nat) (bs : List Rat) : List Rat := (List.range n).map fun q => if q < i then bs.getD q 0 else 0
theorem cutB_len (n i : Nat) (bs : List Rat) : (cutB n i bs).length = n := by unfold cutB; rw [List.length_map, List.length_range]
theorem cutB_getD {n i q : Nat} {bs : List Rat} (hl : bs.length = n) : (cutB n i bs).getD q 0 = if q < i then bs.getD q 0 else 0 := by
  unfold cutB
  by_cases h : q < n
  · rw [List.getD_eq_getElem?_getD, List.getElem?_map, List.getElem?_range h]
    rfl
  · rw [List.getD_eq_getElem?_getD, List.getElem?_eq_none (by rw [List.length_map, List.length_range]; omega)]
    have : bs.getD q 0 = 0 := by rw [List.getD_eq_getElem?_getD, List.getElem?_eq_none (by omega)]; rfl
    rw [this]
    show (0 : Rat) = _
    split <;> rfl
theorem getD_ext {n : Nat} {as bs : List Rat} (h1 : as.length = n) (h2 : bs.length = n) (h : ∀ q, q < n → as.getD q 0 = bs.getD q 0) : as = bs := by
  refine List.ext_getElem (h1.trans h2.symm) fun i a b => ?_
  have := h i (by omega)
  rw [List.getD_eq_getElem?_getD, List.getD_eq_getElem?_getD, List.getElem?_eq_getElem a, List.getElem?_eq_getElem b] at this
  exact this
theorem cutB_all {n : Nat} {bs : List Rat} (hl : bs.length = n) : cutB n n bs = bs := getD_ext (cutB_len _ _ _) hl fun q hq => by rw [cutB_getD hl, if_pos hq]
theorem end01_getD0 {n q : Nat} : (end01 n []).getD q 0 = 0 := by
  by_cases h : q < n
  · rw [end01_getD h, if_neg (by simp)]
  · rw [List.getD_eq_getElem?_getD, List.getElem?_eq_none (by rw [end01_len]; omega)]; rfl
theorem end01_getD1 {n p q : Nat} (hp : p < n) : (end01 n [p]).getD q 0 = if q = p then 1 else 0 := by
  by_cases h : q < n
  · rw [end01_getD h]
    by_cases e : q = p
    · rw [if_pos e, if_pos (by simp [e])]
    · rw [if_neg e, if_neg (by simp [e])]
  · rw [List.getD_eq_getElem?_getD, List.getElem?_eq_none (by rw [end01_len]; omega), if_neg (by omega)]; rfl
theorem cutB_zero {n : Nat} {bs : List Rat} (hl : bs.length = n) : cutB n 0 bs = end01 n [] := getD_ext (cutB_len _ _ _) (end01_len _ _) fun q hq => by rw [cutB_getD hl, end01_getD0, if_neg (by omega)]
/-- what a person counts -/
def shr (t : Tm) (n p : Nat) : Rat := t.val (end01 n [p]) - t.val (end01 n [])
theorem cut_step {t : Tm} {n i : Nat} {bs : List Rat} (h : t.pl = true) (hl : bs.length = n) (hi : i < n) : t.val (cutB n (i + 1) bs) = t.val (cutB n i bs) + bs.getD i 0 * shr t n i := by
  refine pl_aff (p := i) (fun q => ?_) ?_ (fun q => end01_getD1 hi) (fun q => end01_getD0) h
  · rw [cutB_getD hl, cutB_getD hl]
    by_cases e : q = i
    · rw [if_pos e, if_pos (by omega), e]
    · rw [if_neg e]
      by_cases l : q < i
      · rw [if_pos l, if_pos (by omega)]
      · rw [if_neg l, if_neg (by omega)]
  · rw [cutB_getD hl, if_neg (by omega)]
theorem end01_put {n p : Nat} (hp : p < n) : put [p] 1 (end01 n []) = end01 n [p] := getD_ext (n := n) (by rw [put_len, end01_len]) (end01_len _ _) fun q hq => by
  rw [end01_getD1 hp, List.getD_eq_getElem?_getD, put_get (end01_get hq)]
  by_cases e : q = p
  · rw [if_pos e, if_pos (by simp [e])]; rfl
  · rw [if_neg e, if_neg (by simp [e]), if_neg (by simp)]; rfl
theorem shr_pos {t : Tm} {n p z : Nat} (ho : t.Ok n z) (h : t.pl = true) (g : t.hs p = true) (hp : p < n) : 0 < shr t n p := by
  have := pl_lt (x := 1) (p := p) (bs := end01 n []) (by rw [end01_len]; exact hp) (by rw [end01_getD0]; decide) ho h g
  rw [end01_put hp] at this
  unfold shr
  grind
theorem cut_in {n i : Nat} {bs : List Rat} (hl : bs.length = n) (q : Rat) (h : q ∈ cutB n i bs) : q = 0 ∨ q ∈ bs := by
  unfold cutB at h
  obtain ⟨j, hj, rfl⟩ := List.mem_map.mp h
  have jn := List.mem_range.mp hj
  split
  · right
    rw [List.getD_eq_getElem?_getD, List.getElem?_eq_getElem (by omega)]
    exact List.getElem_mem _
  · exact .inl rfl
/-! ### len(set(list)) -/
theorem step_nodup {l : List Int} {x : Int} (h : l.Nodup) : (PyProof.Rows.step_dedup l x).Nodup := by
  unfold PyProof.Rows.step_dedup
  split
  · exact h
  · rename_i c
    refine List.nodup_append.mpr ⟨h, List.pairwise_singleton _ _, fun a ha b hb => ?_⟩
    rw [List.mem_singleton.mp hb]
    rintro rfl
    exact c (List.any_eq_true.mpr ⟨a, ha, by simp⟩)
theorem first_nodup (f : Nat → Int) : ∀ i, (PyProof.Rows.firstMet f i).Nodup
  | 0 => .nil
  | i + 1 => by rw [PyProof.Rows.firstMet_succ]; exact step_nodup (first_nodup f i)
theorem first_mem {ns : List Int} {k : Int} : k ∈ PyProof.Rows.firstMet (fun i => ns.getD i 0) ns.length ↔ k ∈ ns := by
  have e : (List.range ns.length).map (fun i => ns.getD i 0) = ns := by
    refine List.ext_getElem (by simp) fun i a b => ?_
    rw [List.getElem_map, List.getElem_range, List.getD_eq_getElem?_getD, List.getElem?_eq_getElem b]; rfl
  have h := PyProof.Rows.firstMet_any (fun i => ns.getD i 0) ns.length k
  rw [e] at h
  constructor
  · intro m
    have : (PyProof.Rows.firstMet (fun i => ns.getD i 0) ns.length).any (· == k) = true := List.any_eq_true.mpr ⟨k, m, by simp⟩
    rw [h] at this
    obtain ⟨y, hy, ey⟩ := List.any_eq_true.mp this
    rw [← eq_of_beq ey]; exact hy
  · intro m
    have : ns.any (· == k) = true := List.any_eq_true.mpr ⟨k, m, by simp⟩
    rw [← h] at this
    obtain ⟨y, hy, ey⟩ := List.any_eq_true.mp this
    rw [← eq_of_beq ey]; exact hy
def tLenSetL (K : PySem.W.Frag) (ta : TE) : TE := fun σ H Q => ta σ H fun x H1 => ∃ (a : Addr) (ns D : List Int), x = .ref a ∧ SqL K H1 a (ns.map V.int) ∧ ns.length ≤ 60 ∧ D.Nodup ∧ (∀ k, k ∈ D ↔ k ∈ ns) ∧ Q (.int (D.length : Nat)) H1
theorem pe_lenSetL {X : Cx} {a : Expr} {ta : TE} {p p2 q pos : Pos} (g1 : Gl X "len") (m1 : X.mg "len" = none) (g2 : Gl X "set") (m2 : X.mg "set" = none) (ha : PE X a ta) (hc : X.calm = true := by rfl)
    (na : starEach [a] X.env = (false, eval a X.env) :: starEach [] X.env := by rfl) : PE X (.Call (.Name "len" p) [.Call (.Name "set" p2) [a] [] q] [] pos) (tLenSetL X.K ta) := by
  refine ⟨fun pins s σ H Q I h => ?_⟩
  refine Call_ (ld_blt I g1 m1 boot_len ?_)
  refine PyProof.Rows.callWith_builtin1 (PyProof.Rows.args_cons ?_ rfl) rfl rfl
  refine Call_ (ld_blt I g2 m2 boot_set ?_)
  refine PyProof.Rows.callWith_type1 (PyProof.Rows.args_cons
    (thn (ha.run pins s σ H _ I h) fun v s1 ⟨x, H1, I1, r1, z⟩ => PyProof.Rows.args_nil ?_) na) na rfl
  obtain ⟨l, ns, D, rfl, hq, hl, hD, hm, z⟩ := z
  cases r1
  obtain ⟨its, r, pl, hz⟩ := I1.list hq
  have hlen : its.toArray.size = ns.length := by rw [List.size_toArray, ← r.length, List.length_map]
  refine call_set_list (I1.ok.hd hc) pl.isList (ns := ns) (by simpa using ints_of r) (by rw [hlen]; unfold scanBound; omega) fun h' tk hS hk => ?_
  refine PyProof.Rows.args_nil ?_
  rw [hlen] at hS
  obtain ⟨o, es, ep, t, ho, hex, hd, _, _, _, hf, hn⟩ := hS
  have I2 : Inv X pins σ H1 { s1 with heap := h', toks := tk } := I1.kept fun b o e => hk b o (Heap.lt_size e) e
  have el : D.length = (PyProof.Rows.firstMet (fun i => ns.getD i 0) ns.length).length := by
    have a1 := nodup_len hD (m := PyProof.Rows.firstMet (fun i => ns.getD i 0) ns.length) fun k hk => first_mem.mpr ((hm k).mp hk)
    have a2 := nodup_len (first_nodup (fun i => ns.getD i 0) ns.length) (m := D) fun k hk => (hm k).mpr (first_mem.mp hk)
    omega
  refine call_len_set ho hex hd hf (by rw [hn, ← el]; have := nodup_len hD (m := ns) fun k hk => (hm k).mp hk; omega) ⟨.int D.length, H1, I2.tok _, ⟨_, by rw [hn, el]⟩, z⟩
/-! ### x in a tuple of data -/
def rInT (K : PySem.W.Frag) : R2 := fun x y H Q => ∃ d ds, Dp K H x d ∧ Dp K H y (.tuple ds) ∧ SeqAt.shaped d = true ∧ SeqAt.shaped (.tuple ds) = true ∧ Q (.bl (ds.any fun z => PyData.eqv z d)) H
theorem op_inT {X : Cx} (hu : X.A.units + 65 < cLine) : OpR X (compareOp .In) (rInT X.K) := by
  intro pins s σ H x y v u Q I rx ry h
  obtain ⟨d, ds, hd, he, sd, se, q⟩ := h
  obtain ⟨as, r1⟩ := Dp.reads I d x v hd rx
  obtain ⟨bs, r2⟩ := Dp.reads I (.tuple ds) y u he ry
  exact SeqAt.in_tuple_reads r2 r1 (SeqAt.canLay_of_shaped se) (SeqAt.canLay_of_shaped sd) (room_in_shaped sd hu) ⟨.bl _, H, I, rfl, q⟩
end CB

set_option Elab.async false
set_option linter.all false
set_option maxRecDepth 100000
set_option maxHeartbeats 4000000
namespace CB
open PySem PySem.Spec PyProof.Rows L2
open C8 (Cal Met Mak pe_c pe_mk pe_mt pe_mt0 pe_gc CalAt)
section
variable {P : Program} {w : World} {K : PySem.W.Frag} {mg : Str → Option Value} {base : Heap}
theorem it_keysF {d : Addr} {o : Obj} {kvs : List (List L2.Key × V)} {H0 : Hp} {Qd : Hp → Prop} {Body : (Hp → Prop) → V → Hp → Prop} (Pv : Nat → Hp → Prop) (h0 : Pv 0 H0) (hl : ∀ i H, Pv i H → H d = some (.frz o (.dT kvs)))
    (hs : ∀ i k v q H, kvs[i]? = some (k, v) → H q = some (.tup (k.map kV)) → Pv i H → Body (Pv (i + 1)) (.ref q) H) (hd : ∀ H, Pv kvs.length H → Qd H) :
    ∃ W : Nat → Nat → Hp → Prop, (∃ m, W 0 m H0) ∧ ∀ i m H, W i m H → ((Itkt d o kvs).stop i H ∧ Qd H) ∨
      ((Itkt d o kvs).go i H ∧ ∃ N : Hp → Prop, (∀ H', N H' → ∃ m', m' < m ∧ W (i + 1) m' H') ∧ ∀ x H', (Itkt d o kvs).yld i H x H' → Body N x H') := by
  refine ⟨fun i m H => i + m = kvs.length ∧ Pv i H, ⟨kvs.length, Nat.zero_add _, h0⟩, fun i m H h => ?_⟩
  obtain ⟨e, p⟩ := h
  have q := hl i H p
  cases m with
  | zero =>
    have e' : i = kvs.length := e
    subst e'
    exact .inl ⟨⟨q, Nat.le_refl _⟩, hd H p⟩
  | succ m =>
    refine .inr ⟨⟨q, by omega⟩, Pv (i + 1), fun H' p' => ⟨m, Nat.lt_succ_self m, by omega, p'⟩, fun x H' y => ?_⟩
    obtain ⟨rfl, k, v, b, y1, rfl, y3⟩ := y
    exact hs i k v b _ y1 y3 p
/-- what a lot can hold by the table -/
def lotF (f : List Nat → Rat) (ws : List Rat) (l : List Nat) : List Rat := f l :: l.map fun p => ws.getD p 0
theorem lot_sub {n : Nat} {S : List Nat} (h6 : n ≤ 6) (h1 : S.Pairwise (· < ·)) (h2 : ∀ p ∈ S, p < n) : S ∈ lotsI n := by
  have e : S = (List.range n).filter fun q => S.contains q := by
    refine List.Perm.eq_of_pairwise (fun a b _ _ x y => by omega) h1 (List.Pairwise.filter _ List.pairwise_lt_range) ?_
    refine (List.perm_ext_iff_of_nodup (h1.imp fun x => Nat.ne_of_lt x) (List.nodup_range.filter _)).mpr fun q => ?_
    simp only [List.mem_filter, List.mem_range, List.contains_iff_mem]
    exact ⟨fun m => ⟨h2 q m, m⟩, fun m => m.2⟩
  rw [e]
  exact (lotsI_perm h6).mem_iff.mpr (subs_filter _ n)
theorem cz_lots {f : List Nat → Rat} {n : Nat} {ws : List Rat} {L : List (List Nat)} (h6 : n ≤ 6) (hL : L.Perm (lotsI n)) : maxL (L.map fun l => minL (lotF f ws l)) = (cz f n n []).tm.val ws := by
  have l1 : ([] : List Nat) ∈ lotsI n := lot_sub h6 .nil (fun p hp => nomatch hp)
  have ne : (L.map fun l => minL (lotF f ws l)) ≠ [] := by
    intro e
    have m := hL.mem_iff.mpr l1
    have e2 : L = [] := List.map_eq_nil_iff.mp e
    rw [e2] at m
    cases m
  obtain ⟨m1, m2⟩ := maxL_mem ne
  have a : maxL (L.map fun l => minL (lotF f ws l)) ≤ (cz f n n []).tm.val ws := by
    obtain ⟨l, hl, e⟩ := List.mem_map.mp m1
    rw [← e]
    have hs := hL.mem_iff.mp hl
    have ms := (lotsI_perm h6).mem_iff.mp hs
    obtain ⟨_, q⟩ := minL_mem (l := lotF f ws l) (by simp [lotF])
    refine (cz_le (Nat.le_refl n)).mpr ⟨l, ?_, fun p hp => ⟨by omega, subs_lt ms p hp⟩, by rw [List.nil_append]; exact q _ List.mem_cons_self, fun p hp => q _ (List.mem_cons_of_mem _ (List.mem_map.mpr ⟨p, hp, rfl⟩))⟩
    rw [lots_filter n (by omega) l ms]
    exact List.Pairwise.filter _ List.pairwise_lt_range
  have b : (cz f n n []).tm.val ws ≤ maxL (L.map fun l => minL (lotF f ws l)) := by
    obtain ⟨S, s1, s2, s3, s4⟩ := (cz_le (f := f) (n := n) (ws := ws) (l := []) (Nat.le_refl n)).mp (Rat.le_refl)
    rw [List.nil_append] at s3
    have g := m2 _ (List.mem_map.mpr ⟨S, hL.mem_iff.mpr (lot_sub h6 s1 fun p hp => (s2 p hp).2), rfl⟩)
    obtain ⟨q, _⟩ := minL_mem (l := lotF f ws S) (by simp [lotF])
    rcases List.mem_cons.mp q with h | h
    · rw [h] at g; grind
    · obtain ⟨p, hp, h⟩ := List.mem_map.mp h
      have := s4 p hp
      rw [← h] at g; grind
  grind
theorem rq_sq {H H' : Hp} (sq : ∀ a xs, SqT K H a xs → SqT K H' a xs) : ∀ {zs : List V} {qs : List Rat}, RQ K H zs qs → RQ K H' zs qs
  | zs, [], h => by
    have h' : RpAll K H zs [] := h
    cases h'
    exact .nil
  | zs, q :: qs, h => by
    have h' : RpAll K H zs (qd q :: qs.map qd) := h
    cases h' with
    | cons a t =>
      obtain ⟨p, us, rfl, h1, h2⟩ := Rp.tupI a
      cases h2 with
      | cons x1 t1 =>
        cases t1 with
        | cons x2 t2 =>
          cases t2
          have e1 := x1.intI
          have e2 := x2.intI
          subst e1 e2
          exact .cons (.tup (sq _ _ h1) (.cons (.int _) (.cons (.int _) .nil))) (rq_sq sq t)
theorem kt_lock {H : Hp} {d : Addr} {kvs : List (List L2.Key × V)} {o : HO} (h : H d = some (.dT kvs)) : KT H (upd H d o) :=
  ⟨fun b ys e => by rw [upd_ne (ne_of e h (by intro z; cases z))]; exact e, fun b u v e => by rw [upd_ne (ne_of e h (by intro z; cases z))]; exact e⟩
theorem sq_thaw {H : Hp} {d : Addr} {ob : Obj} {kvs : List (List L2.Key × V)} {o : HO} (h : H d = some (.frz ob (.dT kvs))) (a : Addr) (xs : List V) (q : SqT K H a xs) : SqT K (upd H d o) a xs := by
  rcases q with (q | ⟨u, q⟩) | q
  · exact .inl (.inl (by rw [upd_ne (ne_of q h (by intro z; cases z))]; exact q))
  · refine .inl (.inr ⟨u, ?_⟩)
    rw [upd_ne (ne_of q h (by intro z; injection z with _ z; cases z))]
    exact q
  · exact .inr q
theorem same_thaw {H H' : Hp} {d : Addr} {u : HO} {f : HO} (h : H d = some u) (s : Same (upd H d f) H') : Same H (upd H' d u) := fun b o e => by
  by_cases c : b = d
  · subst c
    rw [h] at e
    cases e
    exact upd_same
  · rw [upd_ne c]
    exact s b o (by rw [upd_ne c]; exact e)
def sp__law_readingT (K : PySem.W.Frag) : Sp := fun vs H Q _ => ∃ (d a : Addr) (n z : Nat) (f : List Nat → Rat) (ws : List Rat), vs = [.ref d, .ref a] ∧ TabF K H d f n ∧ n ≤ 6 ∧ z ≤ 9000 ∧ (∀ l, Sz z (f l)) ∧ Bids K H a n z ws ∧
  ∀ v H', Same H H' → RF K H' v ((cz f n n []).tm.val ws) → Q v H'
end
end CB

set_option Elab.async false
set_option linter.all false
set_option maxRecDepth 100000
set_option maxHeartbeats 4000000
namespace CB
open PySem PySem.Spec PyProof.Rows L2
open C8 (Cal Met Mak pe_c pe_mk pe_mt pe_mt0 pe_gc CalAt)
section
variable {P : Program} {w : World} {K : PySem.W.Frag} {mg : Str → Option Value} {base : Heap}
/-- lots of as many people have the same number -/
def cntB (f : List Nat → Rat) (n : Nat) : Bool := (lotsI n).all fun l => decide (f l = f (List.range l.length))
def cntL (f : List Nat → Rat) (n : Nat) : List Rat := (List.range (n + 1)).map fun m => f (List.range m)
def cntD (f : List Nat → Rat) (n : Nat) : PyData := if cntB f n = true then .tuple ((cntL f n).map qd) else .none
theorem range_lot : ∀ n, n < 7 → ∀ m, m < n + 1 → List.range m ∈ subs n := by decide +kernel
theorem range_in {n m : Nat} (h6 : n ≤ 6) (h : m ≤ n) : List.range m ∈ lotsI n := (lotsI_perm h6).mem_iff.mpr (range_lot n (by omega) m (by omega))
theorem lot_short {n : Nat} {l : List Nat} (h6 : n ≤ 6) (h : l ∈ lotsI n) : l.length ≤ n := subs_size ((lotsI_perm h6).mem_iff.mp h)
def sp_first_lot : Sp := fun vs H Q _ => ∃ m : Nat, vs = [.int (m : Int)] ∧ m ≤ 6 ∧ ∀ a H', Same H H' → H' a = some (.tup (pV (List.range m))) → Q (.ref a) H'
def sp_first_bar_to_counts (K : PySem.W.Frag) : Sp := fun vs H Q _ => ∃ (d : Addr) (f : List Nat → Rat) (n : Nat), vs = [.int (n : Int), .ref d] ∧ n ≤ 6 ∧ TabF K H d f n ∧
  ∀ v H', Same H H' → (cntB f n = true ∧ v = .non ∨ cntB f n = false ∧ ∃ a, v = .ref a) → Q v H'
def sp_by_counts (K : PySem.W.Frag) : Sp := fun vs H Q _ => ∃ (d : Addr) (f : List Nat → Rat) (n z : Nat), vs = [.int (n : Int), .ref d] ∧ 1 ≤ n ∧ n ≤ 6 ∧ TabF K H d f n ∧ z ≤ 9000 ∧ (∀ l ∈ lotsI n, NumOk z (f l)) ∧ badT f n = false ∧
  ∀ v H', Same H H' → Rp K H' v (cntD f n) → Q v H'
end
end CB

set_option Elab.async false
set_option linter.all false
set_option maxRecDepth 100000
set_option maxHeartbeats 4000000
/-! dict(d), d a dict with tuples as keys -/
namespace CB
open PySem PySem.Spec PyProof.Rows L2
section
variable {prog : Program} {w : World} {K : Type} [DecidableEq K] {κ : HeapKind prog w K} {A : Around} {E : Value → Shared → Prop} {s : Shared}
theorem copy_call {b : Addr} {xs : List (K × Addr × Value)} {Q : Value → Shared → Prop} (rm : κ.room A.in1.in1) (ns : (b == sysModules) = false) (db : s.heap.DictOfH κ b xs) (tu : ∀ x ∈ xs, s.TypeIs (.ref x.2.1) "tuple") (apart : (xs.map fun x => κ.hash x.1).Nodup) (sz : xs.length ≤ sizeLine)
    (keep : ∀ h' : Heap, (∀ c u, s.heap.get? c = some u → h'.get? c = some u) → h'.DictOfH κ b xs)
    (h : ∀ h' : Heap, h'.DictOfH κ s.heap.objs.size xs → (∀ c u, s.heap.get? c = some u → h'.get? c = some u) → Q (.ref s.heap.objs.size) { s with heap := h' }) : wpAny (model prog w) A (call (.type "dict") [.ref b]) Q E s := by
  refine callType_codes (Q₁ := fun v t => v = .ref s.heap.objs.size ∧ t = { s with heap := s.heap.push { cls := .type "dict", data := .dict #[] } }) F.kt_called_dict (F.kt_typeCall_dict_1 _) F.entry_dict_init (kt_code_dict_new _ ⟨rfl, rfl⟩) ?_
  rintro v t ⟨rfl, rfl⟩
  have e0 : (s.heap.push { cls := .type "dict", data := .dict #[] }).DictOfH κ s.heap.objs.size [] := Heap.DictOfH.new s.heap
  have e1 : (s.heap.push { cls := .type "dict", data := .dict #[] }).DictOfH κ b xs := keep _ fun c u g => Heap.get?_push_of_some _ g
  have lt : b < s.heap.objs.size := let ⟨_, _, _, g, _⟩ := db; Heap.lt_size g
  have nd := db.nodup
  refine ⟨e0.typeIs, F.args_dict_init_2 _ _, ?_⟩
  unfold Builtin.«dict.__init__»
  refine wpAny_bind ?_
  unfold Builtin.Dict.selfAndRest
  refine wpAny_bind (wpAny_notOrdered_dict e0.typeIs ?_)
  refine wpAny_pure ?_
  have up := updateFrom_dictH (A := A.in1) (nm := "dict.__init__") (s := { s with heap := s.heap.push { cls := .type "dict", data := .dict #[] } }) (kvs := []) (R := fun q t => q = .ok (.ret .none) ∧ ∃ h' : Heap, t = { s with heap := h' } ∧ h'.DictOfH κ s.heap.objs.size xs ∧ ∀ c u, s.heap.get? c = some u → h'.get? c = some u) .none rm (Nat.ne_of_gt lt) ns e0 e1 (.inr ⟨fun x hx => ?_, apart⟩) (by simpa using sz) fun h' d1 _ sb => ⟨rfl, h', rfl, ?_, fun c u g => ?_⟩
  · change wpAny (model prog w) A.in1.in1 (Builtin.Dict.updateFrom "dict.__init__" s.heap.objs.size (.ref b) [] .none) _ _ _
    refine wpAny_mono up (fun q t z => ?_) fun e t z => nomatch z.1
    match q, z with
    | .done fl, z =>
      obtain ⟨e, h', rfl, d1, kp⟩ := z
      cases e
      exact ⟨rfl, h h' d1 kp⟩
    | .again c2, z =>
      refine ⟨z.1, codeAny_mono z.2 fun r t2 y => ?_⟩
      obtain ⟨rfl, h', rfl, d1, kp⟩ := y
      exact ⟨rfl, h h' d1 kp⟩
  · obtain ⟨o, g, c⟩ := tu x hx
    exact ⟨o, Heap.get?_push_of_some _ g, c⟩
  · rw [storedAllH_nil_of_nodup _ nd] at d1
    exact d1
  · exact (sb.2 c (Nat.ne_of_lt (Heap.lt_size g))).trans (Heap.get?_push_of_some _ g)
end
section
variable {X : Cx}
/-- dict(d), a copy; no two keys hash alike -/
def rCopyT (P : Program) (w : World) : List V → Hp → VK → Prop := fun vs H Q => ∃ (a : Addr) (kvs : List (List L2.Key × V)), vs = [V.ref a] ∧ Rd H a (.dT kvs) ∧ (kvs.map fun kv => (tupleKind (mixKind P w)).hash kv.1).Nodup ∧ ∀ p, H p = none → Q (.ref p) (upd H p (.dT kvs))
theorem cr_copyT (hu : X.A.units + 64 < cLine) : CallR X (.type "dict") (rCopyT X.prog X.w) := by
  intro pins s σ H vs us Q inv rel h
  obtain ⟨a, kvs, rfl, ha, hh, k⟩ := h
  obtain rfl := Vals.ref1 rel
  obtain ⟨sz, ns, xs, kt, dd⟩ := dt_rd inv.hok ha
  have le : kvs.length = xs.length := Paired.length kt
  have kq : ∀ {l : List (List L2.Key × V)} {m : List (List L2.Key × Addr × Value)}, L2.KT H l m → (m.map fun x => (tupleKind (mixKind X.prog X.w)).hash x.1) = l.map fun kv => (tupleKind (mixKind X.prog X.w)).hash kv.1 := by
    intro l m z
    induction z with
    | nil => rfl
    | cons q _ ih => rw [List.map_cons, List.map_cons, ih, q.1]
  have tp : ∀ {l : List (List L2.Key × V)} {m : List (List L2.Key × Addr × Value)}, L2.KT H l m → ∀ x ∈ m, H x.2.1 = some (.tup (x.1.map kV)) := by
    intro l m z
    induction z with
    | nil => intro x hx; cases hx
    | cons q _ ih =>
      intro x hx
      rcases List.mem_cons.mp hx with e | e
      · rw [e, ← q.1]; exact q.2.1
      · exact ih x e
  refine copy_call (κ := tupleKind (mixKind X.prog X.w)) (xs := xs) (by show X.A.units + 1 + 1 < cLine; omega) ns dd (fun x hx => ?_) (by rw [kq kt]; exact hh) (by omega) (fun h' kp => ?_) fun h' d1 kp => ?_
  · obtain ⟨_, its, _, o, g, c, _⟩ := (show ObjOk X.prog X.w H s.heap x.2.1 (.tup (x.1.map kV)) from inv.hok _ _ (tp kt x hx))
    exact ⟨o, g, c⟩
  · obtain ⟨o, es, ep, g, c, dt, e, kk, nd⟩ := dd
    refine ⟨o, es, ep, kp _ _ g, c, dt, e, fun x hx => ?_, nd⟩
    obtain ⟨o', its, m, g1, g2⟩ := kk x hx
    exact ⟨o', its, m, kp _ _ g1, g2⟩
  · have n0 : H s.heap.objs.size = none := inv.hok.fresh (Nat.le_refl _)
    obtain ⟨o, es, ep, g, c, dt, e, _, nd⟩ := d1
    refine ⟨.ref s.heap.objs.size, upd H s.heap.objs.size (.dT kvs), inv.laid (t' := s.toks) kp (Nat.le_refl _) ⟨sz, beq_eq_false_iff_ne.mpr (Nat.ne_of_gt inv.big), xs, ?_, o, es, ep, g, c, dt, e, nd⟩, rfl, k _ n0⟩
    exact Paired.mapP kt fun p q z => ⟨z.1, (by rw [upd_ne (ne_of_none z.2.1 n0)]; exact z.2.1), z.2.2⟩
end
theorem lot_hash {P : Program} {w : World} (l : List Nat) : (tupleKind (mixKind P w)).hash (keyK l) = reduceHash (Builtin.Tuple.tupleHashOf (l.map fun (p : Nat) => L2.keyH w (Sum.inl (p : Int)))) := by
  show reduceHash (Builtin.Tuple.tupleHashOf ((keyK l).map (mixKind P w).hash)) = _
  unfold keyK pI
  rw [List.map_map, List.map_map]
  rfl
theorem lots_hash : ∀ n, n < 7 → ((subs n).map fun l => reduceHash (Builtin.Tuple.tupleHashOf (l.map fun (p : Nat) => hashInt (p : Int)))).Nodup := by decide +kernel
theorem keys_hash {P : Program} {w : World} {R : V → List Nat → Prop} {n : Nat} (h6 : n ≤ 6) {kvs : List (List L2.Key × V)} {ls : List (List Nat)} (h : KvL R kvs ls) (hp : ls.Perm (lotsI n)) : (kvs.map fun kv => (tupleKind (mixKind P w)).hash kv.1).Nodup := by
  have e : (kvs.map fun kv => (tupleKind (mixKind P w)).hash kv.1) = ls.map fun l => reduceHash (Builtin.Tuple.tupleHashOf (l.map fun (p : Nat) => hashInt (p : Int))) := by
    have e1 := congrArg (List.map (tupleKind (mixKind P w)).hash) h.keys
    rw [List.map_map, List.map_map] at e1
    refine e1.trans (List.map_congr_left fun l _ => ?_)
    exact lot_hash l
  rw [e]
  exact ((hp.trans (lotsI_perm h6)).map _).nodup_iff.mpr (lots_hash n (by omega))
end CB

set_option Elab.async false
set_option linter.all false
set_option maxRecDepth 100000
set_option maxHeartbeats 4000000
namespace CB
open PySem PySem.Spec PyProof.Rows L2
open C8 (Cal Met Mak pe_c pe_mk pe_mt pe_mt0 pe_gc CalAt)
theorem kv_putR {R R' : V → List Nat → Prop} {v : V} {l : List Nat} {kvs : List (List L2.Key × V)} {ls : List (List Nat)} (h : KvL R kvs ls) (hl : l ∈ ls) (rv : R' v l) (ro : ∀ u m, m ≠ l → R u m → R' u m) : KvL R' (putK kvs (keyK l) v) ls := by
  have any : (kvs.any fun kv => decide (kv.1 = keyK l)) = true := by
    have m : keyK l ∈ kvs.map (·.1) := by rw [h.keys]; exact List.mem_map.mpr ⟨l, hl, rfl⟩
    obtain ⟨kv, m1, m2⟩ := List.mem_map.mp m
    exact List.any_eq_true.mpr ⟨kv, m1, decide_eq_true m2⟩
  unfold putK
  rw [if_pos any]
  clear any hl
  induction h with
  | nil => exact .nil
  | @cons u m kvs ls a t ih =>
    rw [List.map_cons]
    by_cases c : m = l
    · subst c
      rw [if_pos rfl]
      exact .cons rv ih
    · rw [if_neg (show ¬ keyK m = keyK l from fun e => c (keyK_inj e))]
      exact .cons (ro u m c a) ih
/-- with just one more -/
def oneUp (l m : List Nat) : Bool := decide (m.length = l.length + 1) && l.all fun p => decide (p ∈ m)
def lowUp (f : List Nat → Rat) (L : List (List Nat)) (l : List Nat) : Rat := minL (((L.filter (oneUp l)).map f) ++ [1])
theorem join_memW {n p : Nat} {l : List Nat} {q : Nat} : q ∈ joinL n l p ↔ q < n ∧ (q ∈ l ∨ q = p) := by
  unfold joinL
  simp [List.mem_filter, List.mem_range]
theorem right_raised {f : List Nat → Rat} {n N : Nat} {l0 : List Nat} {L : List (List Nat)} (h6 : n ≤ 6) (hr : RightT f n N) (hp : L.Perm (lotsI n)) (h0 : l0 ∈ lotsI n) : RightT (fun l => if l = l0 then lowUp f L l0 else f l) n N := by
  obtain ⟨m1, m2⟩ := minL_mem (l := ((L.filter (oneUp l0)).map f) ++ [1]) (by simp)
  have z0 := hr.zo l0
  have in_cases : ∀ x ∈ ((L.filter (oneUp l0)).map f) ++ [(1 : Rat)], x = 1 ∨ ∃ m ∈ lotsI n, oneUp l0 m = true ∧ x = f m := fun x hx => by
    rcases List.mem_append.mp hx with h | h
    · obtain ⟨m, hm, rfl⟩ := List.mem_map.mp h
      obtain ⟨a, b⟩ := List.mem_filter.mp hm
      exact .inr ⟨m, hp.mem_iff.mp a, b, rfl⟩
    · exact .inl (List.mem_singleton.mp h)
  have up_sub : ∀ m, oneUp l0 m = true → ∀ q ∈ l0, q ∈ m := fun m h q hq => by
    unfold oneUp at h
    rw [Bool.and_eq_true] at h
    exact of_decide_eq_true (List.all_eq_true.mp h.2 q hq)
  have above : f l0 ≤ lowUp f L l0 := by
    rcases in_cases _ m1 with e | ⟨m, hm, u, e⟩
    · show f l0 ≤ minL _
      rw [e]
      exact z0.2
    · show f l0 ≤ minL _
      rw [e]
      exact hr.mono l0 h0 m hm (up_sub m u)
  refine ⟨fun l hl m hm s => ?_, fun l => ?_, fun l => ?_⟩
  · by_cases c : l = l0
    · rw [if_pos c]
      by_cases d : m = l0
      · rw [if_pos d]
        exact Rat.le_refl
      · rw [if_neg d]
        subst c
        obtain ⟨q, hq, nq⟩ : ∃ q ∈ m, q ∉ l := by
          refine Classical.byContradiction fun h => d ?_
          have sub2 : ∀ q ∈ m, q ∈ l := fun q hq => Classical.byContradiction fun z => h ⟨q, hq, z⟩
          have e1 := lots_filter n (by omega) l ((lotsI_perm h6).mem_iff.mp hl)
          have e2 := lots_filter n (by omega) m ((lotsI_perm h6).mem_iff.mp hm)
          rw [e1, e2]
          refine List.filter_congr fun p _ => ?_
          by_cases a : p ∈ m
          · simp [a, sub2 p a]
          · have : p ∉ l := fun z => a (s p z)
            simp [a, this]
        have qn := subs_lt ((lotsI_perm h6).mem_iff.mp hm) q hq
        have cq : l.contains q = false := by simpa using nq
        obtain ⟨jp, _⟩ := joinL_facts n (by omega) l ((lotsI_perm h6).mem_iff.mp hl) q qn cq
        have jl := (List.isPerm_iff.mp jp).length_eq
        rw [List.length_append] at jl
        have ju : oneUp l (joinL n l q) = true := by
          unfold oneUp
          rw [Bool.and_eq_true]
          refine ⟨decide_eq_true jl, List.all_eq_true.mpr fun p hp => decide_eq_true ?_⟩
          exact join_memW.mpr ⟨subs_lt ((lotsI_perm h6).mem_iff.mp hl) p hp, .inl hp⟩
        have a := m2 (f (joinL n l q)) (List.mem_append_left _ (List.mem_map.mpr ⟨_, List.mem_filter.mpr ⟨hp.mem_iff.mpr (joinL_mem h6 l q), ju⟩, rfl⟩))
        have b := hr.mono _ (joinL_mem h6 l q) m hm fun p hp => by
          rcases (join_memW.mp hp).2 with h | h
          · exact s p h
          · rw [h]; exact hq
        exact Rat.le_trans a b
    · rw [if_neg c]
      by_cases d : m = l0
      · rw [if_pos d]
        subst d
        exact Rat.le_trans (hr.mono l hl m hm s) above
      · rw [if_neg d]
        exact hr.mono l hl m hm s
  · show 0 ≤ (if l = l0 then lowUp f L l0 else f l) ∧ (if l = l0 then lowUp f L l0 else f l) ≤ 1
    split
    · have a := m2 1 (List.mem_append_right _ (List.mem_singleton.mpr rfl))
      exact ⟨Rat.le_trans z0.1 above, a⟩
    · exact hr.zo _
  · show Rat.den (if l = l0 then lowUp f L l0 else f l) ∣ N
    split
    · rcases in_cases _ m1 with e | ⟨m, hm, u, e⟩
      · show (minL _).den ∣ N
        rw [e]
        exact Nat.one_dvd _
      · show (minL _).den ∣ N
        rw [e]
        exact hr.den m
    · exact hr.den _
section
variable {P : Program} {w : World} {K : PySem.W.Frag} {mg : Str → Option Value} {base : Heap}
abbrev n__law_raised : List Str := ["_law_dice_here", "_law_people_here", "_law_table_here", "_law_bent", "_law_lot", "_law_more", "_law_other", "_law_one"]
theorem sc__law_raised : FnScope ["_law_dice_here", "_law_people_here", "_law_table_here", "_law_bent", "_law_lot", "_law_more", "_law_other", "_law_one"] ["_law_dice_here", "_law_people_here", "_law_table_here"] (defScope s__law_raised) := ⟨rfl, rfl, rfl, by decide +kernel, rfl, by decide +kernel, by decide +kernel⟩
def sp__law_raised (K : PySem.W.Frag) : Sp := fun vs H Q _ => ∃ (da : Addr × Addr) (d : Addr) (f : List Nat → Rat) (n N : Nat), vs = [.ref da.1, .int (n : Int), .ref d] ∧ Dice H da ∧ d ≠ da.1 ∧ n ≤ 6 ∧ TabF K H d f n ∧ RightT f n N ∧ (∀ l, Sz 1000 (f l)) ∧
  ∀ b f' H', TabF K H' b f' n → RightT f' n N → b ≠ da.1 → Dice H' da → KD da.1 H H' → Q (.ref b) H'
theorem ok__law_raised (F : FnD K mg "_law_raised" s__law_raised) (c__law_lots_t : Cal P w K mg base 2 "_law_lots" (sp__law_lotsH K) []) (c__law_some : Cal P w K mg base 2 "_law_some" (sp__law_some K) []) (c__law_sorted : Cal P w K mg base 2 "_law_sorted" (sp__law_sorted K) []) (T_dict : mg "dict" = none) (T_len : mg "len" = none) (T_all : mg "all" = none) : Cal P w K mg base 3 "_law_raised" (sp__law_raised K) [] := by
  refine calOf F sc__law_raised (fun _ _ _ _ _ _ us hl => match us, hl with | [_, _, _], _ => rfl) (fun vs H Q E h => ?_) (fun cdv fz A outer s H vs Q E hr h => ?_)
  · obtain ⟨_, _, _, _, _, rfl, _⟩ := h
    rfl
  · obtain ⟨da, d, f, n, N, rfl, d0, nd, h6, hT, rt, hsz, k⟩ := h
    have c__law_lots := c__law_lots_t
    refine ⟨_, (pss_cons (ps_set (i := 3) sc__law_raised.nd rfl (Or.inl rfl) (pe_callTy (cr_copyT hr.units) (by rfl) T_dict (by decide +kernel) (pa_cons (pv 2) pa_nil)))
    (pss_cons (ps_set (i := 4) sc__law_raised.nd rfl (Or.inr rfl) (pe_c c__law_some hr (by first | decide | omega) rfl (pa_cons (pv 0) (pa_cons (pe_c c__law_lots hr (by first | decide | omega) rfl (pa_cons (pv 1) pa_nil)) pa_nil))))
    (pss_cons (ps_lock (ps_setLc (i := 5) (own := [("_law_other", 6)]) (tt := tAnd (tTest (tOp rEq (tCB (fun xs H Q => ∃ p ys, xs = [.ref p] ∧ (SqL K H p ys ∨ SqT K H p ys) ∧ Q (.int ys.length) H) (tCons (tVar 6) tNil)) (tOp (rI0 fun i j => V.int (i + j)) (tCB (fun xs H Q => ∃ p ys, xs = [.ref p] ∧ (SqL K H p ys ∨ SqT K H p ys) ∧ Q (.int ys.length) H) (tCons (tVar 4) tNil)) (tC (.int 1))))) (tB (tCB (rAll K) (tCons (tLc (iTup K (tVar 4)) (gName 7) tYes (tOp (rIn K false) (tVar 7) (tVar 6)) [7]) tNil)))) (by rfl) sc__law_raised.nd rfl rfl (sw_true rfl rfl rfl (by decide +kernel)) (pi_keys (pv 2)) (blkOk_by (own := [("_law_other", 6)]) (N := ["_law_dice_here", "_law_people_here", "_law_table_here", "_law_bent", "_law_lot", "_law_more", "_law_other", "_law_one"]) (sc := defScope s__law_raised) (by decide +kernel)) (fun _ _ _ _ _ => (pg_name (i := 6) sc__law_raised.nd rfl (Or.inr rfl))) (fun _ _ _ _ _ => (pts_one (PW.pt (pw_and (pt_cmpR op_eq (pe_callB call_len_seq (by rfl) T_len PySem.boot_len (pa_cons (pv 6) pa_nil)) (pe_op op_add (pe_callB call_len_seq (by rfl) T_len PySem.boot_len (pa_cons (pv 4) pa_nil)) pe_int) (nomark _)) (pw_and1 (pt_val (pe_callB (cr_all rfl) (by rfl) T_all (by decide +kernel) (pa_cons (pe_lc (own := [("_law_one", 7)]) (by rfl) sc__law_raised.nd (pi_tup (pv 4)) (blkOk_by (by kernel_rfl)) (fun _ _ _ _ _ => (pg_name (i := 7) sc__law_raised.nd rfl (Or.inl rfl))) (fun _ _ _ _ _ => pts_nil) (fun _ _ _ _ _ => (pe_cmpR op_in_seq (pv 7) (pv 6) rfl))) pa_nil)))))))) (fun _ _ _ _ _ => (pe_dget (CDu.lt hr.units) (pv 2) (pv 6) (fun _ _ => rfl)))))
    (pss_cons (ps_asg (pe_ix ix_list (pe_c c__law_sorted hr (by first | decide | omega) rfl (pa_cons (pe_op op_cat (pv 5) (pe_lst (pa_cons (pe_tup (pa_cons pe_int (pa_cons pe_int pa_nil))) pa_nil))) pa_nil)) pe_int (fun _ _ => rfl)) (pg_sub (pv 3) (pv 4) (set_dict (CDu.lt hr.units))))
    (pss_one (ps_ret (pv 3))))))), ?_⟩
    obtain ⟨kvs, ls, hd, hk, hp⟩ := id hT
    have ndk : (kvs.map (·.1)).Nodup := by
      rw [hk.keys]
      exact List.Pairwise.map keyK (fun a b e z => e (keyK_inj z)) (hp.nodup_iff.mpr (lotsI_nodup h6))
    have l64 : ls.length ≤ 64 := by rw [hp.length_eq]; exact lotsI_len h6
    refine ⟨_, rfl, d, kvs, rfl, .inl hd, keys_hash h6 hk hp, fun b hb => ?_⟩
    have sb := same_new (o := .dT kvs) hb
    have nB := d0.ne hb
    have bd : b ≠ d := fun e => by rw [e, hd] at hb; cases hb
    have hB : (upd H b (.dT kvs)) b = some (.dT kvs) := upd_same
    have dB := d0.same sb
    change gName 3 _ _ (upd H b (.dT kvs)) _
    generalize upd H b (.dT kvs) = HB at hB dB sb ⊢
    refine ⟨_, rfl, _, rfl, n, rfl, h6, fun pl ys L Ha sa hpn hpl hL pm hby => ?_⟩
    have hpL := pm.trans (lotsI_perm h6).symm
    have L64 : L.length ≤ 64 := by rw [hpL.length_eq]; exact lotsI_len h6
    have L1 : 1 ≤ L.length := by rw [hpL.length_eq]; exact List.length_pos_of_mem (range_in (m := 0) h6 (Nat.zero_le _))
    have yl : ys.length = L.length := hL.length
    have dA := dB.same sa
    refine ⟨da, pl, ys, rfl, dA, hpl, (dB.ne hpn).1, by omega, by omega, fun j y Hb hy db eb => ?_⟩
    obtain ⟨l, hl, ⟨bl, rfl, hbl⟩⟩ := (hL.mono (dA.kt eb)).getV hy
    have hbl' : Hb bl = some (.tup (pV l)) := hbl
    have lm := hpL.mem_iff.mp (List.mem_of_getElem? hl)
    have ll := lot_short h6 lm
    have hBb := eb _ _ nB.1 (sa _ _ hB)
    have hdb := eb _ _ nd (sa _ _ (sb _ _ hd))
    have k0b : KT H Hb := (Same.kt (sb.trans sa)).trans (dA.kt eb)
    have e0b : KD da.1 H Hb := (Same.kd (sb.trans sa)).trans eb
    clear eb hbl hL hpl hpn pm hby sa dA dB sb hB
    refine ⟨d, .dT kvs, hdb, True.intro, fun ob => ?_⟩
    have kL : KT Hb (upd Hb d (.frz ob (.dT kvs))) := kt_lock hdb
    have t1F : (upd Hb d (.frz ob (.dT kvs))) d = some (.frz ob (.dT kvs)) := upd_same
    have back : ∀ H', Same (upd Hb d (.frz ob (.dT kvs))) H' → Same Hb (upd H' d (.dT kvs)) := fun H' s => same_thaw hdb s
    have bF : (upd Hb d (.frz ob (.dT kvs))) bl = some (.tup (pV l)) := kL.1 _ _ hbl'
    generalize upd Hb d (.frz ob (.dT kvs)) = HF at kL t1F back bF ⊢
    refine ⟨_, rfl, d, ob, rfl, .inr ⟨kvs, t1F, fun F0 hF0 => ?_⟩⟩
    have sF := same_new (o := .lst []) hF0
    refine it_keysF (d := d) (o := ob) (kvs := kvs) (fun j H' => ∃ ys : List V, H' F0 = some (.lst ys) ∧ RQ K H' ys (((ls.take j).filter (oneUp l)).map f) ∧ Same HF H')
      ⟨[], upd_same, by rw [List.take_zero]; exact .nil, sF⟩ (fun j H' ⟨_, _, _, e⟩ => e _ _ t1F) ?_ ?_
    · rintro j kk vv tp H2 hk2 htp ⟨ys, f1, f2, f3⟩
      obtain ⟨m, hm1, ek, rvv⟩ := hk.get hk2
      have ek' : kk = keyK m := ek
      subst ek'
      rw [keyK_V] at htp
      have yl2 : ys.length ≤ 64 := by
        rw [RQ.length f2, List.length_map]
        have := List.length_filter_le (oneUp l) (ls.take j)
        rw [List.length_take] at this
        omega
      have b2 := f3 _ _ bF
      have ed : decide (V.int (((pV m).length : Nat) : Int) = V.int ((((pV l).length : Nat) : Int) + 1)) = decide (m.length = l.length + 1) := by
        rw [pV_len, pV_len]
        by_cases c : m.length = l.length + 1
        · rw [decide_eq_true c, c]; exact decide_eq_true rfl
        · rw [decide_eq_false c]; exact decide_eq_false fun e => c (by injection e with e; omega)
      have k02 := (k0b.trans kL).trans (Same.kt f3)
      have fin : ∀ H3, Same H2 H3 → ∀ B : Bool, B = oneUp l m → if B = true then tDGet (tVar 2) (tVar 6) (List.set (wipe (List.set (List.set (L2.start ["_law_dice_here", "_law_people_here", "_law_table_here", "_law_bent", "_law_lot", "_law_more", "_law_other", "_law_one"] [V.ref da.1, V.int (n : Int), V.ref d]) 3 (some (V.ref b))) 4 (some (V.ref bl))) [6]) 6 (some (V.ref tp))) H3 (fun y H4 => ∃ acc, H4 F0 = some (.lst acc) ∧ acc.length < sizeLine ∧ (fun H' => ∃ ys : List V, H' F0 = some (.lst ys) ∧ RQ K H' ys (((ls.take (j + 1)).filter (oneUp l)).map f) ∧ Same HF H') (upd H4 F0 (.lst (acc ++ [y])))) else (fun H' => ∃ ys : List V, H' F0 = some (.lst ys) ∧ RQ K H' ys (((ls.take (j + 1)).filter (oneUp l)).map f) ∧ Same HF H') H3 := by
        intro H3 s23 B eB
        have f1' := s23 _ _ f1
        have f2' := f2.mono (Same.kt s23)
        rw [take_succ' hm1, List.filter_append, List.map_append]
        cases B with
        | true =>
          refine iteT ?_
          refine ⟨_, rfl, _, rfl, d, vv, rfl, .inr ⟨kvs, keyK m, tp, .inr ⟨ob, s23 _ _ (f3 _ _ t1F)⟩, rfl, by rw [keyK_V]; exact s23 _ _ htp, (valV_at ndk (List.mem_of_getElem? hk2)).symm⟩, ?_⟩
          refine ⟨ys, f1', small1000 (by omega), ys ++ [vv], upd_same, ?_, Same.mut (f3.trans s23) hF0⟩
          rw [List.filter_cons_of_pos eB.symm]
          exact RpAll.mono (KT.updl f1') (RQ.snoc f2' (PF.mono (k02.trans (Same.kt s23)) rvv))
        | false =>
          refine iteF ⟨ys, f1', ?_, f3.trans s23⟩
          rw [List.filter_cons_of_neg (by rw [← eB]; decide), List.filter_nil, List.map_nil, List.append_nil]
          exact f2'
      refine ⟨rfl, _, rfl, tp, pV m, rfl, .inr (SqT.of htp), _, rfl, bl, pV l, rfl, .inr (SqT.of b2), _, _, rfl, rfl, rfl, _, rfl, ?_⟩
      rw [ed]
      by_cases c : m.length = l.length + 1
      · rw [decide_eq_true c]
        refine iteT ?_
        refine ⟨_, rfl, bl, rfl, ⟨_, SqT.of b2⟩, fun D hD => ?_⟩
        have sD := same_new (o := .lst []) hD
        refine it_tup (K := K) (a := bl) (xs := pV l) (fun i H' => H' D = some (.lst ((l.take i).map fun p => V.bl (decide (p ∈ m)))) ∧ Same H2 H')
          ⟨upd_same, sD⟩ (fun i H' ⟨_, s5⟩ => SqT.of (s5 _ _ b2)) ?_ ?_
        · rintro i y H4 hy ⟨e1, e3⟩
          obtain ⟨p, hp, rfl⟩ := pV_get hy
          refine ⟨rfl, _, rfl, _, rfl, tp, pV m, rfl, .inr (SqT.of (e3 _ _ htp)), rfl, pV_flat m, ?_⟩
          refine ⟨_, e1, small1000 (by rw [List.length_map, List.length_take]; omega), ?_, Same.mut e3 hD⟩
          rw [take_succ' hp, List.map_append]
          refine upd_same.trans ?_
          rw [if_neg (by decide), pV_in]
          rfl
        · rintro H4 ⟨e1, e3⟩
          rw [pV_len, List.take_length] at e1
          refine ⟨D, l.map fun p => decide (p ∈ m), rfl, ?_, _, rfl, fin H4 e3 _ ?_⟩
          · rw [List.map_map]
            exact SqL.of e1
          · unfold oneUp
            rw [decide_eq_true c, List.all_map]
            rfl
      · rw [decide_eq_false c]
        refine iteF ?_
        refine fin H2 (Same.refl _) false ?_
        unfold oneUp
        rw [decide_eq_false c]
        rfl
    · rintro H2 ⟨ys, f1, f2, f3⟩
      rw [hk.len, List.take_length] at f2
      have dF := f3 _ _ t1F
      have f2' := rq_sq (sq_thaw (K := K) (o := .dT kvs) dF) f2
      have nF : F0 ≠ d := ne_of f1 dF (by intro z; cases z)
      have f1' : (upd H2 d (.dT kvs)) F0 = some (.lst ys) := by rw [upd_ne nF]; exact f1
      have sB := back H2 f3
      refine ⟨dF, ?_⟩
      generalize upd H2 d (.dT kvs) = H3 at f1' f2' sB ⊢
      clear f1 f2 f3 dF t1F kL sF hF0 back bF
      have ul : ys.length ≤ 64 := by
        rw [RQ.length f2', List.length_map]
        exact Nat.le_trans (List.length_filter_le _ _) l64
      refine ⟨_, rfl, (by show 2 ≤ sizeLine; decide), fun pa hpa => ⟨(by show 1 ≤ sizeLine; decide), fun pb hpb => ?_⟩⟩
      have sa := same_new (o := .tup [.int 1, .int 1]) hpa
      have s2 := same_new (o := .lst [.ref pa]) hpb
      have sab := sa.trans s2
      refine ⟨F0, pb, ys, [.ref pa], rfl, rfl, sab _ _ f1', upd_same, Nat.le_of_lt (small1000 (n := ys.length + [V.ref pa].length) (by rw [List.length_singleton]; omega)), fun q hq => ?_⟩
      have sq := same_new (o := .lst (ys ++ [.ref pa])) hq
      have r1 : RF K _ (.ref pa) 1 := PF.mono (Same.kt (s2.trans sq)) ⟨pa, rfl, SqT.of upd_same⟩
      have rAllq : RQ K _ (ys ++ [.ref pa]) ((ls.filter (oneUp l)).map f ++ [1]) := RQ.snoc (RpAll.mono (Same.kt (sab.trans sq)) f2') r1
      refine ⟨q, _, _, rfl, SqL.of upd_same, rAllq, fun x hx => ?_, ?_, fun ps zs' H5 _ s5 hzs rzs => ?_⟩
      · rcases List.mem_append.mp hx with e | e
        · obtain ⟨m, _, rfl⟩ := List.mem_map.mp e
          exact (hsz m).mono (by decide)
        · rw [List.mem_singleton.mp e]
          exact ⟨by decide, by decide⟩
      · rw [List.length_append, List.length_map]
        have := List.length_filter_le (oneUp l) ls
        show (ls.filter (oneUp l)).length + 1 ≤ 100
        omega
      · obtain ⟨v1, e4, rv1⟩ := RQ.get rzs (isort_first (l := (ls.filter (oneUp l)).map f ++ [1]) (by simp))
        have s35 := sB.trans ((sab.trans sq).trans s5)
        have k05 : KT H H5 := k0b.trans (Same.kt s35)
        have hB5 := s35 _ _ hBb
        refine ⟨ps, zs', 0, v1, rfl, rfl, SqL.of hzs, at_of (j := 0) rfl e4, ?_⟩
        refine ⟨_, rfl, _, rfl, b, _, rfl, DPut.t (k := keyK l) hB5 (by rw [keyK_V]; exact s35 _ _ hbl') (by rw [hk.len]; exact Nat.lt_of_le_of_lt l64 (by show 64 < sizeLine; decide)), ?_⟩
        have kU := kt_lock (o := .dT (putK kvs (keyK l) v1)) hB5
        have kUc := k05.trans kU
        have d5 := db.same s35
        refine ⟨_, rfl, ?_⟩
        refine k b (fun l' => if l' = l then lowUp f ls l else f l') _ ⟨_, ls, upd_same, kv_putR hk (hp.mem_iff.mpr lm) ?_ (fun u m ne ru => ?_), hp⟩ (right_raised h6 rt hp lm) nB.1 (d5.upd nB) ?_
        · show RF K _ v1 (if l = l then _ else _)
          rw [if_pos rfl]
          exact PF.mono kU rv1
        · show RF K _ u (if m = l then _ else _)
          rw [if_neg ne]
          exact PF.mono kUc ru
        · exact (e0b.trans (Same.kd s35)).mut hb
end
end CB

set_option Elab.async false
set_option linter.all false
set_option maxRecDepth 100000
set_option maxHeartbeats 4000000
namespace CB
/-! ### the middle one of 2 m + 1 numbers, by counting -/
/-- in a sorted list more than m numbers are at most x: so is the one at m -/
theorem srt_le {l : List Rat} (h : Srt l) {m : Nat} {y x : Rat} (hy : l[m]? = some y) (hc : m < l.countP fun z => decide (z ≤ x)) : y ≤ x := by
  refine Classical.byContradiction fun hn => ?_
  have hlt : x < y := by grind
  have e : l = l.take m ++ l.drop m := (List.take_append_drop m l).symm
  have c2 : (l.drop m).countP (fun z => decide (z ≤ x)) = 0 := by
    rw [List.countP_eq_zero]
    intro z hz
    obtain ⟨j, hj⟩ := List.mem_iff_getElem?.mp hz
    rw [List.getElem?_drop] at hj
    have := srt_get_le h hy hj (by omega)
    simp only [decide_eq_true_eq]
    grind
  have c1 : (l.take m).countP (fun z => decide (z ≤ x)) ≤ m := Nat.le_trans List.countP_le_length (by rw [List.length_take]; omega)
  rw [e, List.countP_append] at hc
  omega
theorem srt_ge {l : List Rat} (h : Srt l) {m : Nat} {y x : Rat} (hy : l[m]? = some y) (hc : l.length < m + 1 + l.countP fun z => decide (x ≤ z)) : x ≤ y := by
  refine Classical.byContradiction fun hn => ?_
  have hlt : y < x := by grind
  have e : l = l.take (m + 1) ++ l.drop (m + 1) := (List.take_append_drop (m + 1) l).symm
  have hml := (List.getElem?_eq_some_iff.mp hy).1
  have c1 : (l.take (m + 1)).countP (fun z => decide (x ≤ z)) = 0 := by
    rw [List.countP_eq_zero]
    intro z hz
    obtain ⟨j, hj⟩ := List.mem_iff_getElem?.mp hz
    rw [List.getElem?_take] at hj
    by_cases c : j < m + 1
    · rw [if_pos c] at hj
      have := srt_get_le h hj hy (by omega)
      simp only [decide_eq_true_eq]
      grind
    · rw [if_neg c] at hj
      cases hj
  have c2 : (l.drop (m + 1)).countP (fun z => decide (x ≤ z)) ≤ l.length - (m + 1) := Nat.le_trans List.countP_le_length (by rw [List.length_drop]; omega)
  rw [e, List.countP_append] at hc
  rw [← e] at hc
  omega
/-- the middle one of the numbers l, by counting on both sides -/
theorem isort_middle {l : List Rat} {m : Nat} {x : Rat} (hm : m < l.length) (h1 : m < l.countP fun z => decide (z ≤ x)) (h2 : l.length < m + 1 + l.countP fun z => decide (x ≤ z)) : (isort l)[m]? = some x := by
  have hl := isort_length l
  have e : (isort l)[m]? = some (isort l)[m] := List.getElem?_eq_getElem (by omega)
  have p := isort_perm l
  have a := srt_le (isort_srt l) e (x := x) (by rw [p.countP_eq]; exact h1)
  have b := srt_ge (isort_srt l) e (x := x) (by rw [p.countP_eq, hl]; exact h2)
  rw [e]
  congr 1
  grind
end CB

set_option Elab.async false
set_option linter.all false
set_option maxRecDepth 100000
set_option maxHeartbeats 4000000
namespace CB
/-! ### the plain mean at 0 and 1 -/
def cntIn (n : Nat) (S : List Nat) : Nat := (List.range n).countP fun i => decide (i ∈ S)
theorem end01_succ (n : Nat) (S : List Nat) : end01 (n + 1) S = end01 n S ++ [if n ∈ S then 1 else 0] := by
  apply List.ext_getElem?
  intro i
  by_cases c : i < n
  · rw [end01_get (by omega), List.getElem?_append_left (by rw [end01_len]; exact c), end01_get c]
  · by_cases d : i = n
    · subst d
      rw [end01_get (by omega), List.getElem?_append_right (by rw [end01_len]; omega), end01_len, Nat.sub_self]
      rfl
    · rw [List.getElem?_eq_none (by rw [end01_len]; omega), List.getElem?_eq_none (by rw [List.length_append, end01_len]; simp only [List.length_cons, List.length_nil]; omega)]
theorem end01_sum (S : List Nat) : ∀ n : Nat, (end01 n S).sum = ((cntIn n S : Nat) : Rat)
  | 0 => by simp [end01, put, cntIn]
  | n + 1 => by
    rw [end01_succ, List.sum_append, end01_sum S n]
    unfold cntIn
    rw [List.range_succ, List.countP_append]
    by_cases c : n ∈ S
    · rw [if_pos c]
      simp [c]
      grind
    · rw [if_neg c]
      simp [c]
      grind
theorem wsum_same (w : Int) : ∀ l : List Rat, (List.zipWith (fun (w : Int) (q : Rat) => (w : Rat) * q) (List.replicate l.length w) l).sum = (w : Rat) * l.sum
  | [] => by simp
  | x :: l => by
    rw [List.length_cons, List.replicate_succ]
    simp only [List.zipWith_cons_cons, List.sum_cons]
    rw [wsum_same w l]
    grind
theorem sum_same (w : Int) : ∀ n : Nat, (List.replicate n w).sum = w * (n : Int)
  | 0 => by simp
  | n + 1 => by
    rw [List.replicate_succ, List.sum_cons, sum_same w n, Int.natCast_succ, Int.mul_add]
    omega
theorem wavg_same {w : Int} {l : List Rat} (hw : 1 ≤ w) (hl : l ≠ []) : wavg (List.replicate l.length w) l = l.sum / ((l.length : Nat) : Rat) := by
  unfold wavg
  rw [wsum_same, sum_same]
  have h1 : (0 : Rat) < (w : Rat) := by
    have : (0 : Int) < w := by omega
    exact_mod_cast this
  have h2 : (0 : Rat) < ((l.length : Nat) : Rat) := by
    have := List.length_pos_iff.mpr hl
    exact_mod_cast this
  rw [Rat.div_def, Rat.div_def, Rat.intCast_mul, Rat.inv_mul_rev]
  have e1 : (w : Rat) * (w : Rat)⁻¹ = 1 := Rat.mul_inv_cancel _ (by grind)
  have e3 : (((l.length : Nat) : Int) : Rat) = ((l.length : Nat) : Rat) := by norm_cast
  rw [e3]
  generalize (((l.length : Nat) : Rat))⁻¹ = v
  generalize (w : Rat)⁻¹ = u at *
  calc (w : Rat) * l.sum * (v * u) = (w : Rat) * u * (l.sum * v) := by grind
    _ = l.sum * v := by rw [e1]; grind
/-- how many of the shares 1 / n … are at least s / n -/
theorem count_from (s : Nat) : ∀ n : Nat, (List.range n).countP (fun k => decide (s ≤ k + 1)) = n - (s - 1)
  | 0 => by simp
  | n + 1 => by
    rw [List.range_succ, List.countP_append, count_from s n]
    by_cases c : s ≤ n + 1
    · simp [c]
      omega
    · simp [c]
      omega
theorem count_to (m : Nat) : ∀ n : Nat, (List.range n).countP (fun k => decide (k + 1 ≤ m)) = min m n
  | 0 => by simp
  | n + 1 => by
    rw [List.range_succ, List.countP_append, count_to m n]
    by_cases c : n + 1 ≤ m
    · simp [c]
      omega
    · simp [c]
      omega
end CB

set_option Elab.async false
set_option linter.all false
set_option maxRecDepth 100000
set_option maxHeartbeats 4000000
namespace CB
/-! ### of the plain mean the outcome is the middle one of the wishes and the shares -/
theorem countP_range {ws : List Rat} {n : Nat} (hw : ws.length = n) (f : Rat → Bool) : ws.countP f = (List.range n).countP fun i => f (ws.getD i 0) := by
  have e : ws = (List.range n).map fun i => ws.getD i 0 := by
    apply List.ext_getElem?
    intro i
    by_cases c : i < n
    · rw [List.getElem?_map, List.getElem?_range c, List.getElem?_eq_getElem (by omega)]
      show some _ = some (ws.getD i 0)
      rw [List.getD_eq_getElem?_getD, List.getElem?_eq_getElem (by omega)]
      rfl
    · rw [List.getElem?_eq_none (by omega), List.getElem?_eq_none (by rw [List.length_map, List.length_range]; omega)]
  have g : ∀ l : List Rat, l = ws → l.countP f = (List.range n).countP fun i => f (ws.getD i 0) := fun l h => by
    rw [h]
    conv => lhs; rw [e]
    rw [List.countP_map]
    rfl
  exact g ws rfl
def shares (n : Nat) : List Rat := (List.range (n - 1)).map fun k => ((k + 1 : Nat) : Rat) / ((n : Nat) : Rat)
theorem div_le {a b n : Nat} (hn : 0 < n) (h : a ≤ b) : ((a : Nat) : Rat) / ((n : Nat) : Rat) ≤ ((b : Nat) : Rat) / ((n : Nat) : Rat) := by
  rw [Rat.div_def, Rat.div_def]
  have h1 : (0 : Rat) < ((n : Nat) : Rat) := by exact_mod_cast hn
  have h2 : ((a : Nat) : Rat) ≤ ((b : Nat) : Rat) := by exact_mod_cast h
  exact Rat.mul_le_mul_of_nonneg_right h2 (Rat.le_of_lt (Rat.inv_pos.mpr h1))
theorem outc_plain {t : Tm} {n z : Nat} {ws : List Rat} (ho : t.Ok n z) (hw : ws.length = n) (hn : 1 ≤ n) (hq : ∀ q ∈ ws, 0 ≤ q ∧ q ≤ 1) (ht : ∀ S, t.val (end01 n S) = ((cntIn n S : Nat) : Rat) / ((n : Nat) : Rat)) : (isort (ws ++ shares n))[n - 1]? = some (outc t n ws) := by
  have sl : (shares n).length = n - 1 := by unfold shares; rw [List.length_map, List.length_range]
  have ll : (ws ++ shares n).length = n + (n - 1) := by rw [List.length_append, sl, hw]
  have wq : ∀ i, i < n → 0 ≤ ws.getD i 0 ∧ ws.getD i 0 ≤ 1 := fun i hi => hq _ (getD_mem (by omega))
  refine isort_middle (by omega) ?_ ?_
  · -- those at most x
    rw [List.countP_append, countP_range hw]
    have hp : (List.range n).countP (fun i => decide (ws.getD i 0 ≤ outc t n ws)) + cntIn n ((List.range n).filter fun i => decide (outc t n ws < ws.getD i 0)) = n := by
      have e := List.length_eq_countP_add_countP (fun i => decide (ws.getD i 0 ≤ outc t n ws)) (l := List.range n)
      rw [List.length_range] at e
      have e2 : cntIn n ((List.range n).filter fun i => decide (outc t n ws < ws.getD i 0)) = (List.range n).countP (fun i => decide ¬(decide (ws.getD i 0 ≤ outc t n ws)) = true) := by
        unfold cntIn
        refine List.countP_congr fun i hi => ?_
        have := List.mem_range.mp hi
        simp only [List.mem_filter, List.mem_range, decide_eq_true_eq]
        constructor
        · rintro ⟨_, h⟩ h2; grind
        · intro h; exact ⟨this, by grind⟩
      omega
    generalize hm : cntIn n ((List.range n).filter fun i => decide (outc t n ws < ws.getD i 0)) = m at hp
    have mx : m = 0 ∨ ((m : Nat) : Rat) / ((n : Nat) : Rat) ≤ outc t n ws := by
      by_cases m0 : m = 0
      · exact .inl m0
      · refine .inr (Classical.byContradiction fun hc => ?_)
        have ne : ((List.range n).filter fun i => decide (outc t n ws < ws.getD i 0)) ≠ [] := by
          intro e
          rw [e] at hm
          unfold cntIn at hm
          simp at hm
          omega
        obtain ⟨p, hp1, hp2⟩ := least_of_list (fun i => ws.getD i 0) ne
        have g := of_decide_eq_true (List.mem_filter.mp hp1).2
        have tv := ht ((List.range n).filter fun i => decide (outc t n ws < ws.getD i 0))
        rw [hm] at tv
        have key : ∃ y : Rat, outc t n ws < y ∧ y ≤ ((m : Nat) : Rat) / ((n : Nat) : Rat) ∧ y ≤ ws.getD p 0 := by
          by_cases d : ((m : Nat) : Rat) / ((n : Nat) : Rat) ≤ ws.getD p 0
          · exact ⟨_, by grind, by grind, d⟩
          · exact ⟨ws.getD p 0, g, by grind, by grind⟩
        obtain ⟨y, y1, y2, y3⟩ := key
        have := outc_ge ho hw (S := (List.range n).filter fun i => decide (outc t n ws < ws.getD i 0)) (x := y) (fun q hq => List.mem_range.mp (List.mem_filter.mp hq).1) (by rw [tv]; exact y2) (fun q hq => by have := hp2 q hq; grind)
        grind
    have mn : m < n := by
      refine Classical.byContradiction fun hc => ?_
      have em : m = n := by omega
      rcases mx with h | h
      · omega
      · rw [em] at h
        have hn0 : (0 : Rat) < ((n : Nat) : Rat) := by exact_mod_cast hn
        have e1 : ((n : Nat) : Rat) / ((n : Nat) : Rat) = 1 := by rw [Rat.div_def]; exact Rat.mul_inv_cancel _ (by grind)
        rw [e1] at h
        have c0 : (List.range n).countP (fun i => decide (ws.getD i 0 ≤ outc t n ws)) = 0 := by omega
        rw [List.countP_eq_zero] at c0
        have := c0 0 (List.mem_range.mpr (by omega))
        have w0 := wq 0 (by omega)
        simp only [decide_eq_true_eq] at this
        grind
    have cs : min m (n - 1) ≤ (shares n).countP (fun z => decide (z ≤ outc t n ws)) := by
      unfold shares
      rw [List.countP_map, ← count_to m (n - 1)]
      refine List.countP_mono_left fun k hk h => ?_
      have hkm := of_decide_eq_true h
      rcases mx with e | e
      · omega
      · have := div_le (n := n) (by omega) hkm
        exact decide_eq_true (by show ((k + 1 : Nat) : Rat) / ((n : Nat) : Rat) ≤ _; grind)
    omega
  · -- those at least x
    rw [List.countP_append, countP_range hw, ll]
    obtain ⟨S, g1, g2, g3, _⟩ := outc_at (t := t) hw
    rw [ht S] at g2
    have cw : cntIn n S ≤ (List.range n).countP (fun i => decide (outc t n ws ≤ ws.getD i 0)) := by
      unfold cntIn
      exact List.countP_mono_left fun i hi h => decide_eq_true (g3 i (of_decide_eq_true h))
    by_cases s0 : cntIn n S = 0
    · rw [s0] at g2
      have x0 : outc t n ws ≤ 0 := by
        have : ((0 : Nat) : Rat) / ((n : Nat) : Rat) = 0 := by rw [Rat.div_def]; simp
        rw [this] at g2
        exact g2
      have c1 : (List.range n).countP (fun i => decide (outc t n ws ≤ ws.getD i 0)) = n := by
        have := List.countP_eq_length (p := fun i => decide (outc t n ws ≤ ws.getD i 0)) (l := List.range n)
        rw [List.length_range] at this
        exact this.mpr fun i hi => decide_eq_true (by have := (wq i (List.mem_range.mp hi)).1; grind)
      omega
    · have cs : n - 1 - (cntIn n S - 1) ≤ (shares n).countP (fun z => decide (outc t n ws ≤ z)) := by
        unfold shares
        rw [List.countP_map, ← count_from (cntIn n S) (n - 1)]
        refine List.countP_mono_left fun k hk h => ?_
        have := div_le (n := n) (by omega) (of_decide_eq_true h)
        exact decide_eq_true (by show _ ≤ ((k + 1 : Nat) : Rat) / ((n : Nat) : Rat); grind)
      omega
end CB

set_option Elab.async false
set_option linter.all false
set_option maxRecDepth 100000
set_option maxHeartbeats 4000000
/-! rules that tell by how many there are -/
namespace CB
open PySem PySem.Spec PyProof.Rows L2
theorem vals_bids {n : Nat} {bs : List Rat} (h : bs.length = n) : Tm.vals bs ((List.range n).map Tm.bid) = bs := by
  rw [vals_map, List.map_map]
  refine List.ext_getElem (by simp [h]) fun i h1 h2 => ?_
  have il : i < bs.length := h2
  simp [Tm.val, List.getD_eq_getElem?_getD, List.getElem?_eq_getElem il]
theorem end01_count (n : Nat) (S : List Nat) (f : Rat → Bool) : (end01 n S).countP f = (List.range n).countP fun i => f (if i ∈ S then 1 else 0) := by
  rw [countP_range (end01_len n S)]
  refine List.countP_congr fun i hi => ?_
  rw [end01_getD (List.mem_range.mp hi)]
theorem cnt_split (n : Nat) (S : List Nat) : (List.range n).countP (fun i => !decide (i ∈ S)) + cntIn n S = n := by
  have h := List.length_eq_countP_add_countP (l := List.range n) (fun i => decide (i ∈ S))
  rw [List.length_range] at h
  have e : (List.range n).countP (fun i => !decide (i ∈ S)) = (List.range n).countP fun a => ¬ (decide (a ∈ S) = true) := List.countP_congr fun i _ => by simp
  unfold cntIn
  rw [e]
  omega
/-- the k-th greatest of bids at 0 and 1 -/
theorem val_ranked {n k : Nat} (hk1 : 1 ≤ k) (hk : k ≤ n) (S : List Nat) : (Tm.ranked k ((List.range n).map Tm.bid)).val (end01 n S) = if k ≤ cntIn n S then 1 else 0 := by
  show kthG (k - 1) (Tm.vals (end01 n S) ((List.range n).map Tm.bid)) = _
  rw [vals_bids (end01_len n S)]
  have el := end01_len n S
  have a := kthG_isort (k - 1) (end01 n S) (by omega)
  have cs := cnt_split n S
  have b : (isort (end01 n S))[(end01 n S).length - 1 - (k - 1)]? = some (if k ≤ cntIn n S then 1 else 0) := by
    by_cases c : k ≤ cntIn n S
    · rw [if_pos c]
      refine isort_middle (by omega) ?_ ?_
      · rw [end01_count, List.countP_eq_length.mpr fun i hi => ?_, List.length_range]
        · omega
        · split <;> decide +kernel
      · rw [end01_count]
        have e : ((List.range n).countP fun i => decide ((1 : Rat) ≤ if i ∈ S then 1 else 0)) = cntIn n S := by
          unfold cntIn
          refine List.countP_congr fun i hi => ?_
          by_cases m : i ∈ S
          · rw [if_pos m]; simp [m]
          · rw [if_neg m]; simp [m]; decide +kernel
        rw [e]
        omega
    · rw [if_neg c]
      refine isort_middle (by omega) ?_ ?_
      · rw [end01_count]
        have e : ((List.range n).countP fun i => decide ((if i ∈ S then (1 : Rat) else 0) ≤ 0)) = (List.range n).countP fun i => !decide (i ∈ S) := by
          refine List.countP_congr fun i hi => ?_
          by_cases m : i ∈ S
          · rw [if_pos m]; simp [m]; decide +kernel
          · rw [if_neg m]; simp [m]
        rw [e]
        omega
      · rw [end01_count, List.countP_eq_length.mpr fun i hi => ?_, List.length_range]
        · omega
        · split <;> decide +kernel
  rw [a] at b
  exact Option.some.inj b
theorem zip_app (a b : List Int) (x y : List Rat) (h : a.length = x.length) : (List.zipWith (fun (w : Int) (q : Rat) => (w : Rat) * q) (a ++ b) (x ++ y)).sum = (List.zipWith (fun (w : Int) (q : Rat) => (w : Rat) * q) a x).sum + (List.zipWith (fun (w : Int) (q : Rat) => (w : Rat) * q) b y).sum := by
  rw [List.zipWith_append h, List.sum_append]
/-- the mean of bids that weigh alike and of a fixed number -/
theorem val_evenmean {n : Nat} {w : Int} {q : Rat} (S : List Nat) : (Tm.mean (List.replicate n w ++ [1]) ((List.range n).map Tm.bid ++ [.fixed q])).val (end01 n S) = ((w : Rat) * ((cntIn n S : Nat) : Rat) + q) / (((w * (n : Int) + 1 : Int)) : Rat) := by
  show wavg _ (Tm.vals (end01 n S) ((List.range n).map Tm.bid ++ [.fixed q])) = _
  have e : Tm.vals (end01 n S) ((List.range n).map Tm.bid ++ [.fixed q]) = end01 n S ++ [q] := by
    have := vals_bids (end01_len n S)
    rw [vals_map] at this ⊢
    rw [List.map_append, this]
    rfl
  rw [e]
  unfold wavg
  rw [zip_app _ _ _ _ (by rw [List.length_replicate, end01_len])]
  have z := wsum_same w (end01 n S)
  rw [end01_len, end01_sum] at z
  rw [z, List.sum_append, sum_same]
  congr 1
  show _ + ((((1 : Int) : Rat) * q) + 0) = _
  have o : ((1 : Int) : Rat) = 1 := by decide +kernel
  rw [o]
  grind
theorem lowest_even {m w b : Int} (hb : 0 < b) (q : Rat) : Rat.divInt (m * w * (q.den : Int) + q.num) (b * (q.den : Int)) = ((w : Rat) * ((m : Int) : Rat) + q) / (b : Rat) := by
  have d0 : ((q.den : Int) : Rat) ≠ 0 := by
    have := q.den_pos
    intro e
    have := Rat.intCast_eq_zero_iff.mp e
    omega
  have b0 : ((b : Int) : Rat) ≠ 0 := fun e => by
    have := Rat.intCast_eq_zero_iff.mp e
    omega
  have hq : q * ((q.den : Int) : Rat) = ((q.num : Int) : Rat) := by
    have e : ((q.num : Int) : Rat) / ((q.den : Int) : Rat) = q := by
      rw [← Rat.divInt_eq_div]
      exact divInt_self' q
    have z := Rat.div_mul_cancel (a := ((q.num : Int) : Rat)) d0
    rw [e] at z
    exact z
  rw [Rat.divInt_eq_div]
  simp only [Rat.intCast_add, Rat.intCast_mul]
  rw [← hq]
  grind
end CB

set_option Elab.async false
set_option linter.all false
set_option maxRecDepth 100000
set_option maxHeartbeats 4000000
namespace CB
open PySem PySem.Spec PyProof.Rows L2
theorem sum_add2 (l : List Nat) (a b : Nat → Rat) : (l.map fun i => a i + b i).sum = (l.map a).sum + (l.map b).sum := by
  induction l with
  | nil => show (0 : Rat) = 0 + 0; grind
  | cons x l ih =>
    show a x + b x + (l.map fun i => a i + b i).sum = (a x + (l.map a).sum) + (b x + (l.map b).sum)
    rw [ih]; grind
theorem sum_nought (l : List Nat) (p : Nat) (x : Rat) (h : p ∉ l) : (l.map fun i => if i = p then x else 0).sum = 0 := by
  induction l with
  | nil => rfl
  | cons y l ih =>
    show (if y = p then x else 0) + (l.map fun i => if i = p then x else 0).sum = 0
    rw [ih (fun m => h (List.mem_cons_of_mem _ m)), if_neg (fun e => h (by rw [← e]; exact List.mem_cons_self))]
    grind
theorem sum_pick (l : List Nat) (p : Nat) (x : Rat) (h : p ∈ l) (nd : l.Nodup) : (l.map fun i => if i = p then x else 0).sum = x := by
  induction l with
  | nil => cases h
  | cons y l ih =>
    have nd' := List.nodup_cons.mp nd
    show (if y = p then x else 0) + (l.map fun i => if i = p then x else 0).sum = x
    by_cases c : y = p
    · rw [if_pos c, sum_nought l p x (by rw [← c]; exact nd'.1)]; grind
    · rw [if_neg c, ih (by rcases List.mem_cons.mp h with e | e; exact absurd e.symm c; exact e) nd'.2]; grind
theorem end01_map (n : Nat) (S : List Nat) : end01 n S = (List.range n).map fun i => if i ∈ S then (1 : Rat) else 0 := by
  refine List.ext_getElem? fun i => ?_
  by_cases c : i < n
  · rw [end01_get c, List.getElem?_map, List.getElem?_range c]; rfl
  · rw [List.getElem?_eq_none (by rw [end01_len]; omega), List.getElem?_eq_none (by simp; omega)]
theorem zip_range (ws : List Int) (g : Nat → Rat) : (List.zipWith (fun (w : Int) (q : Rat) => (w : Rat) * q) ws ((List.range ws.length).map g)) = (List.range ws.length).map fun i => ((ws.getD i 0 : Int) : Rat) * g i := by
  refine List.ext_getElem (by simp) fun i h1 h2 => ?_
  have il : i < ws.length := by simpa using h2
  simp [List.getD_eq_getElem?_getD, List.getElem?_eq_getElem il]
/-- the mean of all bids and of a number, each with its weight -/
def ownTm (ws : List Int) (wf : Int) (q : Rat) : Tm := .mean (ws ++ [wf]) (bidsOf ws.length ++ [.fixed q])
theorem own_val (ws : List Int) (wf : Int) (q : Rat) (S : List Nat) : (ownTm ws wf q).val (end01 ws.length S) = (((List.range ws.length).map fun i => ((ws.getD i 0 : Int) : Rat) * (if i ∈ S then 1 else 0)).sum + (wf : Rat) * q) / ((ws.sum + wf : Int) : Rat) := by
  show wavg _ (Tm.vals (end01 ws.length S) (bidsOf ws.length ++ [.fixed q])) = _
  have e : Tm.vals (end01 ws.length S) (bidsOf ws.length ++ [.fixed q]) = end01 ws.length S ++ [q] := by
    have := vals_bids (end01_len ws.length S)
    rw [vals_map] at this ⊢
    unfold bidsOf
    rw [List.map_append, this]
    rfl
  rw [e]
  unfold wavg
  rw [zip_app _ _ _ _ (by rw [end01_len]), end01_map, zip_range, List.sum_append]
  have o : (List.zipWith (fun (w : Int) (q : Rat) => (w : Rat) * q) [wf] [q]).sum = (wf : Rat) * q := by
    show (wf : Rat) * q + 0 = _
    grind
  have o2 : ([wf] : List Int).sum = wf := by show wf + 0 = wf; omega
  rw [o, o2]
theorem own_nil (ws : List Int) (wf : Int) (q : Rat) : (ownTm ws wf q).val (end01 ws.length []) = ((wf : Rat) * q) / ((ws.sum + wf : Int) : Rat) := by
  rw [own_val]
  have e : ((List.range ws.length).map fun i => ((ws.getD i 0 : Int) : Rat) * (if i ∈ ([] : List Nat) then 1 else 0)).sum = 0 := by
    have : (fun i => ((ws.getD i 0 : Int) : Rat) * (if i ∈ ([] : List Nat) then 1 else 0)) = fun _ => (0 : Rat) := funext fun i => by
      rw [if_neg (by simp)]; grind
    rw [this]
    generalize List.range ws.length = l
    induction l with
    | nil => rfl
    | cons x l ih => show (0 : Rat) + (l.map fun _ => (0 : Rat)).sum = 0; rw [ih]; grind
  rw [e]
  congr 1
  grind
theorem own_up {ws : List Int} {wf : Int} {q : Rat} {p : Nat} {l : List Nat} (hp : p < ws.length) (nl : p ∉ l) : upF (fun l => (ownTm ws wf q).val (end01 ws.length l)) ws.length p l = ((ws.getD p 0 : Int) : Rat) / ((ws.sum + wf : Int) : Rat) := by
  show (ownTm ws wf q).val (end01 ws.length (joinL ws.length l p)) - (ownTm ws wf q).val (end01 ws.length l) = _
  rw [own_val, own_val]
  have e : ((List.range ws.length).map fun i => ((ws.getD i 0 : Int) : Rat) * (if i ∈ joinL ws.length l p then 1 else 0)).sum = ((List.range ws.length).map fun i => ((ws.getD i 0 : Int) : Rat) * (if i ∈ l then 1 else 0)).sum + ((ws.getD p 0 : Int) : Rat) := by
    rw [← sum_pick (List.range ws.length) p ((ws.getD p 0 : Int) : Rat) (List.mem_range.mpr hp) List.nodup_range, ← sum_add2]
    congr 1
    refine List.map_congr_left fun i hi => ?_
    have il := List.mem_range.mp hi
    by_cases c : i = p
    · subst c
      rw [if_pos (join_memW.mpr ⟨il, .inr rfl⟩), if_neg nl, if_pos rfl]
      grind
    · by_cases d : i ∈ l
      · rw [if_pos (join_memW.mpr ⟨il, .inl d⟩), if_pos d, if_neg c]; grind
      · rw [if_neg (fun z => by rcases (join_memW.mp z).2 with h | h; exact d h; exact c h), if_neg d, if_neg c]; grind
  rw [e]
  rw [Rat.div_def, Rat.div_def, Rat.div_def]
  grind
theorem own_wt (ws : List Int) (wf : Int) (q : Rat) : wtD (fun l => (ownTm ws wf q).val (end01 ws.length l)) ws.length = .tuple [.tuple ((ws.map fun w => ((w : Int) : Rat) / ((ws.sum + wf : Int) : Rat)).map qd), qd (((wf : Rat) * q) / ((ws.sum + wf : Int) : Rat))] := by
  have wb : wtB (fun l => (ownTm ws wf q).val (end01 ws.length l)) ws.length = true := List.all_eq_true.mpr fun p hp => List.all_eq_true.mpr fun l hl => decide_eq_true (by
    have pn := List.mem_range.mp hp
    have nl : p ∉ l := by
      unfold woP at hl
      simpa using (List.mem_filter.mp hl).2
    rw [own_up pn nl, own_up pn (by simp)])
  unfold wtD
  rw [if_pos wb]
  show PyData.tuple [_, qd ((ownTm ws wf q).val (end01 ws.length []))] = _
  rw [own_nil]
  have e : ((List.range ws.length).map fun p => upF (fun l => (ownTm ws wf q).val (end01 ws.length l)) ws.length p []) = ws.map fun w => ((w : Int) : Rat) / ((ws.sum + wf : Int) : Rat) := by
    refine List.ext_getElem (by simp) fun i h1 h2 => ?_
    have il : i < ws.length := by simpa using h2
    rw [List.getElem_map, List.getElem_map, List.getElem_range, own_up il (by simp), List.getD_eq_getElem?_getD, List.getElem?_eq_getElem il]
    rfl
  rw [e]
theorem cntsW : ∀ (a b : List Tm), Tm.cnts (a ++ b) = Tm.cnts a + Tm.cnts b
  | [], b => by show Tm.cnts b = 0 + Tm.cnts b; omega
  | t :: a, b => by
    show t.cnt + Tm.cnts (a ++ b) = t.cnt + Tm.cnts a + Tm.cnts b
    rw [cntsW a b]; omega
structure OwnOk (t : Tm) (n : Nat) : Prop where
  ok : t.Ok n 20
  dep : t.dep ≤ 2
  cnt : t.cnt ≤ 10
  dv : ∃ W, 0 < W ∧ W < 2 ^ 60 ∧ t.Dv N0 W
theorem sum_w : ∀ ws : List Int, (∀ w ∈ ws, 1 ≤ w ∧ w ≤ 9) → 0 ≤ ws.sum ∧ ws.sum ≤ 9 * (ws.length : Int)
  | [], _ => by decide
  | w :: ws, h => by
    have a := sum_w ws fun x hx => h x (List.mem_cons_of_mem _ hx)
    have b := h w List.mem_cons_self
    rw [List.sum_cons, List.length_cons]
    omega
theorem own_ok {ws : List Int} {wf : Int} {q : Rat} (h6 : ws.length ≤ 6) (hw : ∀ w ∈ ws, 1 ≤ w ∧ w ≤ 9) (f1 : 1 ≤ wf) (f9 : wf ≤ 9) (nq : NumOk 20 q) (dq : q.den ∣ N0) : OwnOk (ownTm ws wf q) ws.length := by
  have tl : (bidsOf ws.length ++ [Tm.fixed q]).length = ws.length + 1 := by rw [List.length_append, bidsOf_length]; rfl
  have bc := bids_cnt ws.length
  have sw := sum_w ws hw
  have se : (ws ++ [wf]).sum = ws.sum + wf := by
    rw [List.sum_append]
    show ws.sum + (wf + 0) = _
    omega
  refine ⟨?_, ?_, ?_, (ws.sum + wf).toNat, by omega, by omega, ?_⟩
  · refine ⟨(by rw [tl, List.length_append]; rfl), (by intro e; rw [e] at tl; cases tl), (by rw [tl]; omega), fun x hx => ?_, (oks_iff _ _ _).mpr fun t ht => ?_⟩
    · rcases List.mem_append.mp hx with h | h
      · have := hw x h; omega
      · rw [List.mem_singleton.mp h]; omega
    · rcases List.mem_append.mp ht with h | h
      · exact (oks_iff _ _ _).mp (oks_bids (Nat.le_refl _)) t h
      · rw [List.mem_singleton.mp h]; exact nq
  · show Tm.deps (bidsOf ws.length ++ [Tm.fixed q]) + 1 ≤ 2
    have : Tm.deps (bidsOf ws.length ++ [Tm.fixed q]) ≤ 1 := deps_le fun t ht => by
      rcases List.mem_append.mp ht with h | h
      · obtain ⟨p, _, rfl⟩ := List.mem_map.mp h
        exact Nat.le_refl _
      · rw [List.mem_singleton.mp h]; exact Nat.le_refl _
    omega
  · show Tm.cnts (bidsOf ws.length ++ [Tm.fixed q]) + 1 ≤ 10
    have : Tm.cnts (bidsOf ws.length ++ [Tm.fixed q]) ≤ ws.length + 1 := by
      have e := cntsW (bidsOf ws.length) [Tm.fixed q]
      have e2 : Tm.cnts [Tm.fixed q] = 1 := rfl
      omega
    omega
  · refine ⟨by rw [se]; omega, by rw [se, Int.toNat_of_nonneg (by omega)]; exact Int.dvd_refl _, (dvs_iff _ _ _).mpr fun u hu => ?_⟩
    rcases List.mem_append.mp hu with h | h
    · obtain ⟨p, _, rfl⟩ := List.mem_map.mp h
      exact trivial
    · rw [List.mem_singleton.mp h]; exact dq
theorem lowest_own {w b : Int} (hb : 0 < b) (q : Rat) : Rat.divInt (w * q.num) (b * (q.den : Int)) = ((w : Rat) * q) / (b : Rat) := by
  have d0 : ((q.den : Int) : Rat) ≠ 0 := by
    have := q.den_pos
    intro e
    have := Rat.intCast_eq_zero_iff.mp e
    omega
  have b0 : ((b : Int) : Rat) ≠ 0 := fun e => by
    have := Rat.intCast_eq_zero_iff.mp e
    omega
  have hq : q * ((q.den : Int) : Rat) = ((q.num : Int) : Rat) := by
    have e : ((q.num : Int) : Rat) / ((q.den : Int) : Rat) = q := by
      rw [← Rat.divInt_eq_div]
      exact divInt_self' q
    have z := Rat.div_mul_cancel (a := ((q.num : Int) : Rat)) d0
    rw [e] at z
    exact z
  rw [Rat.divInt_eq_div]
  simp only [Rat.intCast_mul]
  rw [← hq]
  grind
end CB

set_option Elab.async false
set_option linter.all false
set_option maxRecDepth 100000
set_option maxHeartbeats 4000000
namespace CB
open PySem PySem.Spec PyProof.Rows L2
open C8 (Cal Met Mak pe_c pe_mk pe_mt pe_mt0 pe_gc CalAt)
section
variable {P : Program} {w : World} {K : PySem.W.Frag} {mg : Str → Option Value} {base : Heap}
def sp_cornersD (K : PySem.W.Frag) (C : Addr) : Sp := fun vs H Q _ => ∃ (r : Addr) (n s : Nat) (t : Tm), vs = [.ref r] ∧ RuleAt K C H r n t ∧ t.Ok n s ∧ 1 ≤ s ∧ s ≤ 9000 ∧ t.dep ≤ 60 ∧ DvB t [] ∧ 1 ≤ n ∧ n ≤ 6 ∧
  ∀ d H', Same H H' → H d = none → TabO K H' d t n → Q (.ref d) H'
theorem ok_corners_t {C : Addr} (F : FnD K mg "corners" s_corners) (hc : Cls K C) (n1 : NoAttr K C "people") (c_all_lots_t : Cal P w K mg base 2 "all_lots" (sp_all_lotsH K) []) (c_corner_of_t : Cal P w K mg base 68 "corner_of" (sp_corner_ofD K C) []) : Cal P w K mg base 69 "corners" (sp_cornersD K C) [] := by
  refine calOf F sc_corners (fun _ _ _ _ _ _ us hl => match us, hl with | [_], _ => rfl) (fun vs H Q E h => ?_) (fun cdv f A outer s H vs Q E hr h => ?_)
  · obtain ⟨_, _, _, _, rfl, _⟩ := h
    rfl
  · obtain ⟨r, n, sz, t, rfl, hR, ho, hs1, hsz, hdep, hwt, hn1, hn, k⟩ := h
    obtain ⟨dx0, vt, hr1, rt⟩ := id hR
    have c_all_lots := c_all_lots_t
    have c_corner_of := c_corner_of_t
    refine ⟨_, (pss_one (ps_ret (DcT.pe_dcT (own := [("lot", 1)]) (EqT.u0 hr) (by rfl) sc_corners.nd (pi_list (pe_c c_all_lots hr (by first | decide | omega) rfl (pa_cons (pe_fld (pv 0) rfl) pa_nil))) (blkOk_by (own := [("lot", 1)]) (N := ["rule", "lot"]) (sc := defScope s_corners) (by decide +kernel)) (fun _ _ _ _ _ => (pg_name (i := 1) sc_corners.nd rfl (Or.inl rfl))) (fun _ _ _ _ _ => (pv 1)) (fun _ _ _ _ _ => (pe_c c_corner_of hr (by first | decide | omega) rfl (pa_cons (pv 0) (pa_cons (pv 1) pa_nil))))))), ?_⟩
    refine ⟨_, rfl, r, C, dx0, _, _, rfl, hr1, hc, n1, ruleF_people n vt, n, rfl, hn, fun p ys H1 s1 hp hy hL => ⟨p, rfl, ⟨_, SqL.of hy⟩, fun D hD => ?_⟩⟩
    have L64 := lotsI_len hn
    have nD := lotsI_nodup hn
    refine it_list (K := K) (a := p) (xs := ys) (fun i H' => ∃ kvs, H' D = some (.dT kvs) ∧ KvL (fun v l => RF K H' v (t.val (end01 n l))) kvs ((lotsI n).take i) ∧ Same H1 H')
      ⟨[], upd_same, by rw [List.take_zero]; exact .nil, same_new hD⟩ (fun i H' ⟨_, _, _, s5⟩ => s5.seq (SqL.of hy)) ?_ ?_
    · rintro i x H' hx ⟨kvs, g1, g2, g3⟩
      obtain ⟨l, hl, ⟨b, rfl, hb⟩⟩ := (hL.mono (Same.kt g3)).getV hx
      have tk := take_succ' hl
      have kl := g2.len
      have s13 := s1.trans g3
      refine ⟨rfl, _, rfl, _, rfl, _, rfl, r, b, n, sz, t, l, rfl, hR.same s13, ho, hs1, hsz, hdep, hwt, hn1, hn, .inr (SqT.of hb), fun v H2 s2 rv => ?_⟩
      have il := (List.getElem?_eq_some_iff.mp hl).1
      have new : keyK l ∉ kvs.map (·.1) := by
        rw [g2.keys]
        intro m
        obtain ⟨l', m', e⟩ := List.mem_map.mp m
        have e' := keyK_inj e
        subst e'
        obtain ⟨j, hj⟩ := List.mem_iff_getElem?.mp m'
        have jl := (List.getElem?_eq_some_iff.mp hj).1
        rw [List.length_take] at jl
        rw [List.getElem?_take, if_pos (by omega)] at hj
        have e1 := (List.getElem?_eq_some_iff.mp hj).2
        have e2 := (List.getElem?_eq_some_iff.mp hl).2
        exact List.pairwise_iff_getElem.mp nD j i (by omega) il (by omega) (e1.trans e2.symm)
      refine ⟨kvs, keyK l, b, rfl, by rw [keyK_V]; exact s2 _ _ hb, s2 _ _ g1, small1000 (by rw [kl, List.length_take]; omega), ?_⟩
      rw [putK_new new]
      refine ⟨_, upd_same, ?_, Same.mut (g3.trans s2) hD⟩
      rw [tk]
      have g1' := s2 _ _ g1
      have up : KT H2 (upd H2 D (.dT (kvs ++ [(keyK l, v)]))) := KT.upt g1'
      exact (g2.imp fun v l rf => rf.mono ((Same.kt s2).trans up)).snoc (rv.mono up)
    · rintro H' ⟨kvs, g1, g2, g3⟩
      rw [hL.length, List.take_length] at g2
      exact k D H' (s1.trans g3) (none_back s1 hD) ⟨kvs, g1, g2⟩
end
end CB

set_option Elab.async false
set_option linter.all false
set_option maxRecDepth 100000
set_option maxHeartbeats 4000000
namespace CB
open PySem PySem.Spec PyProof.Rows L2
open C8 (Cal Met Mak pe_c pe_mk pe_mt pe_mt0 pe_gc CalAt)
theorem right_numW {f : List Nat → Rat} {n N : Nat} (h : RightT f n N) (h0 : 0 < N) (h9 : N < 2 ^ 900) (l : List Nat) : NumOk 900 (f l) := by
  have z := h.zo l
  have d := Nat.le_of_dvd h0 (h.den l)
  have hn : 0 ≤ (f l).num := Rat.num_nonneg.mpr z.1
  have hl : (f l).num ≤ ((f l).den : Int) := by
    have := z.2
    rw [Rat.le_iff] at this
    simpa using this
  have h9' : (f l).den < 2 ^ 900 := Nat.lt_of_le_of_lt d h9
  exact ⟨z.1, z.2, Nat.lt_of_le_of_lt (show (f l).num.natAbs ≤ (f l).den by omega) h9', h9'⟩
theorem right_cornerO {t : Tm} {n s W : Nat} (hW : 0 < W) (ho : t.Ok n s) (hd : t.Dv N0 W) : RightT (fun l => t.val (end01 n l)) n (N0 * W ^ t.dep) := by
  refine ⟨mono_corner ho, fun l => val_01 (end01_len _ _) (end01_01 n l) t ho, fun l => den_of (Nat.mul_pos N0_pos (Nat.pow_pos hW)) (val_dn (fun q hq => ?_) (end01_len n l) ho hd)⟩
  obtain ⟨i, hi, rfl⟩ := List.getElem_of_mem hq
  have il : i < n := by rw [end01_len] at hi; exact hi
  have e := end01_get (ps := l) il
  rw [List.getElem?_eq_getElem hi] at e
  rw [Option.some.inj e]
  split <;> exact Nat.one_dvd _
theorem RuleAt.kdW {K : PySem.W.Frag} {C : Addr} {H H' : Hp} {r : Addr} {n : Nat} {t : Tm} {da : Addr × Addr} (h : RuleAt K C H r n t) (d : Dice H da) (e : KD da.1 H H') : RuleAt K C H' r n t := by
  obtain ⟨dx, v, h1, h2⟩ := h
  obtain ⟨xs, hx⟩ := d.lst
  exact ⟨dx, v, e _ _ (ne_of h1 hx (by intro z; cases z)) h1, h2.mono (d.kt e)⟩
theorem meanD_snocW {ws : List Int} {ts : List Tm} {z : Int} {t : Tm} (h : ws.length = ts.length) : meanD (ws ++ [z]) (Tm.datas (ts ++ [t])) = meanD ws (Tm.datas ts) ++ [.tuple [.int z, t.data]] := by
  rw [datas_map, datas_map, List.map_append]
  unfold meanD
  rw [List.zipWith_append (by rw [List.length_map, h])]
  rfl
theorem meanD_lenW {ws : List Int} {ts : List Tm} (h : ws.length = ts.length) : (meanD ws (Tm.datas ts)).length = ts.length := by
  unfold meanD
  rw [List.length_zipWith, datas_map, List.length_map, h, Nat.min_self]
theorem cut_one (xs : List V) (x : V) : cutV (xs ++ [x]) none (some (-1)) = xs := by
  unfold cutV
  have e : HT.sIx (xs ++ [x]).length (xs ++ [x]).length (some (-1)) = xs.length := by
    unfold HT.sIx
    simp only []
    rw [if_pos (by omega), List.length_append]
    show (-1 + (((xs.length + 1 : Nat)) : Int)).toNat = xs.length
    omega
  rw [HT.sIx_none, e, List.drop_zero, Nat.sub_zero]
  exact List.take_left' rfl
theorem at_lastW (xs : List V) (x : V) : atI (xs ++ [x]) (-1) = some x := by
  unfold atI ixN
  have l : (((xs ++ [x]).length : Nat) : Int) = (xs.length : Int) + 1 := by rw [List.length_append]; rfl
  rw [if_neg (by omega), if_pos (by omega)]
  have e3 : (-1 + (((xs ++ [x]).length : Nat) : Int)).toNat = xs.length := by omega
  show (xs ++ [x])[(-1 + (((xs ++ [x]).length : Nat) : Int)).toNat]? = some x
  rw [e3]
  simp
theorem iteW_off {a b : Prop} (h : b) : if (!true) = true then a else b := h
section
variable {P : Program} {w : World} {K : PySem.W.Frag} {mg : Str → Option Value} {base : Heap}
abbrev n_law : List Str := ["_law_script", "_law_dice_here", "_law_turn", "_law_people_here", "_law_table_here", "_law_kept", "_law_bent", "_law_parts", "_law_bottom", "_law_rule", "_law_weights", "_law_number_here", "_law_last", "_law_person", "_law_weight", "_law_part"]
theorem sc_law : FnScope ["_law_script", "_law_dice_here", "_law_turn", "_law_people_here", "_law_table_here", "_law_kept", "_law_bent", "_law_parts", "_law_bottom", "_law_rule", "_law_weights", "_law_number_here", "_law_last", "_law_person", "_law_weight", "_law_part"] ["_law_script"] (defScope s_law) := ⟨rfl, rfl, rfl, by decide +kernel, rfl, by decide +kernel, by decide +kernel⟩
theorem ok_law {C fa : Addr} {fd : FuncData} (F : FunD K "law" "law" (defArgs s_law) (defBody s_law) (defScope s_law) [] [] fa fd) (hc : Cls K C) (n1 : NoAttr K C "people") (n2 : NoAttr K C "term")
    (c__law_dice : Cal P w K mg base 1 "_law_dice" (sp__law_dice K) []) (c__law_people : Cal P w K mg base 2 "_law_people" sp__law_people []) (c__law_table : Cal P w K mg base 15 "_law_table" (sp__law_table K) []) (c__law_turned : Cal P w K mg base 2 "_law_turned" (sp__law_turned K) [])
    (c_weights_of : Cal P w K mg base 7 "weights_of" (sp_weights_of K) []) (c__law_due : Cal P w K mg base 4 "_law_due" (sp__law_dueW K) []) (c__law_is_told : Cal P w K mg base 2 "_law_is_told" (sp__law_is_toldW K) []) (c__law_raised : Cal P w K mg base 3 "_law_raised" (sp__law_raised K) [])
    (c__law_draw : Cal P w K mg base 1 "_law_draw" sp__law_draw []) (c__law_number_t : Cal P w K mg base 2 "_law_number" (sp__law_numberD K) []) (c__law_lowest : Cal P w K mg base 1 "_law_lowest" (sp_lowest K) []) (c_Rule : Mak P w K mg base 6 "Rule" C (sp_Rule K C) []) (c_corners_t : Cal P w K mg base 69 "corners" (sp_cornersD K C) [])
    (T_list : mg "list" = none) (T_sorted : mg "sorted" = none) (T_sum : mg "sum" = none) (T_tuple : mg "tuple" = none) (T_range : mg "range" = none) : FnOk P w K mg base C8.CX0 72 fa fd ["_law_script"] (sp_law K) := by
  refine fnOkOf F sc_law (fun vs H Q E h => ?_) (fun cdv f A outer s H vs Q E hr h => ?_)
  · obtain ⟨_, _, rfl, _⟩ := h
    rfl
  · obtain ⟨a0, ns, rfl, hS, k⟩ := h
    have c_corners := c_corners_t
    have c__law_number := c__law_number_t
    refine ⟨_, (pss_cons (ps_set (i := 1) sc_law.nd rfl (Or.inr rfl) (pe_c c__law_dice hr (by first | decide | omega) rfl (pa_cons (pv 0) pa_nil)))
    (pss_cons (ps_for PassesOwn.never rfl (pi_range1 (by rfl) T_range (pa_cons pe_int pa_nil)) (pg_name (i := 2) sc_law.nd rfl (Or.inl rfl)) (pss_cons (ps_set (i := 3) sc_law.nd rfl (Or.inl rfl) (pe_c c__law_people hr (by first | decide | omega) rfl (pa_cons (pv 1) pa_nil)))
    (pss_cons (ps_set (i := 4) sc_law.nd rfl (Or.inl rfl) (pe_c c__law_turned hr (by first | decide | omega) rfl (pa_cons (pv 1) (pa_cons (pe_c c__law_table hr (by first | decide | omega) rfl (pa_cons (pv 1) (pa_cons (pv 3) pa_nil))) pa_nil))))
    (pss_cons (ps_set (i := 5) sc_law.nd rfl (Or.inl rfl) (pe_callB (cr_sortD hr.units) (by rfl) T_sorted (by decide +kernel) (pa_cons (pe_callTy (cr_itemsL rfl) (by rfl) T_list (by decide +kernel) (pa_cons (pe_ditemsT (pv 4)) pa_nil)) pa_nil)))
    (pss_cons (ps_if (pt_not (pt_val (pe_c c__law_is_told hr (by first | decide | omega) rfl (pa_cons (pv 3) (pa_cons (pe_c c_weights_of hr (by first | decide | omega) rfl (pa_cons (pv 3) (pa_cons (pv 4) pa_nil))) (pa_cons (pe_c c__law_due hr (by first | decide | omega) rfl (pa_cons (pv 3) (pa_cons (pv 4) pa_nil))) pa_nil)))))) (pss_one (ps_ret pe_bl)) pss_nil)
    (pss_cons (ps_set (i := 6) sc_law.nd rfl (Or.inl rfl) (pe_c c__law_raised hr (by first | decide | omega) rfl (pa_cons (pv 1) (pa_cons (pv 3) (pa_cons (pv 4) pa_nil)))))
    (pss_cons (ps_if (pt_not (pt_val (pe_c c__law_is_told hr (by first | decide | omega) rfl (pa_cons (pv 3) (pa_cons (pe_c c_weights_of hr (by first | decide | omega) rfl (pa_cons (pv 3) (pa_cons (pv 6) pa_nil))) (pa_cons (pe_c c__law_due hr (by first | decide | omega) rfl (pa_cons (pv 3) (pa_cons (pv 6) pa_nil))) pa_nil)))))) (pss_one (ps_ret pe_bl)) pss_nil)
    (pss_cons (ps_if (pt_cmpR (op_neD hr.units) (pe_callB (cr_sortD hr.units) (by rfl) T_sorted (by decide +kernel) (pa_cons (pe_callTy (cr_itemsL rfl) (by rfl) T_list (by decide +kernel) (pa_cons (pe_ditemsT (pv 4)) pa_nil)) pa_nil)) (pv 5) (nomark _)) (pss_one (ps_ret pe_bl)) pss_nil)
    (pss_cons (ps_setLc (i := 7) (own := [("_law_person", 13)]) (by rfl) sc_law.nd rfl rfl (sw_true rfl rfl rfl (by decide +kernel)) (pi_range1 (by rfl) T_range (pa_cons (pv 3) pa_nil)) (blkOk_by (own := [("_law_person", 13)]) (N := ["_law_script", "_law_dice_here", "_law_turn", "_law_people_here", "_law_table_here", "_law_kept", "_law_bent", "_law_parts", "_law_bottom", "_law_rule", "_law_weights", "_law_number_here", "_law_last", "_law_person", "_law_weight", "_law_part"]) (sc := defScope s_law) (by decide +kernel)) (fun _ _ _ _ _ => (pg_name (i := 13) sc_law.nd rfl (Or.inl rfl))) (fun _ _ _ _ _ => pts_nil) (fun _ _ _ _ _ => (pe_tup (pa_cons (pe_op op_add pe_int (pe_c c__law_draw hr (by first | decide | omega) rfl (pa_cons (pv 1) (pa_cons pe_int pa_nil)))) (pa_cons (pe_tup (pa_cons pe_str (pa_cons (pv 13) pa_nil))) pa_nil)))))
    (pss_cons (ps_expr (pe_bm PySem.F.plainAttrs_list PySem.F.slot_list_append PySem.F.type_list_append mt_append (pv 7) (pa_cons (pe_tup (pa_cons (pe_op op_add pe_int (pe_c c__law_draw hr (by first | decide | omega) rfl (pa_cons (pv 1) (pa_cons pe_int pa_nil)))) (pa_cons (pe_tup (pa_cons pe_str (pa_cons (pe_c c__law_number hr (by first | decide | omega) rfl (pa_cons (pv 1) pa_nil)) pa_nil))) pa_nil))) pa_nil)))
    (pss_cons (ps_set (i := 8) sc_law.nd rfl (Or.inr rfl) (pe_callB (cr_sum rfl) (by rfl) T_sum (by decide +kernel) (pa_cons (pe_lc (own := [("_law_weight", 14), ("_law_part", 15)]) (g := (gTup K 2 (gCons (gName 14) (gCons (gName 15) gNil)))) (by rfl) sc_law.nd (pi_list (pv 7)) (blkOk_by (own := [("_law_weight", 14), ("_law_part", 15)]) (N := ["_law_script", "_law_dice_here", "_law_turn", "_law_people_here", "_law_table_here", "_law_kept", "_law_bent", "_law_parts", "_law_bottom", "_law_rule", "_law_weights", "_law_number_here", "_law_last", "_law_person", "_law_weight", "_law_part"]) (sc := defScope s_law) (by decide +kernel)) (fun _ _ _ _ _ => (pg_tup rfl (pgs_cons (pg_name (i := 14) sc_law.nd rfl (Or.inl rfl)) (pgs_cons (pg_name (i := 15) sc_law.nd rfl (Or.inl rfl)) pgs_nil)))) (fun _ _ _ _ _ => pts_nil) (fun _ _ _ _ _ => (pv 14))) pa_nil)))
    (pss_cons (ps_set (i := 9) sc_law.nd rfl (Or.inl rfl) (pe_mk c_Rule hr (by first | decide | omega) rfl (pa_cons (pv 3) (pa_cons (pe_tup (pa_cons pe_str (pa_cons (pe_callTy call_tuple_of (by rfl) T_tuple (by decide +kernel) (pa_cons (pv 7) pa_nil)) pa_nil))) pa_nil))))
    (pss_cons (ps_set (i := 10) sc_law.nd rfl (Or.inl rfl) (pe_callTy call_tuple_of (by rfl) T_tuple (by decide +kernel) (pa_cons (pe_lc (own := [("_law_weight", 14), ("_law_part", 15)]) (g := (gTup K 2 (gCons (gName 14) (gCons (gName 15) gNil)))) (by rfl) sc_law.nd (pi_list (pe_slice sl_list (pv 7) po_none (po_some (pe_un un_neg pe_int)))) (blkOk_by (own := [("_law_weight", 14), ("_law_part", 15)]) (N := ["_law_script", "_law_dice_here", "_law_turn", "_law_people_here", "_law_table_here", "_law_kept", "_law_bent", "_law_parts", "_law_bottom", "_law_rule", "_law_weights", "_law_number_here", "_law_last", "_law_person", "_law_weight", "_law_part"]) (sc := defScope s_law) (by decide +kernel)) (fun _ _ _ _ _ => (pg_tup rfl (pgs_cons (pg_name (i := 14) sc_law.nd rfl (Or.inl rfl)) (pgs_cons (pg_name (i := 15) sc_law.nd rfl (Or.inl rfl)) pgs_nil)))) (fun _ _ _ _ _ => pts_nil) (fun _ _ _ _ _ => (pe_c c__law_lowest hr (by first | decide | omega) rfl (pa_cons (pv 14) (pa_cons (pv 8) pa_nil))))) pa_nil)))
    (pss_cons (ps_set (i := 11) sc_law.nd rfl (Or.inl rfl) (pe_ix ix_tup (pe_ix ix_tup (pe_ix ix_list (pv 7) (pe_un un_neg pe_int) (fun _ _ => rfl)) pe_int (fun _ _ => rfl)) pe_int (fun _ _ => rfl)))
    (pss_cons (ps_set (i := 12) sc_law.nd rfl (Or.inl rfl) (pe_c c__law_lowest hr (by first | decide | omega) rfl (pa_cons (pe_op op_mulW (pe_ix ix_tup (pe_ix ix_list (pv 7) (pe_un un_neg pe_int) (fun _ _ => rfl)) pe_int (fun _ _ => rfl)) (pe_ix ix_tup (pv 11) pe_int (fun _ _ => rfl))) (pa_cons (pe_op op_mulW (pv 8) (pe_ix ix_tup (pv 11) pe_int (fun _ _ => rfl))) pa_nil))))
    (pss_one (ps_if (pt_cmpR (op_neD hr.units) (pe_c c_weights_of hr (by first | decide | omega) rfl (pa_cons (pv 3) (pa_cons (pe_c c_corners hr (by first | decide | omega) rfl (pa_cons (pv 9) pa_nil)) pa_nil))) (pe_tup (pa_cons (pv 10) (pa_cons (pv 12) pa_nil))) (nomark _)) (pss_one (ps_ret pe_bl)) pss_nil)))))))))))))))))
    (pss_one (ps_ret pe_bl)))), ?_⟩
    refine ⟨_, rfl, a0, ns, rfl, hS, fun da H1 _ s1 d1 => ?_⟩
    refine ⟨3, rfl, by decide, by decide, ?_⟩
    refine for_range (lo := 0) (n := (3 : Int).toNat) (fun i σ H' => ∃ x2 x3 x4 x5 x6 x7 x8 x9 xa xb xc xd xe xf : Option V, σ = [some (.ref a0), some (.ref da.1), x2, x3, x4, x5, x6, x7, x8, x9, xa, xb, xc, xd, xe, xf] ∧ Dice H' da)
      ⟨none, none, none, none, none, none, none, none, none, none, none, none, none, none, rfl, d1⟩ ?_ ?_
    · clear d1 s1
      rintro i σ H2 hi ⟨_, x3, x4, x5, x6, x7, x8, x9, xa, xb, xc, xd, xe, xf, rfl, d2⟩
      refine ⟨_, rfl, da, rfl, d2, fun n H3 hn1 hn6 d3 e3 => ⟨_, rfl, _, rfl, _, rfl, da, n, rfl, d3, hn1, hn6, fun dd f N H4 T4 rt N1 N9 nd0 d4 e4 => ⟨da, dd, f, n, rfl, d4, nd0, hn6, T4, fun d H5 T5 nd d5 e5 => ⟨_, rfl, ?_⟩⟩⟩⟩
      obtain ⟨kvs, ls, hd, hk, hp⟩ := id T5
      have l64 : ls.length ≤ 64 := by rw [hp.length_eq]; exact lotsI_len hn6
      have rn := fun l => right_numW rt N1 N9 l
      have sz1 : ∀ l, Sz 1000 (f l) := fun l => (rn l).2.2.mono (by decide)
      clear T4 d4 e4 nd0 d3 e3 d2 e5
      refine ⟨.inr (.inr (.inl ⟨rfl, .inr ⟨kvs, hd⟩⟩)), ?_⟩
      refine kept_ok hd hk l64 (fun _ _ h => h) (fun _ _ h => h) fun kp H6 s6 hk0 k6 => ?_
      have nk := (d5.ne hk0).1
      have d6 := d5.same s6
      refine ⟨_, rfl, _, rfl, _, rfl, d, f, n, 900, rfl, hn1, hn6, T5.same s6, by decide, fun l _ => rn l, rt.mono.right hn6, sz1, fun vt H7 s7 rv => ⟨_, rfl, _, rfl, d, f, n, N, rfl, hn6, (T5.same s6).same s7, rt, N1, N9, sz1, fun vd H8 s8 rd => ⟨vt, vd, f, n, N, rfl, hn6, rv.mono (Same.kt s8), rd, rt, fun H9 s9 => ⟨_, rfl, iteW_off ?_⟩⟩⟩⟩
      have s59 := s6.trans (s7.trans (s8.trans s9))
      have d9 := d5.same s59
      have T9 := T5.same s59
      have hd9 := s59 _ _ hd
      have hk9 : KvL (fun v l => RF K H9 v (f l)) kvs ls := hk.imp fun v l r => r.mono (Same.kt s59)
      have k9 := k6.same (s7.trans (s8.trans s9))
      clear rv rd s9 s8 s7 s6 s59 hk0 d6 k6 T5 hd hk d5
      refine ⟨_, rfl, _, rfl, _, rfl, da, d, f, n, N, rfl, d9, nd, hn6, T9, rt, sz1, fun b f' Ha Tb rt' nb da' ea => ?_⟩
      have rn' := fun l => right_numW rt' N1 N9 l
      have sz2 : ∀ l, Sz 1000 (f' l) := fun l => (rn' l).2.2.mono (by decide)
      have ka := d9.kt ea
      have hda := ea _ _ nd hd9
      have hka : KvL (fun v l => RF K Ha v (f l)) kvs ls := hk9.imp fun v l r => r.mono ka
      have kpa := k9.kd ea ka nk
      clear T9 hd9 hk9 k9 d9 ea ka
      refine ⟨_, rfl, _, rfl, _, rfl, b, f', n, 900, rfl, hn1, hn6, Tb, by decide, fun l _ => rn' l, rt'.mono.right hn6, sz2, fun vt Hb sb rv => ⟨_, rfl, _, rfl, b, f', n, N, rfl, hn6, Tb.same sb, rt', N1, N9, sz2, fun vd Hc sc rd => ⟨vt, vd, f', n, N, rfl, hn6, rv.mono (Same.kt sc), rd, rt', fun Hd sd => ⟨_, rfl, iteW_off ?_⟩⟩⟩⟩
      have sad := sb.trans (sc.trans sd)
      have dd' := da'.same sad
      have hdd := sad _ _ hda
      have hkd : KvL (fun v l => RF K Hd v (f l)) kvs ls := hka.imp fun v l r => r.mono (Same.kt sad)
      have kpd := kpa.same sad
      clear rv rd sb sc sd sad da' hda hka kpa Tb rn' sz2 rt'
      refine ⟨_, rfl, .inr (.inr (.inl ⟨rfl, .inr ⟨kvs, hdd⟩⟩)), ?_⟩
      refine kept_ok hdd hkd l64 (fun _ _ h => h) (fun _ _ h => h) fun kq He se hqe ke => ?_
      refine ⟨_, rfl, _, _, ke.dp, (kpd.same se).dp, kept_shaped _ _, kept_shaped _ _, _, rfl, ?_⟩
      rw [kept_eqv]
      refine iteW_off ?_
      have de := dd'.same se
      clear ke hqe se dd' hdd hkd kpd nk rt N1 N9 rn sz1
      refine ⟨_, rfl, _, rfl, by omega, by omega, fun D hD => ?_⟩
      have nD2 := de.ne hD
      have nD := nD2.1
      refine lc_range (lo := 0) (n := ((n : Nat) : Int).toNat) (fun i H' => ∃ (ws : List Int) (ys : List V), ws.length = i ∧ (∀ w ∈ ws, 1 ≤ w ∧ w ≤ 9) ∧ H' D = some (.lst ys) ∧ RpAll K H' ys (meanD ws (Tm.datas (bidsOf i))) ∧ Dice H' da)
        ⟨[], [], rfl, (fun w h => nomatch h), upd_same, .nil, de.same (same_new hD)⟩ ?_ ?_
      · rintro i Hf hi ⟨ws, ys, g1, g2, g3, g4, g5⟩
        have ez : (0 : Int) + ((i : Nat) : Int) = ((i : Nat) : Int) := Int.zero_add _
        rw [ez]
        refine ⟨rfl, _, rfl, da, 9, rfl, g5, by decide, by decide, fun x Hg x0 x1 dg eg => ⟨_, _, rfl, rfl, _, rfl, (by show 2 ≤ sizeLine; decide), fun p hp => ⟨(by show 2 ≤ sizeLine; decide), fun q hq => ?_⟩⟩⟩
        have s1 := same_new (o := .tup [.str "bid", .int ((i : Nat) : Int)]) hp
        have s2 := same_new (o := .tup [.int (1 + x), .ref p]) hq
        have s12 := s1.trans s2
        have g3' := s12 _ _ (eg _ _ nD g3)
        have g4' := RpAll.mono ((g5.kt eg).trans (Same.kt s12)) g4
        have yl : ys.length ≤ 6 := by rw [g4.length, meanD_lenW (by rw [g1, bidsOf_length]), bidsOf_length]; omega
        refine ⟨ys, g3', small1000 (by omega), ws ++ [1 + x], ys ++ [.ref q], (by rw [List.length_append, g1]; rfl), (fun w hw => ?_), upd_same, ?_, (dg.same s12).upd nD2⟩
        · rcases List.mem_append.mp hw with h | h
          · exact g2 w h
          · rw [List.mem_singleton.mp h]; omega
        · refine RpAll.mono (KT.updl g3') ?_
          have eb : bidsOf (i + 1) = bidsOf i ++ [.bid i] := by simp [bidsOf, List.range_succ]
          rw [eb, meanD_snocW (by rw [g1, bidsOf_length])]
          exact RpAll.append g4' (.cons (.tup (SqT.of upd_same) (.cons (.int _) (.cons (.tup ((Same.kt s2).sq (SqT.of upd_same)) (.cons (.str _) (.cons (.int _) .nil))) .nil))) .nil)
      rintro Hf ⟨ws, ys, g1, g2, g3, g4, g5⟩
      rw [Int.toNat_natCast] at g1 g4
      clear hD de
      have yl : ys.length = n := by rw [g4.length, meanD_lenW (by rw [g1, bidsOf_length]), bidsOf_length]
      refine ⟨_, rfl, .inl ⟨rfl, _, SqL.of g3⟩, _, rfl, da, 9, rfl, g5, by decide, by decide, fun x Hg x0 x1 dg eg => ⟨_, _, rfl, rfl, _, rfl, da, rfl, dg, fun vq q Hh nq dq rq dh eh => ⟨(by show 2 ≤ sizeLine; decide), fun p1 hp1 => ⟨(by show 2 ≤ sizeLine; decide), fun p2 hp2 => ?_⟩⟩⟩⟩
      obtain ⟨wf, hwf⟩ : ∃ j : Int, 1 + x = j := ⟨_, rfl⟩
      have s1 := same_new (o := .tup [.str "fixed", vq]) hp1
      have s2 := same_new (o := .tup [.int (1 + x), .ref p1]) hp2
      have s12 := s1.trans s2
      have g3' := s12 _ _ (eh _ _ nD (eg _ _ nD g3))
      have g4' := RpAll.mono (((g5.kt eg).trans (dg.kt eh)).trans (Same.kt s12)) g4
      refine ⟨D, ys, .ref p2, rfl, rfl, g3', small1000 (by omega), ?_⟩
      have d1 := (dh.same s12).upd (o := .lst (ys ++ [.ref p2])) nD2
      have kU := KT.updl (o := .lst (ys ++ [.ref p2])) g3'
      have gD : (upd (upd (upd Hh p1 (.tup [.str "fixed", vq])) p2 (.tup [.int (1 + x), .ref p1])) D (.lst (ys ++ [.ref p2]))) D = some (.lst (ys ++ [.ref p2])) := upd_same
      have r1 := PF.mono ((Same.kt s12).trans kU) rq
      have q1 : SqT K _ p1 [.str "fixed", vq] := kU.sq ((Same.kt s2).sq (SqT.of (upd_same (H := Hh) (a := p1) (o := .tup [.str "fixed", vq]))))
      have q2 : SqT K _ p2 [.int (1 + x), .ref p1] := kU.sq (SqT.of (upd_same (H := upd Hh p1 (.tup [.str "fixed", vq])) (a := p2) (o := .tup [.int (1 + x), .ref p1])))
      have g4'' := RpAll.mono kU g4'
      change tSeq _ _ _ _ (upd (upd (upd Hh p1 (.tup [.str "fixed", vq])) p2 (.tup [.int (1 + x), .ref p1])) D (.lst (ys ++ [.ref p2])))
      generalize upd (upd (upd Hh p1 (.tup [.str "fixed", vq])) p2 (.tup [.int (1 + x), .ref p1])) D (.lst (ys ++ [.ref p2])) = H1 at *
      rw [hwf] at q2
      have f1 : 1 ≤ wf := by omega
      have f9 : wf ≤ 9 := by omega
      clear g3 g4 g5 eg dg eh dh hp1 hp2 s1 s2 s12 g3' g4' kU rq x0 x1 hwf
      have rp : RpAll K H1 (ys ++ [.ref p2]) (meanD (ws ++ [wf]) (Tm.datas (bidsOf n ++ [.fixed q]))) := by
        rw [meanD_snocW (by rw [g1, bidsOf_length])]
        exact RpAll.append g4'' (.cons (.tup q2 (.cons (.int _) (.cons (.tup q1 (.cons (.str _) (.cons r1.rp .nil))) .nil))) .nil)
      obtain ⟨ps, hps⟩ : ∃ ps, ys ++ [V.ref p2] = ps := ⟨_, rfl⟩
      have pl : ps.length = n + 1 := by rw [← hps, List.length_append, yl]; rfl
      rw [hps] at gD rp
      have sw := sum_w ws g2
      have se : (ws ++ [wf]).sum = ws.sum + wf := by
        rw [List.sum_append]
        show ws.sum + (wf + 0) = _
        omega
      refine ⟨_, rfl, D, rfl, ⟨_, SqL.of gD⟩, fun M hM => ?_⟩
      refine it_list (K := K) (a := D) (xs := ps) (fun i H2 => H2 M = some (.lst (((ws ++ [wf]).take i).map V.int)) ∧ Same H1 H2)
        ⟨by rw [List.take_zero]; exact upd_same, same_new hM⟩ (fun i H2 ⟨_, s6⟩ => SqL.of (s6 _ _ gD)) ?_ ?_
      · rintro i x H2 hx ⟨a1, a2⟩
        obtain ⟨c, z, t, y, rfl, e1, e2, b1, b2⟩ := mean_part rp hx
        have hi := (List.getElem?_eq_some_iff.mp hx).1
        refine ⟨c, _, rfl, (Same.kt a2).sq b1, rfl, _, _, rfl, _, _, rfl, rfl, rfl, _, rfl, _, a1, by rw [List.length_map, List.length_take]; exact small1000 (by omega), ?_, Same.mut a2 hM⟩
        rw [take_succ' e1, List.map_append]
        exact upd_same
      rintro H2 ⟨a1, a2⟩
      rw [List.take_of_length_le (by rw [List.length_append, g1, pl]; exact Nat.le_refl _)] at a1
      refine ⟨M, ws ++ [wf], rfl, SqL.of a1, ?_⟩
      rw [se]
      obtain ⟨B, hB⟩ : ∃ j : Int, ws.sum + wf = j := ⟨_, rfl⟩
      rw [hB]
      have B1 : 0 < B := by omega
      have B60 : B ≤ 63 := by omega
      have d2' := d1.same a2
      have gD2 := a2 _ _ gD
      have rp2' := RpAll.mono (Same.kt a2) rp
      have g42 := RpAll.mono (Same.kt a2) g4''
      have r2 := r1.mono (Same.kt a2)
      have q12 := (Same.kt a2).sq q1
      have q22 := (Same.kt a2).sq q2
      clear a1 a2 hM d1 gD rp g4'' r1 q1 q2
      -- the rule
      refine ⟨_, rfl, _, rfl, D, ps, rfl, .inl ⟨SqL.of gD2, fun pa hpa => ⟨(by show 2 ≤ sizeLine; decide), fun pb hpb => fun rr dx nx ndx nex => ?_⟩⟩⟩
      have sa := same_new (o := .tup ps) hpa
      have sb := same_new (o := .tup [.str "mean", .ref pa]) hpb
      have sc : Same (upd (upd H2 pa (.tup ps)) pb (.tup [.str "mean", .ref pa])) (upd (upd (upd (upd H2 pa (.tup ps)) pb (.tup [.str "mean", .ref pa])) dx (.own rr)) rr (.ins C dx [])) := (same_new ndx).trans (same_new (by rw [upd_ne (Ne.symm nex)]; exact nx))
      have ww : ∀ w ∈ ws, 1 ≤ w ∧ w ≤ 9 := g2
      have oo : OwnOk (ownTm ws wf q) n := by
        subst g1
        exact own_ok hn6 ww f1 f9 nq dq
      have ow : wtD (fun l => (ownTm ws wf q).val (end01 n l)) n = .tuple [.tuple ((ws.map fun w => ((w : Int) : Rat) / (B : Rat)).map qd), qd (((wf : Rat) * q) / (B : Rat))] := by
        subst g1
        rw [← hB]
        exact own_wt ws wf q
      have td : (ownTm ws wf q).data = .tuple [.str "mean", .tuple (meanD (ws ++ [wf]) (Tm.datas (bidsOf n ++ [.fixed q])))] := by
        subst g1
        rfl
      obtain ⟨t, ht⟩ : ∃ t, ownTm ws wf q = t := ⟨_, rfl⟩
      rw [ht] at oo ow td
      have rm : Rp K (upd (upd H2 pa (.tup ps)) pb (.tup [.str "mean", .ref pa])) (.ref pb) t.data := by
        rw [td]
        exact .tup (SqT.of upd_same) (.cons (.str _) (.cons (.tup ((Same.kt sb).sq (SqT.of upd_same)) (RpAll.mono (Same.kt (sa.trans sb)) rp2')) .nil))
      have ok := oo.ok
      have dep := oo.dep
      have cnt := oo.cnt
      obtain ⟨W, W1, W60, dvW⟩ := oo.dv
      refine ⟨rr, dx, .ref pb, n, 20, t, rfl, upd_same, rm.mono (Same.kt sc), ok, by decide, by omega, by omega, hn1, hn6, fun H5 k5 hR5 => ⟨rfl, ?_⟩⟩
      have sR : Same (upd (upd H2 pa (.tup ps)) pb (.tup [.str "mean", .ref pa])) H5 := fun b o e => k5 b o (ne_of_none e nx) (sc b o e)
      have R5 : RuleAt K C H5 rr n t := ⟨dx, .ref pb, hR5, rm.mono (Same.kt sR)⟩
      have s25 := (sa.trans sb).trans sR
      have d5 := d2'.same s25
      have gD5 := s25 _ _ gD2
      have g45 := RpAll.mono (Same.kt s25) g42
      have r5 := r2.mono (Same.kt s25)
      have q15 := (Same.kt s25).sq q12
      have q25 := (Same.kt s25).sq q22
      clear k5 hR5 sR sc sb sa nex ndx nx s25 rm rp2' g42 d2' gD2 r2 q12 q22 hpa hpb td oo
      -- the weights
      refine ⟨_, rfl, ?_⟩
      dsimp only [tNoPart]
      refine ⟨_, rfl, (-1 : Int), rfl, D, _, rfl, SqL.of gD5, fun c0 hc0 => ?_⟩
      have ec : cutV ps none (some (-1)) = ys := by rw [← hps]; exact cut_one _ _
      rw [ec]
      have s6 := same_new (o := .lst ys) hc0
      have hC : (upd H5 c0 (.lst ys)) c0 = some (.lst ys) := upd_same
      have gD6 := s6 _ _ gD5
      have R6 := R5.same s6
      have d6 := d5.same s6
      have g46 := RpAll.mono (Same.kt s6) g45
      have r6 := r5.mono (Same.kt s6)
      have q16 := (Same.kt s6).sq q15
      have q26 := (Same.kt s6).sq q25
      clear gD5 R5 d5 g45 r5 q15 q25 s6 hc0
      generalize upd H5 c0 (.lst ys) = H6 at *
      refine ⟨_, rfl, ⟨_, SqL.of hC⟩, fun M hM => ?_⟩
      refine it_list (K := K) (a := c0) (xs := ys) (fun i H' => ∃ zs, H' M = some (.lst zs) ∧ RQ K H' zs ((ws.take i).map fun w => ((w : Int) : Rat) / (B : Rat)) ∧ Same H6 H')
        ⟨[], upd_same, by rw [List.take_zero]; exact .nil, same_new hM⟩ (fun i H' ⟨_, _, _, s7⟩ => SqL.of (s7 _ _ hC)) ?_ ?_
      · rintro i x H' hx ⟨zs, a1, a2, a3⟩
        obtain ⟨c, z, u, y, rfl, e1, e2, b1, b2⟩ := mean_part g46 hx
        have hi := (List.getElem?_eq_some_iff.mp hx).1
        have zl : zs.length ≤ 6 := by rw [RQ.length a2, List.length_map, List.length_take]; omega
        refine ⟨c, _, rfl, (Same.kt a3).sq b1, rfl, _, _, rfl, _, _, rfl, rfl, rfl, _, rfl, _, rfl, z, B, rfl, B1, ?_, fun v H7 s7 rv => ?_⟩
        · exact Nat.lt_of_le_of_lt (show B.natAbs ≤ 63 by omega) (Nat.lt_of_lt_of_le (show 63 < 2 ^ 6 by decide) (Nat.pow_le_pow_right (by decide) (by decide)))
        · rw [Rat.divInt_eq_div] at rv
          have a1' := s7 _ _ a1
          refine ⟨zs, a1', small1000 (by omega), zs ++ [v], upd_same, ?_, Same.mut (a3.trans s7) hM⟩
          rw [take_succ' e1, List.map_append]
          exact RpAll.mono (KT.updl a1') (RQ.snoc (RpAll.mono (Same.kt s7) a2) rv)
      rintro H7 ⟨zs, a1, a2, a3⟩
      rw [yl, ← g1, List.take_length] at a2
      refine ⟨M, zs, rfl, .inl ⟨SqL.of a1, fun pt hpt => ?_⟩⟩
      have s8 := same_new (o := .tup zs) hpt
      have s78 := a3.trans s8
      have gD8 := s78 _ _ gD6
      have R8 := R6.same s78
      have d8 := d6.same s78
      have r8 := r6.mono (Same.kt s78)
      have q18 := (Same.kt s78).sq q16
      have q28 := (Same.kt s78).sq q26
      have w8 := RpAll.mono (Same.kt s8) a2
      have hW8 : (upd H7 pt (.tup zs)) pt = some (.tup zs) := upd_same
      clear gD6 R6 d6 r6 q16 q26 a1 a2 a3 s8 s78 hM hpt hC g46
      change gName 10 _ _ (upd H7 pt (.tup zs)) _
      generalize upd H7 pt (.tup zs) = H8 at *
      -- the number and the last
      have lastAt : atI ps (-1) = some (.ref p2) := by rw [← hps]; exact at_lastW _ _
      obtain ⟨aq, haq, hsq⟩ := id r8
      subst haq
      refine ⟨_, rfl, _, rfl, D, ps, -1, .ref p2, rfl, rfl, SqL.of gD8, lastAt, p2, [.int wf, .ref p1], 1, .ref p1, rfl, rfl, q28, rfl, p1, [.str "fixed", .ref aq], 1, .ref aq, rfl, rfl, q18, rfl, ?_⟩
      have qn : q.num.natAbs < 2 ^ 20 := nq.2.2.1
      have qd' : q.den < 2 ^ 20 := nq.2.2.2
      have qp := q.den_pos
      have wm1 : CMulW wf q.num := wm (a := 20) (b := 20) (by omega) (by omega) (by decide)
      have wm2 : CMulW B (q.den : Int) := wm (a := 20) (b := 20) (by omega) (by omega) (by decide)
      refine ⟨_, rfl, _, rfl, D, ps, -1, .ref p2, rfl, rfl, SqL.of gD8, lastAt, p2, [.int wf, .ref p1], 0, .int wf, rfl, rfl, q28, rfl, ?_⟩
      refine ⟨_, rfl, aq, _, 0, _, rfl, rfl, hsq, rfl, _, _, rfl, rfl, wm1, _, rfl, _, rfl, aq, _, 1, _, rfl, rfl, hsq, rfl, _, _, rfl, rfl, wm2, wf * q.num, B * (q.den : Int), rfl, Int.mul_pos B1 (by omega), ?_, fun vl H9 s9 rl => ?_⟩
      · exact Nat.lt_of_lt_of_le (wide_lt (a := 20) (b := 20) (show B.natAbs < 2 ^ 20 by omega) (show ((q.den : Int)).natAbs < 2 ^ 20 by omega)) (Nat.pow_le_pow_right (by decide) (by decide))
      rw [lowest_own B1 q] at rl
      have R9 := R8.same s9
      have d9 := d8.same s9
      have w9 := RpAll.mono (Same.kt s9) w8
      have hW9 := s9 _ _ hW8
      clear R8 d8 w8 hW8 s9 gD8 q18 q28 lastAt r8 hsq wm1 wm2
      have pw : N0 * W ^ t.dep < 2 ^ 900 := by
        have w2 : W ^ t.dep ≤ W ^ 2 := Nat.pow_le_pow_right W1 dep
        have w3 : W ^ 2 < (2 ^ 60) ^ 2 := Nat.pow_lt_pow_left W60 (by decide)
        exact lt900 (k := 150) (Nat.lt_of_le_of_lt (Nat.mul_le_mul_left N0 (Nat.le_trans w2 (Nat.le_of_lt w3))) (by decide +kernel)) (by decide)
      have pos : 0 < N0 * W ^ t.dep := Nat.mul_pos N0_pos (Nat.pow_pos W1)
      have p1000 : N0 * W ^ t.dep < 2 ^ 1000 := Nat.lt_of_lt_of_le pw (Nat.pow_le_pow_right (by decide) (by decide))
      have dvb : DvB t [] := ⟨N0, W, N0_pos, W1, dvW, p1000, fun q hq => nomatch hq⟩
      have rtE := right_cornerO W1 ok dvW
      have rnE := fun l => right_numW rtE pos pw l
      have szE : ∀ l, Sz 1000 ((fun l => t.val (end01 n l)) l) := fun l => (rnE l).2.2.mono (by decide)
      refine ⟨_, rfl, _, rfl, rr, n, 20, t, rfl, R9, ok, by decide, by decide, by omega, dvb, hn1, hn6, fun e1 Ha sa ne1 T1 => ?_⟩
      have F1 : TabF K Ha e1 (fun l => t.val (end01 n l)) n := by
        obtain ⟨ks, a1, a2⟩ := T1
        exact ⟨ks, _, a1, a2, List.Perm.refl _⟩
      refine ⟨e1, _, n, 900, rfl, hn1, hn6, F1, by decide, fun l _ => rnE l, rtE.mono.right hn6, szE, fun v1 Hb sb rz1 => ?_⟩
      refine ⟨_, rfl, _, rfl, (by show 2 ≤ sizeLine; decide), fun pz hpz => ?_⟩
      have sz := same_new (o := .tup [.ref pt, vl]) hpz
      have s9z := (sa.trans sb).trans sz
      have rz2 : Rp K (upd Hb pz (.tup [.ref pt, vl])) (.ref pz) (wtD (fun l => t.val (end01 n l)) n) := by
        rw [ow]
        exact .tup (SqT.of (upd_same (H := Hb) (a := pz) (o := .tup [.ref pt, vl]))) (.cons (.tup (SqT.of (s9z _ _ hW9)) (RpAll.mono (Same.kt s9z) w9)) (.cons (PF.mono (Same.kt s9z) rl).rp .nil))
      refine ⟨_, _, (rz1.mono (Same.kt sz)).dp, rz2.dp, wt_shaped _ _, wt_shaped _ _, _, rfl, ?_⟩
      rw [wt_eqv]
      exact iteW_off ⟨_, _, _, _, _, _, _, _, _, _, _, _, _, _, rfl, d9.same s9z⟩
    · rintro σ H2 ⟨_, _, _, _, _, _, _, _, _, _, _, _, _, _, rfl, d2⟩
      exact k H2
end
end CB

set_option Elab.async false
set_option linter.all false
set_option maxRecDepth 100000
set_option maxHeartbeats 0
namespace CB
open PySem PySem.Spec PyProof.Rows L2
open C8 (Cal Met Mak pe_c pe_mk pe_mt pe_mt0 pe_gc CalAt)
section
variable {P : Program} {w : World} {K : PySem.W.Frag} {mg : Str → Option Value}
theorem all_ok {h : Heap} {f : Addr} (X : K.In h) (G : h.Ns mainGlobals mg) (hfa : mg ("law" : Str) = some (.ref f)) (c : He.SaysX faL fnL [] [] exL w h K) :
    ∃ fd : FuncData, (∀ (s : Shared) (v : Value), BindsTo s fd ⟨[v], []⟩ [("_law_script", v)]) ∧ ∀ base : Heap, K.In base → base.Ns mainGlobals mg → FnOk P w K mg base C8.CX0 72 f fd ["_law_script"] (sp_law K) := by
  have cD : He.SaysD faL fnL K := congrArg (fun z : He.AlT => z.1) c.t
  have cE := c.more
  unfold exL at cE
  obtain ⟨x0, cE⟩ := He.ba cE
  obtain ⟨x1, cE⟩ := He.ba cE
  obtain ⟨x2, cE⟩ := He.ba cE
  obtain ⟨x3, cE⟩ := He.ba cE
  obtain ⟨x4, cE⟩ := He.ba cE
  obtain ⟨x5, cE⟩ := He.ba cE
  obtain ⟨x6, cE⟩ := He.ba cE
  obtain ⟨x7, cE⟩ := He.ba cE
  have F_lowest : FnD K mg "lowest" s_lowest := by
    obtain ⟨fd, F⟩ := cD.def_ 0 (d := d_lowest) rfl
    exact ⟨_, fd, F, He.glo_ok X G (cD.fact 0 (f := .glo "lowest") rfl)⟩
  have F_minus : FnD K mg "minus" s_minus := by
    obtain ⟨fd, F⟩ := cD.def_ 1 (d := d_minus) rfl
    exact ⟨_, fd, F, He.glo_ok X G (cD.fact 1 (f := .glo "minus") rfl)⟩
  have F_is_less : FnD K mg "is_less" s_is_less := by
    obtain ⟨fd, F⟩ := cD.def_ 2 (d := d_is_less) rfl
    exact ⟨_, fd, F, He.glo_ok X G (cD.fact 2 (f := .glo "is_less") rfl)⟩
  have F_lesser : FnD K mg "lesser" s_lesser := by
    obtain ⟨fd, F⟩ := cD.def_ 3 (d := d_lesser) rfl
    exact ⟨_, fd, F, He.glo_ok X G (cD.fact 3 (f := .glo "lesser") rfl)⟩
  have F_greater : FnD K mg "greater" s_greater := by
    obtain ⟨fd, F⟩ := cD.def_ 4 (d := d_greater) rfl
    exact ⟨_, fd, F, He.glo_ok X G (cD.fact 4 (f := .glo "greater") rfl)⟩
  have F_mean_of : FnD K mg "mean_of" s_mean_of := by
    obtain ⟨fd, F⟩ := cD.def_ 5 (d := d_mean_of) rfl
    exact ⟨_, fd, F, He.glo_ok X G (cD.fact 5 (f := .glo "mean_of") rfl)⟩
  have F_common_bottom : FnD K mg "common_bottom" s_common_bottom := by
    obtain ⟨fd, F⟩ := cD.def_ 6 (d := d_common_bottom) rfl
    exact ⟨_, fd, F, He.glo_ok X G (cD.fact 6 (f := .glo "common_bottom") rfl)⟩
  have F_scaled : FnD K mg "scaled" s_scaled := by
    obtain ⟨fd, F⟩ := cD.def_ 7 (d := d_scaled) rfl
    exact ⟨_, fd, F, He.glo_ok X G (cD.fact 7 (f := .glo "scaled") rfl)⟩
  have F_is_integer : FnD K mg "is_integer" s_is_integer := by
    obtain ⟨fd, F⟩ := cD.def_ 8 (d := d_is_integer) rfl
    exact ⟨_, fd, F, He.glo_ok X G (cD.fact 8 (f := .glo "is_integer") rfl)⟩
  have F_is_number : FnD K mg "is_number" s_is_number := by
    obtain ⟨fd, F⟩ := cD.def_ 9 (d := d_is_number) rfl
    exact ⟨_, fd, F, He.glo_ok X G (cD.fact 9 (f := .glo "is_number") rfl)⟩
  have F_are_bounds : FnD K mg "are_bounds" s_are_bounds := by
    obtain ⟨fd, F⟩ := cD.def_ 10 (d := d_are_bounds) rfl
    exact ⟨_, fd, F, He.glo_ok X G (cD.fact 10 (f := .glo "are_bounds") rfl)⟩
  have F_is_people : FnD K mg "is_people" s_is_people := by
    obtain ⟨fd, F⟩ := cD.def_ 11 (d := d_is_people) rfl
    exact ⟨_, fd, F, He.glo_ok X G (cD.fact 11 (f := .glo "is_people") rfl)⟩
  have F_is_person : FnD K mg "is_person" s_is_person := by
    obtain ⟨fd, F⟩ := cD.def_ 12 (d := d_is_person) rfl
    exact ⟨_, fd, F, He.glo_ok X G (cD.fact 12 (f := .glo "is_person") rfl)⟩
  have F_need_people : FnD K mg "need_people" s_need_people := by
    obtain ⟨fd, F⟩ := cD.def_ 13 (d := d_need_people) rfl
    exact ⟨_, fd, F, He.glo_ok X G (cD.fact 13 (f := .glo "need_people") rfl)⟩
  have F_is_term : FnD K mg "is_term" s_is_term := by
    obtain ⟨fd, F⟩ := cD.def_ 14 (d := d_is_term) rfl
    exact ⟨_, fd, F, He.glo_ok X G (cD.fact 14 (f := .glo "is_term") rfl)⟩
  have F_is_formed : FnD K mg "is_formed" s_is_formed := by
    obtain ⟨fd, F⟩ := cD.def_ 15 (d := d_is_formed) rfl
    exact ⟨_, fd, F, He.glo_ok X G (cD.fact 15 (f := .glo "is_formed") rfl)⟩
  have F_are_some : FnD K mg "are_some" s_are_some := by
    obtain ⟨fd, F⟩ := cD.def_ 16 (d := d_are_some) rfl
    exact ⟨_, fd, F, He.glo_ok X G (cD.fact 16 (f := .glo "are_some") rfl)⟩
  have F_is_weighted : FnD K mg "is_weighted" s_is_weighted := by
    obtain ⟨fd, F⟩ := cD.def_ 17 (d := d_is_weighted) rfl
    exact ⟨_, fd, F, He.glo_ok X G (cD.fact 17 (f := .glo "is_weighted") rfl)⟩
  have F_is_weight : FnD K mg "is_weight" s_is_weight := by
    obtain ⟨fd, F⟩ := cD.def_ 18 (d := d_is_weight) rfl
    exact ⟨_, fd, F, He.glo_ok X G (cD.fact 18 (f := .glo "is_weight") rfl)⟩
  have F_inner_terms : FnD K mg "inner_terms" s_inner_terms := by
    obtain ⟨fd, F⟩ := cD.def_ 19 (d := d_inner_terms) rfl
    exact ⟨_, fd, F, He.glo_ok X G (cD.fact 19 (f := .glo "inner_terms") rfl)⟩
  have F_worked : FnD K mg "worked" s_worked := by
    obtain ⟨fd, F⟩ := cD.def_ 20 (d := d_worked) rfl
    exact ⟨_, fd, F, He.glo_ok X G (cD.fact 20 (f := .glo "worked") rfl)⟩
  have F_least_of : FnD K mg "least_of" s_least_of := by
    obtain ⟨fd, F⟩ := cD.def_ 21 (d := d_least_of) rfl
    exact ⟨_, fd, F, He.glo_ok X G (cD.fact 21 (f := .glo "least_of") rfl)⟩
  have F_greatest_of : FnD K mg "greatest_of" s_greatest_of := by
    obtain ⟨fd, F⟩ := cD.def_ 22 (d := d_greatest_of) rfl
    exact ⟨_, fd, F, He.glo_ok X G (cD.fact 22 (f := .glo "greatest_of") rfl)⟩
  have F_kth_greatest : FnD K mg "kth_greatest" s_kth_greatest := by
    obtain ⟨fd, F⟩ := cD.def_ 23 (d := d_kth_greatest) rfl
    exact ⟨_, fd, F, He.glo_ok X G (cD.fact 23 (f := .glo "kth_greatest") rfl)⟩
  have F_told_by : FnD K mg "told_by" s_told_by := by
    obtain ⟨fd, F⟩ := cD.def_ 24 (d := d_told_by) rfl
    exact ⟨_, fd, F, He.glo_ok X G (cD.fact 24 (f := .glo "told_by") rfl)⟩
  have F_replaced : FnD K mg "replaced" s_replaced := by
    obtain ⟨fd, F⟩ := cD.def_ 25 (d := d_replaced) rfl
    exact ⟨_, fd, F, He.glo_ok X G (cD.fact 25 (f := .glo "replaced") rfl)⟩
  have F_corners : FnD K mg "corners" s_corners := by
    obtain ⟨fd, F⟩ := cD.def_ 26 (d := d_corners) rfl
    exact ⟨_, fd, F, He.glo_ok X G (cD.fact 26 (f := .glo "corners") rfl)⟩
  have F_corner_of : FnD K mg "corner_of" s_corner_of := by
    obtain ⟨fd, F⟩ := cD.def_ 27 (d := d_corner_of) rfl
    exact ⟨_, fd, F, He.glo_ok X G (cD.fact 27 (f := .glo "corner_of") rfl)⟩
  have F_all_lots : FnD K mg "all_lots" s_all_lots := by
    obtain ⟨fd, F⟩ := cD.def_ 28 (d := d_all_lots) rfl
    exact ⟨_, fd, F, He.glo_ok X G (cD.fact 28 (f := .glo "all_lots") rfl)⟩
  have F_lots_among : FnD K mg "lots_among" s_lots_among := by
    obtain ⟨fd, F⟩ := cD.def_ 29 (d := d_lots_among) rfl
    exact ⟨_, fd, F, He.glo_ok X G (cD.fact 29 (f := .glo "lots_among") rfl)⟩
  have F_is_right_table : FnD K mg "is_right_table" s_is_right_table := by
    obtain ⟨fd, F⟩ := cD.def_ 30 (d := d_is_right_table) rfl
    exact ⟨_, fd, F, He.glo_ok X G (cD.fact 30 (f := .glo "is_right_table") rfl)⟩
  have F_falls : FnD K mg "falls" s_falls := by
    obtain ⟨fd, F⟩ := cD.def_ 31 (d := d_falls) rfl
    exact ⟨_, fd, F, He.glo_ok X G (cD.fact 31 (f := .glo "falls") rfl)⟩
  have F_lots_without : FnD K mg "lots_without" s_lots_without := by
    obtain ⟨fd, F⟩ := cD.def_ 32 (d := d_lots_without) rfl
    exact ⟨_, fd, F, He.glo_ok X G (cD.fact 32 (f := .glo "lots_without") rfl)⟩
  have F_joined : FnD K mg "joined" s_joined := by
    obtain ⟨fd, F⟩ := cD.def_ 33 (d := d_joined) rfl
    exact ⟨_, fd, F, He.glo_ok X G (cD.fact 33 (f := .glo "joined") rfl)⟩
  have F_need_table : FnD K mg "need_table" s_need_table := by
    obtain ⟨fd, F⟩ := cD.def_ 34 (d := d_need_table) rfl
    exact ⟨_, fd, F, He.glo_ok X G (cD.fact 34 (f := .glo "need_table") rfl)⟩
  have F_weights_of : FnD K mg "weights_of" s_weights_of := by
    obtain ⟨fd, F⟩ := cD.def_ 35 (d := d_weights_of) rfl
    exact ⟨_, fd, F, He.glo_ok X G (cD.fact 35 (f := .glo "weights_of") rfl)⟩
  have F_rise : FnD K mg "rise" s_rise := by
    obtain ⟨fd, F⟩ := cD.def_ 36 (d := d_rise) rfl
    exact ⟨_, fd, F, He.glo_ok X G (cD.fact 36 (f := .glo "rise") rfl)⟩
  have F_first_bar_to_weights : FnD K mg "first_bar_to_weights" s_first_bar_to_weights := by
    obtain ⟨fd, F⟩ := cD.def_ 37 (d := d_first_bar_to_weights) rfl
    exact ⟨_, fd, F, He.glo_ok X G (cD.fact 37 (f := .glo "first_bar_to_weights") rfl)⟩
  have F__law_dice : FnD K mg "_law_dice" s__law_dice := by
    obtain ⟨fd, F⟩ := cD.def_ 38 (d := d__law_dice) rfl
    exact ⟨_, fd, F, He.glo_ok X G (cD.fact 38 (f := .glo "_law_dice") rfl)⟩
  have F__law_draw : FnD K mg "_law_draw" s__law_draw := by
    obtain ⟨fd, F⟩ := cD.def_ 39 (d := d__law_draw) rfl
    exact ⟨_, fd, F, He.glo_ok X G (cD.fact 39 (f := .glo "_law_draw") rfl)⟩
  have F__law_some : FnD K mg "_law_some" s__law_some := by
    obtain ⟨fd, F⟩ := cD.def_ 40 (d := d__law_some) rfl
    exact ⟨_, fd, F, He.glo_ok X G (cD.fact 40 (f := .glo "_law_some") rfl)⟩
  have F__law_lowest : FnD K mg "_law_lowest" s__law_lowest := by
    obtain ⟨fd, F⟩ := cD.def_ 41 (d := d__law_lowest) rfl
    exact ⟨_, fd, F, He.glo_ok X G (cD.fact 41 (f := .glo "_law_lowest") rfl)⟩
  have F__law_sum : FnD K mg "_law_sum" s__law_sum := by
    obtain ⟨fd, F⟩ := cD.def_ 42 (d := d__law_sum) rfl
    exact ⟨_, fd, F, He.glo_ok X G (cD.fact 42 (f := .glo "_law_sum") rfl)⟩
  have F__law_product : FnD K mg "_law_product" s__law_product := by
    obtain ⟨fd, F⟩ := cD.def_ 43 (d := d__law_product) rfl
    exact ⟨_, fd, F, He.glo_ok X G (cD.fact 43 (f := .glo "_law_product") rfl)⟩
  have F__law_less : FnD K mg "_law_less" s__law_less := by
    obtain ⟨fd, F⟩ := cD.def_ 44 (d := d__law_less) rfl
    exact ⟨_, fd, F, He.glo_ok X G (cD.fact 44 (f := .glo "_law_less") rfl)⟩
  have F__law_sorted : FnD K mg "_law_sorted" s__law_sorted := by
    obtain ⟨fd, F⟩ := cD.def_ 45 (d := d__law_sorted) rfl
    exact ⟨_, fd, F, He.glo_ok X G (cD.fact 45 (f := .glo "_law_sorted") rfl)⟩
  have F__law_number : FnD K mg "_law_number" s__law_number := by
    obtain ⟨fd, F⟩ := cD.def_ 46 (d := d__law_number) rfl
    exact ⟨_, fd, F, He.glo_ok X G (cD.fact 46 (f := .glo "_law_number") rfl)⟩
  have F__law_term : FnD K mg "_law_term" s__law_term := by
    obtain ⟨fd, F⟩ := cD.def_ 47 (d := d__law_term) rfl
    exact ⟨_, fd, F, He.glo_ok X G (cD.fact 47 (f := .glo "_law_term") rfl)⟩
  have F__law_value : FnD K mg "_law_value" s__law_value := by
    obtain ⟨fd, F⟩ := cD.def_ 48 (d := d__law_value) rfl
    exact ⟨_, fd, F, He.glo_ok X G (cD.fact 48 (f := .glo "_law_value") rfl)⟩
  have F__law_lots : FnD K mg "_law_lots" s__law_lots := by
    obtain ⟨fd, F⟩ := cD.def_ 49 (d := d__law_lots) rfl
    exact ⟨_, fd, F, He.glo_ok X G (cD.fact 49 (f := .glo "_law_lots") rfl)⟩
  have F__law_by_size : FnD K mg "_law_by_size" s__law_by_size := by
    obtain ⟨fd, F⟩ := cD.def_ 50 (d := d__law_by_size) rfl
    exact ⟨_, fd, F, He.glo_ok X G (cD.fact 50 (f := .glo "_law_by_size") rfl)⟩
  have F__law_at_ends : FnD K mg "_law_at_ends" s__law_at_ends := by
    obtain ⟨fd, F⟩ := cD.def_ 51 (d := d__law_at_ends) rfl
    exact ⟨_, fd, F, He.glo_ok X G (cD.fact 51 (f := .glo "_law_at_ends") rfl)⟩
  have F__law_corner : FnD K mg "_law_corner" s__law_corner := by
    obtain ⟨fd, F⟩ := cD.def_ 52 (d := d__law_corner) rfl
    exact ⟨_, fd, F, He.glo_ok X G (cD.fact 52 (f := .glo "_law_corner") rfl)⟩
  have F__law_people : FnD K mg "_law_people" s__law_people := by
    obtain ⟨fd, F⟩ := cD.def_ 53 (d := d__law_people) rfl
    exact ⟨_, fd, F, He.glo_ok X G (cD.fact 53 (f := .glo "_law_people") rfl)⟩
  have F__law_table : FnD K mg "_law_table" s__law_table := by
    obtain ⟨fd, F⟩ := cD.def_ 54 (d := d__law_table) rfl
    exact ⟨_, fd, F, He.glo_ok X G (cD.fact 54 (f := .glo "_law_table") rfl)⟩
  have F__law_turned : FnD K mg "_law_turned" s__law_turned := by
    obtain ⟨fd, F⟩ := cD.def_ 55 (d := d__law_turned) rfl
    exact ⟨_, fd, F, He.glo_ok X G (cD.fact 55 (f := .glo "_law_turned") rfl)⟩
  have F__law_with : FnD K mg "_law_with" s__law_with := by
    obtain ⟨fd, F⟩ := cD.def_ 56 (d := d__law_with) rfl
    exact ⟨_, fd, F, He.glo_ok X G (cD.fact 56 (f := .glo "_law_with") rfl)⟩
  have F__law_without : FnD K mg "_law_without" s__law_without := by
    obtain ⟨fd, F⟩ := cD.def_ 57 (d := d__law_without) rfl
    exact ⟨_, fd, F, He.glo_ok X G (cD.fact 57 (f := .glo "_law_without") rfl)⟩
  have F__law_rise : FnD K mg "_law_rise" s__law_rise := by
    obtain ⟨fd, F⟩ := cD.def_ 58 (d := d__law_rise) rfl
    exact ⟨_, fd, F, He.glo_ok X G (cD.fact 58 (f := .glo "_law_rise") rfl)⟩
  have F__law_due : FnD K mg "_law_due" s__law_due := by
    obtain ⟨fd, F⟩ := cD.def_ 59 (d := d__law_due) rfl
    exact ⟨_, fd, F, He.glo_ok X G (cD.fact 59 (f := .glo "_law_due") rfl)⟩
  have F__law_raised : FnD K mg "_law_raised" s__law_raised := by
    obtain ⟨fd, F⟩ := cD.def_ 60 (d := d__law_raised) rfl
    exact ⟨_, fd, F, He.glo_ok X G (cD.fact 60 (f := .glo "_law_raised") rfl)⟩
  have F__law_is_fraction : FnD K mg "_law_is_fraction" s__law_is_fraction := by
    obtain ⟨fd, F⟩ := cD.def_ 61 (d := d__law_is_fraction) rfl
    exact ⟨_, fd, F, He.glo_ok X G (cD.fact 61 (f := .glo "_law_is_fraction") rfl)⟩
  have F__law_is_told : FnD K mg "_law_is_told" s__law_is_told := by
    obtain ⟨fd, F⟩ := cD.def_ 62 (d := d__law_is_told) rfl
    exact ⟨_, fd, F, He.glo_ok X G (cD.fact 62 (f := .glo "_law_is_told") rfl)⟩
  have F_lesser_amounts : FnA K mg "lesser_amounts" "lesser" s_lesser := by
    obtain ⟨fd, F⟩ := cD.def_ 69 (d := d_lesser_amounts) rfl
    exact ⟨_, fd, F, He.glo_ok X G (cD.fact 64 (f := .glo "lesser_amounts") rfl)⟩
  have F_greater_amounts : FnA K mg "greater_amounts" "greater" s_greater := by
    obtain ⟨fd, F⟩ := cD.def_ 70 (d := d_greater_amounts) rfl
    exact ⟨_, fd, F, He.glo_ok X G (cD.fact 65 (f := .glo "greater_amounts") rfl)⟩
  have g_Rule := He.glo_ok X G (cD.fact 66 (f := .glo "Rule") rfl)
  have cl_Rule : Cls K (He.ga K "Rule") := He.cls_ok (cD.fact 67 (f := .cls "Rule") rfl)
  have g_Numbers := He.glo_ok X G (cD.fact 68 (f := .glo "Numbers") rfl)
  have cl_Numbers : Cls K (He.ga K "Numbers") := He.cls_ok (cD.fact 69 (f := .cls "Numbers") rfl)
  have na_Rule_people : NoAttr K (He.ga K "Rule") "people" := He.noat_ok (cD.fact 70 (f := .noat "Rule" "people") rfl)
  have na_Rule_term : NoAttr K (He.ga K "Rule") "term" := He.noat_ok (cD.fact 71 (f := .noat "Rule" "term") rfl)
  have F_Rule___init__ : MkD K mg "Rule" (He.ga K "Rule") "Rule.__init__" s_Rule___init__ := by
    obtain ⟨fd, F⟩ := cD.def_ 68 (d := d_Rule___init__) rfl
    exact ⟨_, fd, F, g_Rule, He.mkr_ok (cD.fact 72 (f := .mkr "Rule") rfl)⟩
  have F_Numbers_fixed : MtD K (He.ga K "Numbers") "fixed" "Numbers.fixed" s_Numbers_fixed := by
    obtain ⟨fd, F⟩ := cD.def_ 64 (d := d_Numbers_fixed) rfl
    exact ⟨_, fd, F, cl_Numbers, He.meth_ok (cD.fact 73 (f := .meth "Numbers" "fixed") rfl)⟩
  have F_Numbers_mean : MtD K (He.ga K "Numbers") "mean" "Numbers.mean" s_Numbers_mean := by
    obtain ⟨fd, F⟩ := cD.def_ 65 (d := d_Numbers_mean) rfl
    exact ⟨_, fd, F, cl_Numbers, He.meth_ok (cD.fact 74 (f := .meth "Numbers" "mean") rfl)⟩
  have F_Numbers_lesser : MtD K (He.ga K "Numbers") "lesser" "Numbers.lesser" s_Numbers_lesser := by
    obtain ⟨fd, F⟩ := cD.def_ 66 (d := d_Numbers_lesser) rfl
    exact ⟨_, fd, F, cl_Numbers, He.meth_ok (cD.fact 75 (f := .meth "Numbers" "lesser") rfl)⟩
  have F_Numbers_greater : MtD K (He.ga K "Numbers") "greater" "Numbers.greater" s_Numbers_greater := by
    obtain ⟨fd, F⟩ := cD.def_ 67 (d := d_Numbers_greater) rfl
    exact ⟨_, fd, F, cl_Numbers, He.meth_ok (cD.fact 76 (f := .meth "Numbers" "greater") rfl)⟩
  have T_abs := He.free_ok X G (cD.fact 78 (f := .free "abs") rfl)
  have T_int := He.free_ok X G (cD.fact 79 (f := .free "int") rfl)
  have T_len := He.free_ok X G (cD.fact 80 (f := .free "len") rfl)
  have T_range := He.free_ok X G (cD.fact 81 (f := .free "range") rfl)
  have T_sorted := He.free_ok X G (cD.fact 82 (f := .free "sorted") rfl)
  have T_tuple := He.free_ok X G (cD.fact 83 (f := .free "tuple") rfl)
  have T_sum := He.free_ok X G (cD.fact 84 (f := .free "sum") rfl)
  have T_dict := He.free_ok X G (cD.fact 85 (f := .free "dict") rfl)
  have T_list := He.free_ok X G (cD.fact 86 (f := .free "list") rfl)
  have T_isinstance := He.free_ok X G (cD.fact 87 (f := .free "isinstance") rfl)
  have T_bool := He.free_ok X G (cD.fact 88 (f := .free "bool") rfl)
  have T_any := He.free_ok X G (cD.fact 89 (f := .free "any") rfl)
  have T_all := He.free_ok X G (cD.fact 90 (f := .free "all") rfl)
  have T_str := He.free_ok X G (cD.fact 91 (f := .free "str") rfl)
  have T_zip := He.free_ok X G (cD.fact 92 (f := .free "zip") rfl)
  have T_enumerate := He.free_ok X G (cD.fact 93 (f := .free "enumerate") rfl)
  have g_MOST_PEOPLE : ∃ u, mg "MOST_PEOPLE" = some u ∧ RelV (.int 6) u := by
    obtain ⟨t, e⟩ := He.int_ok X G (cD.fact 94 (f := .int "MOST_PEOPLE" 6) rfl)
    exact ⟨_, e, t, rfl⟩
  have g_MOST_WEIGHT : ∃ u, mg "MOST_WEIGHT" = some u ∧ RelV (.int 99) u := by
    obtain ⟨t, e⟩ := He.int_ok X G (cD.fact 95 (f := .int "MOST_WEIGHT" 99) rfl)
    exact ⟨_, e, t, rfl⟩
  have g_MOST_PARTS : ∃ u, mg "MOST_PARTS" = some u ∧ RelV (.int 8) u := by
    obtain ⟨t, e⟩ := He.int_ok X G (cD.fact 96 (f := .int "MOST_PARTS" 8) rfl)
    exact ⟨_, e, t, rfl⟩
  have g_MOST_DEEP : ∃ u, mg "MOST_DEEP" = some u ∧ RelV (.int 8) u := by
    obtain ⟨t, e⟩ := He.int_ok X G (cD.fact 97 (f := .int "MOST_DEEP" 8) rfl)
    exact ⟨_, e, t, rfl⟩
  have g_MOST_TERMS : ∃ u, mg "MOST_TERMS" = some u ∧ RelV (.int 60) u := by
    obtain ⟨t, e⟩ := He.int_ok X G (cD.fact 98 (f := .int "MOST_TERMS" 60) rfl)
    exact ⟨_, e, t, rfl⟩
  have g_combinations : mg "combinations" = some (.type "itertools.combinations") := PySem.W.mg_of X G (He.eqO_ok x0)
  have g_gcd : mg "gcd" = some (.builtin "math.gcd") := PySem.W.mg_of X G (He.eqO_ok x1)
  have g_lcm : mg "lcm" = some (.builtin "math.lcm") := PySem.W.mg_of X G (He.eqO_ok x2)
  have g_ZERO := He.glo_ok X G (cD.fact 99 (f := .glo "ZERO") rfl)
  have z_ZERO : ∀ H, SqT K H (He.ga K "ZERO") [.int 0, .int 1] := fun H => He.tupB_ok x3 H
  have g_ONE := He.glo_ok X G (cD.fact 100 (f := .glo "ONE") rfl)
  have z_ONE : ∀ H, SqT K H (He.ga K "ONE") [.int 1, .int 1] := fun H => He.tupB_ok x4 H
  have M_Numbers : Mk0 K (He.ga K "Numbers") := ⟨x5, He.eqO_ok x6, of_decide_eq_true x7, cD.fact 77 (f := .keep "Numbers") rfl⟩
  obtain ⟨fdL, FL⟩ := cD.def_ 63 (d := d_law) rfl
  have eL := hfa.symm.trans (He.glo_ok X G (cD.fact 63 (f := .glo "law") rfl))
  cases eL
  have bL := FunD.bindsA (ps := ["_law_script"]) FL fun _ _ _ _ _ _ us hl => match us, hl with | [_], _ => rfl
  refine ⟨fdL, fun s v => bL s [v] rfl, fun base _ _ => ?_⟩
  have c__law_dice := ok__law_dice (P := P) (w := w) (base := base) (mg := mg) F__law_dice T_abs T_int
  have c__law_draw := ok__law_draw (P := P) (w := w) (base := base) (mg := mg) F__law_draw T_len T_int
  have c__law_people := ok__law_people (P := P) (w := w) (base := base) (mg := mg) F__law_people c__law_draw
  have c__law_lowest := ok__law_lowest (P := P) (w := w) (base := base) (mg := mg) F__law_lowest T_abs T_int
  have c_ok__law_number_t := ok__law_number_t (P := P) (w := w) (base := base) (mg := mg) F__law_number c__law_draw c__law_lowest
  have c_ok__law_by_size_t := ok__law_by_size_t (P := P) (w := w) (base := base) (mg := mg) F__law_by_size T_len T_range T_sorted
  have c_ok__law_lots_t := ok__law_lots_t (P := P) (w := w) (base := base) (mg := mg) F__law_lots c_ok__law_by_size_t T_range
  have c__law_less := ok__law_less (P := P) (w := w) (base := base) (mg := mg) F__law_less
  have c__law_sorted := ok__law_sorted (P := P) (w := w) (base := base) (mg := mg) F__law_sorted c__law_less T_len
  have c_ok__law_term_n_t := ok__law_term_n_t (P := P) (w := w) (base := base) (mg := mg) F__law_term c__law_draw c_ok__law_number_t c__law_sorted T_len T_range T_tuple
  have c__law_sum := ok__law_sum (P := P) (w := w) (base := base) (mg := mg) F__law_sum c__law_lowest
  have c__law_product := ok__law_product (P := P) (w := w) (base := base) (mg := mg) F__law_product c__law_lowest
  have c_ok__law_value_t := ok__law_value_t (P := P) (w := w) (base := base) (mg := mg) F__law_value c__law_sum c__law_product c__law_sorted T_len T_sum
  have c__law_at_ends := ok__law_at_ends (P := P) (w := w) (base := base) (mg := mg) F__law_at_ends T_tuple T_range
  have c_ok__law_corner_f_t := ok__law_corner_f_t (P := P) (w := w) (base := base) (mg := mg) F__law_corner (c_ok__law_value_t _) c__law_at_ends
  have c__law_table := ok__law_table (P := P) (w := w) (base := base) (mg := mg) F__law_table c__law_draw c_ok__law_number_t c_ok__law_lots_t c__law_sorted c__law_lowest (c_ok__law_term_n_t _) c_ok__law_corner_f_t T_range T_len T_dict T_sum T_tuple
  have c__law_turned := ok__law_turned (P := P) (w := w) (base := base) (mg := mg) F__law_turned c__law_draw T_list T_len T_dict
  have c_is_integer := ok_is_integer (P := P) (w := w) (base := base) (mg := mg) F_is_integer T_isinstance T_int T_bool
  have c_is_people := ok_is_people (P := P) (w := w) (base := base) (mg := mg) F_is_people c_is_integer g_MOST_PEOPLE
  have c_need_people := ok_need_people (P := P) (w := w) (base := base) (mg := mg) F_need_people c_is_people
  have c_ok_lots_among_t := ok_lots_among_t (P := P) (w := w) (base := base) (mg := mg) F_lots_among g_combinations T_list T_range T_len
  have c_ok_all_lots_t := ok_all_lots_t (P := P) (w := w) (base := base) (mg := mg) F_all_lots c_ok_lots_among_t T_list T_range
  have c_is_number := ok_is_number (P := P) (w := w) (base := base) (mg := mg) F_is_number c_is_integer T_isinstance T_tuple T_len g_gcd
  have c_joined := ok_joined (P := P) (w := w) (base := base) (mg := mg) F_joined T_tuple T_sorted
  have c_lots_without := ok_lots_without (P := P) (w := w) (base := base) (mg := mg) F_lots_without c_ok_all_lots_t
  have c_is_less := ok_is_less (P := P) (w := w) (base := base) (mg := mg) F_is_less
  have c_falls := ok_falls (P := P) (w := w) (base := base) (mg := mg) F_falls c_joined c_lots_without c_is_less T_any
  have c_is_right_table := ok_is_right_table (P := P) (w := w) (base := base) (mg := mg) F_is_right_table c_ok_all_lots_t c_is_number c_falls T_isinstance T_dict T_len T_all T_any T_range
  have c_need_table := ok_need_table (P := P) (w := w) (base := base) (mg := mg) F_need_table c_need_people c_is_right_table
  have c_lowest := ok_lowest (P := P) (w := w) (base := base) (mg := mg) F_lowest g_gcd
  have c_minus := ok_minus (P := P) (w := w) (base := base) (mg := mg) F_minus c_lowest
  have c_rise := ok_rise (P := P) (w := w) (base := base) (mg := mg) F_rise c_joined c_minus
  have c_first_bar_to_weights := ok_first_bar_to_weights (P := P) (w := w) (base := base) (mg := mg) F_first_bar_to_weights c_lots_without c_rise T_range
  have c_weights_of := ok_weights_of (P := P) (w := w) (base := base) (mg := mg) F_weights_of c_need_table c_first_bar_to_weights c_rise T_range T_tuple
  have c__law_with := ok__law_with (P := P) (w := w) (base := base) (mg := mg) F__law_with T_tuple T_sorted
  have c__law_rise := ok__law_rise (P := P) (w := w) (base := base) (mg := mg) F__law_rise c__law_with c__law_sum
  have c__law_due := ok__law_due (P := P) (w := w) (base := base) (mg := mg) F__law_due c__law_rise c_ok__law_lots_t c__law_sum T_range T_tuple
  have c__law_is_fraction := ok__law_is_fraction (P := P) (w := w) (base := base) (mg := mg) F__law_is_fraction T_isinstance T_tuple T_len T_all T_int T_bool
  have c__law_is_told := ok__law_is_told (P := P) (w := w) (base := base) (mg := mg) F__law_is_told c__law_is_fraction T_isinstance T_tuple T_len T_all
  have c__law_some := ok__law_some (P := P) (w := w) (base := base) (mg := mg) F__law_some c__law_draw T_len
  have c__law_raised := ok__law_raised (P := P) (w := w) (base := base) (mg := mg) F__law_raised c_ok__law_lots_t c__law_some c__law_sorted T_dict T_len T_all
  have c_is_person := ok_is_person (P := P) (w := w) (base := base) (mg := mg) F_is_person c_is_integer
  have c_is_weight := ok_is_weight (P := P) (w := w) (base := base) (mg := mg) F_is_weight c_is_integer g_MOST_WEIGHT
  have c_is_weighted := ok_is_weighted (P := P) (w := w) (base := base) (mg := mg) F_is_weighted c_is_weight T_isinstance T_tuple T_len
  have c_are_some := ok_are_some (P := P) (w := w) (base := base) (mg := mg) F_are_some T_isinstance T_tuple T_len g_MOST_PARTS
  have c_are_bounds := ok_are_bounds (P := P) (w := w) (base := base) (mg := mg) F_are_bounds c_is_number c_is_less
  have c_is_formed := ok_is_formed (P := P) (w := w) (base := base) (mg := mg) F_is_formed c_is_integer c_is_number c_is_person c_is_weighted c_are_some c_are_bounds T_isinstance T_tuple T_str T_len T_all
  have c_inner_terms := ok_inner_terms (P := P) (w := w) (base := base) (mg := mg) F_inner_terms T_tuple
  have c_is_term := ok_is_term (P := P) (w := w) (base := base) (mg := mg) F_is_term c_is_formed c_inner_terms T_len T_all g_MOST_DEEP g_MOST_TERMS
  have k_Rule := ok_Rule (P := P) (w := w) (base := base) (mg := mg) F_Rule___init__ cl_Rule na_Rule_people na_Rule_term c_is_people c_is_term
  have m_Numbers_fixed := ok_fixed (P := P) (w := w) (base := base) (mg := mg) F_Numbers_fixed
  have c_common_bottom := ok_common_bottom (P := P) (w := w) (base := base) (mg := mg) F_common_bottom g_lcm
  have c_scaled := ok_scaled (P := P) (w := w) (base := base) (mg := mg) F_scaled
  have c_mean_of := ok_mean_of (P := P) (w := w) (base := base) (mg := mg) F_mean_of c_common_bottom c_scaled c_lowest T_zip T_sum
  have m_Numbers_mean := ok_mean (P := P) (w := w) (base := base) (mg := mg) F_Numbers_mean c_mean_of
  have c_lesser_amounts : Cal P w K mg base 2 "lesser_amounts" (sp_lesser K) [] := ok_lesser (P := P) (w := w) (base := base) (mg := mg) F_lesser_amounts c_is_less
  have m_Numbers_lesser := ok_nlesser (P := P) (w := w) (base := base) (mg := mg) F_Numbers_lesser c_lesser_amounts
  have c_greater_amounts : Cal P w K mg base 2 "greater_amounts" (sp_greater K) [] := ok_greater (P := P) (w := w) (base := base) (mg := mg) F_greater_amounts c_is_less
  have m_Numbers_greater := ok_ngreater (P := P) (w := w) (base := base) (mg := mg) F_Numbers_greater c_greater_amounts
  have c_least_of := ok_least_of (P := P) (w := w) (base := base) (mg := mg) F_least_of m_Numbers_lesser
  have c_greatest_of := ok_greatest_of (P := P) (w := w) (base := base) (mg := mg) F_greatest_of m_Numbers_greater
  have c_kth_greatest := ok_kth_greatest (P := P) (w := w) (base := base) (mg := mg) F_kth_greatest m_Numbers_lesser m_Numbers_greater c_greatest_of T_range
  have c_ok_worked_t := ok_worked_t (P := P) (w := w) (base := base) (mg := mg) F_worked c_inner_terms m_Numbers_fixed m_Numbers_mean m_Numbers_lesser m_Numbers_greater c_least_of c_greatest_of c_kth_greatest
  have c_ok_told_by_t := ok_told_by_t (P := P) (w := w) (base := base) (mg := mg) F_told_by (c_ok_worked_t _) M_Numbers g_Numbers
  have c_replaced := ok_replaced (P := P) (w := w) (base := base) (mg := mg) F_replaced T_tuple T_enumerate
  have c_ok_corner_of_t := ok_corner_of_t (P := P) (w := w) (base := base) (mg := mg) F_corner_of cl_Rule na_Rule_people na_Rule_term c_ok_told_by_t c_replaced ⟨_, g_ZERO, rfl⟩ z_ZERO ⟨_, g_ONE, rfl⟩ z_ONE
  have c_ok_corners_t := ok_corners_t (P := P) (w := w) (base := base) (mg := mg) F_corners cl_Rule na_Rule_people c_ok_all_lots_t c_ok_corner_of_t
  exact ok_law FL cl_Rule na_Rule_people na_Rule_term c__law_dice c__law_people c__law_table c__law_turned c_weights_of c__law_due c__law_is_told c__law_raised c__law_draw c_ok__law_number_t c__law_lowest k_Rule c_ok_corners_t T_list T_sorted T_sum T_tuple T_range
end
end CB
open PySem PySem.W PySem.Calls PyProof.Rows
set_option maxHeartbeats 0 in
theorem PySem.Challenge.cw_cornerbids_k70_whole_tables_of_weights_holds : PySem.Challenge.rw_cornerbids_k70_whole_tables_of_weights.Holds := by
  w_on; o_law
  refine HandSHeadRun.head_imp (r := CB.Rw) (q := CB.qv) (H := CB.hkL) (ob := CB.obL) (M := 6000) (loose := CB.looseL) (d := HandSHeadRun.topDef CB.Rw.prog 88) (kwd := []) CB.ob_eq
    CB.runL (by kernel_rfl) (by kernel_rfl) (by kernel_rfl) (by rfl) (by first | assumption | decide +kernel) (by decide +kernel) ⟨rfl, rfl, rfl, rfl, rfl, by decide +kernel⟩ ?hw ?hc
  case hw => w_witness2
  case hc =>
    refine L2.walk_ofE (l := PySem.Challenge.rw_cornerbids_k70_whole_tables_of_weights) (n := 63) (k := 72) (x := "_law_script") (CX := C8.CX0) rfl (by decide) (by kernel_rfl) ⟨rfl, by decide, by decide⟩ ?F (fun _ _ _ _ z => z)
    intro w mg fa h Y G hmg0
    obtain ⟨K, KX, c⟩ := Y
    have hmg : mg ("law" : PySem.Str) = some (.ref fa) := by
      have e : (HandSHeadRun.topDef CB.Rw.prog 88).name = ("law" : PySem.Str) := by kernel_rfl
      rw [← e]
      exact hmg0
    obtain ⟨fd, hb, hF⟩ := CB.all_ok (P := (PySem.Challenge.rw_cornerbids_k70_whole_tables_of_weights).prog) (w := w) KX G hmg c
    exact ⟨K, fd, CB.sp_law K, KX, hb, fun H a ns hl _ hS => ⟨a, ns, rfl, hS, fun _ => rfl⟩, hF⟩

