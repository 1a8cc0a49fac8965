import PyProof.Rows.All
import Wide.All
import OpenK.AllK
import Wide.FinOn
import HandS.ForMost
import HandS.Codes
import HandS.Defaults
import HandS.Wide
import HandS.Gcd
import HandS.IsInst
import HandS.More
import HandS.TupAny
import HandS.Conv
import HandS.Zip
import HandS.Head0
import HandS.Head1
import HandS.Head2
import HandS.HeadEnd
import HandS.HeadHook1
import HandS.HeadHook2
import HandS.HeadHook3
import HandS.HeadHook4
import HandS.Walk
import HandS.New0
import KE.GoesMore
import HandS.Iter
import HandS.TupMul
import HandS.TupSets
import HandS.Star
import HandS.RepeatKit
import HandS.Sort
import PyProof.ListNew
import PyProof.Rows.SortShell
import HandS.Head3
import PySem.Challenge.RW_cornerbids_k76_whole_where_groups_part
set_option Elab.async false
set_option linter.all false
set_option maxRecDepth 100000
set_option maxHeartbeats 2000000
namespace CB
open PySem PySem.Spec PyProof.Rows L2
open C8 (Cal Met Mak pe_c pe_mk pe_mt pe_mt0 pe_gc CalAt)

/-! ### heaps: what stays -/
/-- tuples stay -/
structure KT (H H' : Hp) : Prop where
  t : ∀ b xs, H b = some (.tup xs) → H' b = some (.tup xs)
  f : ∀ b o u, H b = some (.frz o u) → H' b = some (.frz o u)
theorem KT.refl (H : Hp) : KT H H := ⟨fun _ _ h => h, fun _ _ _ h => h⟩
theorem KT.trans {H H1 H2 : Hp} (a : KT H H1) (b : KT H1 H2) : KT H H2 := ⟨fun c xs h => b.t c xs (a.t c xs h), fun c o u h => b.f c o u (a.f c o u h)⟩
theorem Same.kt {H H' : Hp} (a : Same H H') : KT H H' := ⟨fun b xs h => a b _ h, fun b o u h => a b _ h⟩
theorem same_new {H : Hp} {p : Addr} {o : HO} (h : H p = none) : Same H (upd H p o) := fun a u e => by
  rw [upd_ne (ne_of_none e h)]
  exact e
/-- all but the object at d stays -/
def KD (d : Addr) (H H' : Hp) : Prop := ∀ b o, b ≠ d → H b = some o → H' b = some o
theorem KD.refl (d : Addr) (H : Hp) : KD d H H := fun _ _ _ h => h
theorem KD.trans {d : Addr} {H H1 H2 : Hp} (a : KD d H H1) (b : KD d H1 H2) : KD d H H2 := fun c o n h => b c o n (a c o n h)
theorem Same.kd {d : Addr} {H H' : Hp} (a : Same H H') : KD d H H' := fun b o _ h => a b o h
theorem KD.kt {d : Addr} {H H' : Hp} (a : KD d H H') {xs : List V} (h : H d = some (.lst xs)) : KT H H' :=
  ⟨fun b ys e => a b _ (ne_of e h (by intro z; cases z)) e, fun b o u e => a b _ (ne_of e h (by intro z; cases z)) e⟩
theorem KD.upd {d : Addr} {H H' : Hp} (a : KD d H H') {o : HO} : KD d H (upd H' d o) := fun b u n e => by
  rw [upd_ne n]
  exact a b u n e
theorem KT.sq {K : PySem.W.Frag} {H H' : Hp} {a : Addr} {xs : List V} (e : KT H H') (h : SqT K H a xs) : SqT K H' a xs := by
  rcases h with (h | ⟨o, h⟩) | h
  · exact .inl (.inl (e.t _ _ h))
  · exact .inl (.inr ⟨o, e.f _ _ _ h⟩)
  · exact .inr h

theorem KT.updl {H : Hp} {D : Addr} {xs : List V} {o : HO} (h : H D = some (.lst xs)) : KT H (upd H D o) :=
  ⟨fun b ys e => by rw [upd_ne (ne_of e h (by intro z; cases z))]; exact e, fun b u v e => by rw [upd_ne (ne_of e h (by intro z; cases z))]; exact e⟩
theorem KD.new {d : Addr} {H H' : Hp} (a : KD d H H') {p : Addr} (hp : H' p = none) {o : HO} : KD d H (L2.upd H' p o) := fun b u n e => by
  have e2 := a b u n e
  rw [upd_ne (ne_of_none e2 hp)]
  exact e2
theorem KD.mut {d : Addr} {H H' : Hp} (a : KD d H H') {p : Addr} (hp : H p = none) {o : HO} : KD d H (L2.upd H' p o) := fun b u n e => by
  rw [upd_ne (ne_of_none e hp)]
  exact a b u n e
theorem Same.mut {H H' : Hp} {p : Addr} {o : HO} (e : Same H H') (h : H p = none) : Same H (upd H' p o) := fun a u ha => by
  rw [upd_ne (ne_of_none ha h)]
  exact e a u ha
theorem KD.seq {K : PySem.W.Frag} {d : Addr} {H H' : Hp} {a : Addr} {xs : List V} (e : KD d H H') (n : a ≠ d) (h : SqL K H a xs) : SqL K H' a xs := by
  rcases h with (h | ⟨o, h⟩) | h
  · exact .inl (.inl (e _ _ n h))
  · exact .inl (.inr ⟨o, e _ _ n h⟩)
  · exact .inr h
/-! ### data without lists, as it stands -/
mutual
inductive Rp (K : PySem.W.Frag) (H : Hp) : V → PyData → Prop
  | non : Rp K H .non .none
  | bl (b : Bool) : Rp K H (.bl b) (.bool b)
  | int (i : Int) : Rp K H (.int i) (.int i)
  | str (x : Str) : Rp K H (.str x) (.str x)
  | tup {a : Addr} {xs : List V} {ds : List PyData} : SqT K H a xs → RpAll K H xs ds → Rp K H (.ref a) (.tuple ds)
inductive RpAll (K : PySem.W.Frag) (H : Hp) : List V → List PyData → Prop
  | nil : RpAll K H [] []
  | cons {v : V} {vs : List V} {d : PyData} {ds : List PyData} : Rp K H v d → RpAll K H vs ds → RpAll K H (v :: vs) (d :: ds)
end
section
variable {K : PySem.W.Frag} {H H' : Hp} {v : V} {d : PyData}
mutual
theorem Rp.mono (e : KT H H') : ∀ {v : V} {d : PyData}, Rp K H v d → Rp K H' v d
  | _, _, .non => .non
  | _, _, .bl b => .bl b
  | _, _, .int i => .int i
  | _, _, .str x => .str x
  | _, _, .tup h1 h2 => .tup (e.sq h1) (RpAll.mono e h2)
theorem RpAll.mono (e : KT H H') : ∀ {vs : List V} {ds : List PyData}, RpAll K H vs ds → RpAll K H' vs ds
  | _, _, .nil => .nil
  | _, _, .cons h1 h2 => .cons (Rp.mono e h1) (RpAll.mono e h2)
end
mutual
theorem Rp.dp : ∀ {v : V} {d : PyData}, Rp K H v d → Dp K H v d
  | _, _, .non => .non
  | _, _, .bl b => .bl b
  | _, _, .int i => .int i
  | _, _, .str x => .str x
  | _, _, .tup h1 h2 => .tup h1 (RpAll.dp h2)
theorem RpAll.dp : ∀ {vs : List V} {ds : List PyData}, RpAll K H vs ds → DpAll K H vs ds
  | _, _, .nil => .nil
  | _, _, .cons h1 h2 => .cons (Rp.dp h1) (RpAll.dp h2)
end
theorem Rp.tupI {ds : List PyData} (h : Rp K H v (.tuple ds)) : ∃ a xs, v = .ref a ∧ SqT K H a xs ∧ RpAll K H xs ds := by
  cases h with
  | tup h1 h2 => exact ⟨_, _, rfl, h1, h2⟩
theorem Rp.intI {i : Int} (h : Rp K H v (.int i)) : v = .int i := by cases h; rfl
theorem Rp.strI {x : Str} (h : Rp K H v (.str x)) : v = .str x := by cases h; rfl
theorem Rp.blI {b : Bool} (h : Rp K H v (.bool b)) : v = .bl b := by cases h; rfl
theorem RpAll.nilI {vs : List V} (h : RpAll K H vs []) : vs = [] := by cases h; rfl
theorem RpAll.consI {vs : List V} {ds : List PyData} (h : RpAll K H vs (d :: ds)) : ∃ w ws, vs = w :: ws ∧ Rp K H w d ∧ RpAll K H ws ds := by
  cases h with
  | cons h1 h2 => exact ⟨_, _, rfl, h1, h2⟩
theorem RpAll.length : ∀ {vs : List V} {ds : List PyData}, RpAll K H vs ds → vs.length = ds.length
  | _, _, .nil => rfl
  | _, _, .cons _ h => by simp [RpAll.length h]
theorem RpAll.get : ∀ {vs : List V} {ds : List PyData} {i : Nat} {d : PyData}, RpAll K H vs ds → ds[i]? = some d → ∃ v, vs[i]? = some v ∧ Rp K H v d
  | _, _, _, _, .nil, e => by simp at e
  | _, _, 0, _, .cons h _, e => by simp at e; subst e; exact ⟨_, rfl, h⟩
  | _, _, i + 1, d, .cons _ h, e => by
    obtain ⟨v, h1, h2⟩ := RpAll.get (i := i) (d := d) h (by simpa using e)
    exact ⟨v, by simpa using h1, h2⟩
theorem RpAll.getV : ∀ {vs : List V} {ds : List PyData} {i : Nat} {v : V}, RpAll K H vs ds → vs[i]? = some v → ∃ d, ds[i]? = some d ∧ Rp K H v d
  | _, _, _, _, .nil, e => by simp at e
  | _, _, 0, _, .cons h _, e => by simp at e; subst e; exact ⟨_, rfl, h⟩
  | _, _, i + 1, v, .cons _ h, e => by
    obtain ⟨d, h1, h2⟩ := RpAll.getV (i := i) (v := v) h (by simpa using e)
    exact ⟨d, by simpa using h1, h2⟩
theorem RpAll.append : ∀ {vs ws : List V} {ds es : List PyData}, RpAll K H vs ds → RpAll K H ws es → RpAll K H (vs ++ ws) (ds ++ es)
  | _, _, _, _, .nil, h => h
  | _, _, _, _, .cons a b, h => .cons a (RpAll.append b h)
end

theorem RpAll.take {K : PySem.W.Frag} {H : Hp} : ∀ {vs : List V} {ds : List PyData} (n : Nat), RpAll K H vs ds → RpAll K H (vs.take n) (ds.take n)
  | _, _, 0, _ => by simp only [List.take_zero]; exact .nil
  | _, _, _ + 1, .nil => by simp only [List.take_nil]; exact .nil
  | _, _, n + 1, .cons h t => .cons h (RpAll.take n t)
theorem RpAll.drop {K : PySem.W.Frag} {H : Hp} : ∀ {vs : List V} {ds : List PyData} (n : Nat), RpAll K H vs ds → RpAll K H (vs.drop n) (ds.drop n)
  | _, _, 0, h => h
  | _, _, _ + 1, .nil => by simp only [List.drop_nil]; exact .nil
  | _, _, n + 1, .cons _ t => RpAll.drop n t
/-! ### fractions -/
/-- the pair of two ints -/
def PF (K : PySem.W.Frag) (H : Hp) (v : V) (a b : Int) : Prop := ∃ p, v = .ref p ∧ SqT K H p [.int a, .int b]
abbrev RF (K : PySem.W.Frag) (H : Hp) (v : V) (q : Rat) : Prop := PF K H v q.num (q.den : Int)
def qd (q : Rat) : PyData := .tuple [.int q.num, .int (q.den : Int)]
theorem PF.mono {K : PySem.W.Frag} {H H' : Hp} {v : V} {a b : Int} (e : KT H H') (h : PF K H v a b) : PF K H' v a b := by
  obtain ⟨p, rfl, h⟩ := h
  exact ⟨p, rfl, e.sq h⟩
theorem PF.rp {K : PySem.W.Frag} {H : Hp} {v : V} {a b : Int} (h : PF K H v a b) : Rp K H v (.tuple [.int a, .int b]) := by
  obtain ⟨p, rfl, h⟩ := h
  exact .tup h (.cons (.int a) (.cons (.int b) .nil))
theorem PF.of {K : PySem.W.Frag} {H : Hp} {v : V} {a b : Int} (h : Rp K H v (.tuple [.int a, .int b])) : PF K H v a b := by
  obtain ⟨p, xs, rfl, h1, h2⟩ := h.tupI
  obtain ⟨w, ws, rfl, h3, h4⟩ := h2.consI
  obtain ⟨w2, ws2, rfl, h5, h6⟩ := h4.consI
  have e1 := h3.intI
  have e2 := h5.intI
  have e3 := h6.nilI
  subst e1 e2 e3
  exact ⟨p, rfl, h1⟩

abbrev RQ (K : PySem.W.Frag) (H : Hp) (vs : List V) (qs : List Rat) : Prop := RpAll K H vs (qs.map qd)
theorem RQ.get {K : PySem.W.Frag} {H : Hp} {vs : List V} {qs : List Rat} {i : Nat} {q : Rat} (h : RQ K H vs qs) (e : qs[i]? = some q) : ∃ v, vs[i]? = some v ∧ RF K H v q := by
  obtain ⟨v, h1, h2⟩ := RpAll.get (d := qd q) h (by rw [List.getElem?_map, e]; rfl)
  exact ⟨v, h1, PF.of h2⟩
theorem RQ.getV {K : PySem.W.Frag} {H : Hp} {vs : List V} {qs : List Rat} {i : Nat} {v : V} (h : RQ K H vs qs) (e : vs[i]? = some v) : ∃ q, qs[i]? = some q ∧ RF K H v q := by
  obtain ⟨d, h1, h2⟩ := RpAll.getV h e
  rw [List.getElem?_map] at h1
  cases c : qs[i]? with
  | none => rw [c] at h1; cases h1
  | some q =>
    rw [c] at h1
    cases h1
    exact ⟨q, rfl, PF.of h2⟩
theorem RQ.length {K : PySem.W.Frag} {H : Hp} {vs : List V} {qs : List Rat} (h : RQ K H vs qs) : vs.length = qs.length := by
  rw [RpAll.length h, List.length_map]
theorem RQ.snoc {K : PySem.W.Frag} {H : Hp} {vs : List V} {qs : List Rat} {v : V} {q : Rat} (h : RQ K H vs qs) (r : RF K H v q) : RQ K H (vs ++ [v]) (qs ++ [q]) := by
  show RpAll K H (vs ++ [v]) ((qs ++ [q]).map qd)
  rw [List.map_append]
  exact RpAll.append h (.cons r.rp .nil)
/-! ### rationals -/
theorem divInt_num {a b : Int} (hb : 0 < b) : (Rat.divInt a b).num = a / ((Nat.gcd a.natAbs b.natAbs : Nat) : Int) := by
  rw [Rat.num_divInt]
  have h : b.sign = 1 := Int.sign_eq_one_of_pos hb
  rw [h, Int.one_mul]
  have : b.gcd a = Nat.gcd a.natAbs b.natAbs := by rw [Int.gcd, Nat.gcd_comm]
  rw [this]
theorem divInt_den {a b : Int} (hb : 0 < b) : ((Rat.divInt a b).den : Int) = b / ((Nat.gcd a.natAbs b.natAbs : Nat) : Int) := by
  rw [Rat.den_divInt, if_neg (by omega)]
  have : b.gcd a = Nat.gcd a.natAbs b.natAbs := by rw [Int.gcd, Nat.gcd_comm]
  rw [this, Int.natCast_ediv, Int.natAbs_of_nonneg (by omega)]
theorem gcd_pos {a b : Int} (hb : 0 < b) : (0 : Int) < ((Nat.gcd a.natAbs b.natAbs : Nat) : Int) := by
  have := Nat.gcd_pos_of_pos_right a.natAbs (show 0 < b.natAbs by omega)
  omega
theorem gcd_le {a b : Int} (hb : 0 < b) : (((Nat.gcd a.natAbs b.natAbs : Nat) : Int)).natAbs ≤ b.natAbs := by
  have := Nat.gcd_le_right a.natAbs (show 0 < b.natAbs by omega)
  omega
/-- its parts have at most so many bits -/
def Sz (k : Nat) (q : Rat) : Prop := q.num.natAbs < 2 ^ k ∧ q.den < 2 ^ k
theorem divInt_sz {a b : Int} {k : Nat} (hb : 0 < b) (h1 : a.natAbs < 2 ^ k) (h2 : b.natAbs < 2 ^ k) : Sz k (Rat.divInt a b) := by
  have g := gcd_pos (a := a) hb
  have e1 := divInt_num (a := a) hb
  have e2 := divInt_den (a := a) hb
  constructor
  · rw [e1]
    exact Nat.lt_of_le_of_lt (Int.natAbs_ediv_le_natAbs _ _) h1
  · have : (Rat.divInt a b).den ≤ b.natAbs := by
      have h3 : b / ((Nat.gcd a.natAbs b.natAbs : Nat) : Int) ≤ b := Int.ediv_le_self _ (by omega)
      omega
    omega
theorem den_pos (q : Rat) : (0 : Int) < (q.den : Int) := by
  have := q.den_pos
  omega
theorem lt_num {a b : Rat} : (a.num * (b.den : Int) < b.num * (a.den : Int)) ↔ a < b := (Rat.lt_iff a b).symm
/-! ### going through a row -/
theorem it_list {K : PySem.W.Frag} {a : Addr} {xs : List V} {H0 : Hp} {Qd : Hp → Prop} {Body : (Hp → Prop) → V → Hp → Prop} (Pv : Nat → Hp → Prop) (h0 : Pv 0 H0) (hl : ∀ i H, Pv i H → SqL K H a xs)
    (hs : ∀ i x H, xs[i]? = some x → Pv i H → Body (Pv (i + 1)) x H) (hd : ∀ H, Pv xs.length H → Qd H) :
    ∃ W : Nat → Nat → Hp → Prop, (∃ m, W 0 m H0) ∧ ∀ i m H, W i m H → ((Itl K a).stop i H ∧ Qd H) ∨
      ((Itl K a).go i H ∧ ∃ N : Hp → Prop, (∀ H', N H' → ∃ m', m' < m ∧ W (i + 1) m' H') ∧ ∀ x H', (Itl K a).yld i H x H' → Body N x H') := by
  refine ⟨fun i m H => i + m = xs.length ∧ Pv i H, ⟨xs.length, Nat.zero_add _, h0⟩, fun i m H h => ?_⟩
  obtain ⟨e, p⟩ := h
  have q := hl i H p
  cases m with
  | zero =>
    have e' : i = xs.length := e
    subst e'
    exact .inl ⟨⟨xs, q, Nat.le_refl _⟩, hd H p⟩
  | succ m =>
    have c : i < xs.length := by omega
    have g : xs[i]? = some xs[i] := List.getElem?_eq_getElem c
    refine .inr ⟨⟨xs, _, q, g⟩, Pv (i + 1), fun H' p' => ⟨m, Nat.lt_succ_self m, by omega, p'⟩, fun x H' y => ?_⟩
    obtain ⟨rfl, y2⟩ := y
    exact hs i x _ (y2 xs q) p
theorem it_tup {K : PySem.W.Frag} {a : Addr} {xs : List V} {H0 : Hp} {Qd : Hp → Prop} {Body : (Hp → Prop) → V → Hp → Prop} (Pv : Nat → Hp → Prop) (h0 : Pv 0 H0) (hl : ∀ i H, Pv i H → SqT K H a xs)
    (hs : ∀ i x H, xs[i]? = some x → Pv i H → Body (Pv (i + 1)) x H) (hd : ∀ H, Pv xs.length H → Qd H) :
    ∃ W : Nat → Nat → Hp → Prop, (∃ m, W 0 m H0) ∧ ∀ i m H, W i m H → ((Itt K a).stop i H ∧ Qd H) ∨
      ((Itt K a).go i H ∧ ∃ N : Hp → Prop, (∀ H', N H' → ∃ m', m' < m ∧ W (i + 1) m' H') ∧ ∀ x H', (Itt K a).yld i H x H' → Body N x H') := by
  refine ⟨fun i m H => i + m = xs.length ∧ Pv i H, ⟨xs.length, Nat.zero_add _, h0⟩, fun i m H h => ?_⟩
  obtain ⟨e, p⟩ := h
  have q := hl i H p
  cases m with
  | zero =>
    have e' : i = xs.length := e
    subst e'
    exact .inl ⟨⟨xs, q, Nat.le_refl _⟩, hd H p⟩
  | succ m =>
    have c : i < xs.length := by omega
    have g : xs[i]? = some xs[i] := List.getElem?_eq_getElem c
    refine .inr ⟨⟨xs, _, q, g⟩, Pv (i + 1), fun H' p' => ⟨m, Nat.lt_succ_self m, by omega, p'⟩, fun x H' y => ?_⟩
    obtain ⟨rfl, y2⟩ := y
    exact hs i x _ (y2 xs q) p
theorem tyT {K : PySem.W.Frag} {H : Hp} {a : Addr} {xs : List V} (h : SqT K H a xs) : TyX K H (.ref a) (.type "tuple") := by
  rcases h with (h | ⟨o, h⟩) | ⟨o, _, _, h, c, _⟩
  · exact .base (.tup h)
  · exact .fTuple h
  · exact .kTuple h c
theorem pe_ty {X : Cx} {x : Str} {n : String} {pos : Pos} (hg : Gl X x) (hm : X.mg x = none) (hv : bootBuiltins x = some (.type n)) (hn : x ≠ "__name__" := by decide) (hd : (x == ("__debug__" : Str)) = false := by decide) : PE X (.Name x pos) (tC (.ty n)) :=
  pe_bltn hg hm hv (show RelV (.ty n) (.type n) from rfl) hn hd
/-! ### a def of the text -/
/-- the def nm that the module's name x stands for -/
structure FnA (K : PySem.W.Frag) (mg : Str → Option Value) (x nm : Str) (st : Stmt) : Prop where
  ex : ∃ f fd, FunD K nm nm (defArgs st) (defBody st) (defScope st) [] [] f fd ∧ mg x = some (.ref f)
abbrev FnD (K : PySem.W.Frag) (mg : Str → Option Value) (x : Str) (st : Stmt) : Prop := FnA K mg x x st
/-- the class x at C and its __init__ -/
structure MkD (K : PySem.W.Frag) (mg : Str → Option Value) (x : Str) (C : Addr) (qual : Str) (st : Stmt) : Prop where
  ex : ∃ f fd, FunD K "__init__" qual (defArgs st) (defBody st) (defScope st) [] [] f fd ∧ mg x = some (.ref C) ∧ Mk K C f
/-- a method of the class at C -/
structure MtD (K : PySem.W.Frag) (C : Addr) (m qual : Str) (st : Stmt) : Prop where
  ex : ∃ f fd, FunD K m qual (defArgs st) (defBody st) (defScope st) [] [] f fd ∧ Cls K C ∧ Meth K C m f
section
variable {P : Program} {w : World} {K : PySem.W.Frag} {mg : Str → Option Value} {base : Heap}
abbrev HBinds (x qual : Str) (st : Stmt) (ps : List Str) : Prop := ∀ (kV doc pm : Value) (an : Option Addr) (cdv ct : Value) (us : List Value), us.length = ps.length → bindArgs (PySem.W.fnOf x qual (defArgs st) (defBody st) (defScope st) .none kV doc pm an cdv ct) ⟨us, []⟩ = pure (ps.zip us)
abbrev HBody (P : Program) (w : World) (K : PySem.W.Frag) (mg : Str → Option Value) (base : Heap) (k : Nat) (qual : Str) (st : Stmt) (N : List Str) (sp : Sp) : Prop :=
  ∀ (cdv : Value) (f : Addr) (A : Around) (outer : List Env) (s : Shared) (H : Hp) (vs : List V) (Q : VK) (E : XK), Room k (A.deeper (envOfC qual (defScope st) s.heap.objs.size f cdv)) → sp vs H Q E →
      ∃ t, PSs (cxOf CX0 P w K mg base N qual (defScope st) f cdv A outer s H E).nox (defBody st) t ∧ t { nx := fun _ H' => Q .non H', rt := Q } (start N vs) H
theorem fnOkOf {x qual : Str} {st : Stmt} {N ps : List Str} {k : Nat} {sp : Sp} {f : Addr} {fd : FuncData} (F : FunD K x qual (defArgs st) (defBody st) (defScope st) [] [] f fd) (S : FnScope N ps (defScope st))
    (len : ∀ vs H Q E, sp vs H Q E → vs.length = ps.length) (hbody : HBody P w K mg base k qual st N sp) : FnOk P w K mg base CX0 (k + 1) f fd ps sp :=
  F.ok S len fun cdv A outer s H vs Q E hr h => (by
    obtain ⟨t, h1, h2⟩ := hbody cdv f A outer s H vs Q E hr h
    exact ⟨t, h1.nox, h2⟩)
theorem calOf {x nm : Str} {st : Stmt} {N ps : List Str} {k : Nat} {sp : Sp} (F : FnA K mg x nm st) (S : FnScope N ps (defScope st)) (hb : HBinds nm nm st ps) (len : ∀ vs H Q E, sp vs H Q E → vs.length = ps.length)
    (hbody : HBody P w K mg base k nm st N sp) : Cal P w K mg base (k + 1) x sp [] := by
  obtain ⟨f, fd, F, hm⟩ := F.ex
  exact ⟨f, fd, ps, [], fnOkOf F S len hbody, hm, F.kp, F.bindsN hb, .nil⟩
theorem makOf {x qual : Str} {C : Addr} {st : Stmt} {N ps : List Str} {k : Nat} {sp : Sp} (F : MkD K mg x C qual st) (S : FnScope N ps (defScope st)) (hb : HBinds "__init__" qual st ps) (len : ∀ vs H Q E, sp vs H Q E → vs.length = ps.length)
    (hbody : HBody P w K mg base k qual st N sp) : Mak P w K mg base (k + 1) x C sp [] := by
  obtain ⟨f, fd, F, hm, hk⟩ := F.ex
  exact ⟨f, fd, ps, [], hk, fnOkOf F S len hbody, hm, F.bindsN hb, .nil⟩
theorem metOf {m qual : Str} {C : Addr} {st : Stmt} {N ps : List Str} {k : Nat} {sp : Sp} (F : MtD K C m qual st) (S : FnScope N ps (defScope st)) (hb : HBinds m qual st ps) (len : ∀ vs H Q E, sp vs H Q E → vs.length = ps.length)
    (hbody : HBody P w K mg base k qual st N sp) : Met P w K mg base (k + 1) C m sp [] := by
  obtain ⟨f, fd, F, hc, hm⟩ := F.ex
  exact ⟨f, fd, ps, [], hc, hm, fnOkOf F S len hbody, F.bindsN hb, .nil⟩
end
theorem wm {i j : Int} {a b : Nat} (ha : i.natAbs < 2 ^ a) (hb : j.natAbs < 2 ^ b) (h : a + b ≤ 900000) : CMulW i j :=
  wide_mul (a := a + 1) (b := b + 1) (Nat.lt_trans ha (by rw [Nat.pow_succ]; have := Nat.two_pow_pos a; omega)) (Nat.lt_trans hb (by rw [Nat.pow_succ]; have := Nat.two_pow_pos b; omega)) (by omega) (by omega) (by omega)
theorem Sz.d {k : Nat} {q : Rat} (h : Sz k q) : ((q.den : Int)).natAbs < 2 ^ k := by
  have := h.2
  omega
theorem Sz.mono {j k : Nat} {q : Rat} (h : Sz j q) (l : j ≤ k) : Sz k q :=
  ⟨Nat.lt_of_lt_of_le h.1 (Nat.pow_le_pow_right (by omega) l), Nat.lt_of_lt_of_le h.2 (Nat.pow_le_pow_right (by omega) l)⟩
theorem sz_add {a b c d : Int} {m n : Nat} (hb : 0 < b) (hd : 0 < d) (h1 : a.natAbs < 2 ^ m) (h2 : b.natAbs < 2 ^ m) (h3 : c.natAbs < 2 ^ n) (h4 : d.natAbs < 2 ^ n) : Sz (m + n + 1) (Rat.divInt a b + Rat.divInt c d) := by
  rw [Rat.divInt_add_divInt _ _ (by omega) (by omega)]
  have e : (2 : Nat) ^ (m + n + 1) = 2 ^ (m + n) + 2 ^ (m + n) := by rw [Nat.pow_succ]; omega
  refine divInt_sz (Int.mul_pos hb hd) ?_ ?_
  · have z1 := wide_lt h1 h4
    have z2 := wide_lt h3 h2
    rw [Nat.add_comm n m] at z2
    have := Int.natAbs_add_le (a * d) (c * b)
    omega
  · have z1 := wide_lt h2 h4
    omega
theorem ne_zero_divInt {c d : Int} (hc : 0 < c) (hd : 0 < d) : Rat.divInt c d ≠ 0 := by
  intro h
  have z : (0 : Rat) = Rat.divInt 0 1 := by rw [Rat.zero_divInt]
  rw [z, Rat.divInt_eq_divInt_iff (by omega) (by omega)] at h
  omega
theorem divInt_div {a b c d : Int} (hc : 0 < c) (hd : 0 < d) (hb : 0 < b) : Rat.divInt (a * d) (b * c) = Rat.divInt a b / Rat.divInt c d := by
  have h := ne_zero_divInt hc hd
  have e : Rat.divInt (a * d) (b * c) * Rat.divInt c d = Rat.divInt a b := by
    rw [Rat.divInt_mul_divInt, Rat.divInt_eq_divInt_iff (by have := Int.mul_pos (Int.mul_pos hb hc) hd; omega) (by omega)]
    grind
  rw [← e, Rat.mul_div_cancel h]
theorem int_rat (x : Int) : ((x : Int) : Rat) = Rat.divInt x 1 := by
  rw [Rat.divInt_eq_div]
  grind
theorem mul_divInt (x : Int) (q : Rat) : ((x : Int) : Rat) * q = Rat.divInt (x * q.num) (q.den : Int) := by
  have h : q = Rat.divInt q.num (q.den : Int) := (Rat.num_divInt_den q).symm
  conv => lhs; rw [h]
  rw [int_rat, Rat.divInt_mul_divInt, Int.one_mul]
def NumOk (k : Nat) (q : Rat) : Prop := 0 ≤ q ∧ q ≤ 1 ∧ Sz k q
theorem NumOk.mono {j k : Nat} {q : Rat} (h : NumOk j q) (l : j ≤ k) : NumOk k q := ⟨h.1, h.2.1, h.2.2.mono l⟩
theorem numOk_divInt {a b : Int} {k : Nat} (ha : 0 ≤ a) (hab : a ≤ b) (hb : 0 < b) (hk : b.natAbs < 2 ^ k) : NumOk k (Rat.divInt a b) := by
  refine ⟨Rat.divInt_nonneg ha (by omega), ?_, divInt_sz hb (by omega) hk⟩
  have e : (1 : Rat) = Rat.divInt b b := by
    rw [show (1 : Rat) = Rat.divInt 1 1 from rfl, Rat.divInt_eq_divInt_iff (by omega) (by omega)]
    omega
  have h := Rat.divInt_nonneg (a := b - a) (b := b) (by omega) (by omega)
  have h2 : Rat.divInt (b - a) b = 1 - Rat.divInt a b := by
    rw [e, Rat.divInt_sub_divInt _ _ (by omega) (by omega), Rat.divInt_eq_divInt_iff (by omega) (by have := Int.mul_pos hb hb; omega)]
    grind
  rw [h2] at h
  grind
/-- the lesser, the greater one -/
def rmin (a b : Rat) : Rat := if b < a then b else a
def rmax (a b : Rat) : Rat := if a < b then b else a
theorem divInt_self' (q : Rat) : Rat.divInt q.num (q.den : Int) = q := Rat.num_divInt_den q
end CB

set_option Elab.async false
set_option linter.all false
set_option maxRecDepth 100000
set_option maxHeartbeats 4000000
namespace CB
open PySem PySem.Spec PyProof.Rows L2
open C8 (Cal Met Mak pe_c pe_mk pe_mt pe_mt0 pe_gc CalAt)
def top (i : Nat) : Stmt := PySem.Challenge.pw_cornerbids_k76_whole_where_groups_part.main.body.getD i (.Pass ⟨0, 0, 0, 0⟩)
set_option maxHeartbeats 0
abbrev s_lowest : Stmt := top 5
abbrev s_is_less : Stmt := top 6
abbrev s_lesser : Stmt := top 7
abbrev s_greater : Stmt := top 9
abbrev s_mean_of : Stmt := top 11
abbrev s_common_bottom : Stmt := top 12
abbrev s_scaled : Stmt := top 13
abbrev s__law_draw : Stmt := top 69
abbrev s__law_dice : Stmt := top 68
abbrev s__law_lowest : Stmt := top 70
abbrev s__law_sum : Stmt := top 71
abbrev s__law_product : Stmt := top 72
abbrev s__law_less : Stmt := top 73
abbrev s__law_number : Stmt := top 75
abbrev s__law_numbers : Stmt := top 76
abbrev s__law_sorted : Stmt := top 74
abbrev s__law_term : Stmt := top 77
abbrev s_is_integer : Stmt := top 21
abbrev s_is_number : Stmt := top 22
abbrev s_is_person : Stmt := top 26
abbrev s_is_weight : Stmt := top 37
abbrev s_is_weighted : Stmt := top 36
abbrev s_are_some : Stmt := top 35
abbrev s_are_bounds : Stmt := top 24
abbrev s_inner_terms : Stmt := top 38
abbrev s_is_formed : Stmt := top 34
abbrev s_is_term : Stmt := top 33
abbrev s_is_people : Stmt := top 25
abbrev s_Rule___init__ : Stmt := inClass (top 58) 0
abbrev s_Numbers_fixed : Stmt := inClass (top 45) 0
abbrev s_Numbers_mean : Stmt := inClass (top 45) 1
abbrev s_Numbers_lesser : Stmt := inClass (top 45) 2
abbrev s_Numbers_greater : Stmt := inClass (top 45) 3
abbrev s_least_of : Stmt := top 42
abbrev s_greatest_of : Stmt := top 43
abbrev s_kth_greatest : Stmt := top 44
abbrev s_worked : Stmt := top 41
abbrev s_told_by : Stmt := top 46
abbrev s_are_numbers : Stmt := top 23
abbrev s__law_value : Stmt := top 78
abbrev s_replaced : Stmt := top 47
abbrev s_mixed : Stmt := top 48
abbrev s_settled : Stmt := top 56
abbrev s_settled_between : Stmt := top 55
abbrev s_outcome_of : Stmt := top 54
abbrev s_need_wishes : Stmt := top 27
abbrev s_outcome : Stmt := top 53
abbrev s__law_at_ends : Stmt := top 81
abbrev s__law_corner : Stmt := top 82
abbrev s__law_by_size : Stmt := top 80
abbrev s__law_lots : Stmt := top 79
abbrev s__law_outcome : Stmt := top 83
abbrev s_with_inner : Stmt := top 39
abbrev s_built : Stmt := top 59
abbrev s_renamed_term : Stmt := top 60
abbrev s_need_few : Stmt := top 63
abbrev s_parted : Stmt := top 64
abbrev s_with_terms : Stmt := top 40
abbrev s_composed : Stmt := top 62
abbrev s_groups_first : Stmt := top 65
abbrev s__law_inners : Stmt := top 84
abbrev s__law_pieces : Stmt := top 86
abbrev s__law_nested : Stmt := top 87
abbrev s_lots_among : Stmt := top 51
abbrev s_all_lots : Stmt := top 50
abbrev s__law_moved : Stmt := top 85
abbrev s__law_whole : Stmt := top 88
abbrev s_groups_parting : Stmt := top 66
abbrev s__law_due : Stmt := top 89
abbrev s_law : Stmt := top 90
/-! ### the head -/
def d_lowest : He.DefD := ⟨("lowest", none), "lowest", "lowest", defArgs s_lowest, defBody s_lowest, defScope s_lowest, [], []⟩
def d_is_less : He.DefD := ⟨("is_less", none), "is_less", "is_less", defArgs s_is_less, defBody s_is_less, defScope s_is_less, [], []⟩
def d_lesser : He.DefD := ⟨("lesser", none), "lesser", "lesser", defArgs s_lesser, defBody s_lesser, defScope s_lesser, [], []⟩
def d_greater : He.DefD := ⟨("greater", none), "greater", "greater", defArgs s_greater, defBody s_greater, defScope s_greater, [], []⟩
def d_mean_of : He.DefD := ⟨("mean_of", none), "mean_of", "mean_of", defArgs s_mean_of, defBody s_mean_of, defScope s_mean_of, [], []⟩
def d_common_bottom : He.DefD := ⟨("common_bottom", none), "common_bottom", "common_bottom", defArgs s_common_bottom, defBody s_common_bottom, defScope s_common_bottom, [], []⟩
def d_scaled : He.DefD := ⟨("scaled", none), "scaled", "scaled", defArgs s_scaled, defBody s_scaled, defScope s_scaled, [], []⟩
def d_is_integer : He.DefD := ⟨("is_integer", none), "is_integer", "is_integer", defArgs s_is_integer, defBody s_is_integer, defScope s_is_integer, [], []⟩
def d_is_number : He.DefD := ⟨("is_number", none), "is_number", "is_number", defArgs s_is_number, defBody s_is_number, defScope s_is_number, [], []⟩
def d_are_numbers : He.DefD := ⟨("are_numbers", none), "are_numbers", "are_numbers", defArgs s_are_numbers, defBody s_are_numbers, defScope s_are_numbers, [], []⟩
def d_are_bounds : He.DefD := ⟨("are_bounds", none), "are_bounds", "are_bounds", defArgs s_are_bounds, defBody s_are_bounds, defScope s_are_bounds, [], []⟩
def d_is_people : He.DefD := ⟨("is_people", none), "is_people", "is_people", defArgs s_is_people, defBody s_is_people, defScope s_is_people, [], []⟩
def d_is_person : He.DefD := ⟨("is_person", none), "is_person", "is_person", defArgs s_is_person, defBody s_is_person, defScope s_is_person, [], []⟩
def d_need_wishes : He.DefD := ⟨("need_wishes", none), "need_wishes", "need_wishes", defArgs s_need_wishes, defBody s_need_wishes, defScope s_need_wishes, [], []⟩
def d_is_term : He.DefD := ⟨("is_term", none), "is_term", "is_term", defArgs s_is_term, defBody s_is_term, defScope s_is_term, [], []⟩
def d_is_formed : He.DefD := ⟨("is_formed", none), "is_formed", "is_formed", defArgs s_is_formed, defBody s_is_formed, defScope s_is_formed, [], []⟩
def d_are_some : He.DefD := ⟨("are_some", none), "are_some", "are_some", defArgs s_are_some, defBody s_are_some, defScope s_are_some, [], []⟩
def d_is_weighted : He.DefD := ⟨("is_weighted", none), "is_weighted", "is_weighted", defArgs s_is_weighted, defBody s_is_weighted, defScope s_is_weighted, [], []⟩
def d_is_weight : He.DefD := ⟨("is_weight", none), "is_weight", "is_weight", defArgs s_is_weight, defBody s_is_weight, defScope s_is_weight, [], []⟩
def d_inner_terms : He.DefD := ⟨("inner_terms", none), "inner_terms", "inner_terms", defArgs s_inner_terms, defBody s_inner_terms, defScope s_inner_terms, [], []⟩
def d_with_inner : He.DefD := ⟨("with_inner", none), "with_inner", "with_inner", defArgs s_with_inner, defBody s_with_inner, defScope s_with_inner, [], []⟩
def d_with_terms : He.DefD := ⟨("with_terms", none), "with_terms", "with_terms", defArgs s_with_terms, defBody s_with_terms, defScope s_with_terms, [], []⟩
def d_worked : He.DefD := ⟨("worked", none), "worked", "worked", defArgs s_worked, defBody s_worked, defScope s_worked, [], []⟩
def d_least_of : He.DefD := ⟨("least_of", none), "least_of", "least_of", defArgs s_least_of, defBody s_least_of, defScope s_least_of, [], []⟩
def d_greatest_of : He.DefD := ⟨("greatest_of", none), "greatest_of", "greatest_of", defArgs s_greatest_of, defBody s_greatest_of, defScope s_greatest_of, [], []⟩
def d_kth_greatest : He.DefD := ⟨("kth_greatest", none), "kth_greatest", "kth_greatest", defArgs s_kth_greatest, defBody s_kth_greatest, defScope s_kth_greatest, [], []⟩
def d_told_by : He.DefD := ⟨("told_by", none), "told_by", "told_by", defArgs s_told_by, defBody s_told_by, defScope s_told_by, [], []⟩
def d_replaced : He.DefD := ⟨("replaced", none), "replaced", "replaced", defArgs s_replaced, defBody s_replaced, defScope s_replaced, [], []⟩
def d_mixed : He.DefD := ⟨("mixed", none), "mixed", "mixed", defArgs s_mixed, defBody s_mixed, defScope s_mixed, [], []⟩
def d_all_lots : He.DefD := ⟨("all_lots", none), "all_lots", "all_lots", defArgs s_all_lots, defBody s_all_lots, defScope s_all_lots, [], []⟩
def d_lots_among : He.DefD := ⟨("lots_among", none), "lots_among", "lots_among", defArgs s_lots_among, defBody s_lots_among, defScope s_lots_among, [], []⟩
def d_outcome : He.DefD := ⟨("outcome", none), "outcome", "outcome", defArgs s_outcome, defBody s_outcome, defScope s_outcome, [], []⟩
def d_outcome_of : He.DefD := ⟨("outcome_of", none), "outcome_of", "outcome_of", defArgs s_outcome_of, defBody s_outcome_of, defScope s_outcome_of, [], []⟩
def d_settled_between : He.DefD := ⟨("settled_between", none), "settled_between", "settled_between", defArgs s_settled_between, defBody s_settled_between, defScope s_settled_between, [], []⟩
def d_settled : He.DefD := ⟨("settled", none), "settled", "settled", defArgs s_settled, defBody s_settled, defScope s_settled, [], []⟩
def d_built : He.DefD := ⟨("built", none), "built", "built", defArgs s_built, defBody s_built, defScope s_built, [], []⟩
def d_renamed_term : He.DefD := ⟨("renamed_term", none), "renamed_term", "renamed_term", defArgs s_renamed_term, defBody s_renamed_term, defScope s_renamed_term, [], []⟩
def d_composed : He.DefD := ⟨("composed", none), "composed", "composed", defArgs s_composed, defBody s_composed, defScope s_composed, [], []⟩
def d_need_few : He.DefD := ⟨("need_few", none), "need_few", "need_few", defArgs s_need_few, defBody s_need_few, defScope s_need_few, [], []⟩
def d_parted : He.DefD := ⟨("parted", none), "parted", "parted", defArgs s_parted, defBody s_parted, defScope s_parted, [], []⟩
def d_groups_first : He.DefD := ⟨("groups_first", none), "groups_first", "groups_first", defArgs s_groups_first, defBody s_groups_first, defScope s_groups_first, [], []⟩
def d_groups_parting : He.DefD := ⟨("groups_parting", none), "groups_parting", "groups_parting", defArgs s_groups_parting, defBody s_groups_parting, defScope s_groups_parting, [], []⟩
def d__law_dice : He.DefD := ⟨("_law_dice", none), "_law_dice", "_law_dice", defArgs s__law_dice, defBody s__law_dice, defScope s__law_dice, [], []⟩
def d__law_draw : He.DefD := ⟨("_law_draw", none), "_law_draw", "_law_draw", defArgs s__law_draw, defBody s__law_draw, defScope s__law_draw, [], []⟩
def d__law_lowest : He.DefD := ⟨("_law_lowest", none), "_law_lowest", "_law_lowest", defArgs s__law_lowest, defBody s__law_lowest, defScope s__law_lowest, [], []⟩
def d__law_sum : He.DefD := ⟨("_law_sum", none), "_law_sum", "_law_sum", defArgs s__law_sum, defBody s__law_sum, defScope s__law_sum, [], []⟩
def d__law_product : He.DefD := ⟨("_law_product", none), "_law_product", "_law_product", defArgs s__law_product, defBody s__law_product, defScope s__law_product, [], []⟩
def d__law_less : He.DefD := ⟨("_law_less", none), "_law_less", "_law_less", defArgs s__law_less, defBody s__law_less, defScope s__law_less, [], []⟩
def d__law_sorted : He.DefD := ⟨("_law_sorted", none), "_law_sorted", "_law_sorted", defArgs s__law_sorted, defBody s__law_sorted, defScope s__law_sorted, [], []⟩
def d__law_number : He.DefD := ⟨("_law_number", none), "_law_number", "_law_number", defArgs s__law_number, defBody s__law_number, defScope s__law_number, [], []⟩
def d__law_numbers : He.DefD := ⟨("_law_numbers", none), "_law_numbers", "_law_numbers", defArgs s__law_numbers, defBody s__law_numbers, defScope s__law_numbers, [], []⟩
def d__law_term : He.DefD := ⟨("_law_term", none), "_law_term", "_law_term", defArgs s__law_term, defBody s__law_term, defScope s__law_term, [], []⟩
def d__law_value : He.DefD := ⟨("_law_value", none), "_law_value", "_law_value", defArgs s__law_value, defBody s__law_value, defScope s__law_value, [], []⟩
def d__law_lots : He.DefD := ⟨("_law_lots", none), "_law_lots", "_law_lots", defArgs s__law_lots, defBody s__law_lots, defScope s__law_lots, [], []⟩
def d__law_by_size : He.DefD := ⟨("_law_by_size", none), "_law_by_size", "_law_by_size", defArgs s__law_by_size, defBody s__law_by_size, defScope s__law_by_size, [], []⟩
def d__law_at_ends : He.DefD := ⟨("_law_at_ends", none), "_law_at_ends", "_law_at_ends", defArgs s__law_at_ends, defBody s__law_at_ends, defScope s__law_at_ends, [], []⟩
def d__law_corner : He.DefD := ⟨("_law_corner", none), "_law_corner", "_law_corner", defArgs s__law_corner, defBody s__law_corner, defScope s__law_corner, [], []⟩
def d__law_outcome : He.DefD := ⟨("_law_outcome", none), "_law_outcome", "_law_outcome", defArgs s__law_outcome, defBody s__law_outcome, defScope s__law_outcome, [], []⟩
def d__law_inners : He.DefD := ⟨("_law_inners", none), "_law_inners", "_law_inners", defArgs s__law_inners, defBody s__law_inners, defScope s__law_inners, [], []⟩
def d__law_moved : He.DefD := ⟨("_law_moved", none), "_law_moved", "_law_moved", defArgs s__law_moved, defBody s__law_moved, defScope s__law_moved, [], []⟩
def d__law_pieces : He.DefD := ⟨("_law_pieces", none), "_law_pieces", "_law_pieces", defArgs s__law_pieces, defBody s__law_pieces, defScope s__law_pieces, [], []⟩
def d__law_nested : He.DefD := ⟨("_law_nested", none), "_law_nested", "_law_nested", defArgs s__law_nested, defBody s__law_nested, defScope s__law_nested, [], []⟩
def d__law_whole : He.DefD := ⟨("_law_whole", none), "_law_whole", "_law_whole", defArgs s__law_whole, defBody s__law_whole, defScope s__law_whole, [], []⟩
def d__law_due : He.DefD := ⟨("_law_due", none), "_law_due", "_law_due", defArgs s__law_due, defBody s__law_due, defScope s__law_due, [], []⟩
def d_law : He.DefD := ⟨("law", none), "law", "law", defArgs s_law, defBody s_law, defScope s_law, [], []⟩
def d_Numbers_fixed : He.DefD := ⟨("Numbers", some "fixed"), "fixed", "Numbers.fixed", defArgs s_Numbers_fixed, defBody s_Numbers_fixed, defScope s_Numbers_fixed, [], []⟩
def d_Numbers_mean : He.DefD := ⟨("Numbers", some "mean"), "mean", "Numbers.mean", defArgs s_Numbers_mean, defBody s_Numbers_mean, defScope s_Numbers_mean, [], []⟩
def d_Numbers_lesser : He.DefD := ⟨("Numbers", some "lesser"), "lesser", "Numbers.lesser", defArgs s_Numbers_lesser, defBody s_Numbers_lesser, defScope s_Numbers_lesser, [], []⟩
def d_Numbers_greater : He.DefD := ⟨("Numbers", some "greater"), "greater", "Numbers.greater", defArgs s_Numbers_greater, defBody s_Numbers_greater, defScope s_Numbers_greater, [], []⟩
def d_Rule___init__ : He.DefD := ⟨("Rule", some "__init__"), "__init__", "Rule.__init__", defArgs s_Rule___init__, defBody s_Rule___init__, defScope s_Rule___init__, [], []⟩
def d_lesser_amounts : He.DefD := ⟨("lesser_amounts", none), "lesser", "lesser", defArgs s_lesser, defBody s_lesser, defScope s_lesser, [], []⟩
def d_greater_amounts : He.DefD := ⟨("greater_amounts", none), "greater", "greater", defArgs s_greater, defBody s_greater, defScope s_greater, [], []⟩
def fnL0 : List He.DefD := [d_lowest, d_is_less, d_lesser, d_greater, d_mean_of, d_common_bottom, d_scaled, d_is_integer, d_is_number, d_are_numbers, d_are_bounds, d_is_people, d_is_person, d_need_wishes, d_is_term, d_is_formed, d_are_some, d_is_weighted, d_is_weight, d_inner_terms, d_with_inner, d_with_terms, d_worked, d_least_of, d_greatest_of, d_kth_greatest, d_told_by, d_replaced, d_mixed, d_all_lots]
def fnL1 : List He.DefD := [d_lots_among, d_outcome, d_outcome_of, d_settled_between, d_settled, d_built, d_renamed_term, d_composed, d_need_few, d_parted, d_groups_first, d_groups_parting, d__law_dice, d__law_draw, d__law_lowest, d__law_sum, d__law_product, d__law_less, d__law_sorted, d__law_number, d__law_numbers, d__law_term, d__law_value, d__law_lots, d__law_by_size, d__law_at_ends, d__law_corner, d__law_outcome, d__law_inners, d__law_moved]
def fnL2 : List He.DefD := [d__law_pieces, d__law_nested, d__law_whole, d__law_due, d_law, d_Numbers_fixed, d_Numbers_mean, d_Numbers_lesser, d_Numbers_greater, d_Rule___init__, d_lesser_amounts, d_greater_amounts]
def fnL : List He.DefD := fnL0 ++ fnL1 ++ fnL2
def faL0 : List He.Fa := [.glo "lowest", .glo "is_less", .glo "lesser", .glo "greater", .glo "mean_of", .glo "common_bottom", .glo "scaled", .glo "is_integer", .glo "is_number", .glo "are_numbers", .glo "are_bounds", .glo "is_people", .glo "is_person", .glo "need_wishes", .glo "is_term", .glo "is_formed", .glo "are_some", .glo "is_weighted", .glo "is_weight", .glo "inner_terms", .glo "with_inner", .glo "with_terms", .glo "worked", .glo "least_of", .glo "greatest_of", .glo "kth_greatest", .glo "told_by", .glo "replaced", .glo "mixed", .glo "all_lots"]
def faL1 : List He.Fa := [.glo "lots_among", .glo "outcome", .glo "outcome_of", .glo "settled_between", .glo "settled", .glo "built", .glo "renamed_term", .glo "composed", .glo "need_few", .glo "parted", .glo "groups_first", .glo "groups_parting", .glo "_law_dice", .glo "_law_draw", .glo "_law_lowest", .glo "_law_sum", .glo "_law_product", .glo "_law_less", .glo "_law_sorted", .glo "_law_number", .glo "_law_numbers", .glo "_law_term", .glo "_law_value", .glo "_law_lots", .glo "_law_by_size", .glo "_law_at_ends", .glo "_law_corner", .glo "_law_outcome", .glo "_law_inners", .glo "_law_moved"]
def faL2 : List He.Fa := [.glo "_law_pieces", .glo "_law_nested", .glo "_law_whole", .glo "_law_due", .glo "law", .glo "lesser_amounts", .glo "greater_amounts", .glo "Rule", .cls "Rule", .glo "Numbers", .cls "Numbers", .noat "Rule" "people", .noat "Rule" "term", .mkr "Rule", .meth "Numbers" "fixed", .meth "Numbers" "mean", .meth "Numbers" "lesser", .meth "Numbers" "greater", .keep "Numbers", .free "abs", .free "int", .free "len", .free "isinstance", .free "bool", .free "tuple", .free "str", .free "all", .free "range", .free "min", .free "sorted"]
def faL3 : List He.Fa := [.free "sum", .free "list", .free "enumerate", .free "zip", .int "MOST_PEOPLE" 6, .int "MOST_WEIGHT" 99, .int "MOST_PARTS" 8, .int "MOST_DEEP" 8, .int "MOST_TERMS" 60]
def faZ : List He.Fa := [.glo "ZERO", .glo "ONE"]
def faL : List He.Fa := faL0 ++ faL1 ++ faL2 ++ faL3 ++ faZ
def looseL0 : List PySem.Str := ["ZERO", "ONE", "lowest", "is_less", "lesser", "lesser_amounts", "greater", "greater_amounts", "mean_of", "common_bottom", "scaled", "BidError", "BadRule", "NoWishes", "TooMany", "MOST_PEOPLE", "is_integer", "is_number", "are_numbers", "are_bounds", "is_people", "is_person", "need_wishes", "MOST_PARTS", "MOST_WEIGHT", "MOST_DEEP", "MOST_TERMS", "is_term", "is_formed", "are_some"]
def looseL1 : List PySem.Str := ["is_weighted", "is_weight", "inner_terms", "with_inner", "with_terms", "worked", "least_of", "greatest_of", "kth_greatest", "Numbers", "told_by", "replaced", "mixed", "all_lots", "lots_among", "outcome", "outcome_of", "settled_between", "settled", "Rule", "built", "renamed_term", "composed", "need_few", "parted", "groups_first", "groups_parting", "_law_dice", "_law_draw", "_law_lowest"]
def looseL2 : List PySem.Str := ["_law_sum", "_law_product", "_law_less", "_law_sorted", "_law_number", "_law_numbers", "_law_term", "_law_value", "_law_lots", "_law_by_size", "_law_at_ends", "_law_corner", "_law_outcome", "_law_inners", "_law_moved", "_law_pieces", "_law_nested", "_law_whole", "_law_due"]
def looseL : List PySem.Str := looseL0 ++ looseL1 ++ looseL2
def exL (K : PySem.W.Frag) : Bool := (He.eqO (PySem.W.nsIn K mainGlobals "gcd") (some (some (.builtin "math.gcd"))) && (He.eqO (PySem.W.nsIn K mainGlobals "combinations") (some (some (.type "itertools.combinations"))) && (He.eqO (PySem.W.nsIn K mainGlobals "lcm") (some (some (.builtin "math.lcm"))) && (He.tupB K "ZERO" [.int 0, .int 1] && (He.tupB K "ONE" [.int 1, .int 1] && (PySem.W.makesIn K (He.ga K "Numbers") && (He.eqO (PySem.W.findIn K (.ref (He.ga K "Numbers")) "__init__") (some (some (.builtin "object.__init__"))) && (decide (PySem.W.mroIn K (He.ga K "Numbers") (.type "object") = some true) && true))))))))
abbrev Rw : PySem.W.OpenRow := PySem.W.OpenLaw.row PySem.Challenge.rw_cornerbids_k76_whole_where_groups_part
abbrev qv : Program := PySem.W.view Rw.prog [0, 1, 90]
abbrev hkL : PySem.W.Hook := He.hookX 5 faL fnL [] [] exL
def obL (s : PySem.W.SharedT) : He.AlX := He.obsX 5 faL fnL [] [] exL (HandSHeadRun.getT s)
theorem ob_eq (s : PySem.W.SharedT) : obL s = hkL.obs s.abs := He.obsX_eq (HandSHeadRun.getT_eq s)
theorem map_both {α β γ δ : Type} {o : Option α} {f : α → β} {g : α → γ} {h : α → δ} {b : β} {c : γ} {d : δ} (e1 : o.map (fun x => (f x, g x)) = some (b, c)) (e2 : o.map h = some d) : o.map (fun x => (f x, g x, h x)) = some (b, c, d) := by
  cases o with
  | none => cases e2
  | some x =>
    obtain ⟨a1, a2⟩ := Prod.mk.inj (Option.some.inj e1)
    exact congrArg some (Prod.ext a1 (Prod.ext a2 (Option.some.inj e2)))
noncomputable abbrev whL (w : World) := HandSHeadRun.wholeF (fun p => HandSHeadRun.stepQ (HandSHeadRun.denQ HandSHeadRun.tabQ) p w) HandSHeadRun.fenceQ 6000 Rw.prog
theorem run1 (w : World) : Option.map (fun x => (HandSHeadRun.looksF Rw.prog x.fst.heap x.snd.abs, HandSHeadRun.seenQ qv looseL (PySem.importedModules Rw.prog.main.body) (fun s => PySem.W.xlAt qv [] s && PySem.W.recOk Rw.records s) x.snd.abs)) (whL w) = Option.some (Bool.true, PySem.W.openGood qv looseL) := by
  kernel_rfl
theorem run2 (w : World) : Option.map (fun x => obL x.snd) (whL w) = Option.some (hkL.val w) := by
  kernel_rfl
theorem runL (w : World) : HandSHeadRun.RunEqI Rw qv hkL obL 6000 looseL w :=
  map_both (o := whL w) (f := fun x => HandSHeadRun.looksF Rw.prog x.fst.heap x.snd.abs) (g := fun x => HandSHeadRun.seenQ qv looseL (PySem.importedModules Rw.prog.main.body) (fun s => PySem.W.xlAt qv [] s && PySem.W.recOk Rw.records s) x.snd.abs) (h := fun x => obL x.snd) (run1 w) (run2 w)
set_option maxHeartbeats 4000000
section
variable {P : Program} {w : World} {K : PySem.W.Frag} {mg : Str → Option Value} {base : Heap}
abbrev n_lowest : List Str := ["top", "bottom", "shared"]
theorem sc_lowest : FnScope ["top", "bottom", "shared"] ["top", "bottom"] (defScope s_lowest) := ⟨rfl, rfl, rfl, by decide +kernel, rfl, by decide +kernel, by decide +kernel⟩
def sp_lowest (K : PySem.W.Frag) : Sp := fun vs H Q _ => ∃ a b : Int, vs = [.int a, .int b] ∧ 0 < b ∧ b.natAbs < 2 ^ 9000 ∧ ∀ v H', Same H H' → RF K H' v (Rat.divInt a b) → Q v H'
theorem ok_lowest (F : FnD K mg "lowest" s_lowest) (g_gcd : mg "gcd" = some (.builtin "math.gcd")) : Cal P w K mg base 1 "lowest" (sp_lowest K) [] := by
  refine calOf F sc_lowest (fun _ _ _ _ _ _ us hl => match us, hl with | [_, _], _ => rfl) (fun vs H Q E h => ?_) (fun cdv f A outer s H vs Q E hr h => ?_)
  · obtain ⟨a, b, rfl, _⟩ := h
    rfl
  · obtain ⟨a, b, rfl, hb, hz, k⟩ := h
    have g := gcd_pos (a := a) hb
    have gl : (((Nat.gcd a.natAbs b.natAbs : Nat) : Int)).natAbs < 2 ^ 9000 := Nat.lt_of_le_of_lt (gcd_le hb) hz
    have cd : ∀ x : Int, CDivW x ((Nat.gcd a.natAbs b.natAbs : Nat) : Int) := fun x => wide_div g gl (by omega) (by omega)
    refine ⟨_, (pss_cons (ps_set (i := 2) sc_lowest.nd rfl (Or.inl rfl) (pe_callBfun cr_gcd (by rfl) g_gcd (pa_cons (pv 0) (pa_cons (pv 1) pa_nil))))
    (pss_one (ps_ret (pe_tup (pa_cons (pe_op op_fdivW (pv 0) (pv 2)) (pa_cons (pe_op op_fdivW (pv 1) (pv 2)) pa_nil)))))), ?_⟩
    refine ⟨_, rfl, _, rfl, _, _, rfl, _, rfl, _, rfl, _, _, rfl, rfl, cd _, _, rfl, _, rfl, _, _, rfl, rfl, cd _, (by show 2 ≤ sizeLine; decide), fun p hp => ?_⟩
    refine k _ _ (same_new hp) ⟨p, rfl, SqT.of ?_⟩
    rw [upd_same, divInt_num hb, divInt_den hb]
/-- of raw pairs -/
def sp_plus (K : PySem.W.Frag) : Sp := fun vs H Q _ => ∃ (v1 v2 : V) (a b c d : Int) (m n : Nat), vs = [v1, v2] ∧ PF K H v1 a b ∧ PF K H v2 c d ∧ 0 < b ∧ 0 < d ∧ 
  a.natAbs < 2 ^ m ∧ b.natAbs < 2 ^ m ∧ c.natAbs < 2 ^ n ∧ d.natAbs < 2 ^ n ∧ m + n ≤ 9000 ∧ ∀ v H', Same H H' → RF K H' v (Rat.divInt a b + Rat.divInt c d) → Q v H'
end
end CB

set_option Elab.async false
set_option linter.all false
set_option maxRecDepth 100000
set_option maxHeartbeats 4000000
namespace CB
open PySem PySem.Spec PyProof.Rows L2
open C8 (Cal Met Mak pe_c pe_mk pe_mt pe_mt0 pe_gc CalAt)
section
variable {P : Program} {w : World} {K : PySem.W.Frag} {mg : Str → Option Value} {base : Heap}
/-- of raw pairs, the second above 0 -/
def sp_over (K : PySem.W.Frag) : Sp := fun vs H Q _ => ∃ (v1 v2 : V) (a b c d : Int) (m n : Nat), vs = [v1, v2] ∧ PF K H v1 a b ∧ PF K H v2 c d ∧ 0 < b ∧ 0 < c ∧ 0 < d ∧ 
  a.natAbs < 2 ^ m ∧ b.natAbs < 2 ^ m ∧ c.natAbs < 2 ^ n ∧ d.natAbs < 2 ^ n ∧ m + n ≤ 9000 ∧ ∀ v H', Same H H' → RF K H' v (Rat.divInt a b / Rat.divInt c d) → Q v H'
abbrev n_is_less : List Str := ["one", "other"]
theorem sc_is_less : FnScope ["one", "other"] ["one", "other"] (defScope s_is_less) := ⟨rfl, rfl, rfl, by decide +kernel, rfl, by decide +kernel, by decide +kernel⟩
def sp_is_less (K : PySem.W.Frag) : Sp := fun vs H Q _ => ∃ (v1 v2 : V) (a b : Rat) (m n : Nat), vs = [v1, v2] ∧ RF K H v1 a ∧ RF K H v2 b ∧ Sz m a ∧ Sz n b ∧ m + n ≤ 900000 ∧ Q (.bl (decide (a < b))) H
theorem ok_is_less (F : FnD K mg "is_less" s_is_less) : Cal P w K mg base 1 "is_less" (sp_is_less K) [] := by
  refine calOf F sc_is_less (fun _ _ _ _ _ _ us hl => match us, hl with | [_, _], _ => rfl) (fun vs H Q E h => ?_) (fun cdv f A outer s H vs Q E hr h => ?_)
  · obtain ⟨_, _, _, _, _, _, rfl, _⟩ := h
    rfl
  · obtain ⟨v1, v2, a, b, m, n, rfl, ⟨p1, rfl, h1⟩, ⟨p2, rfl, h2⟩, sa, sb, hmn, k⟩ := h
    refine ⟨_, (pss_one (ps_ret (pe_cmpR op_lt (pe_op op_mulW (pe_ix ix_tup (pv 0) pe_int (fun _ _ => rfl)) (pe_ix ix_tup (pv 1) pe_int (fun _ _ => rfl))) (pe_op op_mulW (pe_ix ix_tup (pv 1) pe_int (fun _ _ => rfl)) (pe_ix ix_tup (pv 0) pe_int (fun _ _ => rfl))) (nomark _)))), ?_⟩
    refine ⟨_, rfl, _, _, _, _, rfl, rfl, h1, rfl, _, rfl, _, _, _, _, rfl, rfl, h2, rfl, _, _, rfl, rfl, wm sa.1 sb.d (by omega), ?_⟩
    refine ⟨_, rfl, _, _, _, _, rfl, rfl, h2, rfl, _, rfl, _, _, _, _, rfl, rfl, h1, rfl, _, _, rfl, rfl, wm sb.1 sa.d (by omega), ?_⟩
    refine ⟨_, _, rfl, rfl, ?_⟩
    show Q (V.bl (decide (a.num * (b.den : Int) < b.num * (a.den : Int)))) H
    rw [show decide (a.num * (b.den : Int) < b.num * (a.den : Int)) = decide (a < b) from decide_eq_decide.mpr lt_num]
    exact k
abbrev n_lesser : List Str := ["one", "other"]
theorem sc_lesser : FnScope ["one", "other"] ["one", "other"] (defScope s_lesser) := ⟨rfl, rfl, rfl, by decide +kernel, rfl, by decide +kernel, by decide +kernel⟩
def sp_lesser (K : PySem.W.Frag) : Sp := fun vs H Q _ => ∃ (v1 v2 : V) (a b : Rat) (m n : Nat), vs = [v1, v2] ∧ RF K H v1 a ∧ RF K H v2 b ∧ Sz m a ∧ Sz n b ∧ m + n ≤ 900000 ∧ ∀ v, RF K H v (rmin a b) → Q v H
theorem ok_lesser {x : Str} (F : FnA K mg x "lesser" s_lesser) (c_is_less : Cal P w K mg base 1 "is_less" (sp_is_less K) []) : Cal P w K mg base 2 x (sp_lesser K) [] := by
  refine calOf F sc_lesser (fun _ _ _ _ _ _ us hl => match us, hl with | [_, _], _ => rfl) (fun vs H Q E h => ?_) (fun cdv f A outer s H vs Q E hr h => ?_)
  · obtain ⟨_, _, _, _, _, _, rfl, _⟩ := h
    rfl
  · obtain ⟨v1, v2, a, b, m, n, rfl, h1, h2, sa, sb, hmn, k⟩ := h
    refine ⟨_, (pss_one (ps_ret (pe_ifExp (pt_val (pe_c c_is_less hr (by first | decide | omega) rfl (pa_cons (pv 1) (pa_cons (pv 0) pa_nil)))) (pv 1) (pv 0)))), ?_⟩
    refine ⟨_, rfl, _, rfl, _, _, _, _, _, _, rfl, h2, h1, sb, sa, by omega, _, rfl, ?_⟩
    by_cases c : b < a
    · rw [decide_eq_true c]
      refine iteT ⟨_, rfl, k _ ?_⟩
      rw [rmin, if_pos c]
      exact h2
    · rw [decide_eq_false c]
      refine iteF ⟨_, rfl, k _ ?_⟩
      rw [rmin, if_neg c]
      exact h1
abbrev n_greater : List Str := ["one", "other"]
theorem sc_greater : FnScope ["one", "other"] ["one", "other"] (defScope s_greater) := ⟨rfl, rfl, rfl, by decide +kernel, rfl, by decide +kernel, by decide +kernel⟩
def sp_greater (K : PySem.W.Frag) : Sp := fun vs H Q _ => ∃ (v1 v2 : V) (a b : Rat) (m n : Nat), vs = [v1, v2] ∧ RF K H v1 a ∧ RF K H v2 b ∧ Sz m a ∧ Sz n b ∧ m + n ≤ 900000 ∧ ∀ v, RF K H v (rmax a b) → Q v H
theorem ok_greater {x : Str} (F : FnA K mg x "greater" s_greater) (c_is_less : Cal P w K mg base 1 "is_less" (sp_is_less K) []) : Cal P w K mg base 2 x (sp_greater K) [] := by
  refine calOf F sc_greater (fun _ _ _ _ _ _ us hl => match us, hl with | [_, _], _ => rfl) (fun vs H Q E h => ?_) (fun cdv f A outer s H vs Q E hr h => ?_)
  · obtain ⟨_, _, _, _, _, _, rfl, _⟩ := h
    rfl
  · obtain ⟨v1, v2, a, b, m, n, rfl, h1, h2, sa, sb, hmn, k⟩ := h
    refine ⟨_, (pss_one (ps_ret (pe_ifExp (pt_val (pe_c c_is_less hr (by first | decide | omega) rfl (pa_cons (pv 0) (pa_cons (pv 1) pa_nil)))) (pv 1) (pv 0)))), ?_⟩
    refine ⟨_, rfl, _, rfl, _, _, _, _, _, _, rfl, h1, h2, sa, sb, by omega, _, rfl, ?_⟩
    by_cases c : a < b
    · rw [decide_eq_true c]
      refine iteT ⟨_, rfl, k _ ?_⟩
      rw [rmax, if_pos c]
      exact h2
    · rw [decide_eq_false c]
      refine iteF ⟨_, rfl, k _ ?_⟩
      rw [rmax, if_neg c]
      exact h1
abbrev n_mean_of : List Str := ["weights", "numbers", "bottom", "total", "weight", "number"]
theorem sc_mean_of : FnScope ["weights", "numbers", "bottom", "total", "weight", "number"] ["weights", "numbers"] (defScope s_mean_of) := ⟨rfl, rfl, rfl, by decide +kernel, rfl, by decide +kernel, by decide +kernel⟩
/-- the parts of a mean: a weight, its number, a bound of its size -/
abbrev MPart := Int × Rat × Nat
def wsum (L : List MPart) : Rat := (L.map fun x => ((x.1 : Int) : Rat) * x.2.1).sum
def wtot (L : List MPart) : Int := (L.map fun x => x.1).sum
def wsz (L : List MPart) : Nat := (L.map fun x => x.2.2 + 8).sum
def MOk (x : MPart) : Prop := 1 ≤ x.1 ∧ x.1 ≤ 99 ∧ Sz x.2.2 x.2.1
def sp_mean_of (K : PySem.W.Frag) : Sp := fun vs H Q _ => ∃ (a1 a2 : Addr) (us : List V) (L : List MPart), vs = [.ref a1, .ref a2] ∧ SqL K H a1 (L.map fun x => V.int x.1) ∧ SqL K H a2 us ∧ RpAll K H us (L.map fun x => qd x.2.1) ∧
  L ≠ [] ∧ (∀ x ∈ L, MOk x) ∧ L.length ≤ 8 ∧ wsz L + 20 ≤ 9000 ∧ ∀ v H', Same H H' → RF K H' v (wsum L / ((wtot L : Int) : Rat)) → Sz (wsz L + 12) (wsum L / ((wtot L : Int) : Rat)) → Q v H'
theorem take_succ' {α : Type} {l : List α} {i : Nat} {x : α} (h : l[i]? = some x) : l.take (i + 1) = l.take i ++ [x] := by
  rw [List.take_succ, h]
  rfl
theorem wtot_bound : ∀ {L : List MPart}, (∀ x ∈ L, MOk x) → (L.length : Int) ≤ wtot L ∧ wtot L ≤ 99 * (L.length : Int)
  | [], _ => by simp [wtot]
  | x :: L, h => by
    have ih := wtot_bound (L := L) fun y hy => h y (List.mem_cons_of_mem _ hy)
    have hx := h x List.mem_cons_self
    have e : wtot (x :: L) = x.1 + wtot L := by simp [wtot]
    rw [e, List.length_cons]
    have := hx.1
    have := hx.2.1
    push_cast
    omega
theorem wsz_take_le {L : List MPart} {i : Nat} : wsz (L.take i) ≤ wsz L := by
  have e : wsz L = wsz (L.take i) + wsz (L.drop i) := by
    unfold wsz
    rw [← List.sum_append, ← List.map_append, List.take_append_drop]
  omega
theorem zero_rf {K : PySem.W.Frag} {H : Hp} {a : Addr} (h : SqT K H a [.int 0, .int 1]) : RF K H (.ref a) 0 := ⟨a, rfl, h⟩
theorem sz_zero : Sz 1 0 := by
  constructor <;> decide
theorem le_sum_mem : ∀ {l : List Nat} {x : Nat}, x ∈ l → x ≤ l.sum
  | y :: l, x, h => by
    rw [List.sum_cons]
    rcases List.mem_cons.mp h with e | e
    · omega
    · have := le_sum_mem e; omega
theorem mul_den_num (q : Rat) : q * ((q.den : Int) : Rat) = ((q.num : Int) : Rat) := by
  have h := Rat.num_divInt_den q
  rw [Rat.divInt_eq_div] at h
  have hd : ((q.den : Int) : Rat) ≠ 0 := by
    intro h
    have e : ((q.den : Nat) : Int) = 0 := Rat.intCast_inj.mp h
    have := q.den_pos
    omega
  have e : q * ((q.den : Int) : Rat) = ((q.num : Int) : Rat) / ((q.den : Int) : Rat) * ((q.den : Int) : Rat) := by rw [h]
  rw [e, Rat.div_mul_cancel hd]
/-! ### math.lcm -/
def rLcm : List V → Hp → VK → Prop := fun vs H Q => ∃ a b : Int, vs = [.int a, .int b] ∧ a.natAbs < 2 ^ 9100 ∧ b.natAbs < 2 ^ 9100 ∧ Q (.int ((Nat.lcm a.natAbs b.natAbs : Nat) : Int)) H
theorem lcm_le' (a b : Nat) : Nat.lcm a b ≤ a * b := Nat.div_le_self _ _
theorem cr_lcm {X : Cx} : CallR X (.builtin "math.lcm") rLcm := by
  intro pins s σ H vs us Q I r h
  obtain ⟨a, b, rfl, ha, hb, q⟩ := h
  obtain ⟨t, u, rfl⟩ := Vals.int2 r
  have p1 := Nat.one_le_two_pow (n := 9100)
  have h1 : (max 1 a.natAbs).log2 ≤ 9100 := PySem.W.mg_log (k := 9100) (by rw [Nat.pow_succ]; omega)
  have h2 : (max a.natAbs b.natAbs).log2 ≤ 9100 := PySem.W.mg_log (k := 9100) (by rw [Nat.pow_succ]; omega)
  have g := PySem.W.mg_run_lcm a t b u (by omega) (by omega) (by
    rw [Nat.lcm_one_left]
    have l := lcm_le' a.natAbs b.natAbs
    have m : a.natAbs * b.natAbs < 2 ^ (9100 + 9100) := by rw [Nat.pow_add]; exact Nat.mul_lt_mul'' ha hb
    have h3 : (((a.natAbs.lcm b.natAbs : Nat) : Int)).natAbs.log2 ≤ 18200 := PySem.W.mg_log (k := 18200) (by rw [Int.natAbs_natCast, Nat.pow_succ]; omega)
    exact Nat.lt_of_le_of_lt h3 (by decide))
  rw [Nat.lcm_one_left] at g
  exact call_function_meets PySem.W.MGF.kind_lcm PySem.W.MGF.plain_lcm PySem.W.MGF.entry_lcm (PySem.W.MGF.args_lcm _ _) g.meets ⟨.int _, H, I.tok _, ⟨_, rfl⟩, q⟩
/-! ### the bottom that numbers have in common -/
def cbot (L : List MPart) : Nat := L.foldl (fun b x => Nat.lcm b x.2.1.den) 1
theorem cbot_snoc (L : List MPart) (x : MPart) : cbot (L ++ [x]) = Nat.lcm (cbot L) x.2.1.den := by
  unfold cbot
  rw [List.foldl_append]
  rfl
theorem foldl_lcm_dvd : ∀ (L : List MPart) (b : Nat), b ∣ L.foldl (fun b x => Nat.lcm b x.2.1.den) b ∧ ∀ x ∈ L, x.2.1.den ∣ L.foldl (fun b x => Nat.lcm b x.2.1.den) b
  | [], b => ⟨Nat.dvd_refl _, fun x h => by cases h⟩
  | y :: L, b => by
    obtain ⟨h1, h2⟩ := foldl_lcm_dvd L (Nat.lcm b y.2.1.den)
    refine ⟨Nat.dvd_trans (Nat.dvd_lcm_left _ _) h1, fun x h => ?_⟩
    rcases List.mem_cons.mp h with e | e
    · rw [e]
      exact Nat.dvd_trans (Nat.dvd_lcm_right _ _) h1
    · exact h2 x e
theorem cbot_dvd {L : List MPart} {x : MPart} (h : x ∈ L) : x.2.1.den ∣ cbot L := (foldl_lcm_dvd L 1).2 x h
theorem foldl_lcm_pos : ∀ (L : List MPart) (b : Nat), 0 < b → 0 < L.foldl (fun b x => Nat.lcm b x.2.1.den) b
  | [], _, h => h
  | y :: L, b, h => foldl_lcm_pos L _ (Nat.lcm_pos h y.2.1.den_pos)
theorem cbot_pos (L : List MPart) : 0 < cbot L := foldl_lcm_pos L 1 (by decide)
theorem foldl_lcm_lt : ∀ (L : List MPart) (b k : Nat), (∀ x ∈ L, MOk x) → b < 2 ^ k → L.foldl (fun b x => Nat.lcm b x.2.1.den) b < 2 ^ (k + wsz L)
  | [], _, _, _, h => h
  | y :: L, b, k, ok, h => by
    have hy := (ok y List.mem_cons_self).2.2.2
    have l := lcm_le' b y.2.1.den
    have m : b * y.2.1.den < 2 ^ (k + y.2.2) := by rw [Nat.pow_add]; exact Nat.mul_lt_mul'' h hy
    have ih := foldl_lcm_lt L (Nat.lcm b y.2.1.den) (k + y.2.2) (fun x hx => ok x (List.mem_cons_of_mem _ hx)) (Nat.lt_of_le_of_lt l m)
    refine Nat.lt_of_lt_of_le ih (Nat.pow_le_pow_right (by omega) ?_)
    simp [wsz]
    omega
theorem cbot_lt {L : List MPart} (ok : ∀ x ∈ L, MOk x) : cbot L < 2 ^ (wsz L + 1) := by
  have h := foldl_lcm_lt L 1 1 ok (by decide)
  rw [Nat.add_comm] at h
  exact h
abbrev n_common_bottom : List Str := ["fractions", "bottom", "fraction"]
theorem sc_common_bottom : FnScope ["fractions", "bottom", "fraction"] ["fractions"] (defScope s_common_bottom) := ⟨rfl, rfl, rfl, by decide +kernel, rfl, by decide +kernel, by decide +kernel⟩
def sp_common_bottom (K : PySem.W.Frag) : Sp := fun vs H Q _ => ∃ (a : Addr) (us : List V) (L : List MPart), vs = [.ref a] ∧ SqL K H a us ∧ RpAll K H us (L.map fun x => qd x.2.1) ∧ (∀ x ∈ L, MOk x) ∧ wsz L + 20 ≤ 9000 ∧ Q (.int ((cbot L : Nat) : Int)) H
theorem ok_common_bottom (F : FnD K mg "common_bottom" s_common_bottom) (g_lcm : mg "lcm" = some (.builtin "math.lcm")) : Cal P w K mg base 1 "common_bottom" (sp_common_bottom K) [] := by
  refine calOf F sc_common_bottom (fun _ _ _ _ _ _ us hl => match us, hl with | [_], _ => rfl) (fun vs H Q E h => ?_) (fun cdv f A outer s H vs Q E hr h => ?_)
  · obtain ⟨_, _, _, rfl, _⟩ := h
    rfl
  · obtain ⟨a, us, L, rfl, h1, hu, hok, hsz, k⟩ := h
    have hul : us.length = L.length := by rw [hu.length, List.length_map]
    refine ⟨_, (pss_cons (ps_set (i := 1) sc_common_bottom.nd rfl (Or.inl rfl) pe_int)
    (pss_cons (ps_for PassesOwn.never rfl (pi_list (pv 0)) (pg_name (i := 2) sc_common_bottom.nd rfl (Or.inl rfl)) (pss_one (ps_set (i := 1) sc_common_bottom.nd rfl (Or.inl rfl) (pe_callBfun cr_lcm (by rfl) g_lcm (pa_cons (pv 1) (pa_cons (pe_ix ix_tup (pv 2) pe_int (fun _ _ => rfl)) pa_nil))))))
    (pss_one (ps_ret (pv 1))))), ?_⟩
    refine ⟨_, rfl, a, rfl, ⟨_, h1⟩, for_list (K := K) (a := a) (xs := us) (fun i σ H' => ∃ y : Option V, σ = [some (.ref a), some (.int ((cbot (L.take i) : Nat) : Int)), y] ∧ H' = H)
      ⟨none, rfl, rfl⟩ (fun i σ H' _ ⟨_, _, e⟩ => by rw [e]; exact h1) ?_ ?_⟩
    · rintro i x σ H' hx ⟨_, rfl, rfl⟩
      obtain ⟨d, hd, r2⟩ := hu.getV hx
      rw [List.getElem?_map] at hd
      cases e : L[i]? with
      | none => rw [e] at hd; cases hd
      | some m =>
        rw [e] at hd
        cases hd
        have hm := hok m (List.mem_of_getElem? e)
        obtain ⟨q1, rfl, r3⟩ := PF.of r2
        have le := wsz_take_le (L := L) (i := i)
        have okt : ∀ x ∈ L.take i, MOk x := fun x hx => hok x (List.mem_of_mem_take hx)
        have mw : m.2.2 + 8 ≤ wsz L := by
          have := List.mem_of_getElem? e
          unfold wsz
          exact le_sum_mem (List.mem_map.mpr ⟨m, this, rfl⟩)
        have b1 : (((cbot (L.take i) : Nat) : Int)).natAbs < 2 ^ 9100 := by
          rw [Int.natAbs_natCast]
          exact Nat.lt_of_lt_of_le (cbot_lt okt) (Nat.pow_le_pow_right (by omega) (by omega))
        have b2 : ((m.2.1.den : Int)).natAbs < 2 ^ 9100 := Nat.lt_of_lt_of_le hm.2.2.d (Nat.pow_le_pow_right (by omega) (by omega))
        refine ⟨_, rfl, _, rfl, _, _, _, _, rfl, rfl, r3, rfl, _, _, rfl, b1, b2, ?_⟩
        refine ⟨some (.ref q1), ?_, rfl⟩
        rw [take_succ' e, cbot_snoc, Int.natAbs_natCast, Int.natAbs_natCast]
        rfl
    · rintro σ H' ⟨_, rfl, rfl⟩
      rw [hul, List.take_length]
      exact ⟨_, rfl, k⟩
abbrev n_scaled : List Str := ["fraction", "bottom"]
theorem sc_scaled : FnScope ["fraction", "bottom"] ["fraction", "bottom"] (defScope s_scaled) := ⟨rfl, rfl, rfl, by decide +kernel, rfl, by decide +kernel, by decide +kernel⟩
def sp_scaled (K : PySem.W.Frag) : Sp := fun vs H Q _ => ∃ (v : V) (a b c : Int) (m n : Nat), vs = [v, .int c] ∧ PF K H v a b ∧ 0 < b ∧ a.natAbs < 2 ^ m ∧ b.natAbs < 2 ^ m ∧ 0 ≤ c ∧ c.natAbs < 2 ^ n ∧ m ≤ 9000 ∧ n ≤ 9000 ∧ Q (.int (a * (c / b))) H
theorem ok_scaled (F : FnD K mg "scaled" s_scaled) : Cal P w K mg base 1 "scaled" (sp_scaled K) [] := by
  refine calOf F sc_scaled (fun _ _ _ _ _ _ us hl => match us, hl with | [_, _], _ => rfl) (fun vs H Q E h => ?_) (fun cdv f A outer s H vs Q E hr h => ?_)
  · obtain ⟨_, _, _, _, _, _, rfl, _⟩ := h
    rfl
  · obtain ⟨v, a, b, c, m, n, rfl, ⟨p1, rfl, h1⟩, hb, ha, hb', hc, hc', hm, hn, k⟩ := h
    have cd : CDivW c b := wide_div hb (Nat.lt_of_lt_of_le hb' (Nat.pow_le_pow_right (by omega) hm)) (by omega) (by omega)
    have dl : (c / b).natAbs < 2 ^ n := Nat.lt_of_le_of_lt (Int.natAbs_ediv_le_natAbs _ _) hc'
    refine ⟨_, (pss_one (ps_ret (pe_op op_mulW (pe_ix ix_tup (pv 0) pe_int (fun _ _ => rfl)) (pe_op op_fdivW (pv 1) (pe_ix ix_tup (pv 0) pe_int (fun _ _ => rfl)))))), ?_⟩
    refine ⟨_, rfl, _, _, _, _, rfl, rfl, h1, rfl, _, rfl, _, rfl, _, _, _, _, rfl, rfl, h1, rfl, _, _, rfl, rfl, cd, _, _, rfl, rfl, wm ha dl (by omega), k⟩
/-! ### the mean -/
def scp (B : Int) (x : MPart) : Int := x.1 * (x.2.1.num * (B / (x.2.1.den : Int)))
theorem scp_rat {B : Nat} {x : MPart} (h : x.2.1.den ∣ B) : ((scp (B : Int) x : Int) : Rat) = ((x.1 : Int) : Rat) * x.2.1 * ((B : Int) : Rat) := by
  obtain ⟨c, rfl⟩ := h
  have hd : ((x.2.1.den : Nat) : Int) ≠ 0 := by have := den_pos x.2.1; omega
  have e : ((x.2.1.den * c : Nat) : Int) / (x.2.1.den : Int) = (c : Int) := by
    rw [Int.natCast_mul, Int.mul_ediv_cancel_left _ hd]
  have q : x.2.1 * ((x.2.1.den : Int) : Rat) = ((x.2.1.num : Int) : Rat) := mul_den_num _
  unfold scp
  rw [e, Int.natCast_mul, Rat.intCast_mul, Rat.intCast_mul, Rat.intCast_mul, ← q]
  grind
theorem scp_sum {B : Nat} : ∀ {L : List MPart}, (∀ x ∈ L, x.2.1.den ∣ B) → (((L.map (scp (B : Int))).sum : Int) : Rat) = wsum L * ((B : Int) : Rat)
  | [], _ => by
    show ((0 : Int) : Rat) = 0 * _
    rw [Rat.zero_mul]
    rfl
  | x :: L, h => by
    have ih := scp_sum (L := L) fun y hy => h y (List.mem_cons_of_mem _ hy)
    have hx := scp_rat (h x List.mem_cons_self)
    have e : wsum (x :: L) = ((x.1 : Int) : Rat) * x.2.1 + wsum L := by simp [wsum]
    rw [List.map_cons, List.sum_cons, Rat.intCast_add, ih, hx, e]
    grind
theorem scp_mean {L : List MPart} {B : Nat} (hB : 0 < B) (hd : ∀ x ∈ L, x.2.1.den ∣ B) (hw : 0 < wtot L) : Rat.divInt (L.map (scp ((B : Nat) : Int))).sum (((B : Nat) : Int) * wtot L) = wsum L / ((wtot L : Int) : Rat) := by
  have hb : (((B : Nat) : Int) : Rat) ≠ 0 := by
    intro h
    have : ((B : Nat) : Int) = 0 := Rat.intCast_inj.mp h
    omega
  have ht : ((wtot L : Int) : Rat) ≠ 0 := by
    intro h
    have : wtot L = 0 := Rat.intCast_inj.mp h
    omega
  rw [Rat.divInt_eq_div, scp_sum hd, Rat.intCast_mul]
  grind
theorem wsum_cons (x : MPart) (L : List MPart) : wsum (x :: L) = ((x.1 : Int) : Rat) * x.2.1 + wsum L := by simp [wsum]
theorem wsum_sz : ∀ {L : List MPart}, (∀ x ∈ L, MOk x) → Sz (wsz L + 1) (wsum L)
  | [], _ => by
    show Sz 1 0
    exact sz_zero
  | x :: L, h => by
    have ih := wsum_sz (L := L) fun y hy => h y (List.mem_cons_of_mem _ hy)
    have hx := h x List.mem_cons_self
    have hw : x.1.natAbs < 2 ^ 7 := by have := hx.1; have := hx.2.1; omega
    have z := sz_add (den_pos x.2.1) (den_pos (wsum L)) (wide_lt hw hx.2.2.1) (Nat.lt_of_lt_of_le hx.2.2.d (Nat.pow_le_pow_right (by omega) (show x.2.2 ≤ 7 + x.2.2 by omega))) ih.1 ih.d
    rw [← mul_divInt, divInt_self', ← wsum_cons] at z
    refine z.mono ?_
    simp [wsz]
    omega
theorem wmean_sz {L : List MPart} (h : ∀ x ∈ L, MOk x) (hne : L ≠ []) (hl : L.length ≤ 8) : Sz (wsz L + 12) (wsum L / ((wtot L : Int) : Rat)) := by
  have wb := wtot_bound h
  have hl1 := List.length_pos_iff.mpr hne
  have hs := wsum_sz h
  have hb : (wtot L).natAbs < 2 ^ 10 := by omega
  have z : wsum L / ((wtot L : Int) : Rat) = Rat.divInt ((wsum L).num * 1) (((wsum L).den : Int) * wtot L) := by
    rw [divInt_div (by omega) (by omega) (den_pos _), divInt_self', ← int_rat]
  rw [z]
  refine divInt_sz (Int.mul_pos (den_pos _) (by omega)) ?_ ?_
  · rw [Int.mul_one]
    exact Nat.lt_of_lt_of_le hs.1 (Nat.pow_le_pow_right (by omega) (by omega))
  · exact Nat.lt_of_lt_of_le (wide_lt hs.d hb) (Nat.pow_le_pow_right (by omega) (by omega))
theorem ok_mean_of (F : FnD K mg "mean_of" s_mean_of) (c_common_bottom : Cal P w K mg base 1 "common_bottom" (sp_common_bottom K) []) (c_scaled : Cal P w K mg base 1 "scaled" (sp_scaled K) [])
    (c_lowest : Cal P w K mg base 1 "lowest" (sp_lowest K) []) (T_zip : mg "zip" = none) (T_sum : mg "sum" = none) : Cal P w K mg base 3 "mean_of" (sp_mean_of K) [] := by
  refine calOf F sc_mean_of (fun _ _ _ _ _ _ us hl => match us, hl with | [_, _], _ => rfl) (fun vs H Q E h => ?_) (fun cdv f A outer s H vs Q E hr h => ?_)
  · obtain ⟨_, _, _, _, rfl, _⟩ := h
    rfl
  · obtain ⟨a1, a2, us, L, rfl, h1, h2, hu, hne, hok, hlen, hsz, k⟩ := h
    have hul : us.length = L.length := by rw [hu.length, List.length_map]
    have wb := wtot_bound hok
    have hl1 : 1 ≤ L.length := by cases L with | nil => exact absurd rfl hne | cons _ _ => simp
    have bl := cbot_lt hok
    have bp := cbot_pos L
    refine ⟨_, (pss_cons (ps_set (i := 2) sc_mean_of.nd rfl (Or.inr rfl) (pe_c c_common_bottom hr (by first | decide | omega) rfl (pa_cons (pv 1) pa_nil)))
    (pss_cons (ps_set (i := 3) sc_mean_of.nd rfl (Or.inl rfl) (pe_callB (cr_sum rfl) (by rfl) T_sum (by decide +kernel) (pa_cons (pe_lc (own := [("weight", 4), ("number", 5)]) (g := (gTup K 2 (gCons (gName 4) (gCons (gName 5) gNil)))) (by rfl) sc_mean_of.nd (pi_zip (by rfl) T_zip (pa_cons (pv 0) (pa_cons (pv 1) pa_nil))) (blkOk_by (own := [("weight", 4), ("number", 5)]) (N := ["weights", "numbers", "bottom", "total", "weight", "number"]) (sc := defScope s_mean_of) (by decide +kernel)) (fun _ _ _ _ _ => (pg_tup rfl (pgs_cons (pg_name (i := 4) sc_mean_of.nd rfl (Or.inl rfl)) (pgs_cons (pg_name (i := 5) sc_mean_of.nd rfl (Or.inl rfl)) pgs_nil)))) (fun _ _ _ _ _ => pts_nil) (fun _ _ _ _ _ => (pe_op op_mulW (pv 4) (pe_c c_scaled hr (by first | decide | omega) rfl (pa_cons (pv 5) (pa_cons (pv 2) pa_nil)))))) pa_nil)))
    (pss_one (ps_ret (pe_c c_lowest hr (by first | decide | omega) rfl (pa_cons (pv 3) (pa_cons (pe_op op_mulW (pv 2) (pe_callB (cr_sum rfl) (by rfl) T_sum (by decide +kernel) (pa_cons (pv 0) pa_nil))) pa_nil))))))), ?_⟩
    refine ⟨_, rfl, a2, us, L, rfl, h2, hu, hok, hsz, ?_⟩
    refine ⟨_, rfl, _, rfl, a1, a2, _, us, rfl, h1, h2, fun D hD => ?_⟩
    refine lc_it (n := L.length) (walk_zip (by rw [List.length_map, hul, Nat.min_self])) (fun i H' => H' D = some (.lst ((L.take i).map fun x => V.int (scp ((cbot L : Nat) : Int) x))) ∧ Same H H')
      ⟨upd_same, same_new hD⟩ (fun i H' _ p => ⟨p.2.seq h1, p.2.seq h2⟩) ?_ ?_
    · rintro i x H' H'' hi ⟨s5, s6⟩ ⟨T, y1, y2, rfl, hT, rfl, hx, hy⟩
      dsimp only at hx hy
      rw [List.getElem?_map] at hx
      cases e : L[i]? with
      | none => rw [e] at hx; cases hx
      | some m =>
        rw [e] at hx
        cases hx
        have hm := hok m (List.mem_of_getElem? e)
        have hq : (L.map fun x => qd x.2.1)[i]? = some (qd m.2.1) := by rw [List.getElem?_map, e]; rfl
        obtain ⟨v2, e2, r2⟩ := hu.get hq
        rw [hy] at e2
        cases e2
        have s7 := s6.trans (same_new (o := .tup [V.int m.1, y2]) hT)
        obtain ⟨q1, rfl, r3⟩ := PF.of (r2.mono (Same.kt s7))
        have mw : m.2.2 + 8 ≤ wsz L := by
          have := List.mem_of_getElem? e
          unfold wsz
          exact le_sum_mem (List.mem_map.mpr ⟨m, this, rfl⟩)
        have hw : m.1.natAbs < 2 ^ 7 := by have := hm.1; have := hm.2.1; omega
        have dB : (((cbot L : Nat) : Int) / (m.2.1.den : Int)).natAbs < 2 ^ (wsz L + 1) := Nat.lt_of_le_of_lt (Int.natAbs_ediv_le_natAbs _ _) (by rw [Int.natAbs_natCast]; exact bl)
        have sz2 := wide_lt hm.2.2.1 dB
        have hD' : D ≠ T := ne_of_none s5 hT
        refine ⟨T, _, rfl, SqT.of upd_same, rfl, _, _, rfl, _, _, rfl, rfl, rfl, ?_⟩
        refine ⟨_, rfl, _, rfl, _, rfl, _, m.2.1.num, (m.2.1.den : Int), ((cbot L : Nat) : Int), m.2.2, wsz L + 1, rfl, ⟨q1, rfl, r3⟩, den_pos _, hm.2.2.1, hm.2.2.d, by omega, by rw [Int.natAbs_natCast]; exact bl, by omega, by omega, ?_⟩
        refine ⟨_, _, rfl, rfl, wm hw sz2 (by omega), ?_⟩
        refine ⟨_, by rw [upd_ne hD']; exact s5, small1000 (by rw [List.length_map, List.length_take]; omega), ?_, ?_⟩
        · rw [take_succ' e, List.map_append]
          exact upd_same
        · exact Same.mut s7 hD
    · rintro H' ⟨s5, s6⟩
      rw [List.take_length] at s5
      have es : (L.map fun x => V.int (scp ((cbot L : Nat) : Int) x)) = (L.map (scp ((cbot L : Nat) : Int))).map V.int := by rw [List.map_map]; rfl
      rw [es] at s5
      refine ⟨_, _, rfl, SqL.of s5, ?_⟩
      have hwt : (L.map fun x => x.1).sum = wtot L := rfl
      have hb : (wtot L).natAbs < 2 ^ 10 := by omega
      have bn : ((cbot L : Nat) : Int).natAbs < 2 ^ (wsz L + 1) := by rw [Int.natAbs_natCast]; exact bl
      refine ⟨_, rfl, _, rfl, _, rfl, a1, L.map (fun x => x.1), rfl, ?_, ?_⟩
      · rw [List.map_map]
        exact s6.seq h1
      · refine ⟨_, _, rfl, rfl, wm bn hb (by omega), ?_⟩
        refine ⟨_, _, rfl, Int.mul_pos (by omega) (by rw [hwt]; omega), Nat.lt_of_lt_of_le (wide_lt bn hb) (Nat.pow_le_pow_right (by omega) (by omega)), fun v H2 e3 r5 => ?_⟩
        rw [hwt, scp_mean (cbot_pos L) (fun x hx => cbot_dvd hx) (by omega)] at r5
        exact k v H2 (s6.trans e3) r5 (wmean_sz hok hne hlen)
end
end CB

set_option Elab.async false
set_option linter.all false
set_option maxRecDepth 100000
set_option maxHeartbeats 4000000
namespace CB
open PySem PySem.Spec PyProof.Rows L2
open C8 (Cal Met Mak pe_c pe_mk pe_mt pe_mt0 pe_gc CalAt)
section
variable {P : Program} {w : World} {K : PySem.W.Frag} {mg : Str → Option Value} {base : Heap}
/-- the dice, a list at d.1: its cells, a list at d.2, and the state -/
def Dice (H : Hp) (d : Addr × Addr) : Prop := ∃ (p h s c : Int) (ns : List Int), H d.1 = some (.lst [.ref d.2, .int p, .int h, .int s, .int c]) ∧ H d.2 = some (.lst (ns.map V.int)) ∧ d.2 ≠ d.1 ∧ 0 ≤ p ∧ (∀ n ∈ ns, 0 ≤ n) ∧ 0 ≤ h ∧ 0 ≤ s ∧ s < 2147483647
theorem Dice.lst {H : Hp} {d : Addr × Addr} (h : Dice H d) : ∃ xs, H d.1 = some (.lst xs) := by
  obtain ⟨_, _, _, _, _, h, _⟩ := h
  exact ⟨_, h⟩
theorem Dice.kt {H H' : Hp} {d : Addr × Addr} (h : Dice H d) (e : KD d.1 H H') : KT H H' := by
  obtain ⟨xs, h⟩ := h.lst
  exact e.kt h
theorem Dice.same {H H' : Hp} {d : Addr × Addr} (h : Dice H d) (e : Same H H') : Dice H' d := by
  obtain ⟨p, h, s, c, ns, h1, h2, h3⟩ := h
  exact ⟨p, h, s, c, ns, e _ _ h1, e _ _ h2, h3⟩
theorem Dice.ne {H : Hp} {d : Addr × Addr} (h : Dice H d) {D : Addr} (n : H D = none) : D ≠ d.1 ∧ D ≠ d.2 := by
  obtain ⟨p, h, s, c, ns, h1, h2, h3⟩ := h
  exact ⟨(ne_of_none h1 n).symm, (ne_of_none h2 n).symm⟩
theorem Dice.upd {H : Hp} {d : Addr × Addr} (h : Dice H d) {D : Addr} {o : HO} (n : D ≠ d.1 ∧ D ≠ d.2) : Dice (L2.upd H D o) d := by
  obtain ⟨p, h, s, c, ns, h1, h2, h3⟩ := h
  exact ⟨p, h, s, c, ns, by rw [upd_ne n.1.symm]; exact h1, by rw [upd_ne n.2.symm]; exact h2, h3⟩
abbrev n__law_draw : List Str := ["_law_dice_here", "_law_many", "_law_cell", "_law_digit", "_law_mixed"]
theorem sc__law_draw : FnScope ["_law_dice_here", "_law_many", "_law_cell", "_law_digit", "_law_mixed"] ["_law_dice_here", "_law_many"] (defScope s__law_draw) := ⟨rfl, rfl, rfl, by decide +kernel, rfl, by decide +kernel, by decide +kernel⟩
def sp__law_draw : Sp := fun vs H Q _ => ∃ (d : Addr × Addr) (n : Int), vs = [.ref d.1, .int n] ∧ Dice H d ∧ 1 ≤ n ∧ n < 21778071482940061661655974875633165533184 ∧ ∀ (r : Int) (H' : Hp), 0 ≤ r → r < n → Dice H' d → KD d.1 H H' → Q (.int r) H'
theorem ok__law_draw (F : FnD K mg "_law_draw" s__law_draw) (T_len : mg "len" = none) (T_int : mg "int" = none) : Cal P w K mg base 1 "_law_draw" sp__law_draw [] := by
  refine calOf F sc__law_draw (fun _ _ _ _ _ _ us hl => match us, hl with | [_, _], _ => rfl) (fun vs H Q E h => ?_) (fun cdv f A outer s H vs Q E hr h => ?_)
  · obtain ⟨_, _, rfl, _⟩ := h
    rfl
  · obtain ⟨⟨da, cl⟩, n, rfl, ⟨p, hg, st, c, ns, h1, h2, hne, hp, hns, hg0, hs0, hs1⟩, hn1, hn2, k⟩ := h
    refine ⟨_, (C8.pss_cut (ps_if (PW.pt (pw_and (pt_cmpR op_eq (pe_ix ix_list (pv 0) pe_int (fun _ _ => rfl)) pe_int (nomark _)) (pw_and1 (pt_cmpR op_lt (pe_ix ix_list (pv 0) pe_int (fun _ _ => rfl)) (pe_callB call_len_seq (by rfl) T_len PySem.boot_len (pa_cons (pe_ix ix_list (pv 0) pe_int (fun _ _ => rfl)) pa_nil)) (nomark _))))) (pss_cons (ps_set (i := 2) sc__law_draw.nd rfl (Or.inl rfl) (pe_ix ix_list (pe_ix ix_list (pv 0) pe_int (fun _ _ => rfl)) (pe_ix ix_list (pv 0) pe_int (fun _ _ => rfl)) (fun _ _ => rfl)))
    (pss_cons (ps_asg (pe_op op_add (pe_ix ix_list (pv 0) pe_int (fun _ _ => rfl)) pe_int) (pg_sub (pv 0) pe_int set_list))
    (pss_one (ps_if (pt_cmpR op_ge (pv 2) (pe_op op_pow pe_int pe_int) (nomark _)) (pss_one (ps_asg (pv 2) (pg_sub (pv 0) pe_int set_list))) (pss_one (ps_asg (pe_op op_mod (pe_callTy call_int1 (by rfl) T_int (by decide +kernel) (pa_cons (pe_op op_add (pe_op op_add (pe_op op_mul (pe_ix ix_list (pv 0) pe_int (fun _ _ => rfl)) pe_int) (pe_op op_mul (pv 2) pe_int)) (pe_ix ix_list (pv 0) pe_int (fun _ _ => rfl))) pa_nil)) pe_int) (pg_sub (pv 0) pe_int set_list))))))) pss_nil)
    (C8.pss_cut (ps_if (pt_cmpR op_gt (pe_ix ix_list (pv 0) pe_int (fun _ _ => rfl)) pe_int (nomark _)) (pss_cons (ps_set (i := 3) sc__law_draw.nd rfl (Or.inl rfl) (pe_op op_mod (pe_callTy call_int1 (by rfl) T_int (by decide +kernel) (pa_cons (pe_ix ix_list (pv 0) pe_int (fun _ _ => rfl)) pa_nil)) (pv 1)))
    (pss_cons (ps_asg (pe_op op_fdivW (pe_callTy call_int1 (by rfl) T_int (by decide +kernel) (pa_cons (pe_ix ix_list (pv 0) pe_int (fun _ _ => rfl)) pa_nil)) (pv 1)) (pg_sub (pv 0) pe_int set_list))
    (pss_one (ps_ret (pv 3))))) pss_nil)
    (pss_cons (ps_asg (pe_op op_add (pe_ix ix_list (pv 0) pe_int (fun _ _ => rfl)) pe_int) (pg_sub (pv 0) pe_int set_list))
    (pss_cons (ps_asg (pe_op op_mod (pe_callTy call_int1 (by rfl) T_int (by decide +kernel) (pa_cons (pe_op op_add (pe_op op_add (pe_op op_mul (pe_ix ix_list (pv 0) pe_int (fun _ _ => rfl)) pe_int) (pe_op op_mul (pe_ix ix_list (pv 0) pe_int (fun _ _ => rfl)) pe_int)) pe_int) pa_nil)) pe_int) (pg_sub (pv 0) pe_int set_list))
    (pss_cons (ps_set (i := 4) sc__law_draw.nd rfl (Or.inl rfl) (pe_op op_mod (pe_callTy call_int1 (by rfl) T_int (by decide +kernel) (pa_cons (pe_op op_mul (pe_ix ix_list (pv 0) pe_int (fun _ _ => rfl)) (pe_op op_add (pe_op op_fdivW (pe_ix ix_list (pv 0) pe_int (fun _ _ => rfl)) pe_int) pe_int)) pa_nil)) pe_int))
    (pss_cons (ps_set (i := 4) sc__law_draw.nd rfl (Or.inl rfl) (pe_op op_mod (pe_callTy call_int1 (by rfl) T_int (by decide +kernel) (pa_cons (pe_op op_mul (pv 4) (pe_op op_add (pe_op op_fdivW (pv 4) pe_int) pe_int)) pa_nil)) pe_int))
    (pss_one (ps_ret (pe_op op_mod (pe_callTy call_int1 (by rfl) T_int (by decide +kernel) (pa_cons (pe_op op_fdivW (pv 4) pe_int) pa_nil)) (pv 1)))))))))), ?_⟩
    have h1 : H da = some (HO.lst [V.ref cl, V.int p, V.int hg, V.int st, V.int c]) := h1
    have h2 : H cl = some (HO.lst (ns.map V.int)) := h2
    have hne : cl ≠ da := hne
    have cm : ∀ x y : Int, (-(2 ^ 64) < y ∧ y < 2 ^ 64) → CMul x y := fun x y h => .inr h
    have dv : ∀ x y : Int, 0 < y → y < 21778071482940061661655974875633165533184 → CDivW x y := fun x y h1 h2 => wide_div (b := 134) h1 (by omega) (by omega) (by omega)
    have dmk : ∀ {H' : Hp} {p hg st c : Int}, H' da = some (.lst [.ref cl, .int p, .int hg, .int st, .int c]) → KD da H H' → 0 ≤ p → 0 ≤ hg → 0 ≤ st → st < 2147483647 → Dice H' (da, cl) := fun a b c d e g => ⟨_, _, _, _, ns, a, b _ _ hne h2, hne, c, hns, d, e, g⟩
    refine ⟨fun σ H' => ∃ (x : Option V) (p hg st : Int), σ = [some (.ref da), some (.int n), x, none, none] ∧ H' da = some (.lst [.ref cl, .int p, .int hg, .int st, .int c]) ∧ KD da H H' ∧ 0 ≤ p ∧ 0 ≤ hg ∧ 0 ≤ st ∧ st < 2147483647, ?_, ?_⟩
    · refine ⟨_, rfl, _, _, _, _, rfl, rfl, SqL.of h1, rfl, rfl, _, rfl, ?_⟩
      refine ite2 (fun _ => ?_) (fun _ => ⟨none, p, hg, st, rfl, h1, KD.refl _ _, hp, hg0, hs0, hs1⟩)
      refine ⟨_, rfl, _, _, _, _, rfl, rfl, SqL.of h1, rfl, _, rfl, _, _, _, _, rfl, rfl, SqL.of h1, rfl, _, _, rfl, .inl (SqL.of h2), _, _, rfl, rfl, _, rfl, ?_⟩
      refine ite2 (fun hlt => ?_) (fun _ => ⟨none, p, hg, st, rfl, h1, KD.refl _ _, hp, hg0, hs0, hs1⟩)
      have hlt' : p < ((ns.map V.int).length : Int) := of_decide_eq_true hlt
      rw [List.length_map] at hlt'
      obtain ⟨z, hz⟩ : ∃ z, ns[p.toNat]? = some z := ⟨ns[p.toNat]'(by omega), List.getElem?_eq_getElem (by omega)⟩
      have hz' : (ns.map V.int)[p.toNat]? = some (.int z) := by rw [List.getElem?_map, hz]; rfl
      have z0 := hns z (List.mem_of_getElem? hz)
      refine ⟨_, rfl, _, _, _, _, rfl, rfl, SqL.of h1, rfl, _, rfl, _, _, _, _, rfl, rfl, SqL.of h1, rfl, _, _, _, _, rfl, rfl, SqL.of h2, at_of (j := p.toNat) (by omega) hz', ?_⟩
      refine ⟨_, rfl, _, _, _, _, rfl, rfl, SqL.of h1, rfl, _, _, rfl, rfl, _, rfl, _, _, _, _, rfl, rfl, h1, rfl, ?_⟩
      refine ⟨_, rfl, _, _, rfl, rfl, ⟨by decide, by decide, by decide⟩, _, _, rfl, rfl, _, rfl, ?_⟩
      refine ite2 (fun _ => ?_) (fun _ => ?_)
      · refine ⟨_, rfl, _, rfl, _, _, _, _, rfl, rfl, upd_same, rfl, ?_⟩
        exact ⟨_, p + 1, z, st, rfl, upd_same, (KD.refl _ _).upd.upd, by omega, z0, hs0, hs1⟩
      · refine ⟨_, rfl, _, _, _, _, rfl, rfl, SqL.of upd_same, rfl, _, _, rfl, rfl, cm _ _ (by decide), _, rfl, _, _, rfl, rfl, cm _ _ (by decide), _, _, rfl, rfl, ?_⟩
        refine ⟨_, rfl, _, _, _, _, rfl, rfl, SqL.of upd_same, rfl, _, _, rfl, rfl, .inl ⟨_, rfl, ?_⟩⟩
        refine ⟨_, _, rfl, rfl, (by show (0 : Int) < 2147483647; decide), _, rfl, _, _, _, _, rfl, rfl, upd_same, rfl, ?_⟩
        exact ⟨_, p + 1, hg, _, rfl, upd_same, (KD.refl _ _).upd.upd, by omega, hg0, Int.emod_nonneg _ (by decide), Int.emod_lt_of_pos _ (by decide)⟩
    · rintro σ H1 ⟨x, p1, hg1, st1, rfl, q1, kd1, b1, b2, b3, b4⟩
      refine ⟨fun σ H' => σ = [some (.ref da), some (.int n), x, none, none] ∧ H' = H1, ?_, ?_⟩
      · refine ⟨_, rfl, _, _, _, _, rfl, rfl, SqL.of q1, rfl, _, _, rfl, rfl, _, rfl, ?_⟩
        refine ite2 (fun _ => ?_) (fun _ => ⟨rfl, rfl⟩)
        refine ⟨_, rfl, _, _, _, _, rfl, rfl, SqL.of q1, rfl, .inl ⟨_, rfl, _, rfl, _, _, rfl, rfl, (by omega), ?_⟩⟩
        refine ⟨_, rfl, _, _, _, _, rfl, rfl, SqL.of q1, rfl, .inl ⟨_, rfl, _, rfl, _, _, rfl, rfl, dv _ _ (by omega) hn2, _, rfl, _, _, _, _, rfl, rfl, q1, rfl, ?_⟩⟩
        refine ⟨_, rfl, k _ _ (Int.emod_nonneg _ (by omega)) (Int.emod_lt_of_pos _ (by omega)) (dmk upd_same kd1.upd b1 (Int.ediv_nonneg b2 (by omega)) b3 b4) kd1.upd⟩
      · rintro σ H2 ⟨rfl, rfl⟩
        refine ⟨_, rfl, _, _, _, _, rfl, rfl, SqL.of q1, rfl, _, _, rfl, rfl, _, rfl, _, _, _, _, rfl, rfl, q1, rfl, ?_⟩
        refine ⟨_, rfl, _, _, _, _, rfl, rfl, SqL.of upd_same, rfl, _, _, rfl, rfl, cm _ _ (by decide), _, rfl, _, _, _, _, rfl, rfl, SqL.of upd_same, rfl, _, _, rfl, rfl, cm _ _ (by decide), _, _, rfl, rfl, _, _, rfl, rfl, .inl ⟨_, rfl, ?_⟩⟩
        refine ⟨_, _, rfl, rfl, (by show (0 : Int) < 2147483647; decide), _, rfl, _, _, _, _, rfl, rfl, upd_same, rfl, ?_⟩
        have m0 : ∀ x : Int, 0 ≤ x % 2147483647 := fun x => Int.emod_nonneg _ (by decide)
        have m1 : ∀ x : Int, x % 2147483647 < 2147483647 := fun x => Int.emod_lt_of_pos _ (by decide)
        have sm : ∀ x y : Int, 0 ≤ x → x < 2147483648 → CMul x y := fun x y h1 h2 => .inl ⟨by omega, by omega⟩
        refine ⟨_, rfl, _, _, _, _, rfl, rfl, SqL.of upd_same, rfl, _, rfl, _, _, _, _, rfl, rfl, SqL.of upd_same, rfl, _, _, rfl, rfl, dv _ _ (by decide) (by decide), _, _, rfl, rfl, _, _, rfl, rfl, sm _ _ (m0 _) (by have := m1 (st1 * 48271 + c * 7919 + 1); omega), .inl ⟨_, rfl, ?_⟩⟩
        refine ⟨_, _, rfl, rfl, (by show (0 : Int) < 2147483399; decide), ?_⟩
        refine ⟨_, rfl, _, rfl, _, _, rfl, rfl, dv _ _ (by decide) (by decide), _, _, rfl, rfl, _, _, rfl, rfl, sm _ _ (Int.emod_nonneg _ (by decide)) (by have := Int.emod_lt_of_pos ((st1 * 48271 + c * 7919 + 1) % 2147483647 * ((st1 * 48271 + c * 7919 + 1) % 2147483647 / 1009 + 69623)) (show (0 : Int) < 2147483399 by decide); omega), .inl ⟨_, rfl, ?_⟩⟩
        refine ⟨_, _, rfl, rfl, (by show (0 : Int) < 2147483563; decide), ?_⟩
        refine ⟨_, rfl, _, _, rfl, rfl, dv _ _ (by decide) (by decide), .inl ⟨_, rfl, _, rfl, _, _, rfl, rfl, (by omega), ?_⟩⟩
        exact k _ _ (Int.emod_nonneg _ (by omega)) (Int.emod_lt_of_pos _ (by omega)) (dmk upd_same kd1.upd.upd b1 b2 (m0 _) (m1 _)) kd1.upd.upd
end
end CB

set_option Elab.async false
set_option linter.all false
set_option maxRecDepth 100000
set_option maxHeartbeats 4000000
namespace CB
open PySem PySem.Spec PyProof.Rows L2
open C8 (Cal Met Mak pe_c pe_mk pe_mt pe_mt0 pe_gc CalAt)
section
variable {P : Program} {w : World} {K : PySem.W.Frag} {mg : Str → Option Value} {base : Heap}
abbrev n__law_dice : List Str := ["_law_script", "_law_cell"]
theorem sc__law_dice : FnScope ["_law_script", "_law_cell"] ["_law_script"] (defScope s__law_dice) := ⟨rfl, rfl, rfl, by decide +kernel, rfl, by decide +kernel, by decide +kernel⟩
def sp__law_dice (K : PySem.W.Frag) : Sp := fun vs H Q _ => ∃ (a : Addr) (ns : List Int), vs = [.ref a] ∧ SqL K H a (ns.map V.int) ∧ ∀ (d : Addr × Addr) (H' : Hp), H d.1 = none → Same H H' → Dice H' d → Q (.ref d.1) H'
theorem abs_nonneg (z : Int) : 0 ≤ (if z < 0 then -z else z) := by split <;> omega
theorem ok__law_dice (F : FnD K mg "_law_dice" s__law_dice) (T_abs : mg "abs" = none) (T_int : mg "int" = none) : Cal P w K mg base 1 "_law_dice" (sp__law_dice K) [] := by
  refine calOf F sc__law_dice (fun _ _ _ _ _ _ us hl => match us, hl with | [_], _ => rfl) (fun vs H Q E h => ?_) (fun cdv f A outer s H vs Q E hr h => ?_)
  · obtain ⟨_, _, rfl, _⟩ := h
    rfl
  · obtain ⟨a, ns, rfl, hS, k⟩ := h
    refine ⟨_, (pss_one (ps_ret (pe_lst (pa_cons (pe_lc (own := [("_law_cell", 1)]) (by rfl) sc__law_dice.nd (pi_list (pe_slice sl_list (pv 0) po_none (po_some pe_int))) (blkOk_by (own := [("_law_cell", 1)]) (N := ["_law_script", "_law_cell"]) (sc := defScope s__law_dice) (by decide +kernel)) (fun _ _ _ _ _ => (pg_name (i := 1) sc__law_dice.nd rfl (Or.inl rfl))) (fun _ _ _ _ _ => pts_nil) (fun _ _ _ _ _ => (pe_callB call_abs (by rfl) T_abs (by decide +kernel) (pa_cons (pe_callTy call_int1 (by rfl) T_int (by decide +kernel) (pa_cons (pv 1) pa_nil)) pa_nil)))) (pa_cons pe_int (pa_cons pe_int (pa_cons pe_int (pa_cons pe_int pa_nil)))))))), ?_⟩
    refine ⟨_, rfl, _, rfl, a, _, rfl, hS, fun p hp => ?_⟩
    have e2 : cutV (ns.map V.int) none (some 63) = (ns.take 63).map V.int := by
      show ((ns.map V.int).drop 0).take (HT.sIx (ns.map V.int).length (ns.map V.int).length (some ((63 : Nat) : Int)) - 0) = _
      rw [HT.sIx_nat, List.drop_zero, List.length_map, Nat.sub_zero, ← List.map_take]
      congr 1
      by_cases c : 63 ≤ ns.length
      · rw [Nat.min_eq_left c]
      · rw [Nat.min_eq_right (by omega), List.take_of_length_le (Nat.le_refl _), List.take_of_length_le (by omega)]
    rw [e2]
    have s1 := same_new (o := .lst ((ns.take 63).map V.int)) hp
    refine ⟨p, rfl, ⟨_, SqL.of upd_same⟩, fun D hD => ?_⟩
    have hDH : H D = none := Same.free s1 hD
    have s2 : Same H (upd (upd H p (.lst ((ns.take 63).map V.int))) D (.lst [])) := s1.trans (same_new hD)
    refine lc_list (K := K) (a := p) (xs := (ns.take 63).map V.int) (fun i H' => ∃ ms : List Int, p ≠ D ∧ H' D = some (.lst (ms.map V.int)) ∧ ms.length = i ∧ (∀ m ∈ ms, 0 ≤ m) ∧ Same H H' ∧ H' p = some (.lst ((ns.take 63).map V.int)))
      ⟨[], ne_of_none upd_same hD, upd_same, rfl, by simp, s2, by rw [upd_ne (ne_of_none upd_same hD)]; exact upd_same⟩ (fun i H' _ ⟨_, _, _, _, _, _, h⟩ => SqL.of h) ?_ ?_
    · rintro i x H' hx ⟨ms, npd, h1, h2, h3, h4, h5⟩
      rw [List.getElem?_map] at hx
      cases e : (ns.take 63)[i]? with
      | none => rw [e] at hx; cases hx
      | some z =>
        rw [e] at hx
        cases hx
        have hi : i < (ns.take 63).length := (List.getElem?_eq_some_iff.mp e).1
        have hl : (ns.take 63).length ≤ 63 := by rw [List.length_take]; omega
        refine ⟨rfl, _, rfl, .inl ⟨_, rfl, _, rfl, _, h1, by rw [List.length_map, h2]; exact small1000 (by omega), ?_⟩⟩
        refine ⟨ms ++ [if z < 0 then -z else z], npd, by rw [List.map_append]; exact upd_same, by simp [h2], ?_, Same.mut h4 hDH, ?_⟩
        · intro m hm
          rcases List.mem_append.mp hm with h | h
          · exact h3 m h
          · rw [List.mem_singleton.mp h]
            exact abs_nonneg z
        · rw [upd_ne npd]
          exact h5
    · rintro H' ⟨ms, npd, h1, h2, h3, h4, h5⟩
      refine ⟨(by show 5 ≤ sizeLine; decide), fun da hda => ?_⟩
      have nd : D ≠ da := ne_of_none h1 hda
      refine k (da, D) _ (Same.free h4 hda) (h4.trans (same_new hda)) ⟨0, 0, 1, 0, ms, upd_same, by rw [upd_ne nd]; exact h1, nd, by omega, h3, by omega, by omega, by omega⟩
end
end CB

set_option Elab.async false
set_option linter.all false
set_option maxRecDepth 100000
set_option maxHeartbeats 4000000
namespace CB
open PySem PySem.Spec PyProof.Rows L2
open C8 (Cal Met Mak pe_c pe_mk pe_mt pe_mt0 pe_gc CalAt)
section
variable {P : Program} {w : World} {K : PySem.W.Frag} {mg : Str → Option Value} {base : Heap}
abbrev n__law_lowest : List Str := ["_law_top", "_law_bottom", "_law_one", "_law_other"]
theorem sc__law_lowest : FnScope ["_law_top", "_law_bottom", "_law_one", "_law_other"] ["_law_top", "_law_bottom"] (defScope s__law_lowest) := ⟨rfl, rfl, rfl, by decide +kernel, rfl, by decide +kernel, by decide +kernel⟩
theorem ok__law_lowest (F : FnD K mg "_law_lowest" s__law_lowest) (T_abs : mg "abs" = none) (T_int : mg "int" = none) : Cal P w K mg base 1 "_law_lowest" (sp_lowest K) [] := by
  refine calOf F sc__law_lowest (fun _ _ _ _ _ _ us hl => match us, hl with | [_, _], _ => rfl) (fun vs H Q E h => ?_) (fun cdv f A outer s H vs Q E hr h => ?_)
  · obtain ⟨_, _, rfl, _⟩ := h
    rfl
  · obtain ⟨a, b, rfl, hb, hz, k⟩ := h
    have g := gcd_pos (a := a) hb
    have gl : (((Nat.gcd a.natAbs b.natAbs : Nat) : Int)).natAbs < 2 ^ 9000 := Nat.lt_of_le_of_lt (gcd_le hb) hz
    have cd : ∀ x : Int, CDivW x ((Nat.gcd a.natAbs b.natAbs : Nat) : Int) := fun x => wide_div g gl (by omega) (by omega)
    refine ⟨_, (pss_cons (ps_par (i := 2) (j := 3) (by rfl) sc__law_lowest.nd rfl rfl (by decide) rfl rfl (pa_cons (pe_callB call_abs (by rfl) T_abs (by decide +kernel) (pa_cons (pv 0) pa_nil)) (pa_cons (pv 1) pa_nil)) (by rfl))
    (pss_cons (ps_while PassesOwn.never (pt_cmpR op_gt (pv 3) pe_int (nomark _)) (pss_one (ps_par (i := 2) (j := 3) (by rfl) sc__law_lowest.nd rfl rfl (by decide) rfl rfl (pa_cons (pv 3) (pa_cons (pe_op op_mod (pe_callTy call_int1 (by rfl) T_int (by decide +kernel) (pa_cons (pv 2) pa_nil)) (pv 3)) pa_nil)) (by rfl))))
    (pss_one (ps_ret (pe_tup (pa_cons (pe_op op_fdivW (pv 0) (pv 2)) (pa_cons (pe_op op_fdivW (pv 1) (pv 2)) pa_nil))))))), ?_⟩
    refine ⟨_, rfl, _, rfl, _, rfl, _, _, rfl, ?_⟩
    refine ⟨fun m σ H' => ∃ x y : Int, σ = [some (.int a), some (.int b), some (.int x), some (.int y)] ∧ H' = H ∧ 0 ≤ x ∧ 0 ≤ y ∧ Nat.gcd x.toNat y.toNat = Nat.gcd a.natAbs b.natAbs ∧ m = y.toNat, ⟨_, _, _, rfl, rfl, abs_nonneg a, by omega, ?_, rfl⟩, ?_⟩
    · congr 1
      · split <;> omega
      · omega
    · rintro m σ H1 ⟨x, y, rfl, eH, hx, hy, hg, rfl⟩
      subst eH
      refine ⟨_, rfl, _, _, rfl, rfl, _, rfl, ?_⟩
      refine ite2 (fun c => ?_) (fun c => ?_)
      · have c' : 0 < y := of_decide_eq_true c
        refine ⟨fun σ' H' => ∃ x' y' : Int, σ' = [some (.int a), some (.int b), some (.int x'), some (.int y')] ∧ H' = H1 ∧ 0 ≤ x' ∧ 0 ≤ y' ∧ Nat.gcd x'.toNat y'.toNat = Nat.gcd a.natAbs b.natAbs ∧ y' < y, fun σ' H' ⟨x', y', e1, e2, h1, h2, h3, h4⟩ => ⟨y'.toNat, by omega, x', y', e1, e2, h1, h2, h3, rfl⟩, ?_⟩
        refine ⟨_, rfl, _, rfl, .inl ⟨_, rfl, _, rfl, _, _, rfl, rfl, c', _, _, rfl, ?_⟩⟩
        refine ⟨y, x % y, rfl, rfl, hy, Int.emod_nonneg _ (by omega), ?_, Int.emod_lt_of_pos _ c'⟩
        rw [← hg, Nat.gcd_comm x.toNat, Nat.gcd_comm y.toNat (x % y).toNat, Int.toNat_emod hx hy, ← Nat.gcd_rec]
      · have c' : ¬ 0 < y := fun z => c (decide_eq_true z)
        have y0 : y = 0 := by omega
        subst y0
        have ex : x = ((Nat.gcd a.natAbs b.natAbs : Nat) : Int) := by
          rw [← hg]
          simp
          omega
        subst ex
        refine ⟨_, rfl, _, rfl, _, _, rfl, rfl, cd _, _, rfl, _, rfl, _, _, rfl, rfl, cd _, (by show 2 ≤ sizeLine; decide), fun p hp => ?_⟩
        refine k _ _ (same_new hp) ⟨p, rfl, SqT.of ?_⟩
        rw [upd_same, divInt_num hb, divInt_den hb]
abbrev n__law_sum : List Str := ["_law_one", "_law_other", "_law_sign"]
theorem sc__law_sum : FnScope ["_law_one", "_law_other", "_law_sign"] ["_law_one", "_law_other", "_law_sign"] (defScope s__law_sum) := ⟨rfl, rfl, rfl, by decide +kernel, rfl, by decide +kernel, by decide +kernel⟩
/-- of raw pairs, the sign 1 or -1 -/
def sp__law_sum (K : PySem.W.Frag) : Sp := fun vs H Q _ => ∃ (v1 v2 : V) (a b c d g : Int) (m n : Nat), vs = [v1, v2, .int g] ∧ PF K H v1 a b ∧ PF K H v2 c d ∧ 0 < b ∧ 0 < d ∧ (g = 1 ∨ g = -1) ∧
  a.natAbs < 2 ^ m ∧ b.natAbs < 2 ^ m ∧ c.natAbs < 2 ^ n ∧ d.natAbs < 2 ^ n ∧ m + n ≤ 9000 ∧ ∀ v H', Same H H' → RF K H' v (Rat.divInt a b + (g : Rat) * Rat.divInt c d) → Q v H'
theorem ok__law_sum (F : FnD K mg "_law_sum" s__law_sum) (c__law_lowest : Cal P w K mg base 1 "_law_lowest" (sp_lowest K) []) : Cal P w K mg base 2 "_law_sum" (sp__law_sum K) [] := by
  refine calOf F sc__law_sum (fun _ _ _ _ _ _ us hl => match us, hl with | [_, _, _], _ => rfl) (fun vs H Q E h => ?_) (fun cdv f A outer s H vs Q E hr h => ?_)
  · obtain ⟨_, _, _, _, _, _, _, _, _, rfl, _⟩ := h
    rfl
  · obtain ⟨v1, v2, a, b, c, d, g, m, n, rfl, ⟨p1, rfl, h1⟩, ⟨p2, rfl, h2⟩, hb, hd, hg, ha', hb', hc', hd', hmn, k⟩ := h
    have hg' : g.natAbs < 2 ^ 1 := by omega
    have hgc : (g * c).natAbs < 2 ^ n := by rcases hg with rfl | rfl <;> simpa using hc'
    refine ⟨_, (pss_one (ps_ret (pe_c c__law_lowest hr (by first | decide | omega) rfl (pa_cons (pe_op op_add (pe_op op_mulW (pe_ix ix_tup (pv 0) pe_int (fun _ _ => rfl)) (pe_ix ix_tup (pv 1) pe_int (fun _ _ => rfl))) (pe_op op_mulW (pe_op op_mulW (pv 2) (pe_ix ix_tup (pv 1) pe_int (fun _ _ => rfl))) (pe_ix ix_tup (pv 0) pe_int (fun _ _ => rfl)))) (pa_cons (pe_op op_mulW (pe_ix ix_tup (pv 0) pe_int (fun _ _ => rfl)) (pe_ix ix_tup (pv 1) pe_int (fun _ _ => rfl))) pa_nil))))), ?_⟩
    refine ⟨_, rfl, _, _, _, _, rfl, rfl, h1, rfl, _, rfl, _, _, _, _, rfl, rfl, h2, rfl, _, _, rfl, rfl, wm ha' hd' (by omega), ?_⟩
    refine ⟨_, rfl, _, rfl, _, _, _, _, rfl, rfl, h2, rfl, _, _, rfl, rfl, wm hg' hc' (by omega), _, rfl, _, _, _, _, rfl, rfl, h1, rfl, _, _, rfl, rfl, wm hgc hb' (by omega), _, _, rfl, rfl, ?_⟩
    refine ⟨_, rfl, _, _, _, _, rfl, rfl, h1, rfl, _, rfl, _, _, _, _, rfl, rfl, h2, rfl, _, _, rfl, rfl, wm hb' hd' (by omega), ?_⟩
    refine ⟨_, _, rfl, Int.mul_pos hb hd, Nat.lt_of_lt_of_le (wide_lt hb' hd') (Nat.pow_le_pow_right (by omega) hmn), fun v H' e r => k v H' e ?_⟩
    have z : (g : Rat) * Rat.divInt c d = Rat.divInt (g * c) d := by rw [int_rat, Rat.divInt_mul_divInt, Int.one_mul]
    rw [z, Rat.divInt_add_divInt _ _ (by omega) (by omega)]
    exact r
abbrev n__law_product : List Str := ["_law_one", "_law_other"]
theorem sc__law_product : FnScope ["_law_one", "_law_other"] ["_law_one", "_law_other"] (defScope s__law_product) := ⟨rfl, rfl, rfl, by decide +kernel, rfl, by decide +kernel, by decide +kernel⟩
def sp__law_product (K : PySem.W.Frag) : Sp := fun vs H Q _ => ∃ (v1 v2 : V) (a b c d : Int) (m n : Nat), vs = [v1, v2] ∧ PF K H v1 a b ∧ PF K H v2 c d ∧ 0 < b ∧ 0 < d ∧
  a.natAbs < 2 ^ m ∧ b.natAbs < 2 ^ m ∧ c.natAbs < 2 ^ n ∧ d.natAbs < 2 ^ n ∧ m + n ≤ 9000 ∧ ∀ v H', Same H H' → RF K H' v (Rat.divInt a b * Rat.divInt c d) → Q v H'
theorem ok__law_product (F : FnD K mg "_law_product" s__law_product) (c__law_lowest : Cal P w K mg base 1 "_law_lowest" (sp_lowest K) []) : Cal P w K mg base 2 "_law_product" (sp__law_product K) [] := by
  refine calOf F sc__law_product (fun _ _ _ _ _ _ us hl => match us, hl with | [_, _], _ => rfl) (fun vs H Q E h => ?_) (fun cdv f A outer s H vs Q E hr h => ?_)
  · obtain ⟨_, _, _, _, _, _, _, _, rfl, _⟩ := h
    rfl
  · obtain ⟨v1, v2, a, b, c, d, m, n, rfl, ⟨p1, rfl, h1⟩, ⟨p2, rfl, h2⟩, hb, hd, ha', hb', hc', hd', hmn, k⟩ := h
    refine ⟨_, (pss_one (ps_ret (pe_c c__law_lowest hr (by first | decide | omega) rfl (pa_cons (pe_op op_mulW (pe_ix ix_tup (pv 0) pe_int (fun _ _ => rfl)) (pe_ix ix_tup (pv 1) pe_int (fun _ _ => rfl))) (pa_cons (pe_op op_mulW (pe_ix ix_tup (pv 0) pe_int (fun _ _ => rfl)) (pe_ix ix_tup (pv 1) pe_int (fun _ _ => rfl))) pa_nil))))), ?_⟩
    refine ⟨_, rfl, _, _, _, _, rfl, rfl, h1, rfl, _, rfl, _, _, _, _, rfl, rfl, h2, rfl, _, _, rfl, rfl, wm ha' hc' (by omega), ?_⟩
    refine ⟨_, rfl, _, _, _, _, rfl, rfl, h1, rfl, _, rfl, _, _, _, _, rfl, rfl, h2, rfl, _, _, rfl, rfl, wm hb' hd' (by omega), ?_⟩
    refine ⟨_, _, rfl, Int.mul_pos hb hd, Nat.lt_of_lt_of_le (wide_lt hb' hd') (Nat.pow_le_pow_right (by omega) hmn), fun v H' e r => k v H' e ?_⟩
    rw [Rat.divInt_mul_divInt]
    exact r
abbrev n__law_less : List Str := ["_law_one", "_law_other"]
theorem sc__law_less : FnScope ["_law_one", "_law_other"] ["_law_one", "_law_other"] (defScope s__law_less) := ⟨rfl, rfl, rfl, by decide +kernel, rfl, by decide +kernel, by decide +kernel⟩
theorem ok__law_less (F : FnD K mg "_law_less" s__law_less) : Cal P w K mg base 1 "_law_less" (sp_is_less K) [] := by
  refine calOf F sc__law_less (fun _ _ _ _ _ _ us hl => match us, hl with | [_, _], _ => rfl) (fun vs H Q E h => ?_) (fun cdv f A outer s H vs Q E hr h => ?_)
  · obtain ⟨_, _, _, _, _, _, rfl, _⟩ := h
    rfl
  · obtain ⟨v1, v2, a, b, m, n, rfl, ⟨p1, rfl, h1⟩, ⟨p2, rfl, h2⟩, sa, sb, hmn, k⟩ := h
    refine ⟨_, (pss_one (ps_ret (pe_cmpR op_lt (pe_op op_mulW (pe_ix ix_tup (pv 0) pe_int (fun _ _ => rfl)) (pe_ix ix_tup (pv 1) pe_int (fun _ _ => rfl))) (pe_op op_mulW (pe_ix ix_tup (pv 1) pe_int (fun _ _ => rfl)) (pe_ix ix_tup (pv 0) pe_int (fun _ _ => rfl))) (nomark _)))), ?_⟩
    refine ⟨_, rfl, _, _, _, _, rfl, rfl, h1, rfl, _, rfl, _, _, _, _, rfl, rfl, h2, rfl, _, _, rfl, rfl, wm sa.1 sb.d (by omega), ?_⟩
    refine ⟨_, rfl, _, _, _, _, rfl, rfl, h2, rfl, _, rfl, _, _, _, _, rfl, rfl, h1, rfl, _, _, rfl, rfl, wm sb.1 sa.d (by omega), ?_⟩
    refine ⟨_, _, rfl, rfl, ?_⟩
    show Q (V.bl (decide (a.num * (b.den : Int) < b.num * (a.den : Int)))) H
    rw [show decide (a.num * (b.den : Int) < b.num * (a.den : Int)) = decide (a < b) from decide_eq_decide.mpr lt_num]
    exact k
abbrev n__law_number : List Str := ["_law_dice_here", "_law_bottom"]
theorem sc__law_number : FnScope ["_law_dice_here", "_law_bottom"] ["_law_dice_here"] (defScope s__law_number) := ⟨rfl, rfl, rfl, by decide +kernel, rfl, by decide +kernel, by decide +kernel⟩
def sp__law_number (K : PySem.W.Frag) : Sp := fun vs H Q _ => ∃ d : Addr × Addr, vs = [.ref d.1] ∧ Dice H d ∧ ∀ v q H', NumOk 20 q → RF K H' v q → Dice H' d → KD d.1 H H' → Q v H'
def bottoms : List Int := [1, 2, 3, 4, 5, 6, 8, 10, 12, 60, 999983]
theorem bottoms_ok : ∀ z ∈ bottoms, 1 ≤ z ∧ z ≤ 999983 := by decide
theorem ok__law_number (F : FnD K mg "_law_number" s__law_number) (c__law_draw : Cal P w K mg base 1 "_law_draw" sp__law_draw []) (c__law_lowest : Cal P w K mg base 1 "_law_lowest" (sp_lowest K) []) : Cal P w K mg base 2 "_law_number" (sp__law_number K) [] := by
  refine calOf F sc__law_number (fun _ _ _ _ _ _ us hl => match us, hl with | [_], _ => rfl) (fun vs H Q E h => ?_) (fun cdv f A outer s H vs Q E hr h => ?_)
  · obtain ⟨_, rfl, _⟩ := h
    rfl
  · obtain ⟨da, rfl, hd, k⟩ := h
    refine ⟨_, (pss_cons (ps_set (i := 1) sc__law_number.nd rfl (Or.inl rfl) (pe_ix ix_list (pe_lst (pa_cons pe_int (pa_cons pe_int (pa_cons pe_int (pa_cons pe_int (pa_cons pe_int (pa_cons pe_int (pa_cons pe_int (pa_cons pe_int (pa_cons pe_int (pa_cons pe_int (pa_cons pe_int pa_nil)))))))))))) (pe_c c__law_draw hr (by first | decide | omega) rfl (pa_cons (pv 0) (pa_cons pe_int pa_nil))) (fun _ _ => rfl)))
    (pss_one (ps_ret (pe_c c__law_lowest hr (by first | decide | omega) rfl (pa_cons (pe_c c__law_draw hr (by first | decide | omega) rfl (pa_cons (pv 0) (pa_cons (pe_op op_add (pv 1) pe_int) pa_nil))) (pa_cons (pv 1) pa_nil)))))), ?_⟩
    refine ⟨(by show 11 ≤ sizeLine; decide), fun p hp => ?_⟩
    have npd := (hd.ne hp).1
    refine ⟨_, rfl, da, 11, rfl, hd.same (same_new hp), by decide, by decide, fun r H1 r0 r1 d1 k1 => ?_⟩
    have hl : H1 p = some (.lst (bottoms.map V.int)) := k1 p _ npd upd_same
    obtain ⟨z, hz⟩ : ∃ z, bottoms[r.toNat]? = some z := ⟨bottoms[r.toNat]'(by show r.toNat < 11; omega), List.getElem?_eq_getElem _⟩
    have zb := bottoms_ok z (List.mem_of_getElem? hz)
    have hz' : (bottoms.map V.int)[r.toNat]? = some (.int z) := by rw [List.getElem?_map, hz]; rfl
    refine ⟨p, _, r, _, rfl, rfl, SqL.of hl, at_of (j := r.toNat) (by omega) hz', ?_⟩
    refine ⟨_, rfl, _, rfl, _, _, rfl, rfl, da, z + 1, rfl, d1, by omega, by omega, fun r2 H2 g0 g1 d2 k2 => ?_⟩
    refine ⟨_, rfl, r2, z, rfl, by omega, Nat.lt_of_lt_of_le (show z.natAbs < 2 ^ 20 by omega) (Nat.pow_le_pow_right (by omega) (by omega)), fun v H3 e3 r3 => ?_⟩
    exact k v _ H3 (numOk_divInt g0 (by omega) (by omega) (by omega)) r3 (d2.same e3) ((((Same.kd (same_new hp)).trans k1).trans k2).trans (Same.kd e3))
abbrev n__law_numbers : List Str := ["_law_dice_here", "_law_many", "_law_k"]
theorem sc__law_numbers : FnScope ["_law_dice_here", "_law_many", "_law_k"] ["_law_dice_here", "_law_many"] (defScope s__law_numbers) := ⟨rfl, rfl, rfl, by decide +kernel, rfl, by decide +kernel, by decide +kernel⟩
def sp__law_numbers (K : PySem.W.Frag) : Sp := fun vs H Q _ => ∃ (d : Addr × Addr) (n : Nat), vs = [.ref d.1, .int (n : Int)] ∧ Dice H d ∧ n ≤ 1000 ∧ ∀ (v : V) (qs : List Rat) (H' : Hp), qs.length = n → (∀ q ∈ qs, NumOk 20 q) → Rp K H' v (.tuple (qs.map qd)) → Dice H' d → KD d.1 H H' → Q v H'
theorem ok__law_numbers (F : FnD K mg "_law_numbers" s__law_numbers) (c__law_number : Cal P w K mg base 2 "_law_number" (sp__law_number K) []) (T_range : mg "range" = none) (T_tuple : mg "tuple" = none) : Cal P w K mg base 3 "_law_numbers" (sp__law_numbers K) [] := by
  refine calOf F sc__law_numbers (fun _ _ _ _ _ _ us hl => match us, hl with | [_, _], _ => rfl) (fun vs H Q E h => ?_) (fun cdv f A outer s H vs Q E hr h => ?_)
  · obtain ⟨_, _, rfl, _⟩ := h
    rfl
  · obtain ⟨da, n, rfl, hd, hn, k⟩ := h
    refine ⟨_, (pss_one (ps_ret (pe_callTy call_tuple_of (by rfl) T_tuple (by decide +kernel) (pa_cons (pe_lc (own := [("_law_k", 2)]) (by rfl) sc__law_numbers.nd (pi_range1 (by rfl) T_range (pa_cons (pv 1) pa_nil)) (blkOk_by (own := [("_law_k", 2)]) (N := ["_law_dice_here", "_law_many", "_law_k"]) (sc := defScope s__law_numbers) (by decide +kernel)) (fun _ _ _ _ _ => (pg_name (i := 2) sc__law_numbers.nd rfl (Or.inl rfl))) (fun _ _ _ _ _ => pts_nil) (fun _ _ _ _ _ => (pe_c c__law_number hr (by first | decide | omega) rfl (pa_cons (pv 0) pa_nil)))) pa_nil)))), ?_⟩
    refine ⟨_, rfl, _, rfl, by omega, by omega, fun D hD => ?_⟩
    have ndd := hd.ne hD
    refine lc_range (lo := 0) (n := (n : Int).toNat) (fun i H' => ∃ (ys : List V) (qs : List Rat), H' D = some (.lst ys) ∧ qs.length = i ∧ RQ K H' ys qs ∧ (∀ q ∈ qs, NumOk 20 q) ∧ Dice H' da ∧ KD da.1 H H')
      ⟨[], [], upd_same, rfl, .nil, by simp, hd.same (same_new hD), Same.kd (same_new hD)⟩ ?_ ?_
    · rintro i H' hi ⟨ys, qs, h1, h2, h3, h4, h5, h6⟩
      refine ⟨rfl, _, rfl, da, rfl, h5, fun v q H2 nq rq d2 k2 => ?_⟩
      have hD2 := k2 D _ ndd.1 h1
      have h3' := h3.mono (h5.kt k2)
      refine ⟨ys, hD2, small1000 (by rw [h3.length, h2]; omega), ys ++ [v], qs ++ [q], upd_same, by simp [h2], RpAll.mono (KT.updl hD2) (RQ.snoc h3' rq), ?_, ?_, ?_⟩
      · intro x hx
        rcases List.mem_append.mp hx with h | h
        · exact h4 x h
        · rw [List.mem_singleton.mp h]
          exact nq
      · exact d2.upd ndd
      · exact (h6.trans k2).mut hD
    · rintro H' ⟨ys, qs, h1, h2, h3, h4, h5, h6⟩
      refine ⟨D, ys, rfl, .inl ⟨SqL.of h1, fun p hp => ?_⟩⟩
      exact k _ qs _ (by rw [h2]; omega) h4 (.tup (SqT.of upd_same) (h3.mono (Same.kt (same_new hp)))) (h5.same (same_new hp)) (h6.new hp)
end
end CB

set_option Elab.async false
set_option linter.all false
set_option maxRecDepth 100000
set_option maxHeartbeats 2000000
namespace CB
open PySem PySem.Spec PyProof.Rows L2
/-! ### sorted rows -/
def cntLe (q : Rat) (l : List Rat) : Nat := (l.filter fun x => !decide (q < x)).length
def insq (l : List Rat) (q : Rat) : List Rat := l.take (cntLe q l) ++ [q] ++ l.drop (cntLe q l)
def isort (l : List Rat) : List Rat := l.foldl insq []
abbrev Srt (l : List Rat) : Prop := l.Pairwise fun a b => a ≤ b
theorem cntLe_le (q : Rat) (l : List Rat) : cntLe q l ≤ l.length := List.length_filter_le _ _
theorem insq_perm (l : List Rat) (q : Rat) : (insq l q).Perm (q :: l) := by
  unfold insq
  have h1 : (l.take (cntLe q l) ++ [q] ++ l.drop (cntLe q l)).Perm ([q] ++ l.take (cntLe q l) ++ l.drop (cntLe q l)) := (List.perm_append_comm).append_right _
  refine h1.trans ?_
  rw [List.append_assoc, List.take_append_drop]
  exact List.Perm.refl _
theorem cntLe_cons_le {q x : Rat} {l : List Rat} (h : ¬ q < x) : cntLe q (x :: l) = cntLe q l + 1 := by
  unfold cntLe
  rw [List.filter_cons_of_pos (by simp [h])]
  rfl
theorem cntLe_zero {q : Rat} : ∀ {l : List Rat}, (∀ x ∈ l, q < x) → cntLe q l = 0
  | [], _ => rfl
  | x :: l, h => by
    unfold cntLe
    rw [List.filter_cons_of_neg (by simp [h x List.mem_cons_self])]
    exact cntLe_zero fun y hy => h y (List.mem_cons_of_mem _ hy)
theorem insq_srt : ∀ {l : List Rat} (q : Rat), Srt l → Srt (insq l q)
  | [], q, _ => by simp [insq, cntLe, Srt]
  | x :: l, q, h => by
    have hx := (List.pairwise_cons.mp h).1
    have hl := (List.pairwise_cons.mp h).2
    by_cases c : q < x
    · have z : cntLe q (x :: l) = 0 := cntLe_zero fun y hy => by
        rcases List.mem_cons.mp hy with e | e
        · rw [e]; exact c
        · have := hx y e; grind
      unfold insq
      rw [z, List.take_zero, List.drop_zero]
      refine List.pairwise_cons.mpr ⟨fun y hy => ?_, h⟩
      rcases List.mem_cons.mp hy with e | e
      · rw [e]; grind
      · have := hx y e; grind
    · have ih := insq_srt q hl
      have z : insq (x :: l) q = x :: insq l q := by
        unfold insq
        rw [cntLe_cons_le c]
        rfl
      rw [z]
      refine List.pairwise_cons.mpr ⟨fun y hy => ?_, ih⟩
      rcases List.mem_cons.mp ((insq_perm l q).mem_iff.mp hy) with e | e
      · rw [e]; grind
      · exact hx y e
theorem isort_aux : ∀ (l acc : List Rat), Srt acc → Srt (l.foldl insq acc) ∧ (l.foldl insq acc).Perm (acc ++ l)
  | [], acc, h => ⟨h, by simp⟩
  | q :: l, acc, h => by
    obtain ⟨h1, h2⟩ := isort_aux l (insq acc q) (insq_srt q h)
    refine ⟨h1, h2.trans ?_⟩
    refine ((insq_perm acc q).append_right l).trans ?_
    exact List.perm_middle.symm
theorem isort_srt (l : List Rat) : Srt (isort l) := (isort_aux l [] .nil).1
theorem isort_perm (l : List Rat) : (isort l).Perm l := by
  have h := (isort_aux l [] .nil).2
  rw [List.nil_append] at h
  exact h
theorem isort_length (l : List Rat) : (isort l).length = l.length := (isort_perm l).length_eq
theorem srt_unique : ∀ {l m : List Rat}, Srt l → Srt m → l.Perm m → l = m
  | [], m, _, _, p => (List.nil_perm.mp p).symm
  | a :: l, [], _, _, p => absurd p.symm.nil_eq (by simp)
  | a :: l, b :: m, hl, hm, p => by
    have h1 := (List.pairwise_cons.mp hl).1
    have h2 := (List.pairwise_cons.mp hm).1
    have e : a = b := by
      have ha : a ∈ b :: m := p.mem_iff.mp List.mem_cons_self
      have hb : b ∈ a :: l := p.mem_iff.mpr List.mem_cons_self
      rcases List.mem_cons.mp ha with e | e
      · exact e
      · rcases List.mem_cons.mp hb with e' | e'
        · exact e'.symm
        · have := h1 b e'
          have := h2 a e
          grind
    subst e
    rw [srt_unique (List.pairwise_cons.mp hl).2 (List.pairwise_cons.mp hm).2 (List.Perm.cons_inv p)]
theorem isort_of {l m : List Rat} (h : Srt m) (p : m.Perm l) : isort l = m := srt_unique (isort_srt l) h ((isort_perm l).trans p.symm)

/-! ### the least, the greatest, the k-th greatest -/
def minL (l : List Rat) : Rat := match l with
  | [] => 0
  | x :: l => l.foldl rmin x
def maxL (l : List Rat) : Rat := match l with
  | [] => 0
  | x :: l => l.foldl rmax x
def bub : Rat → List Rat → List Rat × Rat
  | t, [] => ([], t)
  | t, x :: l => (rmin t x :: (bub (rmax t x) l).1, (bub (rmax t x) l).2)
def bubL (l : List Rat) : List Rat := match l with
  | [] => []
  | x :: l => (bub x l).1
def kthG : Nat → List Rat → Rat
  | 0, l => maxL l
  | k + 1, l => kthG k (bubL l)
theorem foldl_rmin : ∀ (l : List Rat) (x : Rat), (l.foldl rmin x = x ∨ l.foldl rmin x ∈ l) ∧ l.foldl rmin x ≤ x ∧ ∀ y ∈ l, l.foldl rmin x ≤ y
  | [], x => ⟨.inl rfl, by show x ≤ x; grind, by simp⟩
  | z :: l, x => by
    obtain ⟨h1, h2, h3⟩ := foldl_rmin l (rmin x z)
    have m : rmin x z ≤ x ∧ rmin x z ≤ z ∧ (rmin x z = x ∨ rmin x z = z) := by unfold rmin; split <;> grind
    refine ⟨?_, ?_, ?_⟩
    · show List.foldl rmin (rmin x z) l = x ∨ List.foldl rmin (rmin x z) l ∈ z :: l
      rcases h1 with h | h
      · rw [h]
        rcases m.2.2 with e | e
        · exact .inl e
        · rw [e]; exact .inr List.mem_cons_self
      · exact .inr (List.mem_cons_of_mem _ h)
    · show List.foldl rmin (rmin x z) l ≤ x
      grind
    · intro y hy
      show List.foldl rmin (rmin x z) l ≤ y
      rcases List.mem_cons.mp hy with e | e
      · rw [e]; grind
      · exact h3 y e
theorem foldl_rmax : ∀ (l : List Rat) (x : Rat), (l.foldl rmax x = x ∨ l.foldl rmax x ∈ l) ∧ x ≤ l.foldl rmax x ∧ ∀ y ∈ l, y ≤ l.foldl rmax x
  | [], x => ⟨.inl rfl, by show x ≤ x; grind, by simp⟩
  | z :: l, x => by
    obtain ⟨h1, h2, h3⟩ := foldl_rmax l (rmax x z)
    have m : x ≤ rmax x z ∧ z ≤ rmax x z ∧ (rmax x z = x ∨ rmax x z = z) := by unfold rmax; split <;> grind
    refine ⟨?_, ?_, ?_⟩
    · show List.foldl rmax (rmax x z) l = x ∨ List.foldl rmax (rmax x z) l ∈ z :: l
      rcases h1 with h | h
      · rw [h]
        rcases m.2.2 with e | e
        · exact .inl e
        · rw [e]; exact .inr List.mem_cons_self
      · exact .inr (List.mem_cons_of_mem _ h)
    · show x ≤ List.foldl rmax (rmax x z) l
      grind
    · intro y hy
      show y ≤ List.foldl rmax (rmax x z) l
      rcases List.mem_cons.mp hy with e | e
      · rw [e]; grind
      · exact h3 y e
theorem minL_mem {l : List Rat} (h : l ≠ []) : minL l ∈ l ∧ ∀ y ∈ l, minL l ≤ y := by
  cases l with
  | nil => exact absurd rfl h
  | cons x l =>
    obtain ⟨h1, h2, h3⟩ := foldl_rmin l x
    show List.foldl rmin x l ∈ x :: l ∧ ∀ y ∈ x :: l, List.foldl rmin x l ≤ y
    refine ⟨?_, fun y hy => ?_⟩
    · rcases h1 with e | e
      · rw [e]; exact List.mem_cons_self
      · exact List.mem_cons_of_mem _ e
    · rcases List.mem_cons.mp hy with e | e
      · rw [e]; exact h2
      · exact h3 y e
theorem maxL_mem {l : List Rat} (h : l ≠ []) : maxL l ∈ l ∧ ∀ y ∈ l, y ≤ maxL l := by
  cases l with
  | nil => exact absurd rfl h
  | cons x l =>
    obtain ⟨h1, h2, h3⟩ := foldl_rmax l x
    show List.foldl rmax x l ∈ x :: l ∧ ∀ y ∈ x :: l, y ≤ List.foldl rmax x l
    refine ⟨?_, fun y hy => ?_⟩
    · rcases h1 with e | e
      · rw [e]; exact List.mem_cons_self
      · exact List.mem_cons_of_mem _ e
    · rcases List.mem_cons.mp hy with e | e
      · rw [e]; exact h2
      · exact h3 y e
theorem srt_get_le {l : List Rat} (h : Srt l) {i j : Nat} {x y : Rat} (hi : l[i]? = some x) (hj : l[j]? = some y) (hij : i ≤ j) : x ≤ y := by
  by_cases e : i = j
  · subst e
    rw [hi] at hj
    cases hj
    grind
  · obtain ⟨h1, e1⟩ := List.getElem?_eq_some_iff.mp hi
    obtain ⟨h2, e2⟩ := List.getElem?_eq_some_iff.mp hj
    have := List.pairwise_iff_getElem.mp h i j h1 h2 (by omega)
    rw [e1, e2] at this
    exact this
theorem isort_first {l : List Rat} (h : l ≠ []) : (isort l)[0]? = some (minL l) := by
  obtain ⟨h1, h2⟩ := minL_mem h
  have hl : 0 < (isort l).length := by rw [isort_length]; exact List.length_pos_iff.mpr h
  have e : (isort l)[0]? = some (isort l)[0] := List.getElem?_eq_getElem hl
  rw [e]
  congr 1
  have a : minL l ≤ (isort l)[0] := h2 _ ((isort_perm l).mem_iff.mp (List.getElem_mem hl))
  obtain ⟨j, hj⟩ := List.mem_iff_getElem?.mp ((isort_perm l).mem_iff.mpr h1)
  have b := srt_get_le (isort_srt l) e hj (Nat.zero_le _)
  grind
theorem isort_last {l : List Rat} (h : l ≠ []) : (isort l)[l.length - 1]? = some (maxL l) := by
  obtain ⟨h1, h2⟩ := maxL_mem h
  have hp := List.length_pos_iff.mpr h
  have hl : l.length - 1 < (isort l).length := by rw [isort_length]; omega
  have e : (isort l)[l.length - 1]? = some (isort l)[l.length - 1] := List.getElem?_eq_getElem hl
  rw [e]
  congr 1
  have a : (isort l)[l.length - 1] ≤ maxL l := h2 _ ((isort_perm l).mem_iff.mp (List.getElem_mem hl))
  obtain ⟨j, hj⟩ := List.mem_iff_getElem?.mp ((isort_perm l).mem_iff.mpr h1)
  have hj2 := (List.getElem?_eq_some_iff.mp hj).1
  rw [isort_length] at hj2
  have b := srt_get_le (isort_srt l) hj e (by omega)
  grind
theorem bub_perm : ∀ (l : List Rat) (t : Rat), ((bub t l).1 ++ [(bub t l).2]).Perm (t :: l)
  | [], t => List.Perm.refl _
  | x :: l, t => by
    have ih := bub_perm l (rmax t x)
    show (rmin t x :: (bub (rmax t x) l).1 ++ [(bub (rmax t x) l).2]).Perm (t :: x :: l)
    refine (List.Perm.cons _ ih).trans ?_
    unfold rmin rmax
    by_cases c : x < t
    · rw [if_pos c, if_neg (by grind)]
      exact List.Perm.swap _ _ _
    · by_cases c2 : t < x
      · rw [if_neg c, if_pos c2]
      · rw [if_neg c, if_neg c2]
        have : t = x := by grind
        rw [this]
theorem bub_max : ∀ (l : List Rat) (t : Rat), (bub t l).2 = l.foldl rmax t
  | [], t => rfl
  | x :: l, t => bub_max l (rmax t x)
theorem bub_length : ∀ (l : List Rat) (t : Rat), (bub t l).1.length = l.length
  | [], t => rfl
  | x :: l, t => by show ((bub (rmax t x) l).1.length + 1) = _; rw [bub_length l]; rfl
theorem isort_bubL {l : List Rat} (h : l ≠ []) : isort l = isort (bubL l) ++ [maxL l] := by
  cases l with
  | nil => exact absurd rfl h
  | cons x l =>
    refine isort_of ?_ ?_
    · refine List.pairwise_append.mpr ⟨isort_srt _, by simp, fun a ha b hb => ?_⟩
      rw [List.mem_singleton.mp hb]
      refine (maxL_mem h).2 a ?_
      have : a ∈ (bub x l).1 := (isort_perm _).mem_iff.mp ha
      exact (bub_perm l x).mem_iff.mp (List.mem_append_left _ this)
    · refine ((isort_perm _).append_right _).trans ?_
      have e : maxL (x :: l) = (bub x l).2 := (bub_max l x).symm
      rw [e]
      exact bub_perm l x
theorem bubL_length (l : List Rat) : (bubL l).length = l.length - 1 := by
  cases l with
  | nil => rfl
  | cons x l => exact bub_length l x
theorem kthG_isort : ∀ (k : Nat) (l : List Rat), k < l.length → (isort l)[l.length - 1 - k]? = some (kthG k l)
  | 0, l, h => isort_last (by intro e; subst e; cases h)
  | k + 1, l, h => by
    have hne : l ≠ [] := by intro e; subst e; cases h
    have ih := kthG_isort k (bubL l) (by rw [bubL_length]; omega)
    rw [bubL_length] at ih
    rw [isort_bubL hne]
    have z : l.length - 1 - (k + 1) < (isort (bubL l)).length := by rw [isort_length, bubL_length]; omega
    rw [List.getElem?_append_left z]
    have e : l.length - 1 - (k + 1) = l.length - 1 - 1 - k := by omega
    rw [e]
    exact ih
theorem isort_mid {lo hi x : Rat} (h : lo ≤ hi) : (isort [lo, hi, x])[1]? = some (rmax lo (rmin hi x)) := by
  unfold rmin rmax
  by_cases c1 : x < hi
  · by_cases c2 : lo < x
    · have e : isort [lo, hi, x] = [lo, x, hi] := isort_of (by simp [Srt]; grind) (List.Perm.cons _ (List.Perm.swap _ _ _))
      rw [e, if_pos c1, if_pos c2]
      rfl
    · have e : isort [lo, hi, x] = [x, lo, hi] := isort_of (by simp [Srt]; grind) ((List.Perm.swap _ _ _).trans (List.Perm.cons _ (List.Perm.swap _ _ _)))
      rw [e, if_pos c1, if_neg c2]
      rfl
  · have e : isort [lo, hi, x] = [lo, hi, x] := isort_of (by simp [Srt]; grind) (List.Perm.refl _)
    rw [e, if_neg c1]
    by_cases c2 : lo < hi
    · rw [if_pos c2]; rfl
    · rw [if_neg c2]
      have : lo = hi := by grind
      rw [this]; rfl

/-! ### terms -/
inductive Tm where
  | bid (p : Nat)
  | fixed (q : Rat)
  | mean (ws : List Int) (ts : List Tm)
  | least (ts : List Tm)
  | greatest (ts : List Tm)
  | ranked (k : Nat) (ts : List Tm)
  | between (lo hi : Rat) (t : Tm)
def meanD (ws : List Int) (ds : List PyData) : List PyData := List.zipWith (fun w d => .tuple [.int w, d]) ws ds
mutual
def Tm.data : Tm → PyData
  | .bid p => .tuple [.str "bid", .int (p : Int)]
  | .fixed q => .tuple [.str "fixed", qd q]
  | .mean ws ts => .tuple [.str "mean", .tuple (meanD ws (Tm.datas ts))]
  | .least ts => .tuple [.str "least", .tuple (Tm.datas ts)]
  | .greatest ts => .tuple [.str "greatest", .tuple (Tm.datas ts)]
  | .ranked k ts => .tuple [.str "ranked", .int (k : Int), .tuple (Tm.datas ts)]
  | .between lo hi t => .tuple [.str "between", qd lo, qd hi, t.data]
def Tm.datas : List Tm → List PyData
  | [] => []
  | t :: ts => t.data :: Tm.datas ts
end
theorem datas_map : ∀ ts : List Tm, Tm.datas ts = ts.map Tm.data
  | [] => rfl
  | t :: ts => by rw [Tm.datas, datas_map ts]; rfl
/-- the weighted sum -/
def wavg (ws : List Int) (qs : List Rat) : Rat := (List.zipWith (fun (w : Int) (q : Rat) => (w : Rat) * q) ws qs).sum / ((ws.sum : Int) : Rat)
mutual
def Tm.val (b : List Rat) : Tm → Rat
  | .bid p => b.getD p 0
  | .fixed q => q
  | .mean ws ts => wavg ws (Tm.vals b ts)
  | .least ts => minL (Tm.vals b ts)
  | .greatest ts => maxL (Tm.vals b ts)
  | .ranked k ts => kthG (k - 1) (Tm.vals b ts)
  | .between lo hi t => rmax lo (rmin hi (t.val b))
def Tm.vals (b : List Rat) : List Tm → List Rat
  | [] => []
  | t :: ts => t.val b :: Tm.vals b ts
end
theorem vals_map (b : List Rat) : ∀ ts : List Tm, Tm.vals b ts = ts.map (Tm.val b)
  | [] => rfl
  | t :: ts => by rw [Tm.vals, vals_map b ts]; rfl
/-! s: a bound of the bits of a bid and of a fixed number -/
mutual
def Tm.wt (s : Nat) : Tm → Nat
  | .bid _ => s
  | .fixed _ => s
  | .mean _ ts => Tm.wts s ts + 12
  | .least ts => Tm.wts s ts
  | .greatest ts => Tm.wts s ts
  | .ranked _ ts => Tm.wts s ts
  | .between _ _ t => t.wt s + s + s
def Tm.wts (s : Nat) : List Tm → Nat
  | [] => 0
  | t :: ts => t.wt s + 8 + Tm.wts s ts
end
mutual
def Tm.dep : Tm → Nat
  | .bid _ => 1
  | .fixed _ => 1
  | .mean _ ts => Tm.deps ts + 1
  | .least ts => Tm.deps ts + 1
  | .greatest ts => Tm.deps ts + 1
  | .ranked _ ts => Tm.deps ts + 1
  | .between _ _ t => t.dep + 1
def Tm.deps : List Tm → Nat
  | [] => 0
  | t :: ts => max t.dep (Tm.deps ts)
end
mutual
def Tm.cnt : Tm → Nat
  | .bid _ => 1
  | .fixed _ => 1
  | .mean _ ts => Tm.cnts ts + 1
  | .least ts => Tm.cnts ts + 1
  | .greatest ts => Tm.cnts ts + 1
  | .ranked _ ts => Tm.cnts ts + 1
  | .between _ _ t => t.cnt + 1
def Tm.cnts : List Tm → Nat
  | [] => 0
  | t :: ts => t.cnt + Tm.cnts ts
end
/-! right terms for n people, of any size; their numbers have at most s bits -/
mutual
def Tm.Ok (n s : Nat) : Tm → Prop
  | .bid p => p < n
  | .fixed q => NumOk s q
  | .mean ws ts => ws.length = ts.length ∧ ts ≠ [] ∧ ts.length ≤ 8 ∧ (∀ w ∈ ws, 1 ≤ w ∧ w ≤ 99) ∧ Tm.Oks n s ts
  | .least ts => ts ≠ [] ∧ ts.length ≤ 8 ∧ Tm.Oks n s ts
  | .greatest ts => ts ≠ [] ∧ ts.length ≤ 8 ∧ Tm.Oks n s ts
  | .ranked k ts => 1 ≤ k ∧ k ≤ ts.length ∧ ts.length ≤ 8 ∧ Tm.Oks n s ts
  | .between lo hi t => NumOk s lo ∧ NumOk s hi ∧ lo ≤ hi ∧ t.Ok n s
def Tm.Oks (n s : Nat) : List Tm → Prop
  | [] => True
  | t :: ts => t.Ok n s ∧ Tm.Oks n s ts
end
theorem oks_iff (n s : Nat) : ∀ ts : List Tm, Tm.Oks n s ts ↔ ∀ t ∈ ts, t.Ok n s
  | [] => by simp [Tm.Oks]
  | t :: ts => by rw [Tm.Oks, oks_iff n s ts]; simp
theorem wts_mem {s : Nat} : ∀ {ts : List Tm} {t : Tm}, t ∈ ts → t.wt s + 8 ≤ Tm.wts s ts
  | [], _, h => by cases h
  | u :: ts, t, h => by
    rw [Tm.wts]
    rcases List.mem_cons.mp h with e | e
    · subst e; omega
    · have := wts_mem (s := s) e; omega
theorem deps_mem : ∀ {ts : List Tm} {t : Tm}, t ∈ ts → t.dep ≤ Tm.deps ts
  | [], _, h => by cases h
  | u :: ts, t, h => by
    rw [Tm.deps]
    rcases List.mem_cons.mp h with e | e
    · subst e; omega
    · have := deps_mem e; omega
theorem deps_le {d : Nat} : ∀ {ts : List Tm}, (∀ t ∈ ts, t.dep ≤ d) → Tm.deps ts ≤ d
  | [], _ => by simp [Tm.deps]
  | u :: ts, h => by
    rw [Tm.deps]
    have a := h u List.mem_cons_self
    have b := deps_le (ts := ts) fun t ht => h t (List.mem_cons_of_mem _ ht)
    omega
theorem cnts_le {c : Nat} : ∀ {ts : List Tm}, (∀ t ∈ ts, t.cnt ≤ c) → Tm.cnts ts ≤ ts.length * c
  | [], _ => by simp [Tm.cnts]
  | u :: ts, h => by
    rw [Tm.cnts, List.length_cons, Nat.succ_mul]
    have a := h u List.mem_cons_self
    have b := cnts_le (ts := ts) fun t ht => h t (List.mem_cons_of_mem _ ht)
    omega
theorem wts_le {s c : Nat} : ∀ {ts : List Tm}, (∀ t ∈ ts, t.wt s ≤ c) → Tm.wts s ts ≤ ts.length * (c + 8)
  | [], _ => by simp [Tm.wts]
  | u :: ts, h => by
    rw [Tm.wts, List.length_cons, Nat.succ_mul]
    have a := h u List.mem_cons_self
    have b := wts_le (ts := ts) fun t ht => h t (List.mem_cons_of_mem _ ht)
    omega
end CB

set_option Elab.async false
set_option linter.all false
set_option maxRecDepth 100000
set_option maxHeartbeats 4000000
namespace CB
open PySem PySem.Spec PyProof.Rows L2
open C8 (Cal Met Mak pe_c pe_mk pe_mt pe_mt0 pe_gc CalAt)
section
variable {P : Program} {w : World} {K : PySem.W.Frag} {mg : Str → Option Value} {base : Heap}
abbrev n__law_sorted : List Str := ["_law_numbers_here", "_law_found", "_law_number_here", "_law_at", "_law_other"]
theorem sc__law_sorted : FnScope ["_law_numbers_here", "_law_found", "_law_number_here", "_law_at", "_law_other"] ["_law_numbers_here"] (defScope s__law_sorted) := ⟨rfl, rfl, rfl, by decide +kernel, rfl, by decide +kernel, by decide +kernel⟩
def sp__law_sorted (K : PySem.W.Frag) : Sp := fun vs H Q _ => ∃ (a : Addr) (us : List V) (qs : List Rat), vs = [.ref a] ∧ SqL K H a us ∧ RQ K H us qs ∧ (∀ q ∈ qs, Sz 9000 q) ∧ qs.length ≤ 100 ∧
  ∀ (p : Addr) (ys : List V) (H' : Hp), H p = none → Same H H' → H' p = some (.lst ys) → RQ K H' ys (isort qs) → Q (.ref p) H'
theorem insq_mem {l : List Rat} {q x : Rat} (h : x ∈ insq l q) : x = q ∨ x ∈ l := List.mem_cons.mp ((insq_perm l q).mem_iff.mp h)
theorem foldl_insq_mem {l : List Rat} {x : Rat} (h : x ∈ l.foldl insq []) : x ∈ l := (isort_perm l).mem_iff.mp h
theorem ok__law_sorted (F : FnD K mg "_law_sorted" s__law_sorted) (c__law_less : Cal P w K mg base 1 "_law_less" (sp_is_less K) []) (T_len : mg "len" = none) : Cal P w K mg base 2 "_law_sorted" (sp__law_sorted K) [] := by
  refine calOf F sc__law_sorted (fun _ _ _ _ _ _ us hl => match us, hl with | [_], _ => rfl) (fun vs H Q E h => ?_) (fun cdv f A outer s H vs Q E hr h => ?_)
  · obtain ⟨_, _, _, rfl, _⟩ := h
    rfl
  · obtain ⟨a, us, qs, rfl, hS, hu, hz, hn, k⟩ := h
    refine ⟨_, (pss_cons (ps_set (i := 1) sc__law_sorted.nd rfl (Or.inl rfl) (pe_lst pa_nil))
    (pss_cons (ps_for PassesOwn.never rfl (pi_list (pv 0)) (pg_name (i := 2) sc__law_sorted.nd rfl (Or.inr rfl)) (pss_cons (ps_set (i := 3) sc__law_sorted.nd rfl (Or.inl rfl) (pe_callB call_len_seq (by rfl) T_len PySem.boot_len (pa_cons (pe_lc (own := [("_law_other", 4)]) (by rfl) sc__law_sorted.nd (pi_list (pv 1)) (blkOk_by (own := [("_law_other", 4)]) (N := ["_law_numbers_here", "_law_found", "_law_number_here", "_law_at", "_law_other"]) (sc := defScope s__law_sorted) (by decide +kernel)) (fun _ _ _ _ _ => (pg_name (i := 4) sc__law_sorted.nd rfl (Or.inl rfl))) (fun _ _ _ _ _ => (pts_one (pt_not (pt_val (pe_c c__law_less hr (by first | decide | omega) rfl (pa_cons (pv 2) (pa_cons (pv 4) pa_nil))))))) (fun _ _ _ _ _ => (pv 4))) pa_nil)))
    (pss_one (ps_expr (pe_bm PySem.F.plainAttrs_list PySem.F.slot_list_insert PySem.F.type_list_insert mt_insert (pv 1) (pa_cons (pv 3) (pa_cons (pv 2) pa_nil)))))))
    (pss_one (ps_ret (pv 1))))), ?_⟩
    refine ⟨Nat.zero_le _, fun l hl => ?_⟩
    have s0 := same_new (o := .lst []) hl
    refine ⟨_, rfl, a, rfl, ⟨_, s0.seq hS⟩, for_list (K := K) (a := a) (xs := us) (fun i σ H' => ∃ (x y : Option V) (ys : List V), σ = [some (.ref a), some (.ref l), x, y, none] ∧ H' l = some (.lst ys) ∧ RQ K H' ys ((qs.take i).foldl insq []) ∧ Same H H')
      ⟨none, none, [], rfl, upd_same, .nil, s0⟩ (fun i σ H' _ ⟨_, _, _, _, _, _, s5⟩ => s5.seq hS) ?_ ?_⟩
    · rintro i v σ H' hi ⟨_, _, ys, rfl, h1, h2, s5⟩
      obtain ⟨q, hq, rq⟩ := hu.getV hi
      have rq' := rq.mono (Same.kt s5)
      have zq := hz q (List.mem_of_getElem? hq)
      have hlen : ((qs.take i).foldl insq []).length ≤ 100 := by
        have : (isort (qs.take i)).length = (qs.take i).length := isort_length _
        have e : ((qs.take i).foldl insq []).length = (qs.take i).length := this
        rw [e, List.length_take]
        omega
      have hyl : ys.length ≤ 100 := by rw [h2.length]; exact hlen
      refine ⟨_, rfl, l, rfl, ⟨_, SqL.of h1⟩, fun D hD => ?_⟩
      refine lc_list (K := K) (a := l) (xs := ys) (fun j H'' => ∃ zs : List V, H'' D = some (.lst zs) ∧ zs.length = ((((qs.take i).foldl insq []).take j).filter fun x => !decide (q < x)).length ∧ Same H' H'')
        ⟨[], upd_same, by simp, same_new hD⟩ (fun j H'' _ ⟨_, _, _, s6⟩ => s6.seq (SqL.of h1)) ?_ ?_
      · rintro j y H'' hj ⟨zs, g1, g2, g3⟩
        obtain ⟨x, hx, rx⟩ := h2.getV hj
        have xm : x ∈ qs := List.mem_of_mem_take (foldl_insq_mem (List.mem_of_getElem? hx))
        have tk : (((qs.take i).foldl insq []).take (j + 1)) = (((qs.take i).foldl insq []).take j) ++ [x] := take_succ' hx
        refine ⟨rfl, _, rfl, _, rfl, _, _, _, _, _, _, rfl, rq'.mono (Same.kt g3), rx.mono (Same.kt g3), zq, hz x xm, by omega, _, rfl, ?_⟩
        by_cases c : q < x
        · rw [decide_eq_true c]
          refine ⟨zs, g1, ?_, g3⟩
          rw [tk, List.filter_append, List.filter_cons_of_neg (by simp [c]), g2]
          simp
        · rw [decide_eq_false c]
          have zl : zs.length ≤ 100 := by
            rw [g2]
            refine Nat.le_trans (List.length_filter_le _ _) ?_
            rw [List.length_take]
            omega
          refine ⟨_, rfl, zs, g1, small1000 (by omega), zs ++ [y], upd_same, ?_, Same.mut g3 hD⟩
          rw [tk, List.filter_append, List.filter_cons_of_pos (by simp [c]), List.length_append, List.length_append, g2]
          rfl
      · rintro H'' ⟨zs, g1, g2, g3⟩
        rw [h2.length, List.take_length] at g2
        have cle := cntLe_le q ((qs.take i).foldl insq [])
        have ec : zs.length = cntLe q ((qs.take i).foldl insq []) := g2
        refine ⟨_, _, rfl, .inl (SqL.of g1), ?_⟩
        have hl2 := g3 _ _ h1
        refine ⟨_, rfl, .inl ⟨rfl, _, SqL.of hl2⟩, _, rfl, _, rfl, l, ys, _, v, rfl, rfl, hl2, small1000 (by omega), by omega, by omega, ?_⟩
        refine ⟨_, _, _, rfl, upd_same, ?_, Same.mut (s5.trans g3) hl⟩
        have e1 : (qs.take (i + 1)).foldl insq [] = insq ((qs.take i).foldl insq []) q := by
          rw [take_succ' hq, List.foldl_append]
          rfl
        rw [e1]
        have h2' : RQ K H'' ys ((qs.take i).foldl insq []) := RpAll.mono (Same.kt g3) h2
        have rq2 := rq'.mono (Same.kt g3)
        refine RpAll.mono (KT.updl hl2) ?_
        show RpAll K H'' _ ((insq _ q).map qd)
        unfold insq
        rw [Int.toNat_natCast, ec, List.map_append, List.map_append, List.map_take, List.map_drop]
        exact RpAll.append (RpAll.append (RpAll.take _ h2') (.cons rq2.rp .nil)) (RpAll.drop _ h2')
    · rintro σ H' ⟨_, _, ys, rfl, h1, h2, s5⟩
      have e : us.length = qs.length := hu.length
      rw [e, List.take_length] at h2
      exact ⟨_, rfl, k l ys H' hl s5 h1 h2⟩
end
end CB

set_option Elab.async false
set_option linter.all false
set_option maxRecDepth 100000
set_option maxHeartbeats 4000000
namespace CB
open PySem PySem.Spec PyProof.Rows L2
open C8 (Cal Met Mak pe_c pe_mk pe_mt pe_mt0 pe_gc CalAt)
section
variable {P : Program} {w : World} {K : PySem.W.Frag} {mg : Str → Option Value} {base : Heap}
/-- how many terms, how many bits a drawn term has at most -/
def cB : Nat → Nat
  | 0 => 1
  | d + 1 => 1 + 3 * cB d
def wB (s : Nat) : Nat → Nat
  | 0 => s
  | d + 1 => 3 * (wB s d + 8) + 12 + 2 * s
/-- a finer bound -/
def wC (s : Nat) : Nat → Nat
  | 0 => s
  | d + 1 => max (3 * (wC s d + 8) + 12) (wC s d + 2 * s)
theorem wC_ge (s d : Nat) : s ≤ wC s d := by
  induction d with
  | zero => exact Nat.le_refl _
  | succ d ih => show s ≤ max (3 * (wC s d + 8) + 12) (wC s d + 2 * s); omega
theorem cB_pos (d : Nat) : 1 ≤ cB d := by cases d <;> simp [cB]
theorem wB_ge (s d : Nat) : s ≤ wB s d := by cases d <;> simp [wB] <;> omega
/-- a drawn term, nested at most d + 1 deep -/
structure Drawn (n d : Nat) (t : Tm) : Prop where
  ok : t.Ok n 20
  dep : t.dep ≤ d + 1
  cnt : t.cnt ≤ cB d
  wt : ∀ s, t.wt s ≤ wB s d
  wt2 : ∀ s, t.wt s ≤ wC s d
abbrev n__law_term : List Str := ["_law_dice_here", "_law_people", "_law_deep", "_law_means", "_law_kind", "_law_parts", "_law_ends", "_law_k", "_law_part"]
theorem sc__law_term : FnScope ["_law_dice_here", "_law_people", "_law_deep", "_law_means", "_law_kind", "_law_parts", "_law_ends", "_law_k", "_law_part"] ["_law_dice_here", "_law_people", "_law_deep", "_law_means"] (defScope s__law_term) := ⟨rfl, rfl, rfl, by decide +kernel, rfl, by decide +kernel, by decide +kernel⟩
def sp__law_term (K : PySem.W.Frag) (d : Nat) : Sp := fun vs H Q _ => ∃ (da : Addr × Addr) (n : Nat) (m : Bool), vs = [.ref da.1, .int (n : Int), .int ((d : Int) + 1), .bl m] ∧ Dice H da ∧ 1 ≤ n ∧ n ≤ 6 ∧
  ∀ (v : V) (t : Tm) (H' : Hp), Rp K H' v t.data → Drawn n d t → Dice H' da → KD da.1 H H' → Q v H'
abbrev RTs (K : PySem.W.Frag) (H : Hp) (vs : List V) (ts : List Tm) : Prop := RpAll K H vs (Tm.datas ts)
theorem RTs.snoc {K : PySem.W.Frag} {H : Hp} {vs : List V} {ts : List Tm} {v : V} {t : Tm} (h : RTs K H vs ts) (r : Rp K H v t.data) : RTs K H (vs ++ [v]) (ts ++ [t]) := by
  show RpAll K H (vs ++ [v]) (Tm.datas (ts ++ [t]))
  have h' : RpAll K H vs (Tm.datas ts) := h
  rw [datas_map] at h' ⊢
  rw [List.map_append]
  exact RpAll.append h' (.cons r .nil)
theorem RTs.length {K : PySem.W.Frag} {H : Hp} {vs : List V} {ts : List Tm} (h : RTs K H vs ts) : vs.length = ts.length := by
  have h' : RpAll K H vs (Tm.datas ts) := h
  rw [h'.length, datas_map, List.length_map]
theorem RTs.get {K : PySem.W.Frag} {H : Hp} {vs : List V} {ts : List Tm} {i : Nat} {t : Tm} (h : RTs K H vs ts) (e : ts[i]? = some t) : ∃ v, vs[i]? = some v ∧ Rp K H v t.data := by
  have h' : RpAll K H vs (Tm.datas ts) := h
  rw [datas_map] at h'
  exact RpAll.get h' (by rw [List.getElem?_map, e]; rfl)
theorem RTs.getV {K : PySem.W.Frag} {H : Hp} {vs : List V} {ts : List Tm} {i : Nat} {v : V} (h : RTs K H vs ts) (e : vs[i]? = some v) : ∃ t, ts[i]? = some t ∧ Rp K H v t.data := by
  have h' : RpAll K H vs (Tm.datas ts) := h
  rw [datas_map] at h'
  obtain ⟨d, h1, h2⟩ := RpAll.getV h' e
  rw [List.getElem?_map] at h1
  cases c : ts[i]? with
  | none => rw [c] at h1; cases h1
  | some t =>
    rw [c] at h1
    cases h1
    exact ⟨t, rfl, h2⟩
theorem parts_ok {n d : Nat} {ts : List Tm} (h : ∀ t ∈ ts, Drawn n d t) (h1 : 1 ≤ ts.length) (h3 : ts.length ≤ 3) :
    Tm.Oks n 20 ts ∧ ts ≠ [] ∧ Tm.deps ts ≤ d + 1 ∧ Tm.cnts ts ≤ 3 * cB d ∧ (∀ s, Tm.wts s ts ≤ 3 * (wB s d + 8)) ∧ ∀ s, Tm.wts s ts ≤ 3 * (wC s d + 8) := by
  refine ⟨(oks_iff _ _ _).mpr fun t ht => (h t ht).ok, (by intro e; subst e; simp at h1), deps_le fun t ht => (h t ht).dep, ?_, fun s => ?_, fun s => ?_⟩
  · exact Nat.le_trans (cnts_le fun t ht => (h t ht).cnt) (Nat.mul_le_mul_right _ h3)
  · exact Nat.le_trans (wts_le fun t ht => (h t ht).wt s) (Nat.mul_le_mul_right _ h3)
  · exact Nat.le_trans (wts_le fun t ht => (h t ht).wt2 s) (Nat.mul_le_mul_right _ h3)
theorem meanD_length (ws : List Int) (ds : List PyData) (h : ws.length = ds.length) : (meanD ws ds).length = ds.length := by
  unfold meanD
  rw [List.length_zipWith, h, Nat.min_self]
/-- the promise of a call that goes less than D + 1 deep -/
def spT (K : PySem.W.Frag) (D : Nat) : Sp := fun vs H Q E => ∃ d, d < D ∧ sp__law_term K d vs H Q E
theorem ok__law_term (F : FnD K mg "_law_term" s__law_term) (c__law_draw : Cal P w K mg base 1 "_law_draw" sp__law_draw []) (c__law_number : Cal P w K mg base 2 "_law_number" (sp__law_number K) [])
    (c__law_sorted : Cal P w K mg base 2 "_law_sorted" (sp__law_sorted K) []) (T_len : mg "len" = none) (T_range : mg "range" = none) (T_tuple : mg "tuple" = none) : ∀ D : Nat, Cal P w K mg base (D + 4) "_law_term" (spT K D) [] := by
  intro D
  induction D with
  | zero => exact calOf (k := 3) F sc__law_term (fun _ _ _ _ _ _ us hl => match us, hl with | [_, _, _, _], _ => rfl) (fun vs H Q E h => by obtain ⟨d, h, _⟩ := h; cases h) (fun cdv f A outer s H vs Q E hr h => by obtain ⟨d, h, _⟩ := h; cases h)
  | succ D ih =>
    have c__law_term := ih
    refine calOf (k := D + 4) F sc__law_term (fun _ _ _ _ _ _ us hl => match us, hl with | [_, _, _, _], _ => rfl) (fun vs H Q E h => ?_) (fun cdv f A outer s H vs Q E hr h => ?_)
    · obtain ⟨_, _, _, _, _, rfl, _⟩ := h
      rfl
    · obtain ⟨d, hdD, da, n, m, rfl, hd, hn1, hn6, k⟩ := h
      refine ⟨_, (pss_cons (ps_set (i := 4) sc__law_term.nd rfl (Or.inl rfl) (pe_c c__law_draw hr (by first | decide | omega) rfl (pa_cons (pv 0) (pa_cons pe_int pa_nil))))
    (C8.pss_cut (ps_if (PW.pt (pw_or (pt_cmpR op_eq (pv 2) pe_int (nomark _)) (pw_or1 (pt_cmpR op_eq (pv 4) pe_int (nomark _))))) (pss_cons (ps_if (pt_cmpR op_eq (pe_c c__law_draw hr (by first | decide | omega) rfl (pa_cons (pv 0) (pa_cons pe_int pa_nil))) pe_int (nomark _)) (pss_one (ps_ret (pe_tup (pa_cons pe_str (pa_cons (pe_c c__law_number hr (by first | decide | omega) rfl (pa_cons (pv 0) pa_nil)) pa_nil))))) pss_nil)
    (pss_one (ps_ret (pe_tup (pa_cons pe_str (pa_cons (pe_c c__law_draw hr (by first | decide | omega) rfl (pa_cons (pv 0) (pa_cons (pv 1) pa_nil))) pa_nil)))))) pss_nil)
    (pss_cons (ps_setLc (i := 5) (own := [("_law_k", 7)]) (by rfl) sc__law_term.nd rfl rfl (sw_true rfl rfl rfl (by decide +kernel)) (pi_range1 (by rfl) T_range (pa_cons (pe_op op_add pe_int (pe_c c__law_draw hr (by first | decide | omega) rfl (pa_cons (pv 0) (pa_cons pe_int pa_nil)))) pa_nil)) (blkOk_by (own := [("_law_k", 7)]) (N := ["_law_dice_here", "_law_people", "_law_deep", "_law_means", "_law_kind", "_law_parts", "_law_ends", "_law_k", "_law_part"]) (sc := defScope s__law_term) (by decide +kernel)) (fun _ _ _ _ _ => (pg_name (i := 7) sc__law_term.nd rfl (Or.inl rfl))) (fun _ _ _ _ _ => pts_nil) (fun _ _ _ _ _ => (pe_c c__law_term hr (by first | decide | omega) rfl (pa_cons (pv 0) (pa_cons (pv 1) (pa_cons (pe_op op_sub (pv 2) pe_int) (pa_cons (pv 3) pa_nil)))))))
    (pss_cons (ps_if (pt_cmpR op_eq (pv 4) pe_int (nomark _)) (pss_cons (ps_set (i := 6) sc__law_term.nd rfl (Or.inl rfl) (pe_c c__law_sorted hr (by first | decide | omega) rfl (pa_cons (pe_lst (pa_cons (pe_c c__law_number hr (by first | decide | omega) rfl (pa_cons (pv 0) pa_nil)) (pa_cons (pe_c c__law_number hr (by first | decide | omega) rfl (pa_cons (pv 0) pa_nil)) pa_nil))) pa_nil)))
    (pss_one (ps_ret (pe_tup (pa_cons pe_str (pa_cons (pe_ix ix_list (pv 6) pe_int (fun _ _ => rfl)) (pa_cons (pe_ix ix_list (pv 6) pe_int (fun _ _ => rfl)) (pa_cons (pe_ix ix_list (pv 5) pe_int (fun _ _ => rfl)) pa_nil)))))))) pss_nil)
    (pss_cons (ps_if (pt_cmpR op_eq (pv 4) pe_int (nomark _)) (pss_one (ps_ret (pe_tup (pa_cons pe_str (pa_cons (pe_callTy call_tuple_of (by rfl) T_tuple (by decide +kernel) (pa_cons (pv 5) pa_nil)) pa_nil))))) pss_nil)
    (pss_cons (ps_if (pt_cmpR op_eq (pv 4) pe_int (nomark _)) (pss_one (ps_ret (pe_tup (pa_cons pe_str (pa_cons (pe_callTy call_tuple_of (by rfl) T_tuple (by decide +kernel) (pa_cons (pv 5) pa_nil)) pa_nil))))) pss_nil)
    (pss_cons (ps_if (PW.pt (pw_or (pt_cmpR op_eq (pv 4) pe_int (nomark _)) (pw_or1 (pt_not (pt_val (pv 3)))))) (pss_one (ps_ret (pe_tup (pa_cons pe_str (pa_cons (pe_op op_add pe_int (pe_c c__law_draw hr (by first | decide | omega) rfl (pa_cons (pv 0) (pa_cons (pe_callB call_len_seq (by rfl) T_len PySem.boot_len (pa_cons (pv 5) pa_nil)) pa_nil)))) (pa_cons (pe_callTy call_tuple_of (by rfl) T_tuple (by decide +kernel) (pa_cons (pv 5) pa_nil)) pa_nil)))))) pss_nil)
    (pss_one (ps_ret (pe_tup (pa_cons pe_str (pa_cons (pe_callTy call_tuple_of (by rfl) T_tuple (by decide +kernel) (pa_cons (pe_lc (own := [("_law_part", 8)]) (by rfl) sc__law_term.nd (pi_list (pv 5)) (blkOk_by (own := [("_law_part", 8)]) (N := ["_law_dice_here", "_law_people", "_law_deep", "_law_means", "_law_kind", "_law_parts", "_law_ends", "_law_k", "_law_part"]) (sc := defScope s__law_term) (by decide +kernel)) (fun _ _ _ _ _ => (pg_name (i := 8) sc__law_term.nd rfl (Or.inl rfl))) (fun _ _ _ _ _ => pts_nil) (fun _ _ _ _ _ => (pe_tup (pa_cons (pe_op op_add pe_int (pe_c c__law_draw hr (by first | decide | omega) rfl (pa_cons (pv 0) (pa_cons pe_int pa_nil)))) (pa_cons (pv 8) pa_nil))))) pa_nil)) pa_nil)))))))))))), ?_⟩
      refine ⟨_, rfl, da, 8, rfl, hd, by decide, by decide, fun kind H1 kd0 kd1 d1 e1 => ?_⟩
      have fin : ∀ (v : V) (t : Tm) (H' : Hp), Rp K H' v t.data → Drawn n d t → Dice H' da → KD da.1 H1 H' → Q v H' := fun v t H' a b c e => k v t H' a b c (e1.trans e)
      clear k hd e1
      have nd : ∀ {D : Addr} {H' : Hp}, Dice H' da → H' D = none → D ≠ da.1 ∧ D ≠ da.2 := fun a b => a.ne b
      refine ⟨fun σ H' => σ = [some (.ref da.1), some (.int (n : Int)), some (.int ((d : Int) + 1)), some (.bl m), some (.int kind), none, none, none, none] ∧ H' = H1 ∧ d ≠ 0, ?_, ?_⟩
      · -- a bid or a fixed number
        refine ⟨_, rfl, rfl, _, rfl, ?_⟩
        refine (fun leaf => ite2 (fun _ => leaf) (fun c1 => ⟨_, rfl, rfl, _, rfl, ite2 (fun _ => leaf) (fun c2 => ⟨rfl, rfl, fun z => c1 (decide_eq_true (by rw [z]; rfl))⟩)⟩)) ?_
        refine ⟨_, rfl, da, 5, rfl, d1, by decide, by decide, fun r H2 _ _ d2 e2 => ⟨rfl, _, rfl, ite2 (fun _ => ?_) (fun _ => ?_)⟩⟩
        · refine ⟨_, rfl, da, rfl, d2, fun v q H3 nq rq d3 e3 => ⟨(by show 2 ≤ sizeLine; decide), fun p hp => ?_⟩⟩
          refine fin _ (.fixed q) _ (.tup (SqT.of upd_same) (.cons (.str _) (.cons (rq.mono (Same.kt (same_new hp))).rp .nil))) ⟨nq, by show 1 ≤ d + 1; omega, cB_pos d, fun s => wB_ge s d, fun s => wC_ge s d⟩ (d3.same (same_new hp)) ((e2.trans e3).new hp)
        · refine ⟨_, rfl, _, rfl, da, (n : Int), rfl, d2, by omega, by omega, fun r3 H3 g0 g1 d3 e3 => ⟨(by show 2 ≤ sizeLine; decide), fun p hp => ?_⟩⟩
          have er : ((r3.toNat : Nat) : Int) = r3 := Int.toNat_of_nonneg g0
          refine fin _ (.bid r3.toNat) _ (.tup (SqT.of upd_same) (.cons (.str _) (.cons (by rw [er]; exact .int _) .nil))) ⟨(by show r3.toNat < n; omega), by show 1 ≤ d + 1; omega, cB_pos d, fun s => wB_ge s d, fun s => wC_ge s d⟩ (d3.same (same_new hp)) ((e2.trans e3).new hp)
      · rintro σ H' ⟨rfl, rfl, hd0⟩
        obtain ⟨d', rfl⟩ : ∃ d', d = d' + 1 := ⟨d - 1, by omega⟩
        refine ⟨_, rfl, da, 3, rfl, d1, by decide, by decide, fun r H2 r0 r1 d2 e2 => ⟨_, _, rfl, rfl, _, rfl, by omega, by omega, fun D hD => ?_⟩⟩
        have nD := nd d2 hD
        refine lc_range (lo := 0) (n := (1 + r).toNat) (fun i H' => ∃ (ys : List V) (ts : List Tm), H' D = some (.lst ys) ∧ ts.length = i ∧ RTs K H' ys ts ∧ (∀ t ∈ ts, Drawn n d' t) ∧ Dice H' da ∧ KD da.1 H2 H')
          ⟨[], [], upd_same, rfl, .nil, by simp, d2.same (same_new hD), Same.kd (same_new hD)⟩ ?_ ?_
        · rintro i H' hi ⟨ys, ts, h1, h2, h3, h4, h5, h6⟩
          have ea : ((d' + 1 : Nat) : Int) + 1 - 1 = (d' : Int) + 1 := by omega
          refine ⟨rfl, _, rfl, _, rfl, _, rfl, _, _, rfl, rfl, _, rfl, d', by omega, da, n, m, congrArg (fun z => [V.ref da.1, V.int (n : Int), V.int z, V.bl m]) ea, h5, hn1, hn6, fun v t H3 rt dt d3 e3 => ?_⟩
          have hD3 := e3 D _ nD.1 h1
          refine ⟨ys, hD3, small1000 (by rw [h3.length, h2]; omega), ys ++ [v], ts ++ [t], upd_same, by simp [h2], RpAll.mono (KT.updl hD3) (RTs.snoc (RpAll.mono (h5.kt e3) h3) rt), ?_, d3.upd nD, (h6.trans e3).mut hD⟩
          intro x hx
          rcases List.mem_append.mp hx with h | h
          · exact h4 x h
          · rw [List.mem_singleton.mp h]
            exact dt
        · rintro H3 ⟨ys, ts, h1, h2, h3, h4, d3, e3⟩
          have e13 := e2.trans e3
          obtain ⟨po, pne, pdep, pcnt, pwt, pwt2⟩ := parts_ok h4 (by omega) (by omega)
          have tl : ts.length ≤ 3 := by omega
          have hyl := h3.length
          have tup : ∀ (p : Addr) (H' : Hp), KT H3 H' → H' p = some (.tup ys) → Rp K H' (.ref p) (.tuple (Tm.datas ts)) := fun p H' e hp => .tup (SqT.of hp) (RpAll.mono e h3)
          have drawn : ∀ t : Tm, t.Ok n 20 → t.dep ≤ d' + 1 + 1 → t.cnt ≤ 3 * cB d' + 1 → (∀ s, t.wt s ≤ 3 * (wB s d' + 8) + 12 + 2 * s) → (∀ s, t.wt s ≤ max (3 * (wC s d' + 8) + 12) (wC s d' + 2 * s)) → Drawn n (d' + 1) t := fun t a b c e e2 => ⟨a, b, by show _ ≤ 1 + 3 * cB d'; omega, e, e2⟩
          -- between
          refine ⟨_, rfl, rfl, _, rfl, ite2 (fun _ => ?_) (fun _ => ?_)⟩
          · refine ⟨_, rfl, da, rfl, d3, fun v1 q1 H4 nq1 rq1 d4 e4 => ⟨_, rfl, da, rfl, d4, fun v2 q2 H5 nq2 rq2 d5 e5 => ⟨(by show 2 ≤ sizeLine; decide), fun p hp => ?_⟩⟩⟩
            have s6 := same_new (o := .lst [v1, v2]) hp
            have rq1' := (rq1.mono (d4.kt e5)).mono (Same.kt s6)
            have rq2' := rq2.mono (Same.kt s6)
            refine ⟨p, [v1, v2], [q1, q2], rfl, SqL.of upd_same, .cons rq1'.rp (.cons rq2'.rp .nil), ?_, by show 2 ≤ 100; decide, fun pl zs H6 hpl s7 hz rz => ?_⟩
            · intro q hq
              rcases List.mem_cons.mp hq with h | h
              · rw [h]; exact nq1.2.2.mono (by omega)
              · rw [List.mem_singleton.mp h]; exact nq2.2.2.mono (by omega)
            have all : ∀ q ∈ isort [q1, q2], NumOk 20 q := by
              intro q hq
              rcases List.mem_cons.mp ((isort_perm [q1, q2]).mem_iff.mp hq) with h | h
              · rw [h]; exact nq1
              · rw [List.mem_singleton.mp h]; exact nq2
            have hlen : (isort [q1, q2]).length = 2 := isort_length _
            obtain ⟨lo, hlo⟩ : ∃ lo, (isort [q1, q2])[0]? = some lo := ⟨_, List.getElem?_eq_getElem (by omega)⟩
            obtain ⟨hi, hhi⟩ : ∃ hi, (isort [q1, q2])[1]? = some hi := ⟨_, List.getElem?_eq_getElem (by omega)⟩
            obtain ⟨u0, z0, ru0⟩ := RQ.get rz hlo
            obtain ⟨u1, z1, ru1⟩ := RQ.get rz hhi
            obtain ⟨t0, ht0⟩ : ∃ t0, ts[0]? = some t0 := ⟨_, List.getElem?_eq_getElem (by omega)⟩
            have e35 : KD da.1 H3 H5 := e4.trans e5
            have kt35 : KT H3 H6 := ((d3.kt e4).trans (d4.kt e5)).trans (Same.kt (s6.trans s7))
            have hD6 : H6 D = some (.lst ys) := (s6.trans s7) D _ (e35 D _ nD.1 h1)
            obtain ⟨w0, y0, rw0⟩ := h3.get ht0
            refine ⟨_, rfl, _, _, _, _, rfl, rfl, SqL.of hz, at_of (j := 0) rfl z0, _, rfl, _, _, _, _, rfl, rfl, SqL.of hz, at_of (j := 1) rfl z1, _, rfl, _, _, _, _, rfl, rfl, SqL.of hD6, at_of (j := 0) rfl y0, (by show 4 ≤ sizeLine; decide), fun p4 hp4 => ?_⟩
            have s8 := same_new (o := .tup [.str "between", u0, u1, w0]) hp4
            have mt0 := List.mem_of_getElem? ht0
            have g0 := h4 t0 mt0
            refine fin _ (.between lo hi t0) _ (.tup (SqT.of upd_same) (.cons (.str _) (.cons (ru0.mono (Same.kt s8)).rp (.cons (ru1.mono (Same.kt s8)).rp (.cons ((rw0.mono kt35).mono (Same.kt s8)) .nil))))) ?_ (((d5.same s6).same s7).same s8) ((((e13.trans e35).trans (Same.kd (s6.trans s7))).new hp4))
            refine drawn _ ⟨all lo (List.mem_of_getElem? hlo), all hi (List.mem_of_getElem? hhi), srt_get_le (isort_srt _) hlo hhi (by omega), g0.ok⟩ ?_ ?_ ?_ ?_
            · show t0.dep + 1 ≤ _
              have := g0.dep
              omega
            · show t0.cnt + 1 ≤ _
              have := g0.cnt
              have := cB_pos d'
              omega
            · intro s
              show t0.wt s + s + s ≤ _
              have := g0.wt s
              omega
            · intro s
              show t0.wt s + s + s ≤ _
              have := g0.wt2 s
              omega
          -- least
          refine ⟨_, rfl, rfl, _, rfl, ite2 (fun _ => ?_) (fun _ => ?_)⟩
          · refine ⟨_, rfl, D, ys, rfl, .inl ⟨SqL.of h1, fun l hl => ⟨(by show 2 ≤ sizeLine; decide), fun p hp => ?_⟩⟩⟩
            have s4 := same_new (o := .tup ys) hl
            have s5 := same_new (o := .tup [.str "least", .ref l]) hp
            refine fin _ (.least ts) _ (.tup (SqT.of upd_same) (.cons (.str _) (.cons (tup l _ (Same.kt (s4.trans s5)) (s5 _ _ upd_same)) .nil))) ?_ (d3.same (s4.trans s5)) (e13.trans (Same.kd (s4.trans s5)))
            exact drawn _ ⟨pne, by omega, po⟩ (by show Tm.deps ts + 1 ≤ _; omega) (by show Tm.cnts ts + 1 ≤ _; omega) (fun s => by show Tm.wts s ts ≤ _; have := pwt s; omega) (fun s => by show Tm.wts s ts ≤ _; have := pwt2 s; omega)
          refine ⟨_, rfl, rfl, _, rfl, ite2 (fun _ => ?_) (fun _ => ?_)⟩
          · refine ⟨_, rfl, D, ys, rfl, .inl ⟨SqL.of h1, fun l hl => ⟨(by show 2 ≤ sizeLine; decide), fun p hp => ?_⟩⟩⟩
            have s4 := same_new (o := .tup ys) hl
            have s5 := same_new (o := .tup [.str "greatest", .ref l]) hp
            refine fin _ (.greatest ts) _ (.tup (SqT.of upd_same) (.cons (.str _) (.cons (tup l _ (Same.kt (s4.trans s5)) (s5 _ _ upd_same)) .nil))) ?_ (d3.same (s4.trans s5)) (e13.trans (Same.kd (s4.trans s5)))
            exact drawn _ ⟨pne, by omega, po⟩ (by show Tm.deps ts + 1 ≤ _; omega) (by show Tm.cnts ts + 1 ≤ _; omega) (fun s => by show Tm.wts s ts ≤ _; have := pwt s; omega) (fun s => by show Tm.wts s ts ≤ _; have := pwt2 s; omega)
          -- ranked
          refine ⟨_, rfl, rfl, _, rfl, ?_⟩
          refine (fun rank => ite2 (fun _ => rank) (fun _ => ⟨_, rfl, _, rfl, ite2 (fun _ => rank) (fun _ => ?mean)⟩)) ?rank
          case mean =>
            -- mean
            refine ⟨_, rfl, D, rfl, ⟨_, SqL.of h1⟩, fun D2 hD2 => ?_⟩
            have nD2 := nd d3 hD2
            have nDD : D ≠ D2 := ne_of_none h1 hD2
            refine lc_list (K := K) (a := D) (xs := ys) (fun i H' => ∃ (zs : List V) (ws : List Int), H' D2 = some (.lst zs) ∧ ws.length = i ∧ RpAll K H' zs (meanD ws (Tm.datas (ts.take i))) ∧ (∀ w ∈ ws, 1 ≤ w ∧ w ≤ 99) ∧ Dice H' da ∧ KD da.1 H3 H' ∧ H' D = some (.lst ys))
              ⟨[], [], upd_same, rfl, .nil, by simp, d3.same (same_new hD2), Same.kd (same_new hD2), by rw [upd_ne nDD]; exact h1⟩ (fun i H' _ ⟨_, _, _, _, _, _, _, _, g⟩ => SqL.of g) ?_ ?_
            · rintro i y H' hi ⟨zs, ws, g1, g2, g3, g4, g5, g6, g7⟩
              obtain ⟨t, ht, rt⟩ := h3.getV hi
              refine ⟨rfl, _, rfl, da, 5, rfl, g5, by decide, by decide, fun x H5 x0 x1 d5 e5 => ⟨_, _, rfl, rfl, _, rfl, (by show 2 ≤ sizeLine; decide), fun p hp => ?_⟩⟩
              have s6 := same_new (o := .tup [.int (1 + x), y]) hp
              have hD5 := e5 D2 _ nD2.1 g1
              have hD6 := s6 _ _ hD5
              have kt36 : KT H3 H5 := (d3.kt g6).trans (g5.kt e5)
              have zl : zs.length ≤ 3 := by
                rw [g3.length]
                unfold meanD
                rw [List.length_zipWith, g2]
                have := (List.getElem?_eq_some_iff.mp hi).1
                omega
              have nDp : D ≠ p := ne_of_none (e5 D _ nD.1 g7) hp
              refine ⟨zs, hD6, small1000 (by omega), zs ++ [.ref p], ws ++ [1 + x], upd_same, by simp [g2], ?_, ?_, (d5.same s6).upd nD2, ((g6.trans e5).trans (Same.kd s6)).mut hD2, ?_⟩
              · refine RpAll.mono (KT.updl hD6) ?_
                have e1 : ts.take (i + 1) = ts.take i ++ [t] := take_succ' ht
                have e2 : meanD (ws ++ [1 + x]) (Tm.datas (ts.take (i + 1))) = meanD ws (Tm.datas (ts.take i)) ++ [.tuple [.int (1 + x), t.data]] := by
                  rw [e1, datas_map, datas_map, List.map_append]
                  unfold meanD
                  rw [List.zipWith_append]
                  · rfl
                  · rw [List.length_map, List.length_take, g2]
                    have := (List.getElem?_eq_some_iff.mp ht).1
                    omega
                rw [e2]
                exact RpAll.append (RpAll.mono ((g5.kt e5).trans (Same.kt s6)) g3) (.cons (.tup (SqT.of upd_same) (.cons (.int _) (.cons ((rt.mono kt36).mono (Same.kt s6)) .nil))) .nil)
              · intro w hw
                rcases List.mem_append.mp hw with h | h
                · exact g4 w h
                · rw [List.mem_singleton.mp h]
                  omega
              · rw [upd_ne nDD]
                exact s6 _ _ (e5 D _ nD.1 g7)
            · rintro H4 ⟨zs, ws, g1, g2, g3, g4, d4, e4, g7⟩
              rw [hyl, List.take_length] at g3
              refine ⟨D2, zs, rfl, .inl ⟨SqL.of g1, fun l hl => ⟨(by show 2 ≤ sizeLine; decide), fun p hp => ?_⟩⟩⟩
              have s4 := same_new (o := .tup zs) hl
              have s5 := same_new (o := .tup [.str "mean", .ref l]) hp
              refine fin _ (.mean ws ts) _ (.tup (SqT.of upd_same) (.cons (.str _) (.cons (.tup (SqT.of (s5 _ _ upd_same)) (RpAll.mono (Same.kt (s4.trans s5)) g3)) .nil))) ?_ (d4.same (s4.trans s5)) ((e13.trans e4).trans (Same.kd (s4.trans s5)))
              exact drawn _ ⟨by rw [g2, hyl], pne, by omega, g4, po⟩ (by show Tm.deps ts + 1 ≤ _; omega) (by show Tm.cnts ts + 1 ≤ _; omega) (fun s => by show Tm.wts s ts + 12 ≤ _; have := pwt s; omega) (fun s => by show Tm.wts s ts + 12 ≤ _; have := pwt2 s; omega)
          case rank =>
            refine ⟨_, rfl, _, rfl, D, ys, rfl, .inl (SqL.of h1), da, (ys.length : Int), rfl, d3, by omega, by omega, fun x H4 x0 x1 d4 e4 => ⟨_, _, rfl, rfl, _, rfl, D, ys, rfl, .inl ⟨SqL.of (e4 D _ nD.1 h1), fun l hl => ⟨(by show 3 ≤ sizeLine; decide), fun p hp => ?_⟩⟩⟩⟩
            have s4 := same_new (o := .tup ys) hl
            have s5 := same_new (o := .tup [.str "ranked", .int (1 + x), .ref l]) hp
            have er : (((1 + x).toNat : Nat) : Int) = 1 + x := Int.toNat_of_nonneg (by omega)
            refine fin _ (.ranked (1 + x).toNat ts) _ (.tup (SqT.of upd_same) (.cons (.str _) (.cons (by rw [er]; exact .int _) (.cons (tup l _ ((d3.kt e4).trans (Same.kt (s4.trans s5))) (s5 _ _ upd_same)) .nil)))) ?_ (d4.same (s4.trans s5)) ((e13.trans e4).trans (Same.kd (s4.trans s5)))
            exact drawn _ ⟨by omega, by omega, by omega, po⟩ (by show Tm.deps ts + 1 ≤ _; omega) (by show Tm.cnts ts + 1 ≤ _; omega) (fun s => by show Tm.wts s ts ≤ _; have := pwt s; omega) (fun s => by show Tm.wts s ts ≤ _; have := pwt2 s; omega)
end
end CB

set_option Elab.async false
set_option linter.all false
set_option maxRecDepth 100000
set_option maxHeartbeats 4000000
namespace CB
open PySem PySem.Spec PyProof.Rows L2
open C8 (Cal Met Mak pe_c pe_mk pe_mt pe_mt0 pe_gc CalAt)
section
variable {P : Program} {w : World} {K : PySem.W.Frag} {mg : Str → Option Value} {base : Heap}
/-- a drawn rule's term: small enough to be constructed -/
structure RuleTm (n : Nat) (t : Tm) : Prop where
  ok : t.Ok n 20
  dep : t.dep ≤ 8
  cnt : t.cnt ≤ 60
  wt : ∀ s, t.wt s ≤ 59 * s + 556
def sp__law_rule_parts (K : PySem.W.Frag) : Sp := fun vs H Q _ => ∃ (da : Addr × Addr) (most : Nat), vs = [.ref da.1, .int (most : Int)] ∧ Dice H da ∧ 1 ≤ most ∧ most ≤ 6 ∧
  ∀ (v : V) (n : Nat) (t : Tm) (H' : Hp), 1 ≤ n → n ≤ most → Rp K H' v (.tuple [.int (n : Int), t.data]) → RuleTm n t → Dice H' da → KD da.1 H H' → Q v H'
def bidsOf (n : Nat) : List Tm := (List.range n).map Tm.bid
theorem oks_bids {n m s : Nat} (h : m ≤ n) : Tm.Oks n s (bidsOf m) := (oks_iff _ _ _).mpr fun t ht => by
  obtain ⟨p, hp, rfl⟩ := List.mem_map.mp ht
  have := List.mem_range.mp hp
  show p < n
  omega
theorem bidsOf_length (n : Nat) : (bidsOf n).length = n := by simp [bidsOf]
theorem bids_dep (n : Nat) : Tm.deps (bidsOf n) ≤ 1 := deps_le fun t ht => by
  obtain ⟨p, hp, rfl⟩ := List.mem_map.mp ht
  exact Nat.le_refl _
theorem bids_cnt (n : Nat) : Tm.cnts (bidsOf n) ≤ n := by
  have := cnts_le (c := 1) (ts := bidsOf n) fun t ht => by
    obtain ⟨p, hp, rfl⟩ := List.mem_map.mp ht
    exact Nat.le_refl _
  rw [bidsOf_length] at this
  omega
theorem bids_wt (n s : Nat) : Tm.wts s (bidsOf n) ≤ n * (s + 8) := by
  have := wts_le (s := s) (c := s) (ts := bidsOf n) fun t ht => by
    obtain ⟨p, hp, rfl⟩ := List.mem_map.mp ht
    exact Nat.le_refl _
  rw [bidsOf_length] at this
  exact this
end
end CB

set_option Elab.async false
set_option linter.all false
set_option maxRecDepth 100000
set_option maxHeartbeats 4000000
namespace CB
open PySem PySem.Spec PyProof.Rows L2
open C8 (Cal Met Mak pe_c pe_mk pe_mt pe_mt0 pe_gc CalAt)
section
variable {P : Program} {w : World} {K : PySem.W.Frag} {mg : Str → Option Value} {base : Heap}
abbrev n_is_integer : List Str := ["thing"]
theorem sc_is_integer : FnScope ["thing"] ["thing"] (defScope s_is_integer) := ⟨rfl, rfl, rfl, by decide +kernel, rfl, by decide +kernel, by decide +kernel⟩
def sp_is_integer : Sp := fun vs H Q _ => ∃ i : Int, vs = [.int i] ∧ Q (.bl true) H
theorem ok_is_integer (F : FnD K mg "is_integer" s_is_integer) (T_isinstance : mg "isinstance" = none) (T_int : mg "int" = none) (T_bool : mg "bool" = none) : Cal P w K mg base 1 "is_integer" sp_is_integer [] := by
  refine calOf F sc_is_integer (fun _ _ _ _ _ _ us hl => match us, hl with | [_], _ => rfl) (fun vs H Q E h => ?_) (fun cdv f A outer s H vs Q E hr h => ?_)
  · obtain ⟨_, rfl, _⟩ := h
    rfl
  · obtain ⟨i, rfl, k⟩ := h
    refine ⟨_, (pss_one (ps_ret (pe_and (pe_callB call_isi (by rfl) T_isinstance (by decide +kernel) (pa_cons (pv 0) (pa_cons (pe_ty (n := "int") (by rfl) T_int (by decide +kernel)) pa_nil))) (pe_one (pe_not (pe_callB call_isi (by rfl) T_isinstance (by decide +kernel) (pa_cons (pv 0) (pa_cons (pe_ty (n := "bool") (by rfl) T_bool (by decide +kernel)) pa_nil)))))))), ?_⟩
    exact ⟨_, rfl, _, _, _, _, true, rfl, .ty _, .base (.int i), kit_ty (by decide +kernel), _, rfl, _, rfl, _, _, _, _, false, rfl, .ty _, .base (.int i), kit_ty (by decide +kernel), _, rfl, k⟩
abbrev n_is_number : List Str := ["thing", "top", "bottom"]
theorem sc_is_number : FnScope ["thing", "top", "bottom"] ["thing"] (defScope s_is_number) := ⟨rfl, rfl, rfl, by decide +kernel, rfl, by decide +kernel, by decide +kernel⟩
def sp_is_number (K : PySem.W.Frag) : Sp := fun vs H Q _ => ∃ (v : V) (q : Rat), vs = [v] ∧ RF K H v q ∧ 0 ≤ q ∧ q ≤ 1 ∧ Q (.bl true) H
theorem num_facts {q : Rat} (h0 : 0 ≤ q) (h1 : q ≤ 1) : 0 ≤ q.num ∧ q.num ≤ (q.den : Int) := by
  have a := (Rat.le_iff 0 q).mp h0
  have b := (Rat.le_iff q 1).mp h1
  have ea : (0 : Rat).num = 0 := rfl
  have eb : (0 : Rat).den = 1 := rfl
  have ec : (1 : Rat).num = 1 := rfl
  have ed : (1 : Rat).den = 1 := rfl
  rw [ea, eb] at a
  rw [ec, ed] at b
  omega
theorem ok_is_number (F : FnD K mg "is_number" s_is_number) (c_is_integer : Cal P w K mg base 1 "is_integer" sp_is_integer []) (T_isinstance : mg "isinstance" = none) (T_tuple : mg "tuple" = none) (T_len : mg "len" = none) (g_gcd : mg "gcd" = some (.builtin "math.gcd")) : Cal P w K mg base 2 "is_number" (sp_is_number K) [] := by
  refine calOf F sc_is_number (fun _ _ _ _ _ _ us hl => match us, hl with | [_], _ => rfl) (fun vs H Q E h => ?_) (fun cdv f A outer s H vs Q E hr h => ?_)
  · obtain ⟨_, _, rfl, _⟩ := h
    rfl
  · obtain ⟨v, q, rfl, ⟨p, rfl, hp⟩, h0, h1, k⟩ := h
    obtain ⟨n0, n1⟩ := num_facts h0 h1
    have dp := den_pos q
    have red : Nat.gcd q.num.natAbs ((q.den : Int)).natAbs = 1 := q.reduced
    refine ⟨_, (pss_cons (ps_if (pt_not (PW.pt (pw_and (pt_val (pe_callB call_isi (by rfl) T_isinstance (by decide +kernel) (pa_cons (pv 0) (pa_cons (pe_ty (n := "tuple") (by rfl) T_tuple (by decide +kernel)) pa_nil)))) (pw_and1 (pt_cmpR op_eq (pe_callB call_len_seq (by rfl) T_len PySem.boot_len (pa_cons (pv 0) pa_nil)) pe_int (nomark _)))))) (pss_one (ps_ret pe_bl)) pss_nil)
    (pss_cons (ps_asg (pv 0) (pg_tup rfl (pgs_cons (pg_name (i := 1) sc_is_number.nd rfl (Or.inl rfl)) (pgs_cons (pg_name (i := 2) sc_is_number.nd rfl (Or.inl rfl)) pgs_nil))))
    (pss_cons (ps_if (pt_not (PW.pt (pw_and (pt_val (pe_c c_is_integer hr (by first | decide | omega) rfl (pa_cons (pv 1) pa_nil))) (pw_and1 (pt_val (pe_c c_is_integer hr (by first | decide | omega) rfl (pa_cons (pv 2) pa_nil))))))) (pss_one (ps_ret pe_bl)) pss_nil)
    (pss_one (ps_ret (pe_and (pe_cmpR op_ge (pv 2) pe_int (nomark _)) (pe_and (pe_chain op_le op_le pe_int (pv 1) (pv 2)) (pe_one (pe_cmpR op_eq (pe_callBfun cr_gcd (by rfl) g_gcd (pa_cons (pv 1) (pa_cons (pv 2) pa_nil))) pe_int (nomark _)))))))))), ?_⟩
    refine ⟨_, rfl, _, _, _, _, true, rfl, .ty _, tyT hp, kit_ty (by decide +kernel), _, rfl, _, rfl, p, _, rfl, .inr hp, rfl, _, rfl, ?_⟩
    refine ⟨_, rfl, p, _, rfl, hp, rfl, _, _, rfl, _, _, rfl, rfl, ?_⟩
    refine ⟨_, rfl, _, rfl, _, rfl, _, rfl, _, rfl, _, rfl, ?_⟩
    refine ⟨_, rfl, _, _, rfl, rfl, _, rfl, ite2 (fun _ => ?_) (fun c => absurd (decide_eq_true (show (1 : Int) ≤ (q.den : Int) by omega)) c)⟩
    refine ⟨_, rfl, _, _, rfl, rfl, _, rfl, ite2 (fun _ => ?_) (fun c => absurd (decide_eq_true n0) c)⟩
    refine ⟨_, rfl, _, _, rfl, rfl, _, rfl, ite2 (fun _ => ?_) (fun c => absurd (decide_eq_true n1) c)⟩
    refine ⟨_, rfl, _, rfl, _, _, rfl, rfl, ?_⟩
    rw [red]
    exact k
abbrev n_is_person : List Str := ["thing", "people"]
theorem sc_is_person : FnScope ["thing", "people"] ["thing", "people"] (defScope s_is_person) := ⟨rfl, rfl, rfl, by decide +kernel, rfl, by decide +kernel, by decide +kernel⟩
def sp_is_person : Sp := fun vs H Q _ => ∃ p n : Int, vs = [.int p, .int n] ∧ 0 ≤ p ∧ p < n ∧ Q (.bl true) H
theorem ok_is_person (F : FnD K mg "is_person" s_is_person) (c_is_integer : Cal P w K mg base 1 "is_integer" sp_is_integer []) : Cal P w K mg base 2 "is_person" sp_is_person [] := by
  refine calOf F sc_is_person (fun _ _ _ _ _ _ us hl => match us, hl with | [_, _], _ => rfl) (fun vs H Q E h => ?_) (fun cdv f A outer s H vs Q E hr h => ?_)
  · obtain ⟨_, _, rfl, _⟩ := h
    rfl
  · obtain ⟨p, n, rfl, h0, h1, k⟩ := h
    refine ⟨_, (pss_one (ps_ret (pe_and (pe_c c_is_integer hr (by first | decide | omega) rfl (pa_cons (pv 0) pa_nil)) (pe_one (pe_chain op_le op_lt pe_int (pv 0) (pv 1)))))), ?_⟩
    refine ⟨_, rfl, _, rfl, _, rfl, _, rfl, _, _, rfl, rfl, _, rfl, ite2 (fun _ => ?_) (fun c => absurd (decide_eq_true h0) c)⟩
    refine ⟨_, rfl, _, _, rfl, rfl, ?_⟩
    show Q (V.bl (decide (p < n))) H
    rw [decide_eq_true h1]
    exact k
abbrev n_is_weight : List Str := ["thing"]
theorem sc_is_weight : FnScope ["thing"] ["thing"] (defScope s_is_weight) := ⟨rfl, rfl, rfl, by decide +kernel, rfl, by decide +kernel, by decide +kernel⟩
def sp_is_weight : Sp := fun vs H Q _ => ∃ p : Int, vs = [.int p] ∧ 1 ≤ p ∧ p ≤ 99 ∧ Q (.bl true) H
theorem ok_is_weight (F : FnD K mg "is_weight" s_is_weight) (c_is_integer : Cal P w K mg base 1 "is_integer" sp_is_integer []) (g_MOST_WEIGHT : ∃ u, mg "MOST_WEIGHT" = some u ∧ RelV (.int 99) u) : Cal P w K mg base 2 "is_weight" sp_is_weight [] := by
  refine calOf F sc_is_weight (fun _ _ _ _ _ _ us hl => match us, hl with | [_], _ => rfl) (fun vs H Q E h => ?_) (fun cdv f A outer s H vs Q E hr h => ?_)
  · obtain ⟨_, rfl, _⟩ := h
    rfl
  · obtain ⟨p, rfl, h0, h1, k⟩ := h
    refine ⟨_, (pss_one (ps_ret (pe_and (pe_c c_is_integer hr (by first | decide | omega) rfl (pa_cons (pv 0) pa_nil)) (pe_one (pe_chain op_le op_le pe_int (pv 0) (pe_gc rfl g_MOST_WEIGHT)))))), ?_⟩
    refine ⟨_, rfl, _, rfl, _, rfl, _, rfl, _, _, rfl, rfl, _, rfl, ite2 (fun _ => ?_) (fun c => absurd (decide_eq_true h0) c)⟩
    refine ⟨_, _, rfl, rfl, ?_⟩
    show Q (V.bl (decide (p ≤ 99))) H
    rw [decide_eq_true h1]
    exact k
abbrev n_is_weighted : List Str := ["thing"]
theorem sc_is_weighted : FnScope ["thing"] ["thing"] (defScope s_is_weighted) := ⟨rfl, rfl, rfl, by decide +kernel, rfl, by decide +kernel, by decide +kernel⟩
def sp_is_weighted (K : PySem.W.Frag) : Sp := fun vs H Q _ => ∃ (a : Addr) (p : Int) (x : V), vs = [.ref a] ∧ SqT K H a [.int p, x] ∧ 1 ≤ p ∧ p ≤ 99 ∧ Q (.bl true) H
theorem ok_is_weighted (F : FnD K mg "is_weighted" s_is_weighted) (c_is_weight : Cal P w K mg base 2 "is_weight" sp_is_weight []) (T_isinstance : mg "isinstance" = none) (T_tuple : mg "tuple" = none) (T_len : mg "len" = none) : Cal P w K mg base 3 "is_weighted" (sp_is_weighted K) [] := by
  refine calOf F sc_is_weighted (fun _ _ _ _ _ _ us hl => match us, hl with | [_], _ => rfl) (fun vs H Q E h => ?_) (fun cdv f A outer s H vs Q E hr h => ?_)
  · obtain ⟨_, _, _, rfl, _⟩ := h
    rfl
  · obtain ⟨a, p, x, rfl, ha, h0, h1, k⟩ := h
    refine ⟨_, (pss_one (ps_ret (pe_and (pe_callB call_isi (by rfl) T_isinstance (by decide +kernel) (pa_cons (pv 0) (pa_cons (pe_ty (n := "tuple") (by rfl) T_tuple (by decide +kernel)) pa_nil))) (pe_and (pe_cmpR op_eq (pe_callB call_len_seq (by rfl) T_len PySem.boot_len (pa_cons (pv 0) pa_nil)) pe_int (nomark _)) (pe_one (pe_c c_is_weight hr (by first | decide | omega) rfl (pa_cons (pe_ix ix_tup (pv 0) pe_int (fun _ _ => rfl)) pa_nil))))))), ?_⟩
    exact ⟨_, rfl, _, _, _, _, true, rfl, .ty _, tyT ha, kit_ty (by decide +kernel), _, rfl, _, rfl, a, _, rfl, .inr ha, rfl, _, rfl, _, rfl, _, _, _, _, rfl, rfl, ha, rfl, p, rfl, h0, h1, k⟩
abbrev n_are_some : List Str := ["thing"]
theorem sc_are_some : FnScope ["thing"] ["thing"] (defScope s_are_some) := ⟨rfl, rfl, rfl, by decide +kernel, rfl, by decide +kernel, by decide +kernel⟩
def sp_are_some (K : PySem.W.Frag) : Sp := fun vs H Q _ => ∃ (a : Addr) (xs : List V), vs = [.ref a] ∧ SqT K H a xs ∧ 1 ≤ xs.length ∧ xs.length ≤ 8 ∧ Q (.bl true) H
theorem ok_are_some (F : FnD K mg "are_some" s_are_some) (T_isinstance : mg "isinstance" = none) (T_tuple : mg "tuple" = none) (T_len : mg "len" = none) (g_MOST_PARTS : ∃ u, mg "MOST_PARTS" = some u ∧ RelV (.int 8) u) : Cal P w K mg base 1 "are_some" (sp_are_some K) [] := by
  refine calOf F sc_are_some (fun _ _ _ _ _ _ us hl => match us, hl with | [_], _ => rfl) (fun vs H Q E h => ?_) (fun cdv f A outer s H vs Q E hr h => ?_)
  · obtain ⟨_, _, rfl, _⟩ := h
    rfl
  · obtain ⟨a, xs, rfl, ha, h0, h1, k⟩ := h
    refine ⟨_, (pss_one (ps_ret (pe_and (pe_callB call_isi (by rfl) T_isinstance (by decide +kernel) (pa_cons (pv 0) (pa_cons (pe_ty (n := "tuple") (by rfl) T_tuple (by decide +kernel)) pa_nil))) (pe_one (pe_chain op_le op_le pe_int (pe_callB call_len_seq (by rfl) T_len PySem.boot_len (pa_cons (pv 0) pa_nil)) (pe_gc rfl g_MOST_PARTS)))))), ?_⟩
    refine ⟨_, rfl, _, _, _, _, true, rfl, .ty _, tyT ha, kit_ty (by decide +kernel), _, rfl, _, rfl, a, _, rfl, .inr ha, _, _, rfl, rfl, _, rfl, ite2 (fun _ => ?_) (fun c => absurd (decide_eq_true (show (1 : Int) ≤ (xs.length : Int) by omega)) c)⟩
    refine ⟨_, _, rfl, rfl, ?_⟩
    show Q (V.bl (decide ((xs.length : Int) ≤ 8))) H
    rw [decide_eq_true (show (xs.length : Int) ≤ 8 by omega)]
    exact k
abbrev n_are_bounds : List Str := ["low", "high"]
theorem sc_are_bounds : FnScope ["low", "high"] ["low", "high"] (defScope s_are_bounds) := ⟨rfl, rfl, rfl, by decide +kernel, rfl, by decide +kernel, by decide +kernel⟩
def sp_are_bounds (K : PySem.W.Frag) : Sp := fun vs H Q _ => ∃ (v1 v2 : V) (a b : Rat) (s : Nat), vs = [v1, v2] ∧ RF K H v1 a ∧ RF K H v2 b ∧ NumOk s a ∧ NumOk s b ∧ a ≤ b ∧ s ≤ 9000 ∧ Q (.bl true) H
theorem ok_are_bounds (F : FnD K mg "are_bounds" s_are_bounds) (c_is_number : Cal P w K mg base 2 "is_number" (sp_is_number K) []) (c_is_less : Cal P w K mg base 1 "is_less" (sp_is_less K) []) : Cal P w K mg base 3 "are_bounds" (sp_are_bounds K) [] := by
  refine calOf F sc_are_bounds (fun _ _ _ _ _ _ us hl => match us, hl with | [_, _], _ => rfl) (fun vs H Q E h => ?_) (fun cdv f A outer s H vs Q E hr h => ?_)
  · obtain ⟨_, _, _, _, _, rfl, _⟩ := h
    rfl
  · obtain ⟨v1, v2, a, b, sz, rfl, r1, r2, na, nb, hab, hs, k⟩ := h
    refine ⟨_, (pss_one (ps_ret (pe_and (pe_c c_is_number hr (by first | decide | omega) rfl (pa_cons (pv 0) pa_nil)) (pe_and (pe_c c_is_number hr (by first | decide | omega) rfl (pa_cons (pv 1) pa_nil)) (pe_one (pe_not (pe_c c_is_less hr (by first | decide | omega) rfl (pa_cons (pv 1) (pa_cons (pv 0) pa_nil))))))))), ?_⟩
    refine ⟨_, rfl, v1, a, rfl, r1, na.1, na.2.1, _, rfl, _, rfl, v2, b, rfl, r2, nb.1, nb.2.1, _, rfl, _, rfl, _, rfl, v2, v1, b, a, sz, sz, rfl, r2, r1, nb.2.2, na.2.2, by omega, _, rfl, ?_⟩
    rw [decide_eq_false (by grind)]
    exact k
end
end CB

set_option Elab.async false
set_option linter.all false
set_option maxRecDepth 100000
set_option maxHeartbeats 4000000
namespace CB
open PySem PySem.Spec PyProof.Rows L2
open C8 (Cal Met Mak pe_c pe_mk pe_mt pe_mt0 pe_gc CalAt)
section
variable {P : Program} {w : World} {K : PySem.W.Frag} {mg : Str → Option Value} {base : Heap}
/-! ### how terms stand -/
theorem rp1 {H : Hp} {v : V} {d1 : PyData} (h : Rp K H v (.tuple [d1])) : ∃ a x, v = .ref a ∧ SqT K H a [x] ∧ Rp K H x d1 := by
  obtain ⟨a, xs, rfl, h1, h2⟩ := h.tupI
  obtain ⟨x, r, rfl, h3, h4⟩ := h2.consI
  have e := h4.nilI
  subst e
  exact ⟨a, x, rfl, h1, h3⟩
theorem rp2 {H : Hp} {v : V} {d1 d2 : PyData} (h : Rp K H v (.tuple [d1, d2])) : ∃ a x y, v = .ref a ∧ SqT K H a [x, y] ∧ Rp K H x d1 ∧ Rp K H y d2 := by
  obtain ⟨a, xs, rfl, h1, h2⟩ := h.tupI
  obtain ⟨x, r, rfl, h3, h4⟩ := h2.consI
  obtain ⟨y, r2, rfl, h5, h6⟩ := h4.consI
  have e := h6.nilI
  subst e
  exact ⟨a, x, y, rfl, h1, h3, h5⟩
theorem rp3 {H : Hp} {v : V} {d1 d2 d3 : PyData} (h : Rp K H v (.tuple [d1, d2, d3])) : ∃ a x y z, v = .ref a ∧ SqT K H a [x, y, z] ∧ Rp K H x d1 ∧ Rp K H y d2 ∧ Rp K H z d3 := by
  obtain ⟨a, xs, rfl, h1, h2⟩ := h.tupI
  obtain ⟨x, r, rfl, h3, h4⟩ := h2.consI
  obtain ⟨y, r2, rfl, h5, h6⟩ := h4.consI
  obtain ⟨z, r3, rfl, h7, h8⟩ := h6.consI
  have e := h8.nilI
  subst e
  exact ⟨a, x, y, z, rfl, h1, h3, h5, h7⟩
theorem rp4 {H : Hp} {v : V} {d1 d2 d3 d4 : PyData} (h : Rp K H v (.tuple [d1, d2, d3, d4])) : ∃ a x y z u, v = .ref a ∧ SqT K H a [x, y, z, u] ∧ Rp K H x d1 ∧ Rp K H y d2 ∧ Rp K H z d3 ∧ Rp K H u d4 := by
  obtain ⟨a, xs, rfl, h1, h2⟩ := h.tupI
  obtain ⟨x, r, rfl, h3, h4⟩ := h2.consI
  obtain ⟨y, r2, rfl, h5, h6⟩ := h4.consI
  obtain ⟨z, r3, rfl, h7, h8⟩ := h6.consI
  obtain ⟨u, r4, rfl, h9, h10⟩ := h8.consI
  have e := h10.nilI
  subst e
  exact ⟨a, x, y, z, u, rfl, h1, h3, h5, h7, h9⟩
theorem t_bid {H : Hp} {v : V} {p : Nat} (h : Rp K H v (Tm.bid p).data) : ∃ a, v = .ref a ∧ SqT K H a [.str "bid", .int (p : Int)] := by
  obtain ⟨a, x, y, rfl, h1, h2, h3⟩ := rp2 h
  have e1 := h2.strI; have e2 := h3.intI
  subst e1 e2
  exact ⟨a, rfl, h1⟩
theorem t_fixed {H : Hp} {v : V} {q : Rat} (h : Rp K H v (Tm.fixed q).data) : ∃ a x, v = .ref a ∧ SqT K H a [.str "fixed", x] ∧ RF K H x q := by
  obtain ⟨a, x, y, rfl, h1, h2, h3⟩ := rp2 h
  have e1 := h2.strI
  subst e1
  exact ⟨a, y, rfl, h1, PF.of h3⟩
theorem t_mean {H : Hp} {v : V} {ws : List Int} {ts : List Tm} (h : Rp K H v (Tm.mean ws ts).data) : ∃ a b us, v = .ref a ∧ SqT K H a [.str "mean", .ref b] ∧ SqT K H b us ∧ RpAll K H us (meanD ws (Tm.datas ts)) := by
  obtain ⟨a, x, y, rfl, h1, h2, h3⟩ := rp2 h
  have e1 := h2.strI
  subst e1
  obtain ⟨b, us, rfl, h4, h5⟩ := h3.tupI
  exact ⟨a, b, us, rfl, h1, h4, h5⟩
theorem t_least {H : Hp} {v : V} {ts : List Tm} (h : Rp K H v (Tm.least ts).data) : ∃ a b us, v = .ref a ∧ SqT K H a [.str "least", .ref b] ∧ SqT K H b us ∧ RTs K H us ts := by
  obtain ⟨a, x, y, rfl, h1, h2, h3⟩ := rp2 h
  have e1 := h2.strI
  subst e1
  obtain ⟨b, us, rfl, h4, h5⟩ := h3.tupI
  exact ⟨a, b, us, rfl, h1, h4, h5⟩
theorem t_greatest {H : Hp} {v : V} {ts : List Tm} (h : Rp K H v (Tm.greatest ts).data) : ∃ a b us, v = .ref a ∧ SqT K H a [.str "greatest", .ref b] ∧ SqT K H b us ∧ RTs K H us ts := by
  obtain ⟨a, x, y, rfl, h1, h2, h3⟩ := rp2 h
  have e1 := h2.strI
  subst e1
  obtain ⟨b, us, rfl, h4, h5⟩ := h3.tupI
  exact ⟨a, b, us, rfl, h1, h4, h5⟩
theorem t_ranked {H : Hp} {v : V} {k : Nat} {ts : List Tm} (h : Rp K H v (Tm.ranked k ts).data) : ∃ a b us, v = .ref a ∧ SqT K H a [.str "ranked", .int (k : Int), .ref b] ∧ SqT K H b us ∧ RTs K H us ts := by
  obtain ⟨a, x, y, z, rfl, h1, h2, h3, h4⟩ := rp3 h
  have e1 := h2.strI; have e2 := h3.intI
  subst e1 e2
  obtain ⟨b, us, rfl, h4, h5⟩ := h4.tupI
  exact ⟨a, b, us, rfl, h1, h4, h5⟩
theorem t_between {H : Hp} {v : V} {lo hi : Rat} {t : Tm} (h : Rp K H v (Tm.between lo hi t).data) : ∃ a x y z, v = .ref a ∧ SqT K H a [.str "between", x, y, z] ∧ RF K H x lo ∧ RF K H y hi ∧ Rp K H z t.data := by
  obtain ⟨a, x, y, z, u, rfl, h1, h2, h3, h4, h5⟩ := rp4 h
  have e1 := h2.strI
  subst e1
  exact ⟨a, y, z, u, rfl, h1, PF.of h3, PF.of h4, h5⟩
/-- the i-th part of a mean -/
theorem meanD_get {ws : List Int} {ts : List Tm} {i : Nat} {d : PyData} (h : (meanD ws (Tm.datas ts))[i]? = some d) : ∃ z t, ws[i]? = some z ∧ ts[i]? = some t ∧ d = .tuple [.int z, t.data] := by
  unfold meanD at h
  rw [datas_map, List.getElem?_zipWith] at h
  cases e1 : ws[i]? with
  | none => rw [e1] at h; simp at h
  | some z =>
    cases e2 : ts[i]? with
    | none => rw [e1, List.getElem?_map, e2] at h; simp at h
    | some t =>
      rw [e1, List.getElem?_map, e2] at h
      simp at h
      exact ⟨z, t, rfl, rfl, h.symm⟩
theorem mean_part {H : Hp} {us : List V} {ws : List Int} {ts : List Tm} {i : Nat} {v : V} (h : RpAll K H us (meanD ws (Tm.datas ts))) (e : us[i]? = some v) :
    ∃ a z t x, v = .ref a ∧ ws[i]? = some z ∧ ts[i]? = some t ∧ SqT K H a [.int z, x] ∧ Rp K H x t.data := by
  obtain ⟨d, h1, h2⟩ := RpAll.getV h e
  obtain ⟨z, t, e1, e2, rfl⟩ := meanD_get h1
  obtain ⟨a, x, y, rfl, g1, g2, g3⟩ := rp2 h2
  have e3 := g2.intI
  subst e3
  exact ⟨a, z, t, y, rfl, e1, e2, g1, g3⟩
def Tm.children : Tm → List Tm
  | .bid _ => []
  | .fixed _ => []
  | .mean _ ts => ts
  | .least ts => ts
  | .greatest ts => ts
  | .ranked _ ts => ts
  | .between _ _ t => [t]
abbrev n_inner_terms : List Str := ["term", "word", "_", "inner"]
theorem sc_inner_terms : FnScope ["term", "word", "_", "inner"] ["term"] (defScope s_inner_terms) := ⟨rfl, rfl, rfl, by decide +kernel, rfl, by decide +kernel, by decide +kernel⟩
def sp_inner_terms (K : PySem.W.Frag) : Sp := fun vs H Q _ => ∃ (v : V) (t : Tm), vs = [v] ∧ Rp K H v t.data ∧ (∀ ws ts, t = .mean ws ts → ws.length = ts.length ∧ ts.length ≤ 8) ∧
  ∀ (p : Addr) (us : List V) (H' : Hp), Same H H' → SqT K H' p us → RTs K H' us t.children → Q (.ref p) H'
theorem ok_inner_terms (F : FnD K mg "inner_terms" s_inner_terms) (T_tuple : mg "tuple" = none) : Cal P w K mg base 1 "inner_terms" (sp_inner_terms K) [] := by
  refine calOf F sc_inner_terms (fun _ _ _ _ _ _ us hl => match us, hl with | [_], _ => rfl) (fun vs H Q E h => ?_) (fun cdv f A outer s H vs Q E hr h => ?_)
  · obtain ⟨_, _, rfl, _⟩ := h
    rfl
  · obtain ⟨v, t, rfl, rt, hm, k⟩ := h
    refine ⟨_, (pss_cons (ps_set (i := 1) sc_inner_terms.nd rfl (Or.inl rfl) (pe_ix ix_tup (pv 0) pe_int (fun _ _ => rfl)))
    (pss_cons (ps_if (pt_cmpR op_in_seq (pv 1) (pe_tup (pa_cons pe_str (pa_cons pe_str pa_nil))) rfl) (pss_one (ps_ret (pe_tup pa_nil))) pss_nil)
    (pss_cons (ps_if (pt_cmpR op_eq (pv 1) pe_str (nomark _)) (pss_one (ps_ret (pe_callTy call_tuple_of (by rfl) T_tuple (by decide +kernel) (pa_cons (pe_lc (own := [("_", 2), ("inner", 3)]) (g := (gTup K 2 (gCons (gName 2) (gCons (gName 3) gNil)))) (by rfl) sc_inner_terms.nd (pi_tup (pe_ix ix_tup (pv 0) pe_int (fun _ _ => rfl))) (blkOk_by (own := [("_", 2), ("inner", 3)]) (N := ["term", "word", "_", "inner"]) (sc := defScope s_inner_terms) (by decide +kernel)) (fun _ _ _ _ _ => (pg_tup rfl (pgs_cons (pg_name (i := 2) sc_inner_terms.nd rfl (Or.inl rfl)) (pgs_cons (pg_name (i := 3) sc_inner_terms.nd rfl (Or.inl rfl)) pgs_nil)))) (fun _ _ _ _ _ => pts_nil) (fun _ _ _ _ _ => (pv 3))) pa_nil)))) pss_nil)
    (pss_cons (ps_if (pt_cmpR op_eq (pv 1) pe_str (nomark _)) (pss_one (ps_ret (pe_tup (pa_cons (pe_ix ix_tup (pv 0) pe_int (fun _ _ => rfl)) pa_nil)))) pss_nil)
    (pss_one (ps_ret (pe_ix ix_tup (pv 0) (pe_un un_neg pe_int) (fun _ _ => rfl)))))))), ?_⟩
    cases t with
    | bid p =>
      obtain ⟨a, rfl, ha⟩ := t_bid rt
      refine ⟨_, rfl, _, _, _, _, rfl, rfl, ha, rfl, _, rfl, (by show 2 ≤ sizeLine; decide), fun q hq => ⟨q, _, rfl, .inr (SqT.of upd_same), rfl, rfl, _, rfl, ?_⟩⟩
      refine ite2 (fun _ => ⟨Nat.zero_le _, fun r hr2 => k r [] _ ((same_new hq).trans (same_new hr2)) (SqT.of upd_same) .nil⟩) (fun c => absurd (by decide +kernel) c)
    | fixed q =>
      obtain ⟨a, x, rfl, ha, _⟩ := t_fixed rt
      refine ⟨_, rfl, _, _, _, _, rfl, rfl, ha, rfl, _, rfl, (by show 2 ≤ sizeLine; decide), fun q hq => ⟨q, _, rfl, .inr (SqT.of upd_same), rfl, rfl, _, rfl, ?_⟩⟩
      refine ite2 (fun _ => ⟨Nat.zero_le _, fun r hr2 => k r [] _ ((same_new hq).trans (same_new hr2)) (SqT.of upd_same) .nil⟩) (fun c => absurd (by decide +kernel) c)
    | mean ws ts =>
      obtain ⟨a, b, us, rfl, ha, hb, hu⟩ := t_mean rt
      obtain ⟨wl, tl⟩ := hm ws ts rfl
      refine ⟨_, rfl, _, _, _, _, rfl, rfl, ha, rfl, _, rfl, (by show 2 ≤ sizeLine; decide), fun q hq => ⟨q, _, rfl, .inr (SqT.of upd_same), rfl, rfl, _, rfl, ?_⟩⟩
      refine ite2 (fun c => absurd c (by decide +kernel)) (fun _ => ?_)
      have s1 := same_new (o := .tup [.str "bid", .str "fixed"]) hq
      refine ⟨_, rfl, rfl, _, rfl, ite2 (fun _ => ?_) (fun c => absurd (by decide +kernel) c)⟩
      have ha1 := (Same.kt s1).sq ha
      have hb1 := (Same.kt s1).sq hb
      have hu1 := RpAll.mono (Same.kt s1) hu
      refine ⟨_, rfl, _, _, _, _, rfl, rfl, ha1, rfl, b, rfl, ⟨_, hb1⟩, fun D hD => ?_⟩
      have ul : us.length = ts.length := by rw [hu.length, meanD_length _ _ (by rw [datas_map, List.length_map]; exact wl), datas_map, List.length_map]
      refine it_tup (K := K) (a := b) (xs := us) (fun i H' => ∃ zs : List V, H' D = some (.lst zs) ∧ RTs K H' zs (ts.take i) ∧ Same (upd H q (.tup [.str "bid", .str "fixed"])) H')
        ⟨[], upd_same, by simp [RTs, Tm.datas]; exact .nil, same_new hD⟩ (fun i H' ⟨_, _, _, s5⟩ => (Same.kt s5).sq hb1) ?_ ?_
      · rintro i x H' hx ⟨zs, g1, g2, g3⟩
        obtain ⟨c, z, t, y, rfl, e1, e2, p1, p2⟩ := mean_part hu1 hx
        have zl : zs.length ≤ 8 := by rw [g2.length, List.length_take]; omega
        refine ⟨c, _, rfl, (Same.kt g3).sq p1, rfl, _, _, rfl, _, _, rfl, rfl, rfl, _, rfl, zs, g1, small1000 (by omega), zs ++ [y], upd_same, ?_, Same.mut g3 hD⟩
        rw [take_succ' e2]
        exact RpAll.mono (KT.updl g1) (RTs.snoc g2 (p2.mono (Same.kt g3)))
      · rintro H' ⟨zs, g1, g2, g3⟩
        rw [ul, List.take_length] at g2
        refine ⟨D, zs, rfl, .inl ⟨SqL.of g1, fun l hl => ?_⟩⟩
        exact k l zs _ ((s1.trans g3).trans (same_new hl)) (SqT.of upd_same) (RpAll.mono (Same.kt (same_new hl)) g2)
    | least ts =>
      obtain ⟨a, b, us, rfl, ha, hb, hu⟩ := t_least rt
      refine ⟨_, rfl, _, _, _, _, rfl, rfl, ha, rfl, _, rfl, (by show 2 ≤ sizeLine; decide), fun q hq => ⟨q, _, rfl, .inr (SqT.of upd_same), rfl, rfl, _, rfl, ?_⟩⟩
      refine ite2 (fun c => absurd c (by decide +kernel)) (fun _ => ?_)
      have s1 := Same.kt (same_new (o := .tup [.str "bid", .str "fixed"]) hq)
      refine ⟨_, rfl, rfl, _, rfl, ite2 (fun c => absurd c (by decide +kernel)) (fun _ => ?_)⟩
      refine ⟨_, rfl, rfl, _, rfl, ite2 (fun c => absurd c (by decide +kernel)) (fun _ => ?_)⟩
      exact ⟨_, rfl, _, rfl, _, _, _, _, rfl, rfl, s1.sq ha, rfl, k b us _ (same_new hq) (s1.sq hb) (RpAll.mono s1 hu)⟩
    | greatest ts =>
      obtain ⟨a, b, us, rfl, ha, hb, hu⟩ := t_greatest rt
      refine ⟨_, rfl, _, _, _, _, rfl, rfl, ha, rfl, _, rfl, (by show 2 ≤ sizeLine; decide), fun q hq => ⟨q, _, rfl, .inr (SqT.of upd_same), rfl, rfl, _, rfl, ?_⟩⟩
      refine ite2 (fun c => absurd c (by decide +kernel)) (fun _ => ?_)
      have s1 := Same.kt (same_new (o := .tup [.str "bid", .str "fixed"]) hq)
      refine ⟨_, rfl, rfl, _, rfl, ite2 (fun c => absurd c (by decide +kernel)) (fun _ => ?_)⟩
      refine ⟨_, rfl, rfl, _, rfl, ite2 (fun c => absurd c (by decide +kernel)) (fun _ => ?_)⟩
      exact ⟨_, rfl, _, rfl, _, _, _, _, rfl, rfl, s1.sq ha, rfl, k b us _ (same_new hq) (s1.sq hb) (RpAll.mono s1 hu)⟩
    | ranked r ts =>
      obtain ⟨a, b, us, rfl, ha, hb, hu⟩ := t_ranked rt
      refine ⟨_, rfl, _, _, _, _, rfl, rfl, ha, rfl, _, rfl, (by show 2 ≤ sizeLine; decide), fun q hq => ⟨q, _, rfl, .inr (SqT.of upd_same), rfl, rfl, _, rfl, ?_⟩⟩
      refine ite2 (fun c => absurd c (by decide +kernel)) (fun _ => ?_)
      have s1 := Same.kt (same_new (o := .tup [.str "bid", .str "fixed"]) hq)
      refine ⟨_, rfl, rfl, _, rfl, ite2 (fun c => absurd c (by decide +kernel)) (fun _ => ?_)⟩
      refine ⟨_, rfl, rfl, _, rfl, ite2 (fun c => absurd c (by decide +kernel)) (fun _ => ?_)⟩
      exact ⟨_, rfl, _, rfl, _, _, _, _, rfl, rfl, s1.sq ha, rfl, k b us _ (same_new hq) (s1.sq hb) (RpAll.mono s1 hu)⟩
    | between lo hi t =>
      obtain ⟨a, x, y, z, rfl, ha, _, _, hz⟩ := t_between rt
      refine ⟨_, rfl, _, _, _, _, rfl, rfl, ha, rfl, _, rfl, (by show 2 ≤ sizeLine; decide), fun q hq => ⟨q, _, rfl, .inr (SqT.of upd_same), rfl, rfl, _, rfl, ?_⟩⟩
      refine ite2 (fun c => absurd c (by decide +kernel)) (fun _ => ?_)
      have s0 := same_new (o := .tup [.str "bid", .str "fixed"]) hq
      have s1 := Same.kt s0
      refine ⟨_, rfl, rfl, _, rfl, ite2 (fun c => absurd c (by decide +kernel)) (fun _ => ?_)⟩
      refine ⟨_, rfl, rfl, _, rfl, ite2 (fun _ => ?_) (fun c => absurd (by decide +kernel) c)⟩
      refine ⟨_, rfl, _, _, _, _, rfl, rfl, s1.sq ha, rfl, (by show 1 ≤ sizeLine; decide), fun l hl => k l [z] _ (s0.trans (same_new hl)) (SqT.of upd_same) ?_⟩
      exact .cons ((hz.mono s1).mono (Same.kt (same_new hl))) .nil
end
end CB

set_option Elab.async false
set_option linter.all false
set_option maxRecDepth 100000
set_option maxHeartbeats 4000000
namespace CB
open PySem PySem.Spec PyProof.Rows L2
open C8 (Cal Met Mak pe_c pe_mk pe_mt pe_mt0 pe_gc CalAt)
section
variable {P : Program} {w : World} {K : PySem.W.Frag} {mg : Str → Option Value} {base : Heap}
abbrev n_is_formed : List Str := ["thing", "people", "word", "part"]
theorem sc_is_formed : FnScope ["thing", "people", "word", "part"] ["thing", "people"] (defScope s_is_formed) := ⟨rfl, rfl, rfl, by decide +kernel, rfl, by decide +kernel, by decide +kernel⟩
def sp_is_formed (K : PySem.W.Frag) : Sp := fun vs H Q _ => ∃ (v : V) (n s : Nat) (t : Tm), vs = [v, .int (n : Int)] ∧ Rp K H v t.data ∧ t.Ok n s ∧ s ≤ 9000 ∧ ∀ H', Same H H' → Q (.bl true) H'
theorem ok_is_formed (F : FnD K mg "is_formed" s_is_formed) (c_is_integer : Cal P w K mg base 1 "is_integer" sp_is_integer []) (c_is_number : Cal P w K mg base 2 "is_number" (sp_is_number K) []) (c_is_person : Cal P w K mg base 2 "is_person" sp_is_person []) (c_is_weighted : Cal P w K mg base 3 "is_weighted" (sp_is_weighted K) [])
    (c_are_some : Cal P w K mg base 1 "are_some" (sp_are_some K) []) (c_are_bounds : Cal P w K mg base 3 "are_bounds" (sp_are_bounds K) []) (T_isinstance : mg "isinstance" = none) (T_tuple : mg "tuple" = none) (T_str : mg "str" = none) (T_len : mg "len" = none) (T_all : mg "all" = none) : Cal P w K mg base 4 "is_formed" (sp_is_formed K) [] := by
  refine calOf F sc_is_formed (fun _ _ _ _ _ _ us hl => match us, hl with | [_, _], _ => rfl) (fun vs H Q E h => ?_) (fun cdv f A outer s H vs Q E hr h => ?_)
  · obtain ⟨_, _, _, _, rfl, _⟩ := h
    rfl
  · obtain ⟨v, n, sz, t, rfl, rt, hok, hs, k⟩ := h
    refine ⟨_, (pss_cons (ps_if (pt_not (PW.pt (pw_and (pt_val (pe_callB call_isi (by rfl) T_isinstance (by decide +kernel) (pa_cons (pv 0) (pa_cons (pe_ty (n := "tuple") (by rfl) T_tuple (by decide +kernel)) pa_nil)))) (pw_and (pt_cmpR op_ge (pe_callB call_len_seq (by rfl) T_len PySem.boot_len (pa_cons (pv 0) pa_nil)) pe_int (nomark _)) (pw_and1 (pt_val (pe_callB call_isi (by rfl) T_isinstance (by decide +kernel) (pa_cons (pe_ix ix_tup (pv 0) pe_int (fun _ _ => rfl)) (pa_cons (pe_ty (n := "str") (by rfl) T_str (by decide +kernel)) pa_nil))))))))) (pss_one (ps_ret pe_bl)) pss_nil)
    (pss_cons (ps_set (i := 2) sc_is_formed.nd rfl (Or.inl rfl) (pe_ix ix_tup (pv 0) pe_int (fun _ _ => rfl)))
    (pss_cons (ps_if (pt_cmpR op_eq (pv 2) pe_str (nomark _)) (pss_one (ps_ret (pe_and (pe_cmpR op_eq (pe_callB call_len_seq (by rfl) T_len PySem.boot_len (pa_cons (pv 0) pa_nil)) pe_int (nomark _)) (pe_and (pe_c c_are_some hr (by first | decide | omega) rfl (pa_cons (pe_ix ix_tup (pv 0) pe_int (fun _ _ => rfl)) pa_nil)) (pe_and (pe_c c_is_integer hr (by first | decide | omega) rfl (pa_cons (pe_ix ix_tup (pv 0) pe_int (fun _ _ => rfl)) pa_nil)) (pe_one (pe_chain op_le op_le pe_int (pe_ix ix_tup (pv 0) pe_int (fun _ _ => rfl)) (pe_callB call_len_seq (by rfl) T_len PySem.boot_len (pa_cons (pe_ix ix_tup (pv 0) pe_int (fun _ _ => rfl)) pa_nil))))))))) pss_nil)
    (pss_cons (ps_if (pt_cmpR op_eq (pv 2) pe_str (nomark _)) (pss_one (ps_ret (pe_and (pe_cmpR op_eq (pe_callB call_len_seq (by rfl) T_len PySem.boot_len (pa_cons (pv 0) pa_nil)) pe_int (nomark _)) (pe_one (pe_c c_are_bounds hr (by first | decide | omega) rfl (pa_cons (pe_ix ix_tup (pv 0) pe_int (fun _ _ => rfl)) (pa_cons (pe_ix ix_tup (pv 0) pe_int (fun _ _ => rfl)) pa_nil))))))) pss_nil)
    (pss_cons (ps_if (pt_cmpR op_gt (pe_callB call_len_seq (by rfl) T_len PySem.boot_len (pa_cons (pv 0) pa_nil)) pe_int (nomark _)) (pss_one (ps_ret pe_bl)) pss_nil)
    (pss_cons (ps_if (pt_cmpR op_eq (pv 2) pe_str (nomark _)) (pss_one (ps_ret (pe_c c_is_person hr (by first | decide | omega) rfl (pa_cons (pe_ix ix_tup (pv 0) pe_int (fun _ _ => rfl)) (pa_cons (pv 1) pa_nil))))) pss_nil)
    (pss_cons (ps_if (pt_cmpR op_eq (pv 2) pe_str (nomark _)) (pss_one (ps_ret (pe_c c_is_number hr (by first | decide | omega) rfl (pa_cons (pe_ix ix_tup (pv 0) pe_int (fun _ _ => rfl)) pa_nil)))) pss_nil)
    (pss_cons (ps_if (pt_cmpR op_eq (pv 2) pe_str (nomark _)) (pss_one (ps_ret (pe_and (pe_c c_are_some hr (by first | decide | omega) rfl (pa_cons (pe_ix ix_tup (pv 0) pe_int (fun _ _ => rfl)) pa_nil)) (pe_one (pe_callB (cr_all rfl) (by rfl) T_all (by decide +kernel) (pa_cons (pe_lc (own := [("part", 3)]) (by rfl) sc_is_formed.nd (pi_tup (pe_ix ix_tup (pv 0) pe_int (fun _ _ => rfl))) (blkOk_by (own := [("part", 3)]) (N := ["thing", "people", "word", "part"]) (sc := defScope s_is_formed) (by decide +kernel)) (fun _ _ _ _ _ => (pg_name (i := 3) sc_is_formed.nd rfl (Or.inl rfl))) (fun _ _ _ _ _ => pts_nil) (fun _ _ _ _ _ => (pe_c c_is_weighted hr (by first | decide | omega) rfl (pa_cons (pv 3) pa_nil)))) pa_nil)))))) pss_nil)
    (pss_one (ps_ret (pe_and (pe_cmpR op_in_seq (pv 2) (pe_tup (pa_cons pe_str (pa_cons pe_str pa_nil))) rfl) (pe_one (pe_c c_are_some hr (by first | decide | omega) rfl (pa_cons (pe_ix ix_tup (pv 0) pe_int (fun _ _ => rfl)) pa_nil)))))))))))))), ?_⟩
    cases t with
    | bid p =>
      obtain ⟨a, rfl, ha⟩ := t_bid rt
      refine ⟨_, rfl, _, _, _, _, true, rfl, .ty _, tyT ha, kit_ty (by decide +kernel), _, rfl, _, rfl, a, _, rfl, .inr ha, _, _, rfl, rfl, _, rfl, ite2 (fun _ => ?_) (fun c => absurd rfl c)⟩
      refine ⟨_, rfl, _, _, _, _, rfl, rfl, ha, rfl, _, _, _, _, true, rfl, .ty _, .base (.str _), kit_ty (by decide +kernel), _, rfl, _, rfl, _, _, _, _, rfl, rfl, ha, rfl, ?_⟩
      refine ⟨_, rfl, rfl, _, rfl, ite2 (fun c => absurd c (by decide +kernel)) (fun _ => ?_)⟩
      refine ⟨_, rfl, rfl, _, rfl, ite2 (fun c => absurd c (by decide +kernel)) (fun _ => ?_)⟩
      refine ⟨_, rfl, a, _, rfl, .inr ha, _, _, rfl, rfl, _, rfl, ite2 (fun c => nomatch (show false = true from c)) (fun _ => ?_)⟩
      refine ⟨_, rfl, rfl, _, rfl, ite2 (fun _ => ?_) (fun c => absurd (by decide +kernel) c)⟩
      exact ⟨_, rfl, _, _, _, _, rfl, rfl, ha, rfl, _, rfl, _, _, rfl, by omega, (by have : p < n := hok; omega), k _ (Same.refl _)⟩
    | fixed q =>
      obtain ⟨a, x, rfl, ha, hx⟩ := t_fixed rt
      have hn : NumOk sz q := hok
      refine ⟨_, rfl, _, _, _, _, true, rfl, .ty _, tyT ha, kit_ty (by decide +kernel), _, rfl, _, rfl, a, _, rfl, .inr ha, _, _, rfl, rfl, _, rfl, ite2 (fun _ => ?_) (fun c => absurd rfl c)⟩
      refine ⟨_, rfl, _, _, _, _, rfl, rfl, ha, rfl, _, _, _, _, true, rfl, .ty _, .base (.str _), kit_ty (by decide +kernel), _, rfl, _, rfl, _, _, _, _, rfl, rfl, ha, rfl, ?_⟩
      refine ⟨_, rfl, rfl, _, rfl, ite2 (fun c => absurd c (by decide +kernel)) (fun _ => ?_)⟩
      refine ⟨_, rfl, rfl, _, rfl, ite2 (fun c => absurd c (by decide +kernel)) (fun _ => ?_)⟩
      refine ⟨_, rfl, a, _, rfl, .inr ha, _, _, rfl, rfl, _, rfl, ite2 (fun c => nomatch (show false = true from c)) (fun _ => ?_)⟩
      refine ⟨_, rfl, rfl, _, rfl, ite2 (fun c => absurd c (by decide +kernel)) (fun _ => ?_)⟩
      refine ⟨_, rfl, rfl, _, rfl, ite2 (fun _ => ?_) (fun c => absurd (by decide +kernel) c)⟩
      exact ⟨_, rfl, _, _, _, _, rfl, rfl, ha, rfl, _, q, rfl, hx, hn.1, hn.2.1, k _ (Same.refl _)⟩
    | mean ws ts =>
      obtain ⟨a, b, us, rfl, ha, hb, hu⟩ := t_mean rt
      obtain ⟨wl, tne, tl, hw, ho⟩ := hok
      have ul : us.length = ts.length := by rw [hu.length, meanD_length _ _ (by rw [datas_map, List.length_map]; exact wl), datas_map, List.length_map]
      refine ⟨_, rfl, _, _, _, _, true, rfl, .ty _, tyT ha, kit_ty (by decide +kernel), _, rfl, _, rfl, a, _, rfl, .inr ha, _, _, rfl, rfl, _, rfl, ite2 (fun _ => ?_) (fun c => absurd rfl c)⟩
      refine ⟨_, rfl, _, _, _, _, rfl, rfl, ha, rfl, _, _, _, _, true, rfl, .ty _, .base (.str _), kit_ty (by decide +kernel), _, rfl, _, rfl, _, _, _, _, rfl, rfl, ha, rfl, ?_⟩
      refine ⟨_, rfl, rfl, _, rfl, ite2 (fun c => absurd c (by decide +kernel)) (fun _ => ?_)⟩
      refine ⟨_, rfl, rfl, _, rfl, ite2 (fun c => absurd c (by decide +kernel)) (fun _ => ?_)⟩
      refine ⟨_, rfl, a, _, rfl, .inr ha, _, _, rfl, rfl, _, rfl, ite2 (fun c => nomatch (show false = true from c)) (fun _ => ?_)⟩
      refine ⟨_, rfl, rfl, _, rfl, ite2 (fun c => absurd c (by decide +kernel)) (fun _ => ?_)⟩
      refine ⟨_, rfl, rfl, _, rfl, ite2 (fun c => absurd c (by decide +kernel)) (fun _ => ?_)⟩
      refine ⟨_, rfl, rfl, _, rfl, ite2 (fun _ => ?_) (fun c => absurd (by decide +kernel) c)⟩
      refine ⟨_, rfl, _, _, _, _, rfl, rfl, ha, rfl, b, us, rfl, hb, by have := List.length_pos_iff.mpr tne; omega, by omega, _, rfl, ?_⟩
      refine ⟨_, rfl, _, _, _, _, rfl, rfl, ha, rfl, b, rfl, ⟨_, hb⟩, fun D hD => ?_⟩
      refine it_tup (K := K) (a := b) (xs := us) (fun i H' => ∃ zs : List Bool, H' D = some (.lst (zs.map V.bl)) ∧ zs.length = i ∧ (∀ z ∈ zs, z = true) ∧ Same H H')
        ⟨[], upd_same, rfl, by simp, same_new hD⟩ (fun i H' ⟨_, _, _, _, s5⟩ => (Same.kt s5).sq hb) ?_ ?_
      · rintro i x H' hx ⟨zs, g1, g2, g3, g4⟩
        obtain ⟨c, z, t, y, rfl, e1, e2, p1, p2⟩ := mean_part hu hx
        have hz := hw z (List.mem_of_getElem? e1)
        have hi := (List.getElem?_eq_some_iff.mp hx).1
        refine ⟨rfl, _, rfl, c, z, y, rfl, (Same.kt g4).sq p1, hz.1, hz.2, _, g1, by rw [List.length_map, g2]; exact small1000 (by omega), zs ++ [true], by rw [List.map_append]; exact upd_same, by simp [g2], ?_, Same.mut g4 hD⟩
        intro q hq
        rcases List.mem_append.mp hq with h | h
        · exact g3 q h
        · exact List.mem_singleton.mp h
      · rintro H' ⟨zs, g1, g2, g3, g4⟩
        refine ⟨D, zs, rfl, SqL.of g1, ?_⟩
        have ea : zs.all id = true := List.all_eq_true.mpr g3
        rw [ea]
        exact k _ g4
    | least ts =>
      obtain ⟨a, b, us, rfl, ha, hb, hu⟩ := t_least rt
      have hok : ts ≠ [] ∧ ts.length ≤ 8 ∧ Tm.Oks n sz ts := hok
      have hu : RTs K H us ts := hu
      refine ⟨_, rfl, _, _, _, _, true, rfl, .ty _, tyT ha, kit_ty (by decide +kernel), _, rfl, _, rfl, a, _, rfl, .inr ha, _, _, rfl, rfl, _, rfl, ite2 (fun _ => ?_) (fun c => absurd rfl c)⟩
      refine ⟨_, rfl, _, _, _, _, rfl, rfl, ha, rfl, _, _, _, _, true, rfl, .ty _, .base (.str _), kit_ty (by decide +kernel), _, rfl, _, rfl, _, _, _, _, rfl, rfl, ha, rfl, ?_⟩
      refine ⟨_, rfl, rfl, _, rfl, ite2 (fun c => absurd c (by decide +kernel)) (fun _ => ?_)⟩
      refine ⟨_, rfl, rfl, _, rfl, ite2 (fun c => absurd c (by decide +kernel)) (fun _ => ?_)⟩
      refine ⟨_, rfl, a, _, rfl, .inr ha, _, _, rfl, rfl, _, rfl, ite2 (fun c => nomatch (show false = true from c)) (fun _ => ?_)⟩
      refine ⟨_, rfl, rfl, _, rfl, ite2 (fun c => absurd c (by decide +kernel)) (fun _ => ?_)⟩
      refine ⟨_, rfl, rfl, _, rfl, ite2 (fun c => absurd c (by decide +kernel)) (fun _ => ?_)⟩
      refine ⟨_, rfl, rfl, _, rfl, ite2 (fun c => absurd c (by decide +kernel)) (fun _ => ?_)⟩
      refine ⟨_, rfl, (by show 2 ≤ sizeLine; decide), fun q hq => ⟨q, _, rfl, .inr (SqT.of upd_same), rfl, rfl, _, rfl, ite2 (fun _ => ?_) (fun c => absurd (by decide +kernel) c)⟩⟩
      have s1 := Same.kt (same_new (o := .tup [.str "least", .str "greatest"]) hq)
      have ul : us.length = ts.length := hu.length
      exact ⟨_, rfl, _, _, _, _, rfl, rfl, s1.sq ha, rfl, b, us, rfl, s1.sq hb, by have := List.length_pos_iff.mpr hok.1; omega, by have := hok.2.1; omega, k _ (same_new hq)⟩
    | greatest ts =>
      obtain ⟨a, b, us, rfl, ha, hb, hu⟩ := t_greatest rt
      have hok : ts ≠ [] ∧ ts.length ≤ 8 ∧ Tm.Oks n sz ts := hok
      have hu : RTs K H us ts := hu
      refine ⟨_, rfl, _, _, _, _, true, rfl, .ty _, tyT ha, kit_ty (by decide +kernel), _, rfl, _, rfl, a, _, rfl, .inr ha, _, _, rfl, rfl, _, rfl, ite2 (fun _ => ?_) (fun c => absurd rfl c)⟩
      refine ⟨_, rfl, _, _, _, _, rfl, rfl, ha, rfl, _, _, _, _, true, rfl, .ty _, .base (.str _), kit_ty (by decide +kernel), _, rfl, _, rfl, _, _, _, _, rfl, rfl, ha, rfl, ?_⟩
      refine ⟨_, rfl, rfl, _, rfl, ite2 (fun c => absurd c (by decide +kernel)) (fun _ => ?_)⟩
      refine ⟨_, rfl, rfl, _, rfl, ite2 (fun c => absurd c (by decide +kernel)) (fun _ => ?_)⟩
      refine ⟨_, rfl, a, _, rfl, .inr ha, _, _, rfl, rfl, _, rfl, ite2 (fun c => nomatch (show false = true from c)) (fun _ => ?_)⟩
      refine ⟨_, rfl, rfl, _, rfl, ite2 (fun c => absurd c (by decide +kernel)) (fun _ => ?_)⟩
      refine ⟨_, rfl, rfl, _, rfl, ite2 (fun c => absurd c (by decide +kernel)) (fun _ => ?_)⟩
      refine ⟨_, rfl, rfl, _, rfl, ite2 (fun c => absurd c (by decide +kernel)) (fun _ => ?_)⟩
      refine ⟨_, rfl, (by show 2 ≤ sizeLine; decide), fun q hq => ⟨q, _, rfl, .inr (SqT.of upd_same), rfl, rfl, _, rfl, ite2 (fun _ => ?_) (fun c => absurd (by decide +kernel) c)⟩⟩
      have s1 := Same.kt (same_new (o := .tup [.str "least", .str "greatest"]) hq)
      have ul : us.length = ts.length := hu.length
      exact ⟨_, rfl, _, _, _, _, rfl, rfl, s1.sq ha, rfl, b, us, rfl, s1.sq hb, by have := List.length_pos_iff.mpr hok.1; omega, by have := hok.2.1; omega, k _ (same_new hq)⟩
    | ranked r ts =>
      obtain ⟨a, b, us, rfl, ha, hb, hu⟩ := t_ranked rt
      obtain ⟨r1, r2, tl, ho⟩ := hok
      have ul : us.length = ts.length := RTs.length hu
      refine ⟨_, rfl, _, _, _, _, true, rfl, .ty _, tyT ha, kit_ty (by decide +kernel), _, rfl, _, rfl, a, _, rfl, .inr ha, _, _, rfl, rfl, _, rfl, ite2 (fun _ => ?_) (fun c => absurd rfl c)⟩
      refine ⟨_, rfl, _, _, _, _, rfl, rfl, ha, rfl, _, _, _, _, true, rfl, .ty _, .base (.str _), kit_ty (by decide +kernel), _, rfl, _, rfl, _, _, _, _, rfl, rfl, ha, rfl, ?_⟩
      refine ⟨_, rfl, rfl, _, rfl, ite2 (fun _ => ?_) (fun c => absurd (by decide +kernel) c)⟩
      refine ⟨_, rfl, a, _, rfl, .inr ha, rfl, _, rfl, ite2 (fun _ => ?_) (fun c => absurd rfl c)⟩
      refine ⟨_, rfl, _, _, _, _, rfl, rfl, ha, rfl, b, us, rfl, hb, by omega, by omega, _, rfl, ?_⟩
      refine ⟨_, rfl, _, _, _, _, rfl, rfl, ha, rfl, _, rfl, _, rfl, ?_⟩
      refine ⟨_, rfl, _, _, _, _, rfl, rfl, ha, rfl, _, _, rfl, rfl, _, rfl, ite2 (fun _ => ?_) (fun c => absurd (decide_eq_true (show (1 : Int) ≤ (r : Int) by omega)) c)⟩
      refine ⟨_, rfl, _, _, _, _, rfl, rfl, ha, rfl, b, us, rfl, .inr hb, _, _, rfl, rfl, ?_⟩
      show Q (V.bl (decide ((r : Int) ≤ (us.length : Int)))) H
      rw [decide_eq_true (show (r : Int) ≤ (us.length : Int) by omega)]
      exact k _ (Same.refl _)
    | between lo hi t =>
      obtain ⟨a, x, y, z, rfl, ha, hx, hy, hz⟩ := t_between rt
      obtain ⟨n1, n2, hl, ho⟩ := hok
      refine ⟨_, rfl, _, _, _, _, true, rfl, .ty _, tyT ha, kit_ty (by decide +kernel), _, rfl, _, rfl, a, _, rfl, .inr ha, _, _, rfl, rfl, _, rfl, ite2 (fun _ => ?_) (fun c => absurd rfl c)⟩
      refine ⟨_, rfl, _, _, _, _, rfl, rfl, ha, rfl, _, _, _, _, true, rfl, .ty _, .base (.str _), kit_ty (by decide +kernel), _, rfl, _, rfl, _, _, _, _, rfl, rfl, ha, rfl, ?_⟩
      refine ⟨_, rfl, rfl, _, rfl, ite2 (fun c => absurd c (by decide +kernel)) (fun _ => ?_)⟩
      refine ⟨_, rfl, rfl, _, rfl, ite2 (fun _ => ?_) (fun c => absurd (by decide +kernel) c)⟩
      refine ⟨_, rfl, a, _, rfl, .inr ha, rfl, _, rfl, ite2 (fun _ => ?_) (fun c => absurd rfl c)⟩
      exact ⟨_, rfl, _, _, _, _, rfl, rfl, ha, rfl, _, rfl, _, _, _, _, rfl, rfl, ha, rfl, _, _, lo, hi, sz, rfl, hx, hy, n1, n2, hl, hs, k _ (Same.refl _)⟩
end
end CB

set_option Elab.async false
set_option linter.all false
set_option maxRecDepth 100000
set_option maxHeartbeats 4000000
namespace CB
open PySem PySem.Spec PyProof.Rows L2
open C8 (Cal Met Mak pe_c pe_mk pe_mt pe_mt0 pe_gc CalAt)
section
variable {P : Program} {w : World} {K : PySem.W.Frag} {mg : Str → Option Value} {base : Heap}
theorem dep_children (t : Tm) : t.dep = Tm.deps t.children + 1 := by
  cases t <;> simp [Tm.dep, Tm.children, Tm.deps]
theorem cnt_children (t : Tm) : t.cnt = Tm.cnts t.children + 1 := by
  cases t <;> simp [Tm.cnt, Tm.children, Tm.cnts]
theorem ok_children {n s : Nat} {t : Tm} (h : t.Ok n s) : Tm.Oks n s t.children := by
  cases t with
  | bid p => trivial
  | fixed q => trivial
  | mean ws ts => exact h.2.2.2.2
  | least ts => exact h.2.2
  | greatest ts => exact h.2.2
  | ranked k ts => exact h.2.2.2
  | between lo hi t => exact ⟨h.2.2.2, trivial⟩
theorem deps_append : ∀ (a b : List Tm), Tm.deps (a ++ b) = max (Tm.deps a) (Tm.deps b)
  | [], b => by simp [Tm.deps]
  | t :: a, b => by rw [List.cons_append, Tm.deps, Tm.deps, deps_append a b]; omega
theorem cnts_append : ∀ (a b : List Tm), Tm.cnts (a ++ b) = Tm.cnts a + Tm.cnts b
  | [], b => by simp [Tm.cnts]
  | t :: a, b => by rw [List.cons_append, Tm.cnts, Tm.cnts, cnts_append a b]; omega
theorem deps_flat : ∀ {ts : List Tm}, ts ≠ [] → Tm.deps (ts.flatMap Tm.children) + 1 = Tm.deps ts
  | [], h => absurd rfl h
  | [t], _ => by
    rw [List.flatMap_cons, List.flatMap_nil, List.append_nil, Tm.deps, Tm.deps, dep_children t]
    omega
  | t :: u :: ts, _ => by
    have ih := deps_flat (ts := u :: ts) (by simp)
    rw [List.flatMap_cons, deps_append, Tm.deps, dep_children t]
    omega
theorem cnts_flat : ∀ (ts : List Tm), Tm.cnts (ts.flatMap Tm.children) + ts.length = Tm.cnts ts
  | [] => by simp [Tm.cnts]
  | t :: ts => by
    have ih := cnts_flat ts
    rw [List.flatMap_cons, cnts_append, Tm.cnts, cnt_children t, List.length_cons]
    omega
theorem len_cnts : ∀ (ts : List Tm), ts.length ≤ Tm.cnts ts
  | [] => by simp [Tm.cnts]
  | t :: ts => by
    have ih := len_cnts ts
    have := cnt_children t
    rw [Tm.cnts, List.length_cons]
    omega
theorem oks_flat {n s : Nat} {ts : List Tm} (h : Tm.Oks n s ts) : Tm.Oks n s (ts.flatMap Tm.children) := (oks_iff _ _ _).mpr fun t ht => by
  obtain ⟨u, hu, h2⟩ := List.mem_flatMap.mp ht
  exact (oks_iff _ _ _).mp (ok_children ((oks_iff _ _ _).mp h u hu)) t h2
theorem mean_of_ok {n s : Nat} {t : Tm} (h : t.Ok n s) : ∀ ws ts, t = .mean ws ts → ws.length = ts.length ∧ ts.length ≤ 8 := fun ws ts e => by
  subst e
  exact ⟨h.1, h.2.2.1⟩
abbrev n_is_term : List Str := ["thing", "people", "level", "many", "depth", "term", "inner"]
theorem sc_is_term : FnScope ["thing", "people", "level", "many", "depth", "term", "inner"] ["thing", "people"] (defScope s_is_term) := ⟨rfl, rfl, rfl, by decide +kernel, rfl, by decide +kernel, by decide +kernel⟩
def sp_is_term (K : PySem.W.Frag) : Sp := fun vs H Q _ => ∃ (v : V) (n s : Nat) (t : Tm), vs = [v, .int (n : Int)] ∧ Rp K H v t.data ∧ t.Ok n s ∧ s ≤ 9000 ∧ t.dep ≤ 8 ∧ t.cnt ≤ 60 ∧ ∀ H', Same H H' → Q (.bl true) H'
theorem ok_is_term (F : FnD K mg "is_term" s_is_term) (c_is_formed : Cal P w K mg base 4 "is_formed" (sp_is_formed K) []) (c_inner_terms : Cal P w K mg base 1 "inner_terms" (sp_inner_terms K) []) (T_len : mg "len" = none) (T_all : mg "all" = none)
    (g_MOST_DEEP : ∃ u, mg "MOST_DEEP" = some u ∧ RelV (.int 8) u) (g_MOST_TERMS : ∃ u, mg "MOST_TERMS" = some u ∧ RelV (.int 60) u) : Cal P w K mg base 5 "is_term" (sp_is_term K) [] := by
  refine calOf F sc_is_term (fun _ _ _ _ _ _ us hl => match us, hl with | [_, _], _ => rfl) (fun vs H Q E h => ?_) (fun cdv f A outer s H vs Q E hr h => ?_)
  · obtain ⟨_, _, _, _, rfl, _⟩ := h
    rfl
  · obtain ⟨v, n, sz, t, rfl, rt, hok, hs, hdep, hcnt, k⟩ := h
    refine ⟨_, (pss_cons (ps_set (i := 2) sc_is_term.nd rfl (Or.inl rfl) (pe_lst (pa_cons (pv 0) pa_nil)))
    (pss_cons (ps_set (i := 3) sc_is_term.nd rfl (Or.inl rfl) pe_int)
    (pss_cons (ps_set (i := 4) sc_is_term.nd rfl (Or.inl rfl) pe_int)
    (pss_cons (ps_while PassesOwn.never (pt_truth (pv 2) (by intro _; rfl)) (pss_cons (ps_aug (i := 4) sc_is_term.nd rfl (Or.inl rfl) pe_int ip_add)
    (pss_cons (ps_aug (i := 3) sc_is_term.nd rfl (Or.inl rfl) (pe_callB call_len_seq (by rfl) T_len PySem.boot_len (pa_cons (pv 2) pa_nil)) ip_add)
    (pss_cons (ps_if (PW.pt (pw_or (pt_cmpR op_gt (pv 4) (pe_gc rfl g_MOST_DEEP) (nomark _)) (pw_or1 (pt_cmpR op_gt (pv 3) (pe_gc rfl g_MOST_TERMS) (nomark _))))) (pss_one (ps_ret pe_bl)) pss_nil)
    (pss_cons (ps_if (pt_not (pt_val (pe_callB (cr_all rfl) (by rfl) T_all (by decide +kernel) (pa_cons (pe_lc (own := [("term", 5)]) (by rfl) sc_is_term.nd (pi_list (pv 2)) (blkOk_by (own := [("term", 5)]) (N := ["thing", "people", "level", "many", "depth", "term", "inner"]) (sc := defScope s_is_term) (by decide +kernel)) (fun _ _ _ _ _ => (pg_name (i := 5) sc_is_term.nd rfl (Or.inl rfl))) (fun _ _ _ _ _ => pts_nil) (fun _ _ _ _ _ => (pe_c c_is_formed hr (by first | decide | omega) rfl (pa_cons (pv 5) (pa_cons (pv 1) pa_nil))))) pa_nil)))) (pss_one (ps_ret pe_bl)) pss_nil)
    (pss_one (ps_setLc2 (i := 2) (own := [("term", 5), ("inner", 6)]) (wi1 := iTup K (tCall (sp_inner_terms K) [] C8.E0 (tCons (tVar 5) tNil))) (by rfl) sc_is_term.nd rfl rfl (sw_true rfl rfl rfl (by decide +kernel)) (pi_list (pv 2)) (blkOk_by (own := [("term", 5), ("inner", 6)]) (N := ["thing", "people", "level", "many", "depth", "term", "inner"]) (sc := defScope s_is_term) (by decide +kernel)) (vs1 := [6]) (by decide) (fun _ _ _ _ _ => (pg_name (i := 5) sc_is_term.nd rfl (Or.inl rfl))) (fun _ _ _ _ _ => pts_nil) (fun _ _ _ _ _ => (pi_tup (pe_c c_inner_terms hr (by first | decide | omega) rfl (pa_cons (pv 5) pa_nil)))) (fun _ _ _ _ _ => (pg_name (i := 6) sc_is_term.nd rfl (Or.inl rfl))) (fun _ _ _ _ _ => pts_nil) (fun _ _ _ _ _ => (pv 6)))))))))
    (pss_one (ps_ret pe_bl)))))), ?_⟩
    refine ⟨_, rfl, (by show 1 ≤ sizeLine; decide), fun L0 hL0 => ?_⟩
    have s0 := same_new (o := .lst [v]) hL0
    refine ⟨fun m σ H' => ∃ (L : Addr) (us : List V) (ts : List Tm) (many depth : Int), σ = [some v, some (.int (n : Int)), some (.ref L), some (.int many), some (.int depth), none, none] ∧ H' L = some (.lst us) ∧ RTs K H' us ts ∧ Tm.Oks n sz ts ∧ Same H H' ∧
        0 ≤ many ∧ many + (Tm.cnts ts : Int) ≤ 60 ∧ 0 ≤ depth ∧ depth + (Tm.deps ts : Int) ≤ 8 ∧ m = Tm.deps ts,
      ⟨_, L0, [v], [t], 0, 0, rfl, upd_same, .cons (rt.mono (Same.kt s0)) .nil, ⟨hok, trivial⟩, s0, by omega, by simp [Tm.cnts]; omega, by omega, by simp [Tm.deps]; omega, rfl⟩, ?_⟩
    rintro m σ H1 ⟨L, us, ts, many, depth, rfl, hL, hu, ho, s1, m0, m1, d0, d1, rfl⟩
    have ul : us.length = ts.length := RTs.length hu
    refine ⟨_, rfl, _, .inl ⟨us, SqL.of hL, rfl⟩, ?_⟩
    refine ite2 (fun c => ?_) (fun _ => k _ s1)
    have hne : ts ≠ [] := by
      intro e
      subst e
      have : us = [] := List.eq_nil_of_length_eq_zero ul
      subst this
      cases c
    have df := deps_flat hne
    have cf := cnts_flat ts
    have lc := len_cnts ts
    refine ⟨fun σ' H' => ∃ (L : Addr) (us' : List V) (many depth : Int), σ' = [some v, some (.int (n : Int)), some (.ref L), some (.int many), some (.int depth), none, none] ∧ H' L = some (.lst us') ∧ RTs K H' us' (ts.flatMap Tm.children) ∧ Same H H' ∧
        0 ≤ many ∧ many + (Tm.cnts (ts.flatMap Tm.children) : Int) ≤ 60 ∧ 0 ≤ depth ∧ depth + (Tm.deps (ts.flatMap Tm.children) : Int) ≤ 8,
      fun σ' H' ⟨L, us', many, depth, a1, a2, a3, a4, a5, a6, a7, a8⟩ => ⟨_, by omega, L, us', _, many, depth, a1, a2, a3, oks_flat ho, a4, a5, a6, a7, a8, rfl⟩, ?_⟩
    refine ⟨_, rfl, _, _, rfl, rfl, _, rfl, _, rfl, L, us, rfl, .inl (SqL.of hL), _, _, rfl, rfl, ?_⟩
    have lp := List.length_pos_iff.mpr hne
    refine ⟨_, rfl, _, _, rfl, rfl, _, rfl, ite2 (fun c => absurd (of_decide_eq_true c) (show ¬ (8 : Int) < depth + 1 by omega)) (fun _ => ?_)⟩
    refine ⟨_, rfl, _, _, rfl, rfl, _, rfl, ite2 (fun c => absurd (of_decide_eq_true c) (show ¬ (60 : Int) < many + (us.length : Int) by omega)) (fun _ => ?_)⟩
    refine ⟨_, rfl, L, rfl, ⟨_, SqL.of hL⟩, fun D hD => ?_⟩
    have hDL : L ≠ D := ne_of_none hL hD
    refine it_list (K := K) (a := L) (xs := us) (fun i H' => ∃ zs : List Bool, H' D = some (.lst (zs.map V.bl)) ∧ zs.length = i ∧ (∀ z ∈ zs, z = true) ∧ Same H1 H')
      ⟨[], upd_same, rfl, by simp, same_new hD⟩ (fun i H' ⟨_, _, _, _, s5⟩ => s5.seq (SqL.of hL)) ?_ ?_
    · rintro i x H' hx ⟨zs, g1, g2, g3, g4⟩
      obtain ⟨u, hu1, ru⟩ := RTs.getV hu hx
      have hi := (List.getElem?_eq_some_iff.mp hx).1
      refine ⟨rfl, _, rfl, _, rfl, x, n, sz, u, rfl, ru.mono (Same.kt g4), (oks_iff _ _ _).mp ho u (List.mem_of_getElem? hu1), hs, fun H2 s6 => ⟨_, s6 _ _ g1, by rw [List.length_map, g2]; exact small1000 (by omega), zs ++ [true], by rw [List.map_append]; exact upd_same, by simp [g2], ?_, Same.mut (g4.trans s6) hD⟩⟩
      intro q hq
      rcases List.mem_append.mp hq with h | h
      · exact g3 q h
      · exact List.mem_singleton.mp h
    · rintro H2 ⟨zs, g1, g2, g3, s2⟩
      refine ⟨D, zs, rfl, SqL.of g1, ?_⟩
      have ea : zs.all id = true := List.all_eq_true.mpr g3
      rw [ea]
      refine ⟨_, rfl, ?_⟩
      have hL2 := s2 _ _ hL
      have hu2 : RTs K H2 us ts := RpAll.mono (Same.kt s2) hu
      refine ⟨_, rfl, L, rfl, ⟨_, SqL.of hL2⟩, fun D2 hD2 => ?_⟩
      refine it_list (K := K) (a := L) (xs := us) (fun i H' => ∃ zs : List V, H' D2 = some (.lst zs) ∧ RTs K H' zs ((ts.take i).flatMap Tm.children) ∧ Same H2 H')
        ⟨[], upd_same, by simp [RTs, Tm.datas]; exact .nil, same_new hD2⟩ (fun i H' ⟨_, _, _, s5⟩ => s5.seq (SqL.of hL2)) ?_ ?_
      · rintro i x H3 hx ⟨zs, b1, b2, b3⟩
        obtain ⟨u, hu1, ru⟩ := RTs.getV hu2 hx
        have hou := (oks_iff _ _ _).mp ho u (List.mem_of_getElem? hu1)
        refine ⟨rfl, _, rfl, x, u, rfl, ru.mono (Same.kt b3), mean_of_ok hou, fun p ws H4 s4 hp hw => ⟨p, rfl, ⟨_, hp⟩, ?_⟩⟩
        have tk : ts.take (i + 1) = ts.take i ++ [u] := take_succ' hu1
        have fl : (ts.take (i + 1)).flatMap Tm.children = (ts.take i).flatMap Tm.children ++ u.children := by
          rw [tk, List.flatMap_append, List.flatMap_cons, List.flatMap_nil, List.append_nil]
        have small : ((ts.take i).flatMap Tm.children ++ u.children).length ≤ 60 := by
          rw [← fl]
          have h1 := len_cnts ((ts.take (i + 1)).flatMap Tm.children)
          have h2 := cnts_flat (ts.take (i + 1))
          have h3 : Tm.cnts (ts.take (i + 1)) ≤ Tm.cnts ts := by
            have e : Tm.cnts ts = Tm.cnts (ts.take (i + 1)) + Tm.cnts (ts.drop (i + 1)) := by rw [← cnts_append, List.take_append_drop]
            omega
          omega
        rw [List.length_append] at small
        have wl : ws.length = u.children.length := RTs.length hw
        refine it_tup (K := K) (a := p) (xs := ws) (fun j H' => ∃ zs : List V, H' D2 = some (.lst zs) ∧ RTs K H' zs ((ts.take i).flatMap Tm.children ++ u.children.take j) ∧ Same H2 H' ∧ KT H4 H')
          ⟨zs, s4 _ _ b1, by rw [List.take_zero, List.append_nil]; exact RpAll.mono (Same.kt s4) b2, b3.trans s4, KT.refl _⟩ (fun j H' ⟨_, _, _, _, s5⟩ => s5.sq hp) ?_ ?_
        · rintro j y H5 hy ⟨zs, q1, q2, q3, q4⟩
          obtain ⟨c, hc, rc⟩ := RTs.getV hw hy
          have zl : zs.length ≤ 60 := by
            have := RTs.length q2
            rw [this, List.length_append, List.length_take]
            omega
          refine ⟨rfl, _, rfl, zs, q1, small1000 (by omega), zs ++ [y], upd_same, ?_, Same.mut q3 hD2, q4.trans (KT.updl q1)⟩
          rw [take_succ' hc, ← List.append_assoc]
          exact RpAll.mono (KT.updl q1) (RTs.snoc q2 (rc.mono q4))
        · rintro H5 ⟨zs, q1, q2, q3, q4⟩
          rw [wl, List.take_length] at q2
          exact ⟨zs, q1, by rw [fl]; exact q2, q3⟩
      · rintro H3 ⟨zs, b1, b2, b3⟩
        rw [ul, List.take_length] at b2
        exact ⟨D2, zs, many + (us.length : Int), depth + 1, rfl, b1, b2, (s1.trans s2).trans b3, by omega, by omega, by omega, by omega⟩
end
end CB

set_option Elab.async false
set_option linter.all false
set_option maxRecDepth 100000
set_option maxHeartbeats 4000000
namespace CB
open PySem PySem.Spec PyProof.Rows L2
open C8 (Cal Met Mak pe_c pe_mk pe_mt pe_mt0 pe_gc CalAt)
section
variable {P : Program} {w : World} {K : PySem.W.Frag} {mg : Str → Option Value} {base : Heap}
abbrev n_is_people : List Str := ["thing"]
theorem sc_is_people : FnScope ["thing"] ["thing"] (defScope s_is_people) := ⟨rfl, rfl, rfl, by decide +kernel, rfl, by decide +kernel, by decide +kernel⟩
def sp_is_people : Sp := fun vs H Q _ => ∃ p : Int, vs = [.int p] ∧ 1 ≤ p ∧ p ≤ 6 ∧ Q (.bl true) H
theorem ok_is_people (F : FnD K mg "is_people" s_is_people) (c_is_integer : Cal P w K mg base 1 "is_integer" sp_is_integer []) (g_MOST_PEOPLE : ∃ u, mg "MOST_PEOPLE" = some u ∧ RelV (.int 6) u) : Cal P w K mg base 2 "is_people" sp_is_people [] := by
  refine calOf F sc_is_people (fun _ _ _ _ _ _ us hl => match us, hl with | [_], _ => rfl) (fun vs H Q E h => ?_) (fun cdv f A outer s H vs Q E hr h => ?_)
  · obtain ⟨_, rfl, _⟩ := h
    rfl
  · obtain ⟨p, rfl, h0, h1, k⟩ := h
    refine ⟨_, (pss_one (ps_ret (pe_and (pe_c c_is_integer hr (by first | decide | omega) rfl (pa_cons (pv 0) pa_nil)) (pe_one (pe_chain op_le op_le pe_int (pv 0) (pe_gc rfl g_MOST_PEOPLE)))))), ?_⟩
    refine ⟨_, rfl, _, rfl, _, rfl, _, rfl, _, _, rfl, rfl, _, rfl, ite2 (fun _ => ?_) (fun c => absurd (decide_eq_true h0) c)⟩
    refine ⟨_, _, rfl, rfl, ?_⟩
    show Q (V.bl (decide (p ≤ 6))) H
    rw [decide_eq_true h1]
    exact k
abbrev n_Rule___init__ : List Str := ["self", "people", "term"]
theorem sc_Rule___init__ : FnScope ["self", "people", "term"] ["self", "people", "term"] (defScope s_Rule___init__) := ⟨rfl, rfl, rfl, by decide +kernel, rfl, by decide +kernel, by decide +kernel⟩
/-- a rule: an instance with its people and its term -/
def ruleF (n : Nat) (v : V) : List (Str × V) := [(("people" : Str), V.int (n : Int)), (("term" : Str), v)]
theorem ruleF_put (n : Nat) (v : V) : putF "term" v (putF "people" (.int (n : Int)) []) = ruleF n v := by
  show (if ("people" : Str) = "term" then [(("people" : Str), v)] else (("people" : Str), V.int (n : Int)) :: putF "term" v []) = ruleF n v
  rw [if_neg (by decide +kernel)]
  rfl
theorem ruleF_people (n : Nat) (v : V) : (ruleF n v).lookup ("people" : Str) = some (.int (n : Int)) := by
  rw [← ruleF_put, lookup_putF, if_neg (by decide +kernel), lookup_putF, if_pos rfl]
theorem ruleF_term (n : Nat) (v : V) : (ruleF n v).lookup ("term" : Str) = some v := by
  rw [← ruleF_put, lookup_putF, if_pos rfl]
def RuleAt (K : PySem.W.Frag) (C : Addr) (H : Hp) (a : Addr) (n : Nat) (t : Tm) : Prop := ∃ dx v, H a = some (.ins C dx (ruleF n v)) ∧ Rp K H v t.data
def sp_Rule (K : PySem.W.Frag) (C : Addr) : Sp := fun vs H Q _ => ∃ (p dx : Addr) (v : V) (n s : Nat) (t : Tm), vs = [.ref p, .int (n : Int), v] ∧ H p = some (.ins C dx []) ∧ Rp K H v t.data ∧ t.Ok n s ∧ s ≤ 9000 ∧ t.dep ≤ 8 ∧ t.cnt ≤ 60 ∧ 1 ≤ n ∧ n ≤ 6 ∧
  ∀ H', (∀ b o, b ≠ p → H b = some o → H' b = some o) → H' p = some (.ins C dx (ruleF n v)) → Q .non H'
theorem ok_Rule {C : Addr} (F : MkD K mg "Rule" C "Rule.__init__" s_Rule___init__) (hc : Cls K C) (n1 : NoAttr K C "people") (n2 : NoAttr K C "term") (c_is_people : Cal P w K mg base 2 "is_people" sp_is_people []) (c_is_term : Cal P w K mg base 5 "is_term" (sp_is_term K) []) : Mak P w K mg base 6 "Rule" C (sp_Rule K C) [] := by
  refine makOf F sc_Rule___init__ (fun _ _ _ _ _ _ us hl => match us, hl with | [_, _, _], _ => rfl) (fun vs H Q E h => ?_) (fun cdv f A outer s H vs Q E hr h => ?_)
  · obtain ⟨_, _, _, _, _, _, rfl, _⟩ := h
    rfl
  · obtain ⟨p, dx, v, n, sz, t, rfl, hp, rt, ho, hs, hd, hcn, hn1, hn6, k⟩ := h
    refine ⟨_, (pss_cons (ps_if (pt_not (pt_val (pe_c c_is_people hr (by first | decide | omega) rfl (pa_cons (pv 1) pa_nil)))) (pss_one ps_never) pss_nil)
    (pss_cons (ps_if (pt_not (pt_val (pe_c c_is_term hr (by first | decide | omega) rfl (pa_cons (pv 2) (pa_cons (pv 1) pa_nil))))) (pss_one ps_never) pss_nil)
    (pss_cons (ps_fld (pv 0) (pv 1) rfl)
    (pss_one (ps_fld (pv 0) (pv 2) rfl))))), ?_⟩
    refine ⟨_, rfl, (n : Int), rfl, by omega, by omega, _, rfl, _, rfl, _, rfl, v, n, sz, t, rfl, rt, ho, hs, hd, hcn, fun H1 s1 => ⟨_, rfl, ?_⟩⟩
    refine ⟨_, rfl, _, rfl, p, C, dx, _, rfl, s1 _ _ hp, hc, n1, (by show 0 < 1000; decide), _, rfl, _, rfl, p, C, dx, _, rfl, upd_same, hc, n2, (by show 1 < 1000; decide), ?_⟩
    refine k _ (fun b o hb e => ?_) ?_
    · rw [upd_ne hb, upd_ne hb]
      exact s1 _ _ e
    · rw [upd_same, ruleF_put]
/-! ### the ways of numbers -/
abbrev n_Numbers_fixed : List Str := ["self", "number"]
theorem sc_Numbers_fixed : FnScope ["self", "number"] ["self", "number"] (defScope s_Numbers_fixed) := ⟨rfl, rfl, rfl, by decide +kernel, rfl, by decide +kernel, by decide +kernel⟩
abbrev n_Numbers_mean : List Str := ["self", "weights", "numbers"]
theorem sc_Numbers_mean : FnScope ["self", "weights", "numbers"] ["self", "weights", "numbers"] (defScope s_Numbers_mean) := ⟨rfl, rfl, rfl, by decide +kernel, rfl, by decide +kernel, by decide +kernel⟩
abbrev n_Numbers_lesser : List Str := ["self", "one", "other"]
theorem sc_Numbers_lesser : FnScope ["self", "one", "other"] ["self", "one", "other"] (defScope s_Numbers_lesser) := ⟨rfl, rfl, rfl, by decide +kernel, rfl, by decide +kernel, by decide +kernel⟩
abbrev n_Numbers_greater : List Str := ["self", "one", "other"]
theorem sc_Numbers_greater : FnScope ["self", "one", "other"] ["self", "one", "other"] (defScope s_Numbers_greater) := ⟨rfl, rfl, rfl, by decide +kernel, rfl, by decide +kernel, by decide +kernel⟩
def sp_fixed (C : Addr) : Sp := fun vs H Q _ => ∃ (a : Addr) (v : V), vs = [.ref a, v] ∧ Q v H
theorem ok_fixed {C : Addr} (F : MtD K C "fixed" "Numbers.fixed" s_Numbers_fixed) : Met P w K mg base 1 C "fixed" (sp_fixed C) [] := by
  refine metOf F sc_Numbers_fixed (fun _ _ _ _ _ _ us hl => match us, hl with | [_, _], _ => rfl) (fun vs H Q E h => ?_) (fun cdv f A outer s H vs Q E hr h => ?_)
  · obtain ⟨_, _, rfl, _⟩ := h
    rfl
  · obtain ⟨a, v, rfl, k⟩ := h
    refine ⟨_, (pss_one (ps_ret (pv 1))), ?_⟩
    exact ⟨_, rfl, k⟩
def sp_self (sp : Sp) : Sp := fun vs H Q E => ∃ (a : Addr) (us : List V), vs = .ref a :: us ∧ us.length = 2 ∧ sp us H Q E
theorem ok_mean {C : Addr} (F : MtD K C "mean" "Numbers.mean" s_Numbers_mean) (c_mean_of : Cal P w K mg base 3 "mean_of" (sp_mean_of K) []) : Met P w K mg base 4 C "mean" (sp_self (sp_mean_of K)) [] := by
  refine metOf F sc_Numbers_mean (fun _ _ _ _ _ _ us hl => match us, hl with | [_, _, _], _ => rfl) (fun vs H Q E h => ?_) (fun cdv f A outer s H vs Q E hr h => ?_)
  · obtain ⟨_, us, rfl, hl, _⟩ := h
    rw [List.length_cons, hl]
    rfl
  · obtain ⟨a, us, rfl, hl, a1, a2, vs2, L, rfl, h⟩ := h
    refine ⟨_, (pss_one (ps_ret (pe_c c_mean_of hr (by first | decide | omega) rfl (pa_cons (pv 1) (pa_cons (pv 2) pa_nil))))), ?_⟩
    exact ⟨_, rfl, _, rfl, a1, a2, vs2, L, rfl, h⟩
theorem ok_nlesser {C : Addr} (F : MtD K C "lesser" "Numbers.lesser" s_Numbers_lesser) (c_lesser_amounts : Cal P w K mg base 2 "lesser_amounts" (sp_lesser K) []) : Met P w K mg base 3 C "lesser" (sp_self (sp_lesser K)) [] := by
  refine metOf F sc_Numbers_lesser (fun _ _ _ _ _ _ us hl => match us, hl with | [_, _, _], _ => rfl) (fun vs H Q E h => ?_) (fun cdv f A outer s H vs Q E hr h => ?_)
  · obtain ⟨_, us, rfl, hl, _⟩ := h
    rw [List.length_cons, hl]
    rfl
  · obtain ⟨a, us, rfl, hl, v1, v2, x, y, m, n, rfl, h⟩ := h
    refine ⟨_, (pss_one (ps_ret (pe_c c_lesser_amounts hr (by first | decide | omega) rfl (pa_cons (pv 1) (pa_cons (pv 2) pa_nil))))), ?_⟩
    exact ⟨_, rfl, _, rfl, v1, v2, x, y, m, n, rfl, h⟩
theorem ok_ngreater {C : Addr} (F : MtD K C "greater" "Numbers.greater" s_Numbers_greater) (c_greater_amounts : Cal P w K mg base 2 "greater_amounts" (sp_greater K) []) : Met P w K mg base 3 C "greater" (sp_self (sp_greater K)) [] := by
  refine metOf F sc_Numbers_greater (fun _ _ _ _ _ _ us hl => match us, hl with | [_, _, _], _ => rfl) (fun vs H Q E h => ?_) (fun cdv f A outer s H vs Q E hr h => ?_)
  · obtain ⟨_, us, rfl, hl, _⟩ := h
    rw [List.length_cons, hl]
    rfl
  · obtain ⟨a, us, rfl, hl, v1, v2, x, y, m, n, rfl, h⟩ := h
    refine ⟨_, (pss_one (ps_ret (pe_c c_greater_amounts hr (by first | decide | omega) rfl (pa_cons (pv 1) (pa_cons (pv 2) pa_nil))))), ?_⟩
    exact ⟨_, rfl, _, rfl, v1, v2, x, y, m, n, rfl, h⟩
/-! ### the least, the greatest, the k-th -/
theorem cut1 {v : V} {vs : List V} : cutV (v :: vs) (some 1) none = vs := by
  unfold cutV
  show ((v :: vs).drop (HT.sIx (v :: vs).length 0 (some ((1 : Nat) : Int)))).take ((v :: vs).length - HT.sIx (v :: vs).length 0 (some ((1 : Nat) : Int))) = vs
  rw [HT.sIx_nat, List.length_cons, Nat.min_eq_left (by omega)]
  show vs.take (vs.length + 1 - 1) = vs
  rw [Nat.add_sub_cancel, List.take_length]
def sp_pick (K : PySem.W.Frag) (C : Addr) (pick : List Rat → Rat) : Sp := fun vs H Q _ => ∃ (a b dx : Addr) (us : List V) (qs : List Rat), vs = [.ref a, .ref b] ∧ SqL K H a us ∧ H b = some (.ins C dx []) ∧ RQ K H us qs ∧ qs ≠ [] ∧ (∀ q ∈ qs, Sz 9000 q) ∧
  ∀ v H', Same H H' → RF K H' v (pick qs) → Q v H'
theorem sz_rmin {k : Nat} {a b : Rat} (h1 : Sz k a) (h2 : Sz k b) : Sz k (rmin a b) := by unfold rmin; split <;> assumption
theorem sz_rmax {k : Nat} {a b : Rat} (h1 : Sz k a) (h2 : Sz k b) : Sz k (rmax a b) := by unfold rmax; split <;> assumption
abbrev n_least_of : List Str := ["things", "ways", "found", "thing"]
theorem sc_least_of : FnScope ["things", "ways", "found", "thing"] ["things", "ways"] (defScope s_least_of) := ⟨rfl, rfl, rfl, by decide +kernel, rfl, by decide +kernel, by decide +kernel⟩
theorem ok_least_of {C : Addr} (F : FnD K mg "least_of" s_least_of) (m_lesser : Met P w K mg base 3 C "lesser" (sp_self (sp_lesser K)) []) : Cal P w K mg base 4 "least_of" (sp_pick K C minL) [] := by
  refine calOf F sc_least_of (fun _ _ _ _ _ _ us hl => match us, hl with | [_, _], _ => rfl) (fun vs H Q E h => ?_) (fun cdv f A outer s H vs Q E hr h => ?_)
  · obtain ⟨_, _, _, _, _, rfl, _⟩ := h
    rfl
  · obtain ⟨a, b, dx, us, qs, rfl, hS, hb, hu, hne, hz, k⟩ := h
    cases qs with
    | nil => exact absurd rfl hne
    | cons q qs =>
      obtain ⟨v, vs, rfl, rq, hv⟩ := RpAll.consI hu
      refine ⟨_, (pss_cons (ps_set (i := 2) sc_least_of.nd rfl (Or.inl rfl) (pe_ix ix_list (pv 0) pe_int (fun _ _ => rfl)))
    (pss_cons (ps_for PassesOwn.never rfl (pi_list (pe_slice sl_list (pv 0) (po_some pe_int) po_none)) (pg_name (i := 3) sc_least_of.nd rfl (Or.inl rfl)) (pss_one (ps_set (i := 2) sc_least_of.nd rfl (Or.inl rfl) (pe_mt m_lesser hr (by first | decide | omega) (pv 1) (pa_cons (pv 2) (pa_cons (pv 3) pa_nil))))))
    (pss_one (ps_ret (pv 2))))), ?_⟩
      refine ⟨_, rfl, a, _, 0, v, rfl, rfl, hS, at_of (j := 0) rfl rfl, ?_⟩
      refine ⟨_, rfl, _, rfl, a, _, rfl, hS, fun p hp => ?_⟩
      rw [cut1]
      have s1 := same_new (o := .lst vs) hp
      refine ⟨p, rfl, ⟨_, SqL.of upd_same⟩, for_list (K := K) (a := p) (xs := vs) (fun i σ H' => ∃ (x : V) (y : Option V), σ = [some (.ref a), some (.ref b), some x, y] ∧ RF K H' x ((qs.take i).foldl rmin q) ∧ Sz 9000 ((qs.take i).foldl rmin q) ∧ Same (upd H p (.lst vs)) H')
        ⟨v, none, rfl, (PF.of rq).mono (Same.kt s1), hz q List.mem_cons_self, Same.refl _⟩ (fun i σ H' _ ⟨_, _, _, _, _, s5⟩ => s5.seq (SqL.of upd_same)) ?_ ?_⟩
      · rintro i y σ H' hi ⟨x, _, rfl, r1, z1, s5⟩
        obtain ⟨q2, e2, r2⟩ := RQ.getV (qs := qs) hv hi
        have zq := hz q2 (List.mem_cons_of_mem _ (List.mem_of_getElem? e2))
        have tk := take_succ' e2
        refine ⟨_, rfl, b, dx, [], rfl, s5 _ _ (s1 _ _ hb), rfl, _, rfl, _, rfl, b, [x, y], rfl, rfl, x, y, _, q2, 9000, 9000, rfl, r1, r2.mono (Same.kt (s1.trans s5)), z1, zq, by omega, fun v3 r3 => ?_⟩
        refine ⟨v3, _, rfl, ?_, ?_, s5⟩
        · rw [tk, List.foldl_append]
          exact r3
        · rw [tk, List.foldl_append]
          exact sz_rmin z1 zq
      · rintro σ H' ⟨x, _, rfl, r1, z1, s5⟩
        have hl : vs.length = qs.length := RQ.length (qs := qs) hv
        rw [hl, List.take_length] at r1
        exact ⟨_, rfl, k x H' (s1.trans s5) r1⟩
abbrev n_greatest_of : List Str := ["things", "ways", "found", "thing"]
theorem sc_greatest_of : FnScope ["things", "ways", "found", "thing"] ["things", "ways"] (defScope s_greatest_of) := ⟨rfl, rfl, rfl, by decide +kernel, rfl, by decide +kernel, by decide +kernel⟩
theorem ok_greatest_of {C : Addr} (F : FnD K mg "greatest_of" s_greatest_of) (m_greater : Met P w K mg base 3 C "greater" (sp_self (sp_greater K)) []) : Cal P w K mg base 4 "greatest_of" (sp_pick K C maxL) [] := by
  refine calOf F sc_greatest_of (fun _ _ _ _ _ _ us hl => match us, hl with | [_, _], _ => rfl) (fun vs H Q E h => ?_) (fun cdv f A outer s H vs Q E hr h => ?_)
  · obtain ⟨_, _, _, _, _, rfl, _⟩ := h
    rfl
  · obtain ⟨a, b, dx, us, qs, rfl, hS, hb, hu, hne, hz, k⟩ := h
    cases qs with
    | nil => exact absurd rfl hne
    | cons q qs =>
      obtain ⟨v, vs, rfl, rq, hv⟩ := RpAll.consI hu
      refine ⟨_, (pss_cons (ps_set (i := 2) sc_greatest_of.nd rfl (Or.inl rfl) (pe_ix ix_list (pv 0) pe_int (fun _ _ => rfl)))
    (pss_cons (ps_for PassesOwn.never rfl (pi_list (pe_slice sl_list (pv 0) (po_some pe_int) po_none)) (pg_name (i := 3) sc_greatest_of.nd rfl (Or.inl rfl)) (pss_one (ps_set (i := 2) sc_greatest_of.nd rfl (Or.inl rfl) (pe_mt m_greater hr (by first | decide | omega) (pv 1) (pa_cons (pv 2) (pa_cons (pv 3) pa_nil))))))
    (pss_one (ps_ret (pv 2))))), ?_⟩
      refine ⟨_, rfl, a, _, 0, v, rfl, rfl, hS, at_of (j := 0) rfl rfl, ?_⟩
      refine ⟨_, rfl, _, rfl, a, _, rfl, hS, fun p hp => ?_⟩
      rw [cut1]
      have s1 := same_new (o := .lst vs) hp
      refine ⟨p, rfl, ⟨_, SqL.of upd_same⟩, for_list (K := K) (a := p) (xs := vs) (fun i σ H' => ∃ (x : V) (y : Option V), σ = [some (.ref a), some (.ref b), some x, y] ∧ RF K H' x ((qs.take i).foldl rmax q) ∧ Sz 9000 ((qs.take i).foldl rmax q) ∧ Same (upd H p (.lst vs)) H')
        ⟨v, none, rfl, (PF.of rq).mono (Same.kt s1), hz q List.mem_cons_self, Same.refl _⟩ (fun i σ H' _ ⟨_, _, _, _, _, s5⟩ => s5.seq (SqL.of upd_same)) ?_ ?_⟩
      · rintro i y σ H' hi ⟨x, _, rfl, r1, z1, s5⟩
        obtain ⟨q2, e2, r2⟩ := RQ.getV (qs := qs) hv hi
        have zq := hz q2 (List.mem_cons_of_mem _ (List.mem_of_getElem? e2))
        have tk := take_succ' e2
        refine ⟨_, rfl, b, dx, [], rfl, s5 _ _ (s1 _ _ hb), rfl, _, rfl, _, rfl, b, [x, y], rfl, rfl, x, y, _, q2, 9000, 9000, rfl, r1, r2.mono (Same.kt (s1.trans s5)), z1, zq, by omega, fun v3 r3 => ?_⟩
        refine ⟨v3, _, rfl, ?_, ?_, s5⟩
        · rw [tk, List.foldl_append]
          exact r3
        · rw [tk, List.foldl_append]
          exact sz_rmax z1 zq
      · rintro σ H' ⟨x, _, rfl, r1, z1, s5⟩
        have hl : vs.length = qs.length := RQ.length (qs := qs) hv
        rw [hl, List.take_length] at r1
        exact ⟨_, rfl, k x H' (s1.trans s5) r1⟩
abbrev n_kth_greatest : List Str := ["k", "things", "ways", "_", "top", "left", "thing"]
theorem sc_kth_greatest : FnScope ["k", "things", "ways", "_", "top", "left", "thing"] ["k", "things", "ways"] (defScope s_kth_greatest) := ⟨rfl, rfl, rfl, by decide +kernel, rfl, by decide +kernel, by decide +kernel⟩
theorem bub_snoc (x : Rat) : ∀ (l : List Rat) (t : Rat), bub t (l ++ [x]) = ((bub t l).1 ++ [rmin (bub t l).2 x], rmax (bub t l).2 x)
  | [], t => rfl
  | y :: l, t => by
    have ih := bub_snoc x l (rmax t y)
    show (rmin t y :: (bub (rmax t y) (l ++ [x])).1, (bub (rmax t y) (l ++ [x])).2) = _
    rw [ih]
    rfl
def itB : Nat → List Rat → List Rat
  | 0, l => l
  | i + 1, l => bubL (itB i l)
theorem itB_in : ∀ (i : Nat) (l : List Rat), itB i (bubL l) = bubL (itB i l)
  | 0, l => rfl
  | i + 1, l => by show bubL (itB i (bubL l)) = bubL (bubL (itB i l)); rw [itB_in i l]
theorem kthG_itB : ∀ (k : Nat) (l : List Rat), kthG k l = maxL (itB k l)
  | 0, l => rfl
  | k + 1, l => by show kthG k (bubL l) = maxL (bubL (itB k l)); rw [kthG_itB k, itB_in]
theorem itB_length : ∀ (i : Nat) (l : List Rat), (itB i l).length = l.length - i
  | 0, l => rfl
  | i + 1, l => by show (bubL (itB i l)).length = _; rw [bubL_length, itB_length i l]; omega
theorem bubL_mem {l : List Rat} {x : Rat} (h : x ∈ bubL l) : x ∈ l := by
  cases l with
  | nil => cases h
  | cons y l => exact (bub_perm l y).mem_iff.mp (List.mem_append_left _ h)
theorem itB_mem : ∀ (i : Nat) {l : List Rat} {x : Rat}, x ∈ itB i l → x ∈ l
  | 0, _, _, h => h
  | i + 1, _, _, h => itB_mem i (bubL_mem h)
def sp_kth (K : PySem.W.Frag) (C : Addr) : Sp := fun vs H Q _ => ∃ (a b dx : Addr) (us : List V) (qs : List Rat) (k : Nat), vs = [.int ((k : Int) + 1), .ref a, .ref b] ∧ SqL K H a us ∧ H b = some (.ins C dx []) ∧ RQ K H us qs ∧ k < qs.length ∧ qs.length ≤ 8 ∧ (∀ q ∈ qs, Sz 9000 q) ∧
  ∀ v H', Same H H' → RF K H' v (kthG k qs) → Q v H'
theorem ok_kth_greatest {C : Addr} (F : FnD K mg "kth_greatest" s_kth_greatest) (m_lesser : Met P w K mg base 3 C "lesser" (sp_self (sp_lesser K)) []) (m_greater : Met P w K mg base 3 C "greater" (sp_self (sp_greater K)) []) (c_greatest_of : Cal P w K mg base 4 "greatest_of" (sp_pick K C maxL) [])
    (T_range : mg "range" = none) : Cal P w K mg base 5 "kth_greatest" (sp_kth K C) [] := by
  refine calOf F sc_kth_greatest (fun _ _ _ _ _ _ us hl => match us, hl with | [_, _, _], _ => rfl) (fun vs H Q E h => ?_) (fun cdv f A outer s H vs Q E hr h => ?_)
  · obtain ⟨_, _, _, _, _, _, rfl, _⟩ := h
    rfl
  · obtain ⟨a, b, dx, us, qs, k, rfl, hS, hb, hu, hk, hl8, hz, kk⟩ := h
    refine ⟨_, (pss_cons (ps_for PassesOwn.never rfl (pi_range1 (by rfl) T_range (pa_cons (pe_op op_sub (pv 0) pe_int) pa_nil)) (pg_name (i := 3) sc_kth_greatest.nd rfl (Or.inl rfl)) (pss_cons (ps_set (i := 4) sc_kth_greatest.nd rfl (Or.inl rfl) (pe_ix ix_list (pv 1) pe_int (fun _ _ => rfl)))
    (pss_cons (ps_set (i := 5) sc_kth_greatest.nd rfl (Or.inl rfl) (pe_lst pa_nil))
    (pss_cons (ps_for PassesOwn.never rfl (pi_list (pe_slice sl_list (pv 1) (po_some pe_int) po_none)) (pg_name (i := 6) sc_kth_greatest.nd rfl (Or.inl rfl)) (pss_cons (ps_expr (pe_bm PySem.F.plainAttrs_list PySem.F.slot_list_append PySem.F.type_list_append mt_append (pv 5) (pa_cons (pe_mt m_lesser hr (by first | decide | omega) (pv 2) (pa_cons (pv 4) (pa_cons (pv 6) pa_nil))) pa_nil)))
    (pss_one (ps_set (i := 4) sc_kth_greatest.nd rfl (Or.inl rfl) (pe_mt m_greater hr (by first | decide | omega) (pv 2) (pa_cons (pv 4) (pa_cons (pv 6) pa_nil)))))))
    (pss_one (ps_set (i := 1) sc_kth_greatest.nd rfl (Or.inl rfl) (pv 5)))))))
    (pss_one (ps_ret (pe_c c_greatest_of hr (by first | decide | omega) rfl (pa_cons (pv 1) (pa_cons (pv 2) pa_nil)))))), ?_⟩
    have ek : (k : Int) + 1 - 1 = (k : Int) := by omega
    refine ⟨_, rfl, _, _, rfl, rfl, _, rfl, by show -(2 ^ 62) ≤ (k : Int) + 1 - 1; omega, by show (k : Int) + 1 - 1 < 2 ^ 62; omega, ?_⟩
    refine for_range (lo := 0) (n := ((k : Int) + 1 - 1).toNat) (fun i σ H' => ∃ (a' : Addr) (us' : List V) (x y z u : Option V), σ = [some (.int ((k : Int) + 1)), some (.ref a'), some (.ref b), x, y, z, u] ∧ SqL K H' a' us' ∧ RQ K H' us' (itB i qs) ∧ Same H H')
      ⟨a, us, none, none, none, none, rfl, hS, hu, Same.refl _⟩ ?_ ?_
    · rintro i σ H1 hi ⟨a', us', _, _, _, _, rfl, hS1, hu1, s1⟩
      have hi' : i < k := by omega
      have il := itB_length i qs
      have zi : ∀ q ∈ itB i qs, Sz 9000 q := fun q h => hz q (itB_mem i h)
      cases eq : itB i qs with
      | nil =>
        rw [eq] at il
        simp at il
        omega
      | cons q qs' =>
        rw [eq] at hu1 zi il
        obtain ⟨v, vs, rfl, rq, hv⟩ := RpAll.consI hu1
        have hvl : vs.length = qs'.length := RQ.length (qs := qs') hv
        rw [List.length_cons] at il
        refine ⟨_, rfl, a', _, 0, v, rfl, rfl, hS1, at_of (j := 0) rfl rfl, ?_⟩
        refine ⟨Nat.zero_le _, fun l hl => ?_⟩
        have s2 := same_new (o := .lst []) hl
        refine ⟨_, rfl, _, rfl, a', _, rfl, s2.seq hS1, fun p hp => ?_⟩
        rw [cut1]
        have s3 := same_new (o := .lst vs) hp
        have nlp : l ≠ p := ne_of_none upd_same hp
        have hbq := hv
        refine ⟨p, rfl, ⟨_, SqL.of upd_same⟩, for_list (K := K) (a := p) (xs := vs) (fun j σ H' => ∃ (x : V) (u : Option V) (ys : List V), σ = [some (.int ((k : Int) + 1)), some (.ref a'), some (.ref b), some (.int (0 + (i : Int))), some x, some (.ref l), u] ∧ H' l = some (.lst ys) ∧ RQ K H' ys (bub q (qs'.take j)).1 ∧
            RF K H' x (bub q (qs'.take j)).2 ∧ Sz 9000 (bub q (qs'.take j)).2 ∧ Same H1 H' ∧ H' p = some (.lst vs) ∧ KT H1 H')
          ⟨v, _, [], rfl, by rw [upd_ne nlp]; exact upd_same, .nil, (PF.of rq).mono (Same.kt (s2.trans s3)), zi q List.mem_cons_self, s2.trans s3, upd_same, Same.kt (s2.trans s3)⟩ (fun j σ H' _ ⟨_, _, _, _, _, _, _, _, _, g, _⟩ => SqL.of g) ?_ ?_⟩
        · rintro j y σ H' hj ⟨x, _, ys, rfl, g1, g2, g3, g4, g5, g6, g7⟩
          obtain ⟨q2, e2, r2⟩ := RQ.getV (qs := qs') hv hj
          have zq := zi q2 (List.mem_cons_of_mem _ (List.mem_of_getElem? e2))
          have bs := bub_snoc q2 (qs'.take j) q
          have tk := take_succ' e2
          have ry := r2.mono g7
          have hj2 := (List.getElem?_eq_some_iff.mp hj).1
          have yl : ys.length ≤ 8 := by rw [RQ.length g2, bub_length, List.length_take]; omega
          have hb1 := g5 _ _ (s1 _ _ hb)
          refine ⟨_, rfl, .inl ⟨rfl, _, SqL.of g1⟩, _, rfl, b, dx, [], rfl, hb1, rfl, _, rfl, _, rfl, b, [x, y], rfl, rfl, x, y, _, q2, 9000, 9000, rfl, g3, ry, g4, zq, by omega, fun v3 r3 => ?_⟩
          refine ⟨l, ys, _, rfl, rfl, g1, small1000 (by omega), ?_⟩
          have hbl : b ≠ l := ne_of hb1 g1 (by intro z; cases z)
          refine ⟨_, rfl, b, dx, [], rfl, by rw [upd_ne hbl]; exact hb1, rfl, _, rfl, _, rfl, b, [x, y], rfl, rfl, x, y, _, q2, 9000, 9000, rfl, g3.mono (KT.updl g1), ry.mono (KT.updl g1), g4, zq, by omega, fun v4 r4 => ?_⟩
          refine ⟨v4, _, ys ++ [v3], rfl, upd_same, ?_, ?_, ?_, Same.mut g5 hl, by rw [upd_ne nlp.symm]; exact g6, g7.trans (KT.updl g1)⟩
          · rw [tk, bs]
            exact RpAll.mono (KT.updl g1) (RQ.snoc g2 r3)
          · rw [tk, bs]
            exact r4
          · rw [tk, bs]
            exact sz_rmax g4 zq
        · rintro σ H' ⟨x, _, ys, rfl, g1, g2, g3, g4, g5, g6, g7⟩
          rw [hvl, List.take_length] at g2
          refine ⟨_, rfl, l, ys, _, _, _, _, rfl, SqL.of g1, ?_, s1.trans g5⟩
          show RQ K H' ys (bubL (itB i qs))
          rw [eq]
          exact g2
    · rintro σ H1 ⟨a', us', _, _, _, _, rfl, hS1, hu1, s1⟩
      have en : ((k : Int) + 1 - 1).toNat = k := by omega
      rw [en] at hu1
      have il := itB_length k qs
      refine ⟨_, rfl, _, rfl, a', b, dx, us', itB k qs, rfl, hS1, s1 _ _ hb, hu1, ?_, fun q h => hz q (itB_mem k h), fun v H' s2 r => ?_⟩
      · intro e
        rw [e] at il
        simp at il
        omega
      · rw [← kthG_itB] at r
        exact kk v H' (s1.trans s2) r
end
end CB

set_option Elab.async false
set_option linter.all false
set_option maxRecDepth 100000
set_option maxHeartbeats 4000000
namespace CB
open PySem PySem.Spec PyProof.Rows L2
open C8 (Cal Met Mak pe_c pe_mk pe_mt pe_mt0 pe_gc CalAt)
section
variable {P : Program} {w : World} {K : PySem.W.Frag} {mg : Str → Option Value} {base : Heap}
/-! ### the sizes of values -/
/-- the parts of a mean of terms -/
def mparts (s : Nat) (bs : List Rat) (ws : List Int) (ts : List Tm) : List MPart := List.zipWith (fun w t => (w, t.val bs, t.wt s)) ws ts
theorem mparts_ws (s : Nat) (bs : List Rat) : ∀ {ws : List Int} {ts : List Tm}, ws.length = ts.length → (mparts s bs ws ts).map (fun x => x.1) = ws
  | [], [], _ => rfl
  | w :: ws, t :: ts, h => by
    have ih := mparts_ws s bs (ws := ws) (ts := ts) (by simpa using h)
    show w :: (mparts s bs ws ts).map (fun x => x.1) = w :: ws
    rw [ih]
theorem mparts_qs (s : Nat) (bs : List Rat) : ∀ {ws : List Int} {ts : List Tm}, ws.length = ts.length → (mparts s bs ws ts).map (fun x => x.2.1) = Tm.vals bs ts
  | [], [], _ => rfl
  | w :: ws, t :: ts, h => by
    have ih := mparts_qs s bs (ws := ws) (ts := ts) (by simpa using h)
    show t.val bs :: (mparts s bs ws ts).map (fun x => x.2.1) = _
    rw [ih, Tm.vals]
theorem mparts_sz (s : Nat) (bs : List Rat) : ∀ {ws : List Int} {ts : List Tm}, ws.length = ts.length → wsz (mparts s bs ws ts) = Tm.wts s ts
  | [], [], _ => rfl
  | w :: ws, t :: ts, h => by
    have ih := mparts_sz s bs (ws := ws) (ts := ts) (by simpa using h)
    show (t.wt s + 8) + wsz (mparts s bs ws ts) = _
    rw [ih, Tm.wts]
theorem mparts_avg (s : Nat) (bs : List Rat) {ws : List Int} {ts : List Tm} (h : ws.length = ts.length) : wsum (mparts s bs ws ts) / ((wtot (mparts s bs ws ts) : Int) : Rat) = wavg ws (Tm.vals bs ts) := by
  have e1 : wtot (mparts s bs ws ts) = ws.sum := by
    unfold wtot
    rw [mparts_ws s bs h]
  have e2 : wsum (mparts s bs ws ts) = (List.zipWith (fun (w : Int) (q : Rat) => (w : Rat) * q) ws (Tm.vals bs ts)).sum := by
    clear e1
    induction ws generalizing ts with
    | nil =>
      cases ts with
      | nil => rfl
      | cons t ts => simp at h
    | cons w ws ih =>
      cases ts with
      | nil => simp at h
      | cons t ts =>
        have := ih (ts := ts) (by simpa using h)
        show wsum ((w, t.val bs, t.wt s) :: mparts s bs ws ts) = _
        rw [wsum_cons, this, Tm.vals]
        simp
  rw [e1, e2]
  rfl
theorem mparts_mem {s : Nat} {bs : List Rat} {ws : List Int} {ts : List Tm} {x : MPart} (h : x ∈ mparts s bs ws ts) : x.1 ∈ ws ∧ ∃ t ∈ ts, x.2 = (t.val bs, t.wt s) := by
  induction ws generalizing ts with
  | nil => cases h
  | cons w ws ih =>
    cases ts with
    | nil => cases h
    | cons t ts =>
      rcases List.mem_cons.mp (show x ∈ (w, t.val bs, t.wt s) :: mparts s bs ws ts from h) with e | e
      · subst e
        exact ⟨List.mem_cons_self, t, List.mem_cons_self, rfl⟩
      · obtain ⟨h1, u, h2, h3⟩ := ih e
        exact ⟨List.mem_cons_of_mem _ h1, u, List.mem_cons_of_mem _ h2, h3⟩
theorem mparts_length {s : Nat} {bs : List Rat} {ws : List Int} {ts : List Tm} (h : ws.length = ts.length) : (mparts s bs ws ts).length = ts.length := by
  unfold mparts
  rw [List.length_zipWith, h, Nat.min_self]
theorem minL_sz {k : Nat} {l : List Rat} (h : l ≠ []) (hz : ∀ q ∈ l, Sz k q) : Sz k (minL l) := hz _ (minL_mem h).1
theorem maxL_sz {k : Nat} {l : List Rat} (h : l ≠ []) (hz : ∀ q ∈ l, Sz k q) : Sz k (maxL l) := hz _ (maxL_mem h).1
theorem kthG_mem {k : Nat} {l : List Rat} (h : k < l.length) : kthG k l ∈ l := by
  have e := kthG_isort k l h
  exact (isort_perm l).mem_iff.mp (List.mem_of_getElem? e)
theorem vals_length (bs : List Rat) (ts : List Tm) : (Tm.vals bs ts).length = ts.length := by rw [vals_map, List.length_map]
theorem vals_ne {bs : List Rat} {ts : List Tm} (h : ts ≠ []) : Tm.vals bs ts ≠ [] := by
  intro e
  have := vals_length bs ts
  rw [e] at this
  exact h (List.eq_nil_of_length_eq_zero this.symm)
mutual
theorem val_sz {n s : Nat} {bs : List Rat} (hb : ∀ q ∈ bs, Sz s q) (hn : bs.length = n) : ∀ {t : Tm}, t.Ok n s → Sz (t.wt s) (t.val bs)
  | .bid p, h => by
    have hp : p < bs.length := by rw [hn]; exact h
    show Sz s (bs.getD p 0)
    rw [List.getD_eq_getElem?_getD, List.getElem?_eq_getElem hp]
    exact hb _ (List.getElem_mem hp)
  | .fixed q, h => h.2.2
  | .mean ws ts, h => by
    obtain ⟨wl, tne, tl, hw, ho⟩ := h
    have hz := vals_sz hb hn ho
    have z := wmean_sz (L := mparts s bs ws ts) (fun x hx => ?_) ?_ ?_
    · rw [mparts_avg s bs wl, mparts_sz s bs wl] at z
      exact z
    · obtain ⟨h1, t, h2, h3⟩ := mparts_mem hx
      have g := hw _ h1
      rw [MOk, h3]
      exact ⟨g.1, g.2, hz t h2⟩
    · intro e
      have := mparts_length (s := s) (bs := bs) wl
      rw [e] at this
      exact tne (List.eq_nil_of_length_eq_zero this.symm)
    · rw [mparts_length wl]
      exact tl
  | .least ts, h => by
    obtain ⟨tne, tl, ho⟩ := h
    have hz := vals_sz hb hn ho
    refine minL_sz (vals_ne tne) fun q hq => ?_
    rw [vals_map] at hq
    obtain ⟨t, ht, rfl⟩ := List.mem_map.mp hq
    exact (hz t ht).mono (by have := wts_mem (s := s) ht; show _ ≤ Tm.wts s ts; omega)
  | .greatest ts, h => by
    obtain ⟨tne, tl, ho⟩ := h
    have hz := vals_sz hb hn ho
    refine maxL_sz (vals_ne tne) fun q hq => ?_
    rw [vals_map] at hq
    obtain ⟨t, ht, rfl⟩ := List.mem_map.mp hq
    exact (hz t ht).mono (by have := wts_mem (s := s) ht; show _ ≤ Tm.wts s ts; omega)
  | .ranked k ts, h => by
    obtain ⟨k1, k2, tl, ho⟩ := h
    have hz := vals_sz hb hn ho
    have m := kthG_mem (k := k - 1) (l := Tm.vals bs ts) (by rw [vals_length]; omega)
    rw [vals_map] at m
    obtain ⟨t, ht, e⟩ := List.mem_map.mp m
    show Sz (Tm.wts s ts) (kthG (k - 1) (Tm.vals bs ts))
    rw [vals_map, ← e]
    exact (hz t ht).mono (by have := wts_mem (s := s) ht; omega)
  | .between lo hi t, h => by
    obtain ⟨n1, n2, hl, ho⟩ := h
    have z := val_sz hb hn ho
    show Sz (t.wt s + s + s) (rmax lo (rmin hi (t.val bs)))
    exact sz_rmax (n1.2.2.mono (by omega)) (sz_rmin (n2.2.2.mono (by omega)) (z.mono (by omega)))
theorem vals_sz {n s : Nat} {bs : List Rat} (hb : ∀ q ∈ bs, Sz s q) (hn : bs.length = n) : ∀ {ts : List Tm}, Tm.Oks n s ts → ∀ t ∈ ts, Sz (t.wt s) (t.val bs)
  | [], _, _, h => by cases h
  | u :: ts, ho, t, h => by
    rcases List.mem_cons.mp h with e | e
    · rw [e]
      exact val_sz hb hn ho.1
    · exact vals_sz hb hn ho.2 t e
end
abbrev n_worked : List Str := ["term", "bids", "ways", "word", "inner", "part", "weight", "_"]
theorem sc_worked : FnScope ["term", "bids", "ways", "word", "inner", "part", "weight", "_"] ["term", "bids", "ways"] (defScope s_worked) := ⟨rfl, rfl, rfl, by decide +kernel, rfl, by decide +kernel, by decide +kernel⟩
def Tm.word : Tm → Str
  | .bid _ => "bid"
  | .fixed _ => "fixed"
  | .mean _ _ => "mean"
  | .least _ => "least"
  | .greatest _ => "greatest"
  | .ranked _ _ => "ranked"
  | .between _ _ _ => "between"
theorem t_head {H : Hp} {v : V} {t : Tm} (h : Rp K H v t.data) : ∃ a r, v = .ref a ∧ SqT K H a (.str t.word :: r) := by
  cases t with
  | bid p => obtain ⟨a, rfl, ha⟩ := t_bid h; exact ⟨a, _, rfl, ha⟩
  | fixed q => obtain ⟨a, x, rfl, ha, _⟩ := t_fixed h; exact ⟨a, _, rfl, ha⟩
  | mean ws ts => obtain ⟨a, x, _, rfl, ha, _⟩ := t_mean h; exact ⟨a, _, rfl, ha⟩
  | least ts => obtain ⟨a, x, _, rfl, ha, _⟩ := t_least h; exact ⟨a, _, rfl, ha⟩
  | greatest ts => obtain ⟨a, x, _, rfl, ha, _⟩ := t_greatest h; exact ⟨a, _, rfl, ha⟩
  | ranked k ts => obtain ⟨a, x, _, rfl, ha, _⟩ := t_ranked h; exact ⟨a, _, rfl, ha⟩
  | between lo hi t => obtain ⟨a, x, y, z, rfl, ha, _⟩ := t_between h; exact ⟨a, _, rfl, ha⟩
theorem kids_wt {s : Nat} {t u : Tm} (h : u ∈ t.children) : u.wt s ≤ t.wt s := by
  cases t with
  | bid p => cases h
  | fixed q => cases h
  | mean ws ts => have h' : u ∈ ts := h; have := wts_mem (s := s) h'; show _ ≤ Tm.wts s ts + 12; omega
  | least ts => have h' : u ∈ ts := h; have := wts_mem (s := s) h'; show _ ≤ Tm.wts s ts; omega
  | greatest ts => have h' : u ∈ ts := h; have := wts_mem (s := s) h'; show _ ≤ Tm.wts s ts; omega
  | ranked k ts => have h' : u ∈ ts := h; have := wts_mem (s := s) h'; show _ ≤ Tm.wts s ts; omega
  | between lo hi t => rw [List.mem_singleton.mp h]; show _ ≤ t.wt s + s + s; omega
theorem kids_len {n s : Nat} {t : Tm} (h : t.Ok n s) : t.children.length ≤ 8 := by
  cases t with
  | bid p => exact Nat.zero_le _
  | fixed q => exact Nat.zero_le _
  | mean ws ts => exact h.2.2.1
  | least ts => exact h.2.1
  | greatest ts => exact h.2.1
  | ranked k ts => exact h.2.2.1
  | between lo hi t => show 1 ≤ 8; omega
/-- bids: a tuple of numbers -/
def Bids (K : PySem.W.Frag) (H : Hp) (ab : Addr) (n s : Nat) (bs : List Rat) : Prop := ∃ us, SqT K H ab us ∧ RQ K H us bs ∧ bs.length = n ∧ ∀ q ∈ bs, NumOk s q
theorem Bids.mono {H H' : Hp} {ab : Addr} {n s : Nat} {bs : List Rat} (h : Bids K H ab n s bs) (e : KT H H') : Bids K H' ab n s bs := by
  obtain ⟨us, h1, h2, h3, h4⟩ := h
  exact ⟨us, e.sq h1, RpAll.mono e h2, h3, h4⟩
def spW (K : PySem.W.Frag) (C : Addr) (D : Nat) : Sp := fun vs H Q _ => ∃ (v : V) (ab b dx : Addr) (n s : Nat) (bs : List Rat) (t : Tm), vs = [v, .ref ab, .ref b] ∧ Rp K H v t.data ∧ t.Ok n s ∧ s ≤ 9000 ∧ t.dep ≤ D ∧ t.wt s + 20 ≤ 9000 ∧ Bids K H ab n s bs ∧ H b = some (.ins C dx []) ∧
  ∀ v H', Same H H' → RF K H' v (t.val bs) → Q v H'
theorem ok_worked {C : Addr} (F : FnD K mg "worked" s_worked) (c_inner_terms : Cal P w K mg base 1 "inner_terms" (sp_inner_terms K) []) (m_fixed : Met P w K mg base 1 C "fixed" (sp_fixed C) []) (m_mean : Met P w K mg base 4 C "mean" (sp_self (sp_mean_of K)) [])
    (m_lesser : Met P w K mg base 3 C "lesser" (sp_self (sp_lesser K)) []) (m_greater : Met P w K mg base 3 C "greater" (sp_self (sp_greater K)) []) (c_least_of : Cal P w K mg base 4 "least_of" (sp_pick K C minL) []) (c_greatest_of : Cal P w K mg base 4 "greatest_of" (sp_pick K C maxL) [])
    (c_kth_greatest : Cal P w K mg base 5 "kth_greatest" (sp_kth K C) []) : ∀ D : Nat, Cal P w K mg base (D + 6) "worked" (spW K C D) [] := by
  intro D
  induction D with
  | zero => exact calOf (k := 5) F sc_worked (fun _ _ _ _ _ _ us hl => match us, hl with | [_, _, _], _ => rfl) (fun vs H Q E h => by obtain ⟨_, _, _, _, _, _, _, t, _, _, _, _, h, _⟩ := h; rw [dep_children t] at h; omega) (fun cdv f A outer s H vs Q E hr h => by obtain ⟨_, _, _, _, _, _, _, t, _, _, _, _, h, _⟩ := h; rw [dep_children t] at h; omega)
  | succ D ih =>
    have c_worked := ih
    refine calOf (k := D + 6) F sc_worked (fun _ _ _ _ _ _ us hl => match us, hl with | [_, _, _], _ => rfl) (fun vs H Q E h => ?_) (fun cdv f A outer s H vs Q E hr h => ?_)
    · obtain ⟨_, _, _, _, _, _, _, _, rfl, _⟩ := h
      rfl
    · obtain ⟨v, ab, b, dx, n, sz, bs, t, rfl, rt, ho, hsz, hdep, hwt, hB, hb, k⟩ := h
      have hdc := dep_children t
      have hno : ∀ f : Str, ([] : List (Str × V)).lookup f = none := fun _ => rfl
      obtain ⟨us, hB1, hB2, hB3, hB4⟩ := id hB
      refine ⟨_, (pss_cons (ps_set (i := 3) sc_worked.nd rfl (Or.inl rfl) (pe_ix ix_tup (pv 0) pe_int (fun _ _ => rfl)))
    (pss_cons (ps_if (pt_cmpR op_eq (pv 3) pe_str (nomark _)) (pss_one (ps_ret (pe_ix ix_tup (pv 1) (pe_ix ix_tup (pv 0) pe_int (fun _ _ => rfl)) (fun _ _ => rfl)))) pss_nil)
    (pss_cons (ps_if (pt_cmpR op_eq (pv 3) pe_str (nomark _)) (pss_one (ps_ret (pe_mt m_fixed hr (by first | decide | omega) (pv 2) (pa_cons (pe_ix ix_tup (pv 0) pe_int (fun _ _ => rfl)) pa_nil)))) pss_nil)
    (pss_cons (ps_setLc (i := 4) (own := [("part", 5)]) (by rfl) sc_worked.nd rfl rfl (sw_true rfl rfl rfl (by decide +kernel)) (pi_tup (pe_c c_inner_terms hr (by first | decide | omega) rfl (pa_cons (pv 0) pa_nil))) (blkOk_by (own := [("part", 5)]) (N := ["term", "bids", "ways", "word", "inner", "part", "weight", "_"]) (sc := defScope s_worked) (by decide +kernel)) (fun _ _ _ _ _ => (pg_name (i := 5) sc_worked.nd rfl (Or.inl rfl))) (fun _ _ _ _ _ => pts_nil) (fun _ _ _ _ _ => (pe_c c_worked hr (by first | decide | omega) rfl (pa_cons (pv 5) (pa_cons (pv 1) (pa_cons (pv 2) pa_nil))))))
    (pss_cons (ps_if (pt_cmpR op_eq (pv 3) pe_str (nomark _)) (pss_one (ps_ret (pe_mt m_mean hr (by first | decide | omega) (pv 2) (pa_cons (pe_lc (own := [("weight", 6), ("_", 7)]) (g := (gTup K 2 (gCons (gName 6) (gCons (gName 7) gNil)))) (by rfl) sc_worked.nd (pi_tup (pe_ix ix_tup (pv 0) pe_int (fun _ _ => rfl))) (blkOk_by (own := [("weight", 6), ("_", 7)]) (N := ["term", "bids", "ways", "word", "inner", "part", "weight", "_"]) (sc := defScope s_worked) (by decide +kernel)) (fun _ _ _ _ _ => (pg_tup rfl (pgs_cons (pg_name (i := 6) sc_worked.nd rfl (Or.inl rfl)) (pgs_cons (pg_name (i := 7) sc_worked.nd rfl (Or.inl rfl)) pgs_nil)))) (fun _ _ _ _ _ => pts_nil) (fun _ _ _ _ _ => (pv 6))) (pa_cons (pv 4) pa_nil))))) pss_nil)
    (pss_cons (ps_if (pt_cmpR op_eq (pv 3) pe_str (nomark _)) (pss_one (ps_ret (pe_mt m_greater hr (by first | decide | omega) (pv 2) (pa_cons (pe_mt m_fixed hr (by first | decide | omega) (pv 2) (pa_cons (pe_ix ix_tup (pv 0) pe_int (fun _ _ => rfl)) pa_nil)) (pa_cons (pe_mt m_lesser hr (by first | decide | omega) (pv 2) (pa_cons (pe_mt m_fixed hr (by first | decide | omega) (pv 2) (pa_cons (pe_ix ix_tup (pv 0) pe_int (fun _ _ => rfl)) pa_nil)) (pa_cons (pe_ix ix_list (pv 4) pe_int (fun _ _ => rfl)) pa_nil))) pa_nil))))) pss_nil)
    (pss_cons (ps_if (pt_cmpR op_eq (pv 3) pe_str (nomark _)) (pss_one (ps_ret (pe_c c_least_of hr (by first | decide | omega) rfl (pa_cons (pv 4) (pa_cons (pv 2) pa_nil))))) pss_nil)
    (pss_cons (ps_if (pt_cmpR op_eq (pv 3) pe_str (nomark _)) (pss_one (ps_ret (pe_c c_greatest_of hr (by first | decide | omega) rfl (pa_cons (pv 4) (pa_cons (pv 2) pa_nil))))) pss_nil)
    (pss_one (ps_ret (pe_c c_kth_greatest hr (by first | decide | omega) rfl (pa_cons (pe_ix ix_tup (pv 0) pe_int (fun _ _ => rfl)) (pa_cons (pv 4) (pa_cons (pv 2) pa_nil)))))))))))))), ?_⟩
      obtain ⟨a, r, rfl, ha⟩ := t_head rt
      refine ⟨_, rfl, _, _, _, _, rfl, rfl, ha, at_of (j := 0) rfl rfl, ?_⟩
      refine ⟨_, rfl, rfl, _, rfl, ite2 (fun c => ?_) (fun c1 => ?_)⟩
      · cases t with
        | bid p =>
          obtain ⟨a2, e, ha2⟩ := t_bid rt
          cases e
          have hp : p < bs.length := by rw [hB3]; exact ho
          obtain ⟨x, hx, rx⟩ := RQ.get hB2 (List.getElem?_eq_getElem hp)
          have ev : (Tm.bid p).val bs = bs[p] := by show bs.getD p 0 = _; rw [List.getD_eq_getElem?_getD, List.getElem?_eq_getElem hp]; rfl
          refine ⟨_, rfl, _, rfl, _, _, _, _, rfl, rfl, ha2, rfl, ab, us, _, x, rfl, rfl, hB1, at_of (j := p) rfl hx, k x _ (Same.refl _) ?_⟩
          rw [ev]
          exact rx
        | _ => exact absurd (of_decide_eq_true c) (by simp only [Tm.word]; decide +kernel)
      refine ⟨_, rfl, rfl, _, rfl, ite2 (fun c => ?_) (fun c2 => ?_)⟩
      · cases t with
        | fixed q =>
          obtain ⟨a2, x, e, ha2, hx⟩ := t_fixed rt
          cases e
          exact ⟨_, rfl, b, dx, [], rfl, hb, rfl, _, rfl, _, _, _, _, rfl, rfl, ha2, rfl, b, x, rfl, k x _ (Same.refl _) hx⟩
        | _ => exact absurd (of_decide_eq_true c) (by simp only [Tm.word]; decide +kernel)
      -- what comes of the terms within
      refine ⟨_, rfl, _, t, rfl, rt, mean_of_ok ho, fun p ws H1 s1 hp hw => ⟨p, rfl, ⟨_, hp⟩, fun L hL => ?_⟩⟩
      have kl := kids_len ho
      have hwl : ws.length = t.children.length := RTs.length hw
      refine it_tup (K := K) (a := p) (xs := ws) (fun i H' => ∃ zs : List V, H' L = some (.lst zs) ∧ RQ K H' zs (Tm.vals bs (t.children.take i)) ∧ Same H1 H')
        ⟨[], upd_same, by rw [List.take_zero]; exact .nil, same_new hL⟩ (fun i H' ⟨_, _, _, s5⟩ => (Same.kt s5).sq hp) ?_ ?_
      · rintro i x H' hx ⟨zs, g1, g2, g3⟩
        obtain ⟨u, hu, ru⟩ := RTs.getV hw hx
        have mu := List.mem_of_getElem? hu
        have ud := deps_mem mu
        have uw := kids_wt (s := sz) mu
        have zl : zs.length ≤ 8 := by rw [RQ.length g2, vals_length, List.length_take]; omega
        have kt := Same.kt (s1.trans g3)
        refine ⟨rfl, _, rfl, _, rfl, _, rfl, x, ab, b, dx, n, sz, bs, u, rfl, ru.mono (Same.kt g3), (oks_iff _ _ _).mp (ok_children ho) u mu, hsz, by omega, by omega, hB.mono kt, (s1.trans g3) _ _ hb, fun y H2 s2 ry => ?_⟩
        refine ⟨zs, s2 _ _ g1, small1000 (by omega), zs ++ [y], upd_same, ?_, Same.mut (g3.trans s2) hL⟩
        have e1 : Tm.vals bs (t.children.take (i + 1)) = Tm.vals bs (t.children.take i) ++ [u.val bs] := by
          rw [take_succ' hu, vals_map, vals_map, List.map_append]
          rfl
        rw [e1]
        exact RpAll.mono (KT.updl (s2 _ _ g1)) (RQ.snoc (RpAll.mono (Same.kt s2) g2) ry)
      · rintro H2 ⟨zs, g1, g2, g3⟩
        rw [hwl, List.take_length] at g2
        have s2 := s1.trans g3
        have hb2 := s2 _ _ hb
        have hz : ∀ q ∈ Tm.vals bs t.children, Sz 9000 q := by
          intro q hq
          rw [vals_map] at hq
          obtain ⟨u, hu, rfl⟩ := List.mem_map.mp hq
          have z := val_sz (fun q h => (hB4 q h).2.2) hB3 ((oks_iff _ _ _).mp (ok_children ho) u hu)
          have uw := kids_wt (s := sz) hu
          exact z.mono (by omega)
        cases t with
        | bid p => exact absurd (decide_eq_true rfl) c1
        | fixed q => exact absurd (decide_eq_true rfl) c2
        | mean ws2 ts =>
          obtain ⟨wl, tne, tl, hwb, hob⟩ := ho
          refine ⟨_, rfl, rfl, _, rfl, ite2 (fun _ => ?_) (fun c => absurd (decide_eq_true rfl) c)⟩
          obtain ⟨a2, b2, us2, e, ha2, hb3, hu2⟩ := t_mean rt
          cases e
          have ha3 := (Same.kt s2).sq ha2
          have hb4 := (Same.kt s2).sq hb3
          have hu3 := RpAll.mono (Same.kt s2) hu2
          have ul : us2.length = ts.length := by rw [hu2.length, meanD_length _ _ (by rw [datas_map, List.length_map]; exact wl), datas_map, List.length_map]
          refine ⟨_, rfl, b, dx, [], rfl, hb2, rfl, _, rfl, _, _, _, _, rfl, rfl, ha3, rfl, b2, rfl, ⟨_, hb4⟩, fun M hM => ?_⟩
          refine it_tup (K := K) (a := b2) (xs := us2) (fun i H' => H' M = some (.lst ((ws2.take i).map V.int)) ∧ Same H2 H')
            ⟨by rw [List.take_zero]; exact upd_same, same_new hM⟩ (fun i H' ⟨_, s5⟩ => (Same.kt s5).sq hb4) ?_ ?_
          · rintro i x H' hx ⟨q1, q2⟩
            obtain ⟨c, z, t, y, rfl, e1, e2, p1, p2⟩ := mean_part hu3 hx
            have hi := (List.getElem?_eq_some_iff.mp hx).1
            refine ⟨c, _, rfl, (Same.kt q2).sq p1, rfl, _, _, rfl, _, _, rfl, rfl, rfl, _, rfl, _, q1, by rw [List.length_map, List.length_take]; exact small1000 (by omega), ?_, Same.mut q2 hM⟩
            rw [take_succ' e1, List.map_append]
            exact upd_same
          · rintro H3 ⟨q1, q2⟩
            rw [ul, ← wl, List.take_length] at q1
            have nML : L ≠ M := ne_of_none g1 hM
            refine ⟨_, rfl, b, [.ref M, .ref L], rfl, rfl, M, L, zs, mparts sz bs ws2 ts, rfl, ?_, SqL.of (q2 _ _ g1), ?_, ?_, ?_, by rw [mparts_length wl]; exact tl, ?_, fun v H4 s4 r4 _ => ?_⟩
            · have e1 : (mparts sz bs ws2 ts).map (fun x => V.int x.1) = ws2.map V.int := by
                have e0 := congrArg (List.map V.int) (mparts_ws sz bs wl)
                rw [List.map_map] at e0
                exact e0
              rw [e1]
              exact SqL.of q1
            · have e1 : (mparts sz bs ws2 ts).map (fun x => qd x.2.1) = (Tm.vals bs ts).map qd := by
                have e0 := congrArg (List.map qd) (mparts_qs sz bs wl)
                rw [List.map_map] at e0
                exact e0
              rw [e1]
              exact RpAll.mono (Same.kt q2) g2
            · intro e
              have := mparts_length (s := sz) (bs := bs) wl
              rw [e] at this
              exact tne (List.eq_nil_of_length_eq_zero this.symm)
            · intro x hx
              obtain ⟨h1, t, h2, h3⟩ := mparts_mem hx
              have g := hwb _ h1
              rw [MOk, h3]
              exact ⟨g.1, g.2, vals_sz (fun q h => (hB4 q h).2.2) hB3 hob t h2⟩
            · rw [mparts_sz sz bs wl]
              have : Tm.wts sz ts + 12 + 20 ≤ 9000 := hwt
              omega
            · rw [mparts_avg sz bs wl] at r4
              exact k v H4 ((s2.trans q2).trans s4) r4
        | least ts =>
          refine ⟨_, rfl, rfl, _, rfl, ite2 (fun c => absurd (of_decide_eq_true c) (by simp only [Tm.word]; decide +kernel)) (fun _ => ?_)⟩
          refine ⟨_, rfl, rfl, _, rfl, ite2 (fun c => absurd (of_decide_eq_true c) (by simp only [Tm.word]; decide +kernel)) (fun _ => ?_)⟩
          refine ⟨_, rfl, rfl, _, rfl, ite2 (fun _ => ?_) (fun c => absurd (decide_eq_true rfl) c)⟩
          exact ⟨_, rfl, _, rfl, L, b, dx, zs, Tm.vals bs ts, rfl, SqL.of g1, hb2, g2, vals_ne ho.1, hz, fun v H3 s3 r3 => k v H3 (s2.trans s3) r3⟩
        | greatest ts =>
          refine ⟨_, rfl, rfl, _, rfl, ite2 (fun c => absurd (of_decide_eq_true c) (by simp only [Tm.word]; decide +kernel)) (fun _ => ?_)⟩
          refine ⟨_, rfl, rfl, _, rfl, ite2 (fun c => absurd (of_decide_eq_true c) (by simp only [Tm.word]; decide +kernel)) (fun _ => ?_)⟩
          refine ⟨_, rfl, rfl, _, rfl, ite2 (fun c => absurd (of_decide_eq_true c) (by simp only [Tm.word]; decide +kernel)) (fun _ => ?_)⟩
          refine ⟨_, rfl, rfl, _, rfl, ite2 (fun _ => ?_) (fun c => absurd (decide_eq_true rfl) c)⟩
          exact ⟨_, rfl, _, rfl, L, b, dx, zs, Tm.vals bs ts, rfl, SqL.of g1, hb2, g2, vals_ne ho.1, hz, fun v H3 s3 r3 => k v H3 (s2.trans s3) r3⟩
        | ranked kk ts =>
          obtain ⟨k1, k2, tl, hob⟩ := ho
          refine ⟨_, rfl, rfl, _, rfl, ite2 (fun c => absurd (of_decide_eq_true c) (by simp only [Tm.word]; decide +kernel)) (fun _ => ?_)⟩
          refine ⟨_, rfl, rfl, _, rfl, ite2 (fun c => absurd (of_decide_eq_true c) (by simp only [Tm.word]; decide +kernel)) (fun _ => ?_)⟩
          refine ⟨_, rfl, rfl, _, rfl, ite2 (fun c => absurd (of_decide_eq_true c) (by simp only [Tm.word]; decide +kernel)) (fun _ => ?_)⟩
          refine ⟨_, rfl, rfl, _, rfl, ite2 (fun c => absurd (of_decide_eq_true c) (by simp only [Tm.word]; decide +kernel)) (fun _ => ?_)⟩
          obtain ⟨a2, b2, us2, e, ha2, _, _⟩ := t_ranked rt
          cases e
          have ek : (kk : Int) = ((kk - 1 : Nat) : Int) + 1 := by omega
          refine ⟨_, rfl, _, _, _, _, rfl, rfl, (Same.kt s2).sq ha2, rfl, _, rfl, _, rfl, L, b, dx, zs, Tm.vals bs ts, kk - 1, congrArg (fun z => [V.int z, V.ref L, V.ref b]) ek, SqL.of g1, hb2, g2, by rw [vals_length]; omega, by rw [vals_length]; exact tl, hz, fun v H3 s3 r3 => k v H3 (s2.trans s3) r3⟩
        | between lo hi t =>
          obtain ⟨n1, n2, hl, hob⟩ := ho
          obtain ⟨a2, x, y, z, e, ha2, rx, ry, rz⟩ := t_between rt
          cases e
          have ha3 := (Same.kt s2).sq ha2
          refine ⟨_, rfl, rfl, _, rfl, ite2 (fun c => absurd (of_decide_eq_true c) (by simp only [Tm.word]; decide +kernel)) (fun _ => ?_)⟩
          refine ⟨_, rfl, rfl, _, rfl, ite2 (fun _ => ?_) (fun c => absurd (decide_eq_true rfl) c)⟩
          obtain ⟨x0, xs0, rfl, r0, rn⟩ := RpAll.consI (show RpAll K H2 zs (qd (t.val bs) :: []) from g2)
          have rf0 := PF.of r0
          have z0 := hz (t.val bs) List.mem_cons_self
          refine ⟨_, rfl, b, dx, [], rfl, hb2, rfl, _, rfl, b, dx, [], rfl, hb2, rfl, _, rfl, _, _, _, _, rfl, rfl, ha3, rfl, b, x, rfl, ?_⟩
          refine ⟨_, rfl, b, dx, [], rfl, hb2, rfl, _, rfl, b, dx, [], rfl, hb2, rfl, _, rfl, _, _, _, _, rfl, rfl, ha3, rfl, b, y, rfl, ?_⟩
          refine ⟨_, rfl, L, _, 0, x0, rfl, rfl, SqL.of g1, at_of (j := 0) rfl rfl, b, [y, x0], rfl, rfl, y, x0, hi, t.val bs, 9000, 9000, rfl, ry.mono (Same.kt s2), rf0, n2.2.2.mono (by omega), z0, by omega, fun v1 r1 => ?_⟩
          exact ⟨b, [x, v1], rfl, rfl, x, v1, lo, _, 9000, 9000, rfl, rx.mono (Same.kt s2), r1, n1.2.2.mono (by omega), sz_rmin (n2.2.2.mono (by omega)) z0, by omega, fun v2 r2 => k v2 H2 s2 r2⟩
end
end CB

set_option Elab.async false
set_option linter.all false
set_option maxRecDepth 100000
set_option maxHeartbeats 2000000
namespace CB
open PySem PySem.Spec PyProof.Rows L2
/-- a class with object's own __init__ -/
structure Mk0 (K : PySem.W.Frag) (C : Addr) : Prop where
  makes : PySem.W.makesIn K C = true
  init : PySem.W.findIn K (.ref C) "__init__" = some (some (.builtin "object.__init__"))
  top : PySem.W.mroIn K C (.type "object") = some true
  kp : PySem.W.keepIn K (.ref C) = true
section
variable {X : Cx} {C : Addr}
def tMk0 (C : Addr) : TE := fun _ H Q => ∀ x dx, H x = none → H dx = none → dx ≠ x → Q (.ref x) (upd (upd H dx (.own x)) x (.ins C dx []))
theorem run_mk0 {pins : List (Addr × Obj)} {σ : L2.St} {H : Hp} {s : Shared} {Q : VK} (M : Mk0 X.K C) (I : Inv X pins σ H s) (h : tMk0 C σ H Q) :
    wpAny (model X.prog X.w) X.A (call (.ref C) []) (EP X pins σ Q) X.xe s := by
  have hq := h (s.heap.objs.size + 1) s.heap.objs.size (I.hok.fresh (Nat.le_succ _)) (I.hok.fresh (Nat.le_refl _)) (Nat.ne_of_lt (Nat.lt_succ_self _))
  have I2 := Inv.made (C := C) I
  refine wpAny_call (make_map0 I.kIn M.makes M.init (fun self => PySem.W.Looks.of_pure (PySem.W.oi_bind self)) ?_)
  have e2 : ((s.heap.push PySem.W.emptyDict).push (PySem.W.instObj C s.heap.objs.size)).get? (s.heap.objs.size + 1) = some (PySem.W.instObj C s.heap.objs.size) := by
    have := Heap.get?_push_size (s.heap.push PySem.W.emptyDict) (o := PySem.W.instObj C s.heap.objs.size) rfl
    rwa [Heap.size_push] at this
  have t1 : PySem.W.Looks (model X.prog X.w) ((s.heap.push PySem.W.emptyDict).push (PySem.W.instObj C s.heap.objs.size)) (typeOf (.ref (s.heap.objs.size + 1))) (.ref C) := NwA.type_at e2 rfl
  have t2 : PySem.W.Looks (model X.prog X.w) ((s.heap.push PySem.W.emptyDict).push (PySem.W.instObj C s.heap.objs.size)) (isInstance (.ref (s.heap.objs.size + 1)) (.type "object")) true := t1.andThen (PySem.W.looks_mroIn I2.kIn M.top)
  refine codeAny_call_builtin PySem.W.oi_plain PySem.W.entry_oi (@PySem.W.check_slot (model X.prog X.w) _ _ _ "object.__init__" "object" "__init__" (.ref (s.heap.objs.size + 1)) [] [] _ PySem.W.oi_kind PySem.W.oi_split t2 (NwA.oi_args_any (.ref (s.heap.objs.size + 1)) [] []) ?_)
  rw [PySem.W.oi_run]
  exact wpAny_pure (And.intro rfl ⟨V.ref (s.heap.objs.size + 1), _, I2.tok _, rfl, hq⟩)
theorem pe_mk0 {x : Str} {p pos : Pos} (M : Mk0 X.K C) (hg : Gl X x) (hm : X.mg x = some (.ref C)) (hdb : (x == ("__debug__" : Str)) = false := by decide) : PE X (.Call (.Name x p) [] [] pos) (tMk0 C) := by
  refine ⟨fun pins s σ H Q I h => ?_⟩
  refine wpAny_Call_Name_kw (ld_glob I hg hm ?_ hdb)
  exact PySem.W.callWith_K0 I.kIn M.kp (run_mk0 M I h)
end
end CB

set_option Elab.async false
set_option linter.all false
set_option maxRecDepth 100000
set_option maxHeartbeats 4000000
namespace CB
open PySem PySem.Spec PyProof.Rows L2
open C8 (Cal Met Mak pe_c pe_mk pe_mt pe_mt0 pe_gc CalAt)
section
variable {P : Program} {w : World} {K : PySem.W.Frag} {mg : Str → Option Value} {base : Heap}
abbrev n_told_by : List Str := ["term", "bids"]
theorem sc_told_by : FnScope ["term", "bids"] ["term", "bids"] (defScope s_told_by) := ⟨rfl, rfl, rfl, by decide +kernel, rfl, by decide +kernel, by decide +kernel⟩
def sp_told_by (K : PySem.W.Frag) : Sp := fun vs H Q _ => ∃ (v : V) (ab : Addr) (n s : Nat) (bs : List Rat) (t : Tm), vs = [v, .ref ab] ∧ Rp K H v t.data ∧ t.Ok n s ∧ s ≤ 9000 ∧ t.dep ≤ 60 ∧ t.wt s + 20 ≤ 9000 ∧ Bids K H ab n s bs ∧
  ∀ v H', Same H H' → RF K H' v (t.val bs) → Q v H'
theorem ok_told_by {C : Addr} (F : FnD K mg "told_by" s_told_by) (c_worked : Cal P w K mg base 66 "worked" (spW K C 60) []) (M_Numbers : Mk0 K C) (g_Numbers : mg "Numbers" = some (.ref C)) : Cal P w K mg base 67 "told_by" (sp_told_by K) [] := by
  refine calOf F sc_told_by (fun _ _ _ _ _ _ us hl => match us, hl with | [_, _], _ => rfl) (fun vs H Q E h => ?_) (fun cdv f A outer s H vs Q E hr h => ?_)
  · obtain ⟨_, _, _, _, _, _, rfl, _⟩ := h
    rfl
  · obtain ⟨v, ab, n, sz, bs, t, rfl, rt, ho, hs, hd, hw, hB, k⟩ := h
    refine ⟨_, (pss_one (ps_ret (pe_c c_worked hr (by first | decide | omega) rfl (pa_cons (pv 0) (pa_cons (pv 1) (pa_cons (pe_mk0 M_Numbers rfl g_Numbers) pa_nil)))))), ?_⟩
    refine ⟨_, rfl, _, rfl, fun x dx nx ndx nex => ?_⟩
    have s1 : Same H (upd (upd H dx (.own x)) x (.ins C dx [])) := (same_new ndx).trans (same_new (by rw [upd_ne (Ne.symm nex)]; exact nx))
    exact ⟨v, ab, x, dx, n, sz, bs, t, rfl, rt.mono (Same.kt s1), ho, hs, hd, hw, hB.mono (Same.kt s1), upd_same, fun v H' s2 r => k v H' (s1.trans s2) r⟩
abbrev n_are_numbers : List Str := ["thing", "many", "number"]
theorem sc_are_numbers : FnScope ["thing", "many", "number"] ["thing", "many"] (defScope s_are_numbers) := ⟨rfl, rfl, rfl, by decide +kernel, rfl, by decide +kernel, by decide +kernel⟩
def sp_are_numbers (K : PySem.W.Frag) : Sp := fun vs H Q _ => ∃ (a : Addr) (n s : Nat) (bs : List Rat), vs = [.ref a, .int (n : Int)] ∧ Bids K H a n s bs ∧ n ≤ 1000 ∧ ∀ H', Same H H' → Q (.bl true) H'
theorem ok_are_numbers (F : FnD K mg "are_numbers" s_are_numbers) (c_is_number : Cal P w K mg base 2 "is_number" (sp_is_number K) []) (T_isinstance : mg "isinstance" = none) (T_tuple : mg "tuple" = none) (T_len : mg "len" = none) (T_all : mg "all" = none) : Cal P w K mg base 3 "are_numbers" (sp_are_numbers K) [] := by
  refine calOf F sc_are_numbers (fun _ _ _ _ _ _ us hl => match us, hl with | [_, _], _ => rfl) (fun vs H Q E h => ?_) (fun cdv f A outer s H vs Q E hr h => ?_)
  · obtain ⟨_, _, _, _, rfl, _⟩ := h
    rfl
  · obtain ⟨a, n, sz, bs, rfl, ⟨us, h1, h2, h3, h4⟩, hn, k⟩ := h
    have ul : us.length = n := by rw [RQ.length h2, h3]
    refine ⟨_, (pss_one (ps_ret (pe_and (pe_callB call_isi (by rfl) T_isinstance (by decide +kernel) (pa_cons (pv 0) (pa_cons (pe_ty (n := "tuple") (by rfl) T_tuple (by decide +kernel)) pa_nil))) (pe_and (pe_cmpR op_eq (pe_callB call_len_seq (by rfl) T_len PySem.boot_len (pa_cons (pv 0) pa_nil)) (pv 1) (nomark _)) (pe_one (pe_callB (cr_all rfl) (by rfl) T_all (by decide +kernel) (pa_cons (pe_lc (own := [("number", 2)]) (by rfl) sc_are_numbers.nd (pi_tup (pv 0)) (blkOk_by (own := [("number", 2)]) (N := ["thing", "many", "number"]) (sc := defScope s_are_numbers) (by decide +kernel)) (fun _ _ _ _ _ => (pg_name (i := 2) sc_are_numbers.nd rfl (Or.inl rfl))) (fun _ _ _ _ _ => pts_nil) (fun _ _ _ _ _ => (pe_c c_is_number hr (by first | decide | omega) rfl (pa_cons (pv 2) pa_nil)))) pa_nil))))))), ?_⟩
    refine ⟨_, rfl, _, _, _, _, true, rfl, .ty _, tyT h1, kit_ty (by decide +kernel), _, rfl, _, rfl, a, _, rfl, .inr h1, _, rfl, rfl, _, rfl, ite2 (fun _ => ?_) (fun c => absurd (decide_eq_true (by rw [ul])) c)⟩
    refine ⟨_, rfl, a, rfl, ⟨_, h1⟩, fun D hD => ?_⟩
    refine it_tup (K := K) (a := a) (xs := us) (fun i H' => ∃ zs : List Bool, H' D = some (.lst (zs.map V.bl)) ∧ zs.length = i ∧ (∀ z ∈ zs, z = true) ∧ Same H H')
      ⟨[], upd_same, rfl, by simp, same_new hD⟩ (fun i H' ⟨_, _, _, _, s5⟩ => (Same.kt s5).sq h1) ?_ ?_
    · rintro i x H' hx ⟨zs, g1, g2, g3, g4⟩
      obtain ⟨q, e, r⟩ := RQ.getV h2 hx
      have nq := h4 q (List.mem_of_getElem? e)
      have hi := (List.getElem?_eq_some_iff.mp hx).1
      refine ⟨rfl, _, rfl, x, q, rfl, r.mono (Same.kt g4), nq.1, nq.2.1, _, g1, by rw [List.length_map, g2]; exact small1000 (by omega), zs ++ [true], by rw [List.map_append]; exact upd_same, by simp [g2], ?_, Same.mut g4 hD⟩
      intro q hq
      rcases List.mem_append.mp hq with h | h
      · exact g3 q h
      · exact List.mem_singleton.mp h
    · rintro H' ⟨zs, g1, g2, g3, g4⟩
      refine ⟨D, zs, rfl, SqL.of g1, ?_⟩
      have ea : zs.all id = true := List.all_eq_true.mpr g3
      rw [ea]
      exact k _ g4
def sp_need_bids (K : PySem.W.Frag) (C : Addr) : Sp := fun vs H Q _ => ∃ (r a : Addr) (n s : Nat) (t : Tm) (bs : List Rat), vs = [.ref r, .ref a] ∧ RuleAt K C H r n t ∧ Bids K H a n s bs ∧ n ≤ 6 ∧ ∀ H', Same H H' → Q .non H'
def sp_value (K : PySem.W.Frag) (C : Addr) : Sp := fun vs H Q _ => ∃ (r a : Addr) (n s : Nat) (t : Tm) (bs : List Rat), vs = [.ref r, .ref a] ∧ RuleAt K C H r n t ∧ t.Ok n s ∧ s ≤ 9000 ∧ t.dep ≤ 60 ∧ t.wt s + 20 ≤ 9000 ∧ Bids K H a n s bs ∧ n ≤ 6 ∧
  ∀ v H', Same H H' → RF K H' v (t.val bs) → Q v H'
theorem RuleAt.same {C : Addr} {H H' : Hp} {r : Addr} {n : Nat} {t : Tm} (h : RuleAt K C H r n t) (e : Same H H') : RuleAt K C H' r n t := by
  obtain ⟨dx, v, h1, h2⟩ := h
  exact ⟨dx, v, e _ _ h1, h2.mono (Same.kt e)⟩
end
end CB

set_option Elab.async false
set_option linter.all false
set_option maxRecDepth 100000
set_option maxHeartbeats 4000000
namespace CB
open PySem PySem.Spec PyProof.Rows L2
open C8 (Cal Met Mak pe_c pe_mk pe_mt pe_mt0 pe_gc CalAt)
section
variable {P : Program} {w : World} {K : PySem.W.Frag} {mg : Str → Option Value} {base : Heap}
abbrev n__law_value : List Str := ["_law_term_here", "_law_bids", "_law_word", "_law_whole_here", "_law_weight", "_law_part", "_law_told"]
theorem sc__law_value : FnScope ["_law_term_here", "_law_bids", "_law_word", "_law_whole_here", "_law_weight", "_law_part", "_law_told"] ["_law_term_here", "_law_bids"] (defScope s__law_value) := ⟨rfl, rfl, rfl, by decide +kernel, rfl, by decide +kernel, by decide +kernel⟩
def spLV (K : PySem.W.Frag) (D : Nat) : Sp := fun vs H Q _ => ∃ (v : V) (ab : Addr) (n s : Nat) (bs : List Rat) (t : Tm), vs = [v, .ref ab] ∧ Rp K H v t.data ∧ t.Ok n s ∧ s ≤ 9000 ∧ t.dep ≤ D ∧ t.wt s + 20 ≤ 9000 ∧ Bids K H ab n s bs ∧
  ∀ v H', Same H H' → RF K H' v (t.val bs) → Q v H'
theorem psum_take {bs : List Rat} {ws : List Int} {ts : List Tm} {i : Nat} {z : Int} {t : Tm} (s : Nat) (e1 : ws[i]? = some z) (e2 : ts[i]? = some t) : (mparts s bs ws ts).take (i + 1) = (mparts s bs ws ts).take i ++ [(z, t.val bs, t.wt s)] := by
  refine take_succ' ?_
  unfold mparts
  rw [List.getElem?_zipWith, e1, e2]
theorem wsum_snoc (L : List MPart) (x : MPart) : wsum (L ++ [x]) = wsum L + ((x.1 : Int) : Rat) * x.2.1 := by simp [wsum, List.sum_append, Rat.add_zero]
theorem wsz_snoc (L : List MPart) (x : MPart) : wsz (L ++ [x]) = wsz L + (x.2.2 + 8) := by simp [wsz, List.sum_append]
theorem rat_one_mul (q : Rat) : ((1 : Int) : Rat) * q = q := by grind
theorem ok__law_value (F : FnD K mg "_law_value" s__law_value) (c__law_sum : Cal P w K mg base 2 "_law_sum" (sp__law_sum K) []) (c__law_product : Cal P w K mg base 2 "_law_product" (sp__law_product K) []) (c__law_sorted : Cal P w K mg base 2 "_law_sorted" (sp__law_sorted K) [])
    (T_len : mg "len" = none) (T_sum : mg "sum" = none) : ∀ D : Nat, Cal P w K mg base (D + 3) "_law_value" (spLV K D) [] := by
  intro D
  induction D with
  | zero => exact calOf (k := 2) F sc__law_value (fun _ _ _ _ _ _ us hl => match us, hl with | [_, _], _ => rfl) (fun vs H Q E h => by obtain ⟨_, _, _, _, _, t, _, _, _, _, h, _⟩ := h; rw [dep_children t] at h; omega) (fun cdv f A outer s H vs Q E hr h => by obtain ⟨_, _, _, _, _, t, _, _, _, _, h, _⟩ := h; rw [dep_children t] at h; omega)
  | succ D ih =>
    have c__law_value := ih
    refine calOf (k := D + 3) F sc__law_value (fun _ _ _ _ _ _ us hl => match us, hl with | [_, _], _ => rfl) (fun vs H Q E h => ?_) (fun cdv f A outer s H vs Q E hr h => ?_)
    · obtain ⟨_, _, _, _, _, _, rfl, _⟩ := h
      rfl
    · obtain ⟨v, ab, n, sz, bs, t, rfl, rt, ho, hsz, hdep, hwt, hB, k⟩ := h
      have hdc := dep_children t
      obtain ⟨us, hB1, hB2, hB3, hB4⟩ := id hB
      have hBz : ∀ q ∈ bs, Sz sz q := fun q h => (hB4 q h).2.2
      refine ⟨_, (pss_cons (ps_set (i := 2) sc__law_value.nd rfl (Or.inl rfl) (pe_ix ix_tup (pv 0) pe_int (fun _ _ => rfl)))
    (pss_cons (ps_if (pt_cmpR op_eq (pv 2) pe_str (nomark _)) (pss_one (ps_ret (pe_ix ix_tup (pv 1) (pe_ix ix_tup (pv 0) pe_int (fun _ _ => rfl)) (fun _ _ => rfl)))) pss_nil)
    (pss_cons (ps_if (pt_cmpR op_eq (pv 2) pe_str (nomark _)) (pss_one (ps_ret (pe_ix ix_tup (pv 0) pe_int (fun _ _ => rfl)))) pss_nil)
    (pss_cons (ps_if (pt_cmpR op_eq (pv 2) pe_str (nomark _)) (pss_cons (ps_set (i := 3) sc__law_value.nd rfl (Or.inl rfl) (pe_tup (pa_cons pe_int (pa_cons pe_int pa_nil))))
    (pss_cons (ps_for PassesOwn.never rfl (pi_tup (pe_ix ix_tup (pv 0) pe_int (fun _ _ => rfl))) (pg_tup rfl (pgs_cons (pg_name (i := 4) sc__law_value.nd rfl (Or.inl rfl)) (pgs_cons (pg_name (i := 5) sc__law_value.nd rfl (Or.inl rfl)) pgs_nil))) (pss_one (ps_set (i := 3) sc__law_value.nd rfl (Or.inl rfl) (pe_c c__law_sum hr (by first | decide | omega) rfl (pa_cons (pv 3) (pa_cons (pe_c c__law_product hr (by first | decide | omega) rfl (pa_cons (pe_tup (pa_cons (pv 4) (pa_cons pe_int pa_nil))) (pa_cons (pe_c c__law_value hr (by first | decide | omega) rfl (pa_cons (pv 5) (pa_cons (pv 1) pa_nil))) pa_nil))) (pa_cons pe_int pa_nil)))))))
    (pss_one (ps_ret (pe_c c__law_product hr (by first | decide | omega) rfl (pa_cons (pv 3) (pa_cons (pe_tup (pa_cons pe_int (pa_cons (pe_callB (cr_sum rfl) (by rfl) T_sum (by decide +kernel) (pa_cons (pe_lc (own := [("_law_weight", 4), ("_law_part", 5)]) (g := (gTup K 2 (gCons (gName 4) (gCons (gName 5) gNil)))) (by rfl) sc__law_value.nd (pi_tup (pe_ix ix_tup (pv 0) pe_int (fun _ _ => rfl))) (blkOk_by (own := [("_law_weight", 4), ("_law_part", 5)]) (N := ["_law_term_here", "_law_bids", "_law_word", "_law_whole_here", "_law_weight", "_law_part", "_law_told"]) (sc := defScope s__law_value) (by decide +kernel)) (fun _ _ _ _ _ => (pg_tup rfl (pgs_cons (pg_name (i := 4) sc__law_value.nd rfl (Or.inl rfl)) (pgs_cons (pg_name (i := 5) sc__law_value.nd rfl (Or.inl rfl)) pgs_nil)))) (fun _ _ _ _ _ => pts_nil) (fun _ _ _ _ _ => (pv 4))) pa_nil)) pa_nil))) pa_nil))))))) pss_nil)
    (pss_cons (ps_if (pt_cmpR op_eq (pv 2) pe_str (nomark _)) (pss_one (ps_ret (pe_ix ix_list (pe_c c__law_sorted hr (by first | decide | omega) rfl (pa_cons (pe_lst (pa_cons (pe_ix ix_tup (pv 0) pe_int (fun _ _ => rfl)) (pa_cons (pe_ix ix_tup (pv 0) pe_int (fun _ _ => rfl)) (pa_cons (pe_c c__law_value hr (by first | decide | omega) rfl (pa_cons (pe_ix ix_tup (pv 0) pe_int (fun _ _ => rfl)) (pa_cons (pv 1) pa_nil))) pa_nil)))) pa_nil)) pe_int (fun _ _ => rfl)))) pss_nil)
    (pss_cons (ps_set (i := 6) sc__law_value.nd rfl (Or.inl rfl) (pe_c c__law_sorted hr (by first | decide | omega) rfl (pa_cons (pe_lc (own := [("_law_part", 5)]) (by rfl) sc__law_value.nd (pi_tup (pe_ix ix_tup (pv 0) (pe_un un_neg pe_int) (fun _ _ => rfl))) (blkOk_by (own := [("_law_part", 5)]) (N := ["_law_term_here", "_law_bids", "_law_word", "_law_whole_here", "_law_weight", "_law_part", "_law_told"]) (sc := defScope s__law_value) (by decide +kernel)) (fun _ _ _ _ _ => (pg_name (i := 5) sc__law_value.nd rfl (Or.inl rfl))) (fun _ _ _ _ _ => pts_nil) (fun _ _ _ _ _ => (pe_c c__law_value hr (by first | decide | omega) rfl (pa_cons (pv 5) (pa_cons (pv 1) pa_nil))))) pa_nil)))
    (pss_cons (ps_if (pt_cmpR op_eq (pv 2) pe_str (nomark _)) (pss_one (ps_ret (pe_ix ix_list (pv 6) pe_int (fun _ _ => rfl)))) pss_nil)
    (pss_cons (ps_if (pt_cmpR op_eq (pv 2) pe_str (nomark _)) (pss_one (ps_ret (pe_ix ix_list (pv 6) (pe_un un_neg pe_int) (fun _ _ => rfl)))) pss_nil)
    (pss_one (ps_ret (pe_ix ix_list (pv 6) (pe_op op_sub (pe_callB call_len_seq (by rfl) T_len PySem.boot_len (pa_cons (pv 6) pa_nil)) (pe_ix ix_tup (pv 0) pe_int (fun _ _ => rfl))) (fun _ _ => rfl)))))))))))), ?_⟩
      obtain ⟨a, r, rfl, ha⟩ := t_head rt
      refine ⟨_, rfl, _, _, _, _, rfl, rfl, ha, at_of (j := 0) rfl rfl, ?_⟩
      refine ⟨_, rfl, rfl, _, rfl, ite2 (fun c => ?_) (fun c1 => ?_)⟩
      · cases t with
        | bid p =>
          obtain ⟨a2, e, ha2⟩ := t_bid rt
          cases e
          have hp : p < bs.length := by rw [hB3]; exact ho
          obtain ⟨x, hx, rx⟩ := RQ.get hB2 (List.getElem?_eq_getElem hp)
          have ev : (Tm.bid p).val bs = bs[p] := by show bs.getD p 0 = _; rw [List.getD_eq_getElem?_getD, List.getElem?_eq_getElem hp]; rfl
          refine ⟨_, rfl, _, rfl, _, _, _, _, rfl, rfl, ha2, rfl, ab, us, _, x, rfl, rfl, hB1, at_of (j := p) rfl hx, k x _ (Same.refl _) ?_⟩
          rw [ev]
          exact rx
        | _ => exact absurd (of_decide_eq_true c) (by simp only [Tm.word]; decide +kernel)
      refine ⟨_, rfl, rfl, _, rfl, ite2 (fun c => ?_) (fun c2 => ?_)⟩
      · cases t with
        | fixed q =>
          obtain ⟨a2, x, e, ha2, hx⟩ := t_fixed rt
          cases e
          exact ⟨_, rfl, _, _, _, _, rfl, rfl, ha2, rfl, k x _ (Same.refl _) hx⟩
        | _ => exact absurd (of_decide_eq_true c) (by simp only [Tm.word]; decide +kernel)
      refine ⟨_, rfl, rfl, _, rfl, ite2 (fun c => ?_) (fun c3 => ?_)⟩
      · cases t with
        | mean ws ts =>
          obtain ⟨a2, b2, us2, e, ha2, hb2, hu2⟩ := t_mean rt
          cases e
          obtain ⟨wl, tne, tl, hwb, hob⟩ := ho
          have hwts : Tm.wts sz ts + 12 + 20 ≤ 9000 := hwt
          have hd2 : Tm.deps ts + 1 ≤ D + 1 := by rw [hdc] at hdep; exact hdep
          have ul : us2.length = ts.length := by rw [hu2.length, meanD_length _ _ (by rw [datas_map, List.length_map]; exact wl), datas_map, List.length_map]
          have pl : (mparts sz bs ws ts).length = ts.length := mparts_length wl
          have pok : ∀ x ∈ mparts sz bs ws ts, MOk x := fun x hx => by
            obtain ⟨h1, t, h2, h3⟩ := mparts_mem hx
            have g := hwb _ h1
            rw [MOk, h3]
            exact ⟨g.1, g.2, vals_sz hBz hB3 hob t h2⟩
          have psz := mparts_sz sz bs wl
          refine ⟨(by show 2 ≤ sizeLine; decide), fun p0 hp0 => ?_⟩
          have s0 := same_new (o := .tup [.int 0, .int 1]) hp0
          refine ⟨_, rfl, _, _, _, _, rfl, rfl, (Same.kt s0).sq ha2, rfl, b2, rfl, ⟨_, (Same.kt s0).sq hb2⟩, for_tup (K := K) (a := b2) (xs := us2) (fun i σ H' => ∃ (vw : V) (x y : Option V), σ = [some (.ref a), some (.ref ab), some (.str "mean"), some vw, x, y, none] ∧ Same H H' ∧ RF K H' vw (wsum ((mparts sz bs ws ts).take i)))
            ⟨.ref p0, none, none, rfl, s0, zero_rf (SqT.of upd_same)⟩ (fun i σ H' _ ⟨_, _, _, _, s5, _⟩ => (Same.kt s5).sq hb2) ?_ ?_⟩
          · rintro i x σ H' hx ⟨vw, _, _, rfl, s5, r5⟩
            obtain ⟨c, z, t, y, rfl, e1, e2, p1, p2⟩ := mean_part hu2 hx
            have hz := hwb z (List.mem_of_getElem? e1)
            have mt := List.mem_of_getElem? e2
            have kt5 := Same.kt s5
            have tdp := deps_mem mt
            have twt := wts_mem (s := sz) mt
            refine ⟨c, _, rfl, kt5.sq p1, rfl, _, _, rfl, _, _, rfl, rfl, ?_⟩
            refine ⟨_, rfl, _, rfl, (by show 2 ≤ sizeLine; decide), fun p1 hp1 => ?_⟩
            have s1 := same_new (o := .tup [.int z, .int 1]) hp1
            have hzt := vals_sz hBz hB3 hob t mt
            refine ⟨_, rfl, _, rfl, y, ab, n, sz, bs, t, rfl, (p2.mono kt5).mono (Same.kt s1), (oks_iff _ _ _).mp hob t mt, hsz, by omega, by omega, (hB.mono kt5).mono (Same.kt s1), fun u H2 s2 ru => ?_⟩
            have hw7 : z.natAbs < 2 ^ 7 := by omega
            refine ⟨.ref p1, u, z, 1, _, _, 7, t.wt sz, rfl, ⟨p1, rfl, (Same.kt s2).sq (SqT.of upd_same)⟩, ru, by omega, den_pos _, hw7, by decide, hzt.1, hzt.d, by omega, fun u2 H3 s3 r3 => ?_⟩
            rw [divInt_self', ← int_rat] at r3
            have pt := psum_take (bs := bs) sz e1 e2
            have le := wsz_take_le (L := mparts sz bs ws ts) (i := i + 1)
            rw [psz] at le
            have lz : wsz ((mparts sz bs ws ts).take (i + 1)) = wsz ((mparts sz bs ws ts).take i) + (t.wt sz + 8) := by rw [pt, wsz_snoc]
            have zs : Sz (wsz ((mparts sz bs ws ts).take i) + 1) (wsum ((mparts sz bs ws ts).take i)) := wsum_sz fun x hx => pok x (List.mem_of_mem_take hx)
            have zp : Sz (7 + t.wt sz) (((z : Int) : Rat) * t.val bs) := by
              rw [mul_divInt]
              exact divInt_sz (den_pos _) (wide_lt hw7 hzt.1) (Nat.lt_of_lt_of_le hzt.d (Nat.pow_le_pow_right (by omega) (by omega)))
            refine ⟨vw, u2, _, _, _, _, 1, _, _, rfl, r5.mono (Same.kt ((s1.trans s2).trans s3)), r3, den_pos _, den_pos _, .inl rfl, zs.1, zs.d, zp.1, zp.d, by omega, fun u3 H4 s4 r4 => ?_⟩
            rw [divInt_self', divInt_self', rat_one_mul] at r4
            refine ⟨u3, _, _, rfl, s5.trans (((s1.trans s2).trans s3).trans s4), ?_⟩
            rw [pt, wsum_snoc]
            exact r4
          · rintro σ H' ⟨vw, _, _, rfl, s5, r5⟩
            rw [ul, ← pl, List.take_length] at r5
            have kt5 := Same.kt s5
            have wb := wtot_bound pok
            have ewt : wtot (mparts sz bs ws ts) = ws.sum := by unfold wtot; rw [mparts_ws sz bs wl]
            have l1 := List.length_pos_iff.mpr tne
            refine ⟨_, rfl, _, rfl, _, _, _, _, rfl, rfl, kt5.sq ha2, rfl, b2, rfl, ⟨_, kt5.sq hb2⟩, fun M hM => ?_⟩
            refine it_tup (K := K) (a := b2) (xs := us2) (fun i H2 => H2 M = some (.lst ((ws.take i).map V.int)) ∧ Same H' H2)
              ⟨by rw [List.take_zero]; exact upd_same, same_new hM⟩ (fun i H2 ⟨_, s6⟩ => (Same.kt (s5.trans s6)).sq hb2) ?_ ?_
            · rintro i x H2 hx ⟨q1, q2⟩
              obtain ⟨c, z, t, y, rfl, e1, e2, p1, p2⟩ := mean_part hu2 hx
              have hi := (List.getElem?_eq_some_iff.mp hx).1
              refine ⟨c, _, rfl, (Same.kt (s5.trans q2)).sq p1, rfl, _, _, rfl, _, _, rfl, rfl, rfl, _, rfl, _, q1, by rw [List.length_map, List.length_take]; exact small1000 (by omega), ?_, Same.mut q2 hM⟩
              rw [take_succ' e1, List.map_append]
              exact upd_same
            · rintro H2 ⟨q1, q2⟩
              rw [ul, ← wl, List.take_length] at q1
              refine ⟨M, ws, rfl, SqL.of q1, (by show 2 ≤ sizeLine; decide), fun p hp => ?_⟩
              have s7 := same_new (o := .tup [.int 1, .int ws.sum]) hp
              have zs : Sz (wsz (mparts sz bs ws ts) + 1) (wsum (mparts sz bs ws ts)) := wsum_sz pok
              rw [psz] at zs
              refine ⟨vw, .ref p, _, _, 1, ws.sum, _, 10, rfl, r5.mono (Same.kt (q2.trans s7)), ⟨p, rfl, SqT.of upd_same⟩, den_pos _, by omega, zs.1, zs.d, by decide, by omega, by omega, fun u H3 s8 r8 => ?_⟩
              rw [divInt_self'] at r8
              refine k u H3 ((s5.trans q2).trans (s7.trans s8)) ?_
              have em : wsum (mparts sz bs ws ts) * Rat.divInt 1 ws.sum = (Tm.mean ws ts).val bs := by
                show _ = wavg ws (Tm.vals bs ts)
                rw [← mparts_avg sz bs wl, ewt]
                have e1 : Rat.divInt 1 ws.sum = 1 / ((ws.sum : Int) : Rat) := by rw [Rat.divInt_eq_div]; rfl
                rw [e1]
                grind
              rw [← em]
              exact r8
        | _ => exact absurd (of_decide_eq_true c) (by simp only [Tm.word]; decide +kernel)
      refine ⟨_, rfl, rfl, _, rfl, ite2 (fun c => ?_) (fun c4 => ?_)⟩
      · cases t with
        | between lo hi t =>
          obtain ⟨n1, n2, hl, hob⟩ := ho
          obtain ⟨a2, x, y, z, e, ha2, rx, ry, rz⟩ := t_between rt
          cases e
          have hw2 : t.wt sz + sz + sz + 20 ≤ 9000 := hwt
          have hd2 : t.dep + 1 ≤ D + 1 := hdep
          have hzt := val_sz hBz hB3 hob
          refine ⟨_, rfl, _, _, _, _, rfl, rfl, ha2, rfl, _, rfl, _, _, _, _, rfl, rfl, ha2, rfl, _, rfl, _, _, _, _, rfl, rfl, ha2, rfl, _, rfl, z, ab, n, sz, bs, t, rfl, rz, hob, hsz, by omega, by omega, hB, fun u H1 s1 ru => ?_⟩
          refine ⟨(by show 3 ≤ sizeLine; decide), fun p hp => ?_⟩
          have s2 := same_new (o := .lst [x, y, u]) hp
          have kt1 := Same.kt (s1.trans s2)
          refine ⟨p, [x, y, u], [lo, hi, t.val bs], rfl, SqL.of upd_same, .cons (rx.mono kt1).rp (.cons (ry.mono kt1).rp (.cons (ru.mono (Same.kt s2)).rp .nil)), ?_, (by show 3 ≤ 100; decide), fun pl ys H2 _ s3 hys rys => ?_⟩
          · intro q hq
            rcases List.mem_cons.mp hq with h | h
            · rw [h]; exact n1.2.2.mono hsz
            · rcases List.mem_cons.mp h with h | h
              · rw [h]; exact n2.2.2.mono hsz
              · rw [List.mem_singleton.mp h]; exact hzt.mono (by omega)
          obtain ⟨v1, e1, r1⟩ := RQ.get rys (isort_mid (x := t.val bs) hl)
          exact ⟨pl, _, 1, v1, rfl, rfl, SqL.of hys, at_of (j := 1) rfl e1, k v1 H2 ((s1.trans s2).trans s3) r1⟩
        | _ => exact absurd (of_decide_eq_true c) (by simp only [Tm.word]; decide +kernel)
      -- least, greatest, ranked
      have kids : ∃ b2 us2, SqT K H b2 us2 ∧ RTs K H us2 t.children ∧ ∃ r2, SqT K H a (.str t.word :: (r2 ++ [V.ref b2])) ∧ t.children ≠ [] ∧ r2.length ≤ 1 := by
        cases t with
        | bid p => exact absurd (decide_eq_true rfl) c1
        | fixed q => exact absurd (decide_eq_true rfl) c2
        | mean ws ts => exact absurd (decide_eq_true rfl) c3
        | between lo hi t => exact absurd (decide_eq_true rfl) c4
        | least ts => obtain ⟨a2, b2, us2, e, ha2, hb2, hu2⟩ := t_least rt; cases e; exact ⟨b2, us2, hb2, hu2, [], ha2, ho.1, Nat.zero_le _⟩
        | greatest ts => obtain ⟨a2, b2, us2, e, ha2, hb2, hu2⟩ := t_greatest rt; cases e; exact ⟨b2, us2, hb2, hu2, [], ha2, ho.1, Nat.zero_le _⟩
        | ranked kk ts =>
          obtain ⟨a2, b2, us2, e, ha2, hb2, hu2⟩ := t_ranked rt
          cases e
          refine ⟨b2, us2, hb2, hu2, [V.int (kk : Int)], ha2, ?_, Nat.le_refl _⟩
          intro e
          have h1 := ho.1
          have h2 := ho.2.1
          have e' : ts = [] := e
          rw [e'] at h2
          simp at h2
          omega
      obtain ⟨b2, us2, hb2, hu2, r2, ha3, cne, rl⟩ := kids
      have hlast : atI (V.str t.word :: (r2 ++ [V.ref b2])) (-1) = some (V.ref b2) := by
        cases r2 with
        | nil => rfl
        | cons y r2 =>
          have : r2 = [] := by simpa using rl
          subst this
          rfl
      have cl8 := kids_len ho
      have ul : us2.length = t.children.length := RTs.length hu2
      refine ⟨_, rfl, _, rfl, _, _, _, _, rfl, rfl, ha3, hlast, b2, rfl, ⟨_, hb2⟩, fun L hL => ?_⟩
      refine it_tup (K := K) (a := b2) (xs := us2) (fun i H' => ∃ zs : List V, H' L = some (.lst zs) ∧ RQ K H' zs (Tm.vals bs (t.children.take i)) ∧ Same H H')
        ⟨[], upd_same, by rw [List.take_zero]; exact .nil, same_new hL⟩ (fun i H' ⟨_, _, _, s5⟩ => (Same.kt s5).sq hb2) ?_ ?_
      · rintro i x H' hx ⟨zs, g1, g2, g3⟩
        obtain ⟨u, hu, ru⟩ := RTs.getV hu2 hx
        have mu := List.mem_of_getElem? hu
        have ud := deps_mem mu
        have uw := kids_wt (s := sz) mu
        have zl : zs.length ≤ 8 := by rw [RQ.length g2, vals_length, List.length_take]; omega
        refine ⟨rfl, _, rfl, _, rfl, x, ab, n, sz, bs, u, rfl, ru.mono (Same.kt g3), (oks_iff _ _ _).mp (ok_children ho) u mu, hsz, by omega, by omega, hB.mono (Same.kt g3), fun y H2 s2 ry => ?_⟩
        refine ⟨zs, s2 _ _ g1, small1000 (by omega), zs ++ [y], upd_same, ?_, Same.mut (g3.trans s2) hL⟩
        have e1 : Tm.vals bs (t.children.take (i + 1)) = Tm.vals bs (t.children.take i) ++ [u.val bs] := by
          rw [take_succ' hu, vals_map, vals_map, List.map_append]
          rfl
        rw [e1]
        exact RpAll.mono (KT.updl (s2 _ _ g1)) (RQ.snoc (RpAll.mono (Same.kt s2) g2) ry)
      · rintro H1 ⟨zs, g1, g2, g3⟩
        rw [ul, List.take_length] at g2
        have hz : ∀ q ∈ Tm.vals bs t.children, Sz 9000 q := by
          intro q hq
          rw [vals_map] at hq
          obtain ⟨u, hu, rfl⟩ := List.mem_map.mp hq
          have z := val_sz hBz hB3 ((oks_iff _ _ _).mp (ok_children ho) u hu)
          have uw := kids_wt (s := sz) hu
          exact z.mono (by omega)
        have vl := vals_length bs t.children
        have vne : Tm.vals bs t.children ≠ [] := vals_ne cne
        refine ⟨L, zs, _, rfl, SqL.of g1, g2, hz, by omega, fun pl ys H2 _ s3 hys rys => ?_⟩
        have s2 := g3.trans s3
        have yl : ys.length = t.children.length := by rw [RQ.length rys, isort_length, vl]
        have yp : 0 < ys.length := by rw [yl]; exact List.length_pos_iff.mpr cne
        cases t with
        | bid p => exact absurd (decide_eq_true rfl) c1
        | fixed q => exact absurd (decide_eq_true rfl) c2
        | mean ws ts => exact absurd (decide_eq_true rfl) c3
        | between lo hi t => exact absurd (decide_eq_true rfl) c4
        | least ts =>
          refine ⟨_, rfl, rfl, _, rfl, ite2 (fun _ => ?_) (fun c => absurd (decide_eq_true rfl) c)⟩
          obtain ⟨v1, e1, r1⟩ := RQ.get rys (isort_first vne)
          exact ⟨_, rfl, pl, _, 0, v1, rfl, rfl, SqL.of hys, at_of (j := 0) rfl e1, k v1 H2 s2 r1⟩
        | greatest ts =>
          refine ⟨_, rfl, rfl, _, rfl, ite2 (fun c => absurd (of_decide_eq_true c) (by simp only [Tm.word]; decide +kernel)) (fun _ => ?_)⟩
          refine ⟨_, rfl, rfl, _, rfl, ite2 (fun _ => ?_) (fun c => absurd (decide_eq_true rfl) c)⟩
          obtain ⟨v1, e1, r1⟩ := RQ.get rys (isort_last vne)
          have e2 : atI ys (-1) = some v1 := by
            unfold atI ixN
            rw [if_neg (by omega), if_pos (by omega)]
            have e3 : (-1 + (ys.length : Int)).toNat = (Tm.vals bs (Tm.greatest ts).children).length - 1 := by rw [vl, ← yl]; omega
            show ys[(-1 + (ys.length : Int)).toNat]? = some v1
            rw [e3]
            exact e1
          exact ⟨_, rfl, _, rfl, pl, _, -1, v1, rfl, rfl, SqL.of hys, e2, k v1 H2 s2 r1⟩
        | ranked kk ts =>
          refine ⟨_, rfl, rfl, _, rfl, ite2 (fun c => absurd (of_decide_eq_true c) (by simp only [Tm.word]; decide +kernel)) (fun _ => ?_)⟩
          refine ⟨_, rfl, rfl, _, rfl, ite2 (fun c => absurd (of_decide_eq_true c) (by simp only [Tm.word]; decide +kernel)) (fun _ => ?_)⟩
          obtain ⟨a2, b3, us3, e, ha4, _, _⟩ := t_ranked rt
          cases e
          obtain ⟨k1, k2, tl, hob⟩ := ho
          have vl2 : (Tm.vals bs ts).length = ts.length := vals_length bs ts
          have yl2 : ys.length = ts.length := yl
          obtain ⟨v1, e1, r1⟩ := RQ.get rys (kthG_isort (kk - 1) (Tm.vals bs ts) (by rw [vl2]; omega))
          refine ⟨_, rfl, _, rfl, pl, ys, rfl, .inl (SqL.of hys), _, rfl, _, _, _, _, rfl, rfl, (Same.kt s2).sq ha4, rfl, _, _, rfl, rfl, pl, _, _, v1, rfl, rfl, SqL.of hys, at_of (j := (Tm.vals bs ts).length - 1 - (kk - 1)) (by rw [vl2]; show (ys.length : Int) - (kk : Int) = _; omega) e1, k v1 H2 s2 r1⟩
end
end CB

set_option Elab.async false
set_option linter.all false
set_option maxRecDepth 100000
set_option maxHeartbeats 4000000
namespace CB
/-! ### numbers that rise, by a step at most -/
def Nr (s x y : Rat) : Prop := x ≤ y ∧ y ≤ x + s
def NrL (s : Rat) : List Rat → List Rat → Prop
  | [], [] => True
  | x :: l, y :: m => Nr s x y ∧ NrL s l m
  | _, _ => False
theorem rmin_nr {s a b c d : Rat} (h : Nr s a b) (g : Nr s c d) : Nr s (rmin a c) (rmin b d) := by
  obtain ⟨h1, h2⟩ := h
  obtain ⟨g1, g2⟩ := g
  unfold Nr rmin
  constructor <;> (repeat' split) <;> grind
theorem rmax_nr {s a b c d : Rat} (h : Nr s a b) (g : Nr s c d) : Nr s (rmax a c) (rmax b d) := by
  obtain ⟨h1, h2⟩ := h
  obtain ⟨g1, g2⟩ := g
  unfold Nr rmax
  constructor <;> (repeat' split) <;> grind
theorem nr_refl {s : Rat} (h : 0 ≤ s) (x : Rat) : Nr s x x := ⟨by grind, by grind⟩
theorem foldl_rmin_nr {s : Rat} : ∀ {l m : List Rat} {x y : Rat}, NrL s l m → Nr s x y → Nr s (l.foldl rmin x) (m.foldl rmin y)
  | [], [], _, _, _, h => h
  | _ :: l, _ :: m, _, _, hl, h => foldl_rmin_nr (l := l) (m := m) hl.2 (rmin_nr h hl.1)
  | [], _ :: _, _, _, hl, _ => hl.elim
  | _ :: _, [], _, _, hl, _ => hl.elim
theorem foldl_rmax_nr {s : Rat} : ∀ {l m : List Rat} {x y : Rat}, NrL s l m → Nr s x y → Nr s (l.foldl rmax x) (m.foldl rmax y)
  | [], [], _, _, _, h => h
  | _ :: l, _ :: m, _, _, hl, h => foldl_rmax_nr (l := l) (m := m) hl.2 (rmax_nr h hl.1)
  | [], _ :: _, _, _, hl, _ => hl.elim
  | _ :: _, [], _, _, hl, _ => hl.elim
theorem minL_nr {s : Rat} (hs : 0 ≤ s) : ∀ {l m : List Rat}, NrL s l m → Nr s (minL l) (minL m)
  | [], [], _ => nr_refl hs 0
  | _ :: _, _ :: _, hl => foldl_rmin_nr hl.2 hl.1
  | [], _ :: _, hl => hl.elim
  | _ :: _, [], hl => hl.elim
theorem maxL_nr {s : Rat} (hs : 0 ≤ s) : ∀ {l m : List Rat}, NrL s l m → Nr s (maxL l) (maxL m)
  | [], [], _ => nr_refl hs 0
  | _ :: _, _ :: _, hl => foldl_rmax_nr hl.2 hl.1
  | [], _ :: _, hl => hl.elim
  | _ :: _, [], hl => hl.elim
theorem bub_nr {s : Rat} : ∀ {l m : List Rat} {x y : Rat}, NrL s l m → Nr s x y → NrL s (bub x l).1 (bub y m).1
  | [], [], _, _, _, _ => trivial
  | _ :: _, _ :: _, _, _, hl, h => ⟨rmin_nr h hl.1, bub_nr hl.2 (rmax_nr h hl.1)⟩
  | [], _ :: _, _, _, hl, _ => hl.elim
  | _ :: _, [], _, _, hl, _ => hl.elim
theorem bubL_nr {s : Rat} : ∀ {l m : List Rat}, NrL s l m → NrL s (bubL l) (bubL m)
  | [], [], _ => trivial
  | _ :: _, _ :: _, hl => bub_nr hl.2 hl.1
  | [], _ :: _, hl => hl.elim
  | _ :: _, [], hl => hl.elim
theorem kthG_nr {s : Rat} (hs : 0 ≤ s) : ∀ (k : Nat) {l m : List Rat}, NrL s l m → Nr s (kthG k l) (kthG k m)
  | 0, _, _, h => maxL_nr hs h
  | k + 1, _, _, h => kthG_nr hs k (bubL_nr h)
theorem wsum_nr {s : Rat} : ∀ {ws : List Int} {l m : List Rat}, ws.length = l.length → (∀ w ∈ ws, 1 ≤ w) → NrL s l m →
    (List.zipWith (fun (w : Int) (q : Rat) => (w : Rat) * q) ws l).sum ≤ (List.zipWith (fun (w : Int) (q : Rat) => (w : Rat) * q) ws m).sum ∧
    (List.zipWith (fun (w : Int) (q : Rat) => (w : Rat) * q) ws m).sum ≤ (List.zipWith (fun (w : Int) (q : Rat) => (w : Rat) * q) ws l).sum + ((ws.sum : Int) : Rat) * s
  | [], [], [], _, _, _ => by constructor <;> (simp; try grind)
  | w :: ws, x :: l, y :: m, hl, hw, h => by
    obtain ⟨i1, i2⟩ := wsum_nr (by simpa using hl) (fun w hw' => hw w (List.mem_cons_of_mem _ hw')) h.2
    obtain ⟨⟨g1, g2⟩, _⟩ := h
    have w1 : (0 : Rat) ≤ (w : Rat) := by
      have := hw w List.mem_cons_self
      have : (0 : Int) ≤ w := by omega
      exact_mod_cast this
    simp only [List.zipWith_cons_cons, List.sum_cons]
    have a1 := Rat.mul_le_mul_of_nonneg_left g1 w1
    have a2 := Rat.mul_le_mul_of_nonneg_left g2 w1
    have e : (((w + ws.sum : Int)) : Rat) * s = (w : Rat) * s + ((ws.sum : Int) : Rat) * s := by rw [Rat.intCast_add]; grind
    rw [e]
    constructor <;> grind
  | [], _ :: _, _, hl, _, _ => by simp at hl
  | _ :: _, [], _, hl, _, _ => by simp at hl
  | [], [], _ :: _, _, _, h => h.elim
  | _ :: _, _ :: _, [], _, _, h => h.elim
theorem sum_pos : ∀ {ws : List Int}, ws ≠ [] → (∀ w ∈ ws, 1 ≤ w) → 0 < ws.sum
  | [], h, _ => absurd rfl h
  | [w], _, hw => by have := hw w List.mem_cons_self; simp; omega
  | w :: v :: ws, _, hw => by
    have a := sum_pos (ws := v :: ws) (by simp) fun x hx => hw x (List.mem_cons_of_mem _ hx)
    have := hw w List.mem_cons_self
    rw [List.sum_cons]
    omega
theorem wavg_nr {s : Rat} {ws : List Int} {l m : List Rat} (e : ws.length = l.length) (hn : ws ≠ []) (hw : ∀ w ∈ ws, 1 ≤ w) (h : NrL s l m) : Nr s (wavg ws l) (wavg ws m) := by
  obtain ⟨h1, h2⟩ := wsum_nr e hw h
  have hp : (0 : Rat) < ((ws.sum : Int) : Rat) := by exact_mod_cast sum_pos hn hw
  unfold Nr wavg
  rw [Rat.div_def, Rat.div_def]
  have hv : (0 : Rat) ≤ (((ws.sum : Int) : Rat))⁻¹ := Rat.le_of_lt (Rat.inv_pos.mpr hp)
  have hi : ((ws.sum : Int) : Rat) * (((ws.sum : Int) : Rat))⁻¹ = 1 := Rat.mul_inv_cancel _ (by grind)
  have a1 := Rat.mul_le_mul_of_nonneg_right h1 hv
  have a2 := Rat.mul_le_mul_of_nonneg_right h2 hv
  refine ⟨a1, ?_⟩
  generalize (((ws.sum : Int) : Rat))⁻¹ = v at *
  generalize ((ws.sum : Int) : Rat) = W at *
  have : W * s * v = s := by rw [Rat.mul_comm W s, Rat.mul_assoc, hi, Rat.mul_one]
  rw [Rat.add_mul, this] at a2
  exact a2
theorem nrL_get {s : Rat} (hs : 0 ≤ s) : ∀ {l m : List Rat} (p : Nat), NrL s l m → Nr s (l.getD p 0) (m.getD p 0)
  | [], [], _, _ => by simpa using nr_refl hs 0
  | _ :: _, _ :: _, 0, h => by simpa using h.1
  | _ :: l, _ :: m, p + 1, h => by simpa using nrL_get hs p h.2
  | [], _ :: _, _, h => h.elim
  | _ :: _, [], _, h => h.elim
theorem vals_len (b : List Rat) : ∀ ts : List Tm, (Tm.vals b ts).length = ts.length
  | [] => rfl
  | t :: ts => by rw [Tm.vals, List.length_cons, vals_len b ts]; rfl
mutual
theorem val_nr {s : Rat} (hs : 0 ≤ s) {n z : Nat} {b c : List Rat} (h : NrL s b c) : ∀ (t : Tm), t.Ok n z → Nr s (t.val b) (t.val c)
  | .bid p, _ => nrL_get hs p h
  | .fixed q, _ => nr_refl hs q
  | .mean ws ts, ho => wavg_nr (by rw [vals_len]; exact ho.1) (by
      intro e
      have h1 := ho.1
      rw [e] at h1
      exact ho.2.1 (List.eq_nil_of_length_eq_zero h1.symm)) (fun w hw => (ho.2.2.2.1 w hw).1) (vals_nr hs h ts ho.2.2.2.2)
  | .least ts, ho => minL_nr hs (vals_nr hs h ts ho.2.2)
  | .greatest ts, ho => maxL_nr hs (vals_nr hs h ts ho.2.2)
  | .ranked k ts, ho => kthG_nr hs (k - 1) (vals_nr hs h ts ho.2.2.2)
  | .between lo hi t, ho => rmax_nr (nr_refl hs lo) (rmin_nr (nr_refl hs hi) (val_nr hs h t ho.2.2.2))
theorem vals_nr {s : Rat} (hs : 0 ≤ s) {n z : Nat} {b c : List Rat} (h : NrL s b c) : ∀ (ts : List Tm), Tm.Oks n z ts → NrL s (Tm.vals b ts) (Tm.vals c ts)
  | [], _ => trivial
  | t :: ts, ho => ⟨val_nr hs h t ho.1, vals_nr hs h ts ho.2⟩
end
/-! ### terms without fixed numbers and bounds -/
mutual
def Tm.fix : Tm → Bool
  | .bid _ => false
  | .fixed _ => true
  | .mean _ ts => Tm.fixs ts
  | .least ts => Tm.fixs ts
  | .greatest ts => Tm.fixs ts
  | .ranked _ ts => Tm.fixs ts
  | .between _ _ _ => true
def Tm.fixs : List Tm → Bool
  | [] => false
  | t :: ts => t.fix || Tm.fixs ts
end
def AllQ (q : Rat) (l : List Rat) : Prop := ∀ x ∈ l, x = q
theorem minL_all {q : Rat} {l : List Rat} (hn : l ≠ []) (h : AllQ q l) : minL l = q := h _ (minL_mem hn).1
theorem maxL_all {q : Rat} {l : List Rat} (hn : l ≠ []) (h : AllQ q l) : maxL l = q := h _ (maxL_mem hn).1
theorem kthG_all {q : Rat} {l : List Rat} {k : Nat} (hk : k < l.length) (h : AllQ q l) : kthG k l = q :=
  h _ ((isort_perm l).mem_iff.mp (List.mem_of_getElem? (kthG_isort k l hk)))
theorem wsum_all {q : Rat} : ∀ {ws : List Int} {l : List Rat}, ws.length = l.length → AllQ q l → (List.zipWith (fun (w : Int) (q : Rat) => (w : Rat) * q) ws l).sum = ((ws.sum : Int) : Rat) * q
  | [], [], _, _ => by simp
  | w :: ws, x :: l, e, h => by
    simp only [List.zipWith_cons_cons, List.sum_cons]
    rw [wsum_all (by simpa using e) (fun y hy => h y (List.mem_cons_of_mem _ hy)), h x List.mem_cons_self, Rat.intCast_add]
    grind
  | [], _ :: _, e, _ => by simp at e
  | _ :: _, [], e, _ => by simp at e
theorem wavg_all {q : Rat} {ws : List Int} {l : List Rat} (e : ws.length = l.length) (hn : ws ≠ []) (hw : ∀ w ∈ ws, 1 ≤ w) (h : AllQ q l) : wavg ws l = q := by
  have hp : (0 : Rat) < ((ws.sum : Int) : Rat) := by exact_mod_cast sum_pos hn hw
  unfold wavg
  rw [wsum_all e h, Rat.div_def, Rat.mul_comm _ q, Rat.mul_assoc, Rat.mul_inv_cancel _ (by grind), Rat.mul_one]
theorem vals_nil {b : List Rat} {ts : List Tm} (h : ts ≠ []) : Tm.vals b ts ≠ [] := by
  intro e
  have := vals_len b ts
  rw [e] at this
  exact h (List.eq_nil_of_length_eq_zero this.symm)
mutual
theorem val_all {n z : Nat} {b : List Rat} {q : Rat} (hl : b.length = n) (h : AllQ q b) : ∀ (t : Tm), t.Ok n z → t.fix = false → t.val b = q
  | .bid p, ho, _ => by
    have hp : p < b.length := by rw [hl]; exact ho
    show b.getD p 0 = q
    rw [List.getD_eq_getElem?_getD, List.getElem?_eq_getElem hp]
    exact h _ (List.getElem_mem hp)
  | .fixed _, _, e => absurd e (by simp [Tm.fix])
  | .mean ws ts, ho, e => wavg_all (by rw [vals_len]; exact ho.1) (by
      intro e
      have h1 := ho.1
      rw [e] at h1
      exact ho.2.1 (List.eq_nil_of_length_eq_zero h1.symm)) (fun w hw => (ho.2.2.2.1 w hw).1) (vals_all hl h ts ho.2.2.2.2 e)
  | .least ts, ho, e => minL_all (vals_nil ho.1) (vals_all hl h ts ho.2.2 e)
  | .greatest ts, ho, e => maxL_all (vals_nil ho.1) (vals_all hl h ts ho.2.2 e)
  | .ranked k ts, ho, e => kthG_all (by rw [vals_len]; have := ho.1; have := ho.2.1; omega) (vals_all hl h ts ho.2.2.2 e)
  | .between _ _ _, _, e => absurd e (by simp [Tm.fix])
theorem vals_all {n z : Nat} {b : List Rat} {q : Rat} (hl : b.length = n) (h : AllQ q b) : ∀ (ts : List Tm), Tm.Oks n z ts → Tm.fixs ts = false → AllQ q (Tm.vals b ts)
  | [], _, _ => fun x hx => by cases hx
  | t :: ts, ho, e => fun x hx => by
    have e' : (t.fix || Tm.fixs ts) = false := e
    rw [Bool.or_eq_false_iff] at e'
    rcases List.mem_cons.mp hx with hx | hx
    · rw [hx]; exact val_all hl h t ho.1 e'.1
    · exact vals_all hl h ts ho.2 e'.2 x hx
end
end CB

set_option Elab.async false
set_option linter.all false
set_option maxRecDepth 100000
set_option maxHeartbeats 4000000
namespace CB
/-! ### bids with those of some persons put to a number; outcomes -/
def put (ps : List Nat) (x : Rat) (bs : List Rat) : List Rat := bs.mapIdx fun i b => if i ∈ ps then x else b
theorem put_len (ps : List Nat) (x : Rat) (bs : List Rat) : (put ps x bs).length = bs.length := by simp [put]
theorem put_get {ps : List Nat} {x b : Rat} {bs : List Rat} {i : Nat} (h : bs[i]? = some b) : (put ps x bs)[i]? = some (if i ∈ ps then x else b) := by simp [put, h]
theorem put_mem {ps : List Nat} {x : Rat} {bs : List Rat} {q : Rat} (h : q ∈ put ps x bs) : q = x ∨ q ∈ bs := by
  obtain ⟨i, hi⟩ := List.mem_iff_getElem?.mp h
  have hl : i < bs.length := by
    have := (List.getElem?_eq_some_iff.mp hi).1
    rwa [put_len] at this
  rw [put_get (List.getElem?_eq_getElem hl)] at hi
  have e := Option.some.inj hi
  by_cases c : i ∈ ps
  · rw [if_pos c] at e; exact .inl e.symm
  · rw [if_neg c] at e; exact .inr (e ▸ List.getElem_mem hl)
/-- those of ls who wish at least what p wishes -/
def eager (ws : List Rat) (ls : List Nat) (p : Nat) : List Nat := ls.filter fun o => !decide (ws.getD o 0 < ws.getD p 0)
def stepG (t : Tm) (ws low : List Rat) (ls : List Nat) (f : Rat) (p : Nat) : Rat := rmax f (rmin (ws.getD p 0) (t.val (put (eager ws ls p) 1 low)))
def outG (t : Tm) (ws bs : List Rat) (ls : List Nat) : Rat := ls.foldl (stepG t ws (put ls 0 bs) ls) (t.val (put ls 0 bs))
def outc (t : Tm) (n : Nat) (ws : List Rat) : Rat := outG t ws ws (List.range n)
end CB

set_option Elab.async false
set_option linter.all false
set_option maxRecDepth 100000
set_option maxHeartbeats 4000000
/-! enumerate of a tuple -/
namespace CB
open PySem PySem.Spec PyProof.Rows L2
open AutoSeq1 (wpAny_loadPart')
theorem enum_new_tup (a : Addr) (xs : Array Value) (m : Nat) (z : Option Addr) (y : Array (Option Value)) :
    Meets (Builtin.«enumerate.__new__» ⟨[.type "enumerate", .ref a], []⟩) (fun _ R s => s.heap.get? a = some { cls := .type "tuple", dict := z, data := .seq xs m, slots := y } ∧
      R (.ok (.ret (.ref (s.heap.push { cls := .type "tuple_iterator", data := .fields #[.ref a, .int 0 0] }).objs.size)))
        { s with heap := (s.heap.push { cls := .type "tuple_iterator", data := .fields #[.ref a, .int 0 0] }).push { cls := .type "enumerate", data := .fields #[.none, .bool false, .ref s.heap.objs.size, rawInt 0, .none, .none] } }) :=
  .of_wp fun prog w A R s z0 => by
    obtain ⟨q1, q2, q3, q4, q5⟩ := s; obtain ⟨z1, z0⟩ := z0
    have z2 := sub_enumerate
    have z3 : Heap.IsTuple (Shared.heap ⟨q1, q2, q3, q4, q5⟩) a xs := ⟨_, z1, rfl, m, rfl⟩
    wp_walk using wpAny_loadPart' z1
    refine wpAny_stack_any fun st => wpAny_pure ?_
    split
    · rename_i c _ _ _ _ _
      cases (c == Value.type "enumerate")
      · wp_walk using wpAny_loadPart' z1, wpAny_pyIter_tuple z3
        exact ⟨_, rfl, z0⟩
      · wp_walk using wpAny_loadPart' z1, wpAny_pyIter_tuple z3
        exact ⟨_, rfl, z0⟩
    · wp_walk using wpAny_loadPart' z1, wpAny_pyIter_tuple z3
      exact ⟨_, rfl, z0⟩
section
variable {prog : Program} {w : World} {A : Around} {E : Value → Shared → Prop} {s : Shared}
theorem call_enum_tup {a : Addr} {xs : Array Value} {Q : Value → Shared → Prop} (hT : s.heap.IsTuple a xs)
    (h : ∀ h', IsEnum h' (s.heap.objs.size + 1) s.heap.objs.size 0 .none → h'.IsTupleIter s.heap.objs.size a 0 → h'.objs.size = s.heap.objs.size + 2 →
      (∀ b o, s.heap.get? b = some o → h'.get? b = some o) → Q (.ref (s.heap.objs.size + 1)) { s with heap := h' }) :
    wpAny (model prog w) A (call (.type "enumerate") [.ref a]) Q E s := by
  obtain ⟨⟨c, z1, z2, z3⟩, hl, hc, n, hd⟩ := hT
  replace hc : c = .type "tuple" := hc
  replace hd : z2 = .seq xs n := hd
  subst hc hd
  refine callType_new F.called_enumerate (by decide) (F.typeCall_enumerate_1 _) (F.newCall_enumerate_1 _) (fun obj => F.args_object_init_2 obj _) F.entry_enumerate_new
    (enum_new_tup a xs n z1 z3) ⟨hl, ?_⟩
  have hz : (s.heap.push { cls := .type "tuple_iterator", data := .fields #[.ref a, .int 0 0] }).objs.size = s.heap.objs.size + 1 := Heap.size_push ..
  show _ ∧ _
  rw [hz]
  have he := Heap.get?_push_size (s.heap.push { cls := .type "tuple_iterator", data := .fields #[.ref a, .int 0 0] })
      (o := { cls := .type "enumerate", data := .fields #[.none, .bool false, .ref s.heap.objs.size, rawInt 0, .none, .none] }) rfl
  rw [hz] at he
  refine ⟨⟨_, he, rfl⟩, h _ he ⟨_, Heap.get?_push_of_some _ (Heap.get?_push_size _ rfl), rfl, rfl⟩ (by rw [Heap.size_push, hz]) fun b o x => Heap.get?_push_of_some _ (Heap.get?_push_of_some _ x)⟩
end
theorem enum_end_tup {prog : Program} {w : World} {A : Around} {E : Value → Shared → Prop} {s : Shared} {e it a : Addr} {i : Nat} {xs : Array Value} {old : Value} {Q : Option Value → Shared → Prop} (hh : A.handled = none)
    (z1 : IsEnum s.heap e it i old) (z2 : s.heap.IsTupleIter it a i) (z3 : s.heap.IsTuple a xs) (z4 : xs[i]? = none) (q : ∀ h', Heap.ExtBut it s.heap h' → Q none { s with heap := h' }) : wpAny (model prog w) A (pyNext (.ref e)) Q E s := by
  have z5 : s.TypeIs (.ref e) "enumerate" := ⟨_, z1, rfl⟩
  unfold pyNext
  refine wpAny_bind (wpAny_attempt (wpAny_callSpecial?_slot (name := Str.ofString "__next__") z5 F.slot_enumerate_next (wpAny_call_entry F.slot_enumerate_next z5 F.entry_enumerate_next ?_ (F.args_enumerate_next_1 _))))
  show wpAny _ _ (field (.ref e) 2 >>= fun _ => _) _ _ _
  refine wpAny_bind (wpAny_field z1 rfl (x := .ref it) rfl (wpAny_bind (wpAny_nextOf_tuple_end hh z2 z3 z4 fun h' x y1 y2 => ?_)))
  obtain ⟨o, y3, y4⟩ := y2
  exact wpAny_bind (wpAny_isInstance (T := "StopIteration") (b := true) ⟨o, y3, y4⟩ isSubtype_stop (wpAny_pure (q _ y1)))
def IteT (K : PySem.W.Frag) (a : Addr) : It :=
  ⟨fun i H => ∃ (xs : List V) (x : V), SqT K H a xs ∧ xs[i]? = some x,
   fun i H v H' => ∃ T x, v = .ref T ∧ H T = none ∧ H' = upd H T (.tup [.int (i : Nat), x]) ∧ ∀ xs, SqT K H a xs → xs[i]? = some x,
   fun i H => ∃ xs : List V, SqT K H a xs ∧ xs.length ≤ i⟩
theorem turn_enumT {P : Program} {w : World} {K : PySem.W.Frag} {elts : List Expr} {kk : Nat} {tpos : Pos} (a e it : Addr) (ea : e ≠ a) (ai : a ≠ it) (ei : e ≠ it) :
    Turn P w K (.Tuple elts kk tpos) (IteT K a) [e, it] e (fun i h => (∃ old, IsEnum h e it ((i : Nat) : Int) old) ∧ h.IsTupleIter it a i) where
  mem := by simp
  obj := fun i h st b hb => by
    obtain ⟨⟨old, he⟩, ⟨o, ho, hc, hd⟩⟩ := st
    have e' : b = e ∨ b = it := by simpa using hb
    rcases e' with z | z
    · rw [z]; exact ⟨_, he, fun v q => nomatch q⟩
    · rw [z]; exact ⟨o, ho, fun v q => by rw [hd] at q; cases q⟩
  keep := fun i h h' st k => let ⟨⟨old, he⟩, hi⟩ := st; ⟨⟨old, k e (by simp) _ he⟩, hi.at fun o q => k it (by simp) o q⟩
  item := by
    intro X hP hw hK hc i pins s σ H E I hf st hg
    subst hP hw hK
    obtain ⟨⟨old, he⟩, hit⟩ := st
    obtain ⟨xs, x, hq, hx⟩ := hg
    obtain ⟨its, rv, pt, hz⟩ := I.tuple hq
    obtain ⟨u, hu, ru⟩ := rv.get hx
    have hel : e < s.heap.objs.size := Heap.lt_size he
    have hil : it < s.heap.objs.size := by obtain ⟨_, q, _⟩ := hit; exact Heap.lt_size q
    have li : i < its.toArray.size := by
      have := (List.getElem?_eq_some_iff.mp hu).1
      simpa using this
    refine wpAny_pyNext_enum_itemD (Draws.tuple (A := X.A.in1) (show X.A.in1.handled = none from I.ok.hd hc) it a ai its.toArray) he ⟨hit, pt⟩ li ei (by simp [ei, ea]) fun u' h' tk hP' ho hst hT hsz hk => ?_
    have eu : u' = u := by
      have h1 : its.toArray[i]? = some u := by simpa using hu
      exact Option.some.inj (hP'.symm.trans h1)
    subst eu
    refine ⟨_, rfl, wpAny_letOwnedTupleGo_enum (s := { s with heap := h', toks := tk + 1 }) ho fun h'' he' sb => ?_⟩
    have hT2 : h''.get? s.heap.objs.size = some { cls := .type "tuple", data := .seq #[.int i tk, u'] } := (sb.2 _ (Nat.ne_of_gt hel)).trans hT
    have new : ObjOk X.prog X.w (upd H s.heap.objs.size (.tup [.int (i : Nat), x])) h'' s.heap.objs.size (.tup [.int (i : Nat), x]) :=
      ⟨by show 2 ≤ sizeLine; decide, [.int i tk, u'], .cons ⟨_, rfl⟩ (.cons ru .nil), ⟨_, hT2, rfl, _, rfl⟩⟩
    have I1 : Inv X pins σ (upd H s.heap.objs.size (.tup [.int (i : Nat), x])) { s with heap := h'', toks := tk + 1 } :=
      I.turnedNew (ch := [e, it]) (fun b ob hb q => (sb.2 b (fun z => hb (by simp [z]))).trans (hk b ob (fun z => hb (by simp [z])) (fun z => hb (by simp [z])) q)) hf (Nat.le_refl _) new
    refine ⟨.ref s.heap.objs.size, _, I1, rfl, ⟨_, x, rfl, I.hok.fresh (Nat.le_refl _), rfl, fun ys hy => by rw [I.tuple_inj hy hq]; exact hx⟩, ⟨⟨u', ?_⟩, hst.1.at fun o q => (sb.2 it (Ne.symm ei)).trans q⟩, fun b hb => ?_⟩
    · have e1 : ((i + 1 : Nat) : Int) = (i : Int) + 1 := by omega
      rw [e1]
      exact he'
    · have hb' : b < s.heap.objs.size := by
        have e' : b = e ∨ b = it := by simpa using hb
        rcases e' with z | z
        · rw [z]; exact hel
        · rw [z]; exact hil
      rw [upd_ne (Nat.ne_of_lt hb')]
      exact (hf b hb).1
  done := by
    intro X hP hw hK hc i pins s σ H E I hf st hg
    subst hP hw hK
    obtain ⟨⟨old, he⟩, hit⟩ := st
    obtain ⟨xs, hq, hx⟩ := hg
    obtain ⟨its, rv, pt, hz⟩ := I.tuple hq
    obtain ⟨f0, f1, f2, f3, f4, f5⟩ := hf it (by simp)
    have hl := rv.length
    exact enum_end_tup (I.ok.hd hc) he hit pt (by simp; omega) fun h' eb => ⟨rfl, I.turned (t' := s.toks) (fun b o hb q => eb b o hb q) f0 f1 f3 f4 f5⟩
  self := fun A i s Q E st h => let ⟨⟨_, he⟩, _⟩ := st; wpAny_pyIter_enum he h
def iEnumT (K : PySem.W.Frag) (ta : TA) : TI := fun σ H R => ta σ H fun vs H1 => ∃ a xs, vs = [.ref a] ∧ SqT K H1 a xs ∧ R (IteT K a) H1
theorem pi_enumT {X : Cx} {e : Expr} {ta : TA} {p pos tpos : Pos} {elts : List Expr} {kk : Nat} (hg : Gl X "enumerate") (hm : X.mg "enumerate" = none) (ha : PA X [e] ta) (hs : starEach [e] X.env = [(false, eval e X.env)] := by rfl) :
    PI X (.Tuple elts kk tpos) (.Call (.Name "enumerate" p) [e] [] pos) (iEnumT X.K ta) := by
  refine ⟨fun pins s σ H R I h => ?_⟩
  refine Call_ (ld_blt I hg hm boot_enumerate (PyProof.Rows.callWith_type1
    (thn (ha.run pos pins s σ H _ I h) fun us s1 ⟨vs, H1, I1, r1, q1⟩ => ?_) hs rfl))
  obtain ⟨a, xs, ex, hq, q⟩ := q1
  subst ex
  cases r1 with
  | cons r rr =>
    cases rr
    cases r
    obtain ⟨its, rv, pt, hz⟩ := I1.tuple hq
    have la : a < s1.heap.objs.size := by obtain ⟨o, ho, _⟩ := pt; exact Heap.lt_size ho
    refine call_enum_tup pt fun h' he hit hsz hk => wpAny_pyIter_enum he ?_
    have I2 : Inv X pins σ H1 { s1 with heap := h' } := I1.kept (t' := s1.toks) hk
    refine ⟨s1.heap.objs.size + 1, [s1.heap.objs.size + 1, s1.heap.objs.size], _, _, H1, rfl, I2, turn_enumT a (s1.heap.objs.size + 1) s1.heap.objs.size (Nat.ne_of_gt (Nat.lt_succ_of_lt la)) (Nat.ne_of_lt la) (Nat.succ_ne_self _), ⟨⟨.none, he⟩, hit⟩, fun b hb => ?_, q⟩
    have e' : b = s1.heap.objs.size + 1 ∨ b = s1.heap.objs.size := by simpa using hb
    have hle : s1.heap.objs.size ≤ b := by
      rcases e' with z | z
      · rw [z]; exact Nat.le_succ _
      · rw [z]; exact Nat.le_refl _
    exact I1.fpOk hle (I1.hok.fresh hle)
/-- going through the pairs of a tuple's places and items, in a comprehension -/
theorem it_enumT {K : PySem.W.Frag} {a : Addr} {xs : List V} {H0 : Hp} {Qd : Hp → Prop} {Body : (Hp → Prop) → V → Hp → Prop} (Pv : Nat → Hp → Prop) (h0 : Pv 0 H0) (hl : ∀ i H, Pv i H → SqT K H a xs)
    (hs : ∀ i x T H, xs[i]? = some x → Pv i H → H T = none → Body (Pv (i + 1)) (.ref T) (upd H T (.tup [.int ((i : Nat) : Int), x]))) (hd : ∀ H, Pv xs.length H → Qd H) :
    ∃ W : Nat → Nat → Hp → Prop, (∃ m, W 0 m H0) ∧ ∀ i m H, W i m H → ((IteT K a).stop i H ∧ Qd H) ∨
      ((IteT K a).go i H ∧ ∃ N : Hp → Prop, (∀ H', N H' → ∃ m', m' < m ∧ W (i + 1) m' H') ∧ ∀ x H', (IteT K a).yld i H x H' → Body N x H') := by
  refine ⟨fun i m H => i + m = xs.length ∧ Pv i H, ⟨xs.length, Nat.zero_add _, h0⟩, fun i m H h => ?_⟩
  obtain ⟨e, p⟩ := h
  have q := hl i H p
  cases m with
  | zero =>
    have e' : i = xs.length := e
    subst e'
    exact .inl ⟨⟨xs, q, Nat.le_refl _⟩, hd H p⟩
  | succ m =>
    have c : i < xs.length := by omega
    have g : xs[i]? = some xs[i] := List.getElem?_eq_getElem c
    refine .inr ⟨⟨xs, _, q, g⟩, Pv (i + 1), fun H' p' => ⟨m, Nat.lt_succ_self m, by omega, p'⟩, fun v H' y => ?_⟩
    obtain ⟨T, x', rfl, hT, rfl, f⟩ := y
    exact hs i x' T H (f xs q) p hT
end CB

set_option Elab.async false
set_option linter.all false
set_option maxRecDepth 100000
set_option maxHeartbeats 4000000
/-! a tuple, once or oftener -/
namespace CB
open PySem PySem.Spec PyProof.Rows L2
theorem tup_once (a : Addr) (xs : Array Value) (m : Nat) (q : Option Addr) (z : Array (Option Value)) (u : Tok) :
    Meets (Builtin.«tuple.__mul__» ⟨[.ref a, .int 1 u], []⟩)
      (fun _ R s => s.heap.get? a = some { cls := .type "tuple", dict := q, data := .seq xs m, slots := z } ∧ R (.ok (.ret (Value.ref a))) s) :=
  .of_wp fun prog w A R s z1 => by
    obtain ⟨s1, s2, s3, s4, s5⟩ := s
    obtain ⟨z2, z1⟩ := z1
    have z3 := AutoSeq1.idx_int
    have z4 : (decide ((1 : Int) < -(2 ^ 63)) || decide ((1 : Int) ≥ 2 ^ 63)) = false := by decide
    have z5 : (xs.isEmpty || (1 : Int) == 1) = true := by simp
    wp_walk using wpAny_loadPart' z2
    repeat (first
      | (refine wpAny_ite_false (decide_eq_false (fun h => absurd (z4.symm.trans h) Bool.false_ne_true)) ?_
         wp_walk using wpAny_loadPart' z2)
      | (refine wpAny_ite_true (decide_eq_true z5) ?_
         wp_walk using wpAny_loadPart' z2))
    exact ⟨_, rfl, z1⟩
section
variable {X : Cx}
def rRepN (K : PySem.W.Frag) : R2 := fun x y H Q => ∃ (a : Addr) (k : Nat) (xs : List V), x = .ref a ∧ y = .int (k : Int) ∧ SqT K H a xs ∧ xs ≠ [] ∧ 1 ≤ k ∧ k ≤ 1000 ∧ xs.length ≤ 1000 ∧
  (k = 1 → Q (.ref a) H) ∧ (2 ≤ k → ∀ p, H p = none → Q (.ref p) (upd H p (.tup (List.replicate k xs).flatten)))
theorem op_repN : OpR X (binaryOp .Mult) (rRepN X.K) := by
  intro pins s σ H x y v u Q I rx ry h
  obtain ⟨a, k, xs, rfl, rfl, hT, hne, k1, k2, hz, q1, q2⟩ := h
  by_cases c : k = 1
  · subst c
    cases rx
    obtain ⟨t, rfl⟩ := ry
    obtain ⟨its, r, ⟨⟨cls, dd, data, sl⟩, ho, hc, n, hd⟩, hs⟩ := I.tuple hT
    simp only at hc hd
    subst hc hd
    refine wpAny_binaryOp_repeat_ref (T := "tuple") (U := "int") (by decide) ⟨_, ho, rfl⟩ (fun s' => typeIs_int s' _ t)
      noFill_tuple_mul F.fills_int_mul F.slot_int_rmul repeat_tuple F.slot_int_index.lookup
      (call_meets F.slot_int_rmul (typeIs_int s _ t) F.entry_int_rmul (F.args_int_rmul_2 _ _)
        (int_rmul_tuple _ t a its.toArray n dd sl)
        ⟨ho, rfl, ⟨_, ho, rfl⟩, call_meets F.slot_tuple_mul ⟨_, ho, rfl⟩ F.entry_tuple_mul (F.args_tuple_mul_2 _ _) (tup_once a its.toArray n dd sl t) ⟨ho, ?_⟩⟩)
    exact ⟨.ref a, _, I, rfl, q1 rfl⟩
  · exact op_repT pins s σ H _ _ v u Q I rx ry ⟨a, (k : Int), xs, rfl, rfl, hT, hne, by omega, by omega, hz, fun p hp => by
      have := q2 (by omega) p hp
      rw [Int.toNat_natCast]
      exact this⟩
end
end CB

set_option Elab.async false
set_option linter.all false
set_option maxRecDepth 100000
set_option maxHeartbeats 4000000
namespace CB
/-! ### the outcome, from both sides -/
def end01 (n : Nat) (ps : List Nat) : List Rat := put ps 1 (List.replicate n 0)
theorem end01_len (n : Nat) (ps : List Nat) : (end01 n ps).length = n := by unfold end01; rw [put_len, List.length_replicate]
theorem end01_get {n i : Nat} {ps : List Nat} (h : i < n) : (end01 n ps)[i]? = some (if i ∈ ps then 1 else 0) := put_get (by rw [List.getElem?_replicate, if_pos h])
theorem put_range {ws : List Rat} {n : Nat} (h : ws.length = n) : put (List.range n) 0 ws = List.replicate n 0 := by
  apply List.ext_getElem?
  intro i
  by_cases c : i < n
  · rw [put_get (List.getElem?_eq_getElem (by omega)), if_pos (List.mem_range.mpr c), List.getElem?_replicate, if_pos c]
  · rw [List.getElem?_eq_none (by rw [put_len]; omega), List.getElem?_eq_none (by rw [List.length_replicate]; omega)]
theorem end01_nil (n : Nat) : end01 n [] = List.replicate n 0 := by
  apply List.ext_getElem?
  intro i
  by_cases c : i < n
  · rw [end01_get c, List.getElem?_replicate, if_pos c]
    simp
  · rw [List.getElem?_eq_none (by rw [end01_len]; omega), List.getElem?_eq_none (by rw [List.length_replicate]; omega)]
theorem nrL_of {s : Rat} : ∀ {l m : List Rat}, l.length = m.length → (∀ (i : Nat) (x y : Rat), l[i]? = some x → m[i]? = some y → Nr s x y) → NrL s l m
  | [], [], _, _ => trivial
  | x :: l, y :: m, e, h => ⟨h 0 x y rfl rfl, nrL_of (l := l) (m := m) (by simpa using e) fun i a b h1 h2 => h (i + 1) a b h1 h2⟩
  | [], _ :: _, e, _ => by simp at e
  | _ :: _, [], e, _ => by simp at e
theorem end01_nr {n : Nat} {S E : List Nat} (h : ∀ p ∈ S, p ∈ E) : NrL 1 (end01 n S) (end01 n E) := by
  refine nrL_of (by rw [end01_len, end01_len]) fun i x y hx hy => ?_
  have il : i < n := by have := (List.getElem?_eq_some_iff.mp hx).1; rwa [end01_len] at this
  rw [end01_get il] at hx hy
  cases hx
  cases hy
  unfold Nr
  by_cases c : i ∈ S
  · rw [if_pos c, if_pos (h i c)]
    constructor <;> grind
  · rw [if_neg c]
    split <;> constructor <;> grind
theorem val_sub {n z : Nat} {t : Tm} (ho : t.Ok n z) {S E : List Nat} (h : ∀ p ∈ S, p ∈ E) : t.val (end01 n S) ≤ t.val (end01 n E) := (val_nr (by grind) (end01_nr h) t ho).1
theorem foldl_stepG (t : Tm) (ws low : List Rat) (ls : List Nat) : ∀ (l : List Nat) (f : Rat), f ≤ l.foldl (stepG t ws low ls) f ∧ (∀ p ∈ l, rmin (ws.getD p 0) (t.val (put (eager ws ls p) 1 low)) ≤ l.foldl (stepG t ws low ls) f) ∧
    (l.foldl (stepG t ws low ls) f = f ∨ ∃ p ∈ l, l.foldl (stepG t ws low ls) f = rmin (ws.getD p 0) (t.val (put (eager ws ls p) 1 low)))
  | [], f => ⟨by show f ≤ f; grind, by simp, .inl rfl⟩
  | q :: l, f => by
    obtain ⟨h1, h2, h3⟩ := foldl_stepG t ws low ls l (stepG t ws low ls f q)
    have m : f ≤ stepG t ws low ls f q ∧ rmin (ws.getD q 0) (t.val (put (eager ws ls q) 1 low)) ≤ stepG t ws low ls f q ∧ (stepG t ws low ls f q = f ∨ stepG t ws low ls f q = rmin (ws.getD q 0) (t.val (put (eager ws ls q) 1 low))) := by
      unfold stepG rmax
      split <;> refine ⟨?_, ?_, ?_⟩ <;> grind
    rw [List.foldl_cons]
    refine ⟨by grind, fun p hp => ?_, ?_⟩
    · rcases List.mem_cons.mp hp with e | e
      · rw [e]; grind
      · exact h2 p e
    · rcases h3 with e | ⟨p, hp, e⟩
      · rcases m.2.2 with e' | e'
        · exact .inl (e.trans e')
        · exact .inr ⟨q, List.mem_cons_self, e.trans e'⟩
      · exact .inr ⟨p, List.mem_cons_of_mem _ hp, e⟩
theorem least_of_list (f : Nat → Rat) : ∀ {S : List Nat}, S ≠ [] → ∃ p ∈ S, ∀ o ∈ S, f p ≤ f o
  | [], h => absurd rfl h
  | [p], _ => ⟨p, List.mem_cons_self, fun o ho => by rw [List.mem_singleton.mp ho]; grind⟩
  | p :: q :: S, _ => by
    obtain ⟨r, hr, h⟩ := least_of_list f (S := q :: S) (by simp)
    by_cases c : f p ≤ f r
    · exact ⟨p, List.mem_cons_self, fun o ho => by
        rcases List.mem_cons.mp ho with e | e
        · rw [e]; grind
        · have := h o e; grind⟩
    · exact ⟨r, List.mem_cons_of_mem _ hr, fun o ho => by
        rcases List.mem_cons.mp ho with e | e
        · rw [e]; grind
        · exact h o e⟩
theorem outc_eq {t : Tm} {n : Nat} {ws : List Rat} (h : ws.length = n) : outc t n ws = (List.range n).foldl (stepG t ws (List.replicate n 0) (List.range n)) (t.val (List.replicate n 0)) := by
  unfold outc outG
  rw [put_range h]
/-- what a lot can hold -/
theorem outc_ge {t : Tm} {n z : Nat} {ws : List Rat} (ho : t.Ok n z) (hw : ws.length = n) {S : List Nat} (hS : ∀ p ∈ S, p < n) {x : Rat} (h1 : x ≤ t.val (end01 n S)) (h2 : ∀ p ∈ S, x ≤ ws.getD p 0) : x ≤ outc t n ws := by
  rw [outc_eq hw]
  obtain ⟨f1, f2, _⟩ := foldl_stepG t ws (List.replicate n 0) (List.range n) (List.range n) (t.val (List.replicate n 0))
  by_cases c : S = []
  · rw [c, end01_nil] at h1
    grind
  · obtain ⟨p, hp, hm⟩ := least_of_list (fun p => ws.getD p 0) c
    have g := f2 p (List.mem_range.mpr (hS p hp))
    have sub : ∀ o ∈ S, o ∈ eager ws (List.range n) p := fun o ho' => List.mem_filter.mpr ⟨List.mem_range.mpr (hS o ho'), by
      have := hm o ho'
      rw [Bool.not_eq_true', decide_eq_false_iff_not]
      grind⟩
    have v : t.val (end01 n S) ≤ t.val (put (eager ws (List.range n) p) 1 (List.replicate n 0)) := val_sub ho sub
    have w := h2 p hp
    have : x ≤ rmin (ws.getD p 0) (t.val (put (eager ws (List.range n) p) 1 (List.replicate n 0))) := by
      unfold rmin
      split <;> grind
    grind
theorem outc_at {t : Tm} {n : Nat} {ws : List Rat} (hw : ws.length = n) : ∃ S : List Nat, (∀ p ∈ S, p < n) ∧ outc t n ws ≤ t.val (end01 n S) ∧ (∀ p ∈ S, outc t n ws ≤ ws.getD p 0) ∧ (outc t n ws = t.val (end01 n S) ∨ ∃ p, p < n ∧ outc t n ws = ws.getD p 0) := by
  obtain ⟨_, _, f3⟩ := foldl_stepG t ws (List.replicate n 0) (List.range n) (List.range n) (t.val (List.replicate n 0))
  rw [← outc_eq hw] at f3
  rcases f3 with e | ⟨p, hp, e⟩
  · exact ⟨[], by simp, by rw [e, end01_nil]; grind, by simp, .inl (by rw [e, end01_nil])⟩
  · have m : outc t n ws ≤ ws.getD p 0 ∧ outc t n ws ≤ t.val (put (eager ws (List.range n) p) 1 (List.replicate n 0)) ∧ (outc t n ws = t.val (put (eager ws (List.range n) p) 1 (List.replicate n 0)) ∨ outc t n ws = ws.getD p 0) := by
      rw [e]
      unfold rmin
      split <;> refine ⟨?_, ?_, ?_⟩ <;> grind
    refine ⟨eager ws (List.range n) p, fun o ho => List.mem_range.mp (List.mem_filter.mp ho).1, m.2.1, fun o ho => ?_, ?_⟩
    · have h := (List.mem_filter.mp ho).2
      rw [Bool.not_eq_true', decide_eq_false_iff_not] at h
      grind
    · rcases m.2.2 with e | e
      · exact .inl e
      · exact .inr ⟨p, List.mem_range.mp hp, e⟩
theorem getD_mem {ws : List Rat} {p : Nat} (h : p < ws.length) : ws.getD p 0 ∈ ws := by
  rw [List.getD_eq_getElem?_getD, List.getElem?_eq_getElem h]
  exact List.getElem_mem h
/-- with higher wishes it is never lower, and rises no more than they do -/
theorem outc_nr {t : Tm} {n z : Nat} {ws vs : List Rat} {s : Rat} (ho : t.Ok n z) (hs : 0 ≤ s) (hw : ws.length = n) (hv : vs.length = n) (h : NrL s ws vs) : Nr s (outc t n ws) (outc t n vs) := by
  constructor
  · obtain ⟨S, h1, h2, h3, _⟩ := outc_at (t := t) hw
    exact outc_ge ho hv h1 h2 fun p hp => by have := (nrL_get hs p h).1; have := h3 p hp; grind
  · obtain ⟨S, h1, h2, h3, _⟩ := outc_at (t := t) hv
    have := outc_ge ho hw h1 (x := outc t n vs - s) (by grind) fun p hp => by have := (nrL_get hs p h).2; have := h3 p hp; grind
    grind
/-- wishes moved on their own side of it -/
theorem outc_moved {t : Tm} {n z : Nat} {ws vs : List Rat} {c : Rat} (ho : t.Ok n z) (hw : ws.length = n) (hv : vs.length = n) (hc : outc t n ws = c)
    (h : ∀ p, p < n → vs.getD p 0 = ws.getD p 0 ∨ (ws.getD p 0 < c ∧ vs.getD p 0 < c) ∨ (c < ws.getD p 0 ∧ c < vs.getD p 0)) : outc t n vs = c := by
  have a : c ≤ outc t n vs := by
    obtain ⟨S, h1, h2, h3, _⟩ := outc_at (t := t) hw
    rw [hc] at h2 h3
    refine outc_ge ho hv h1 h2 fun p hp => ?_
    have := h3 p hp
    rcases h p (h1 p hp) with e | e | e
    · grind
    · grind
    · grind
  have b : outc t n vs ≤ c := by
    refine Classical.byContradiction fun hn => ?_
    have hlt : c < outc t n vs := by grind
    obtain ⟨S, h1, h2, h3, _⟩ := outc_at (t := t) hv
    by_cases e : S = []
    · subst e
      have := outc_ge (t := t) ho hw (S := []) (x := outc t n vs) (by simp) h2 (by simp)
      grind
    · have key : ∃ y : Rat, c < y ∧ y ≤ outc t n vs ∧ ∀ p ∈ S, y ≤ ws.getD p 0 := by
        obtain ⟨p, hp, hm⟩ := least_of_list (fun p => ws.getD p 0) e
        have g : c < ws.getD p 0 := by
          have := h3 p hp
          rcases h p (h1 p hp) with e | e | e <;> grind
        by_cases d : outc t n vs ≤ ws.getD p 0
        · exact ⟨outc t n vs, hlt, by grind, fun o ho => by have := hm o ho; grind⟩
        · exact ⟨ws.getD p 0, g, by grind, fun o ho => hm o ho⟩
      obtain ⟨y, y1, y2, y3⟩ := key
      have := outc_ge (t := t) ho hw (S := S) (x := y) h1 (by grind) y3
      grind
  grind
theorem outc_const {t : Tm} {n z : Nat} {c : Rat} (ho : t.Ok n z) : outc t n (List.replicate n c) = rmax (t.val (end01 n [])) (rmin (t.val (end01 n (List.range n))) c) := by
  have hw : (List.replicate n c).length = n := List.length_replicate
  have gd : ∀ p, p < n → (List.replicate n c).getD p 0 = c := fun p hp => by
    rw [List.getD_eq_getElem?_getD, List.getElem?_replicate, if_pos hp]
    rfl
  have t01 : t.val (end01 n []) ≤ t.val (end01 n (List.range n)) := val_sub ho (by simp)
  obtain ⟨S, h1, h2, h3, _⟩ := outc_at (t := t) hw
  have a1 := outc_ge (t := t) ho hw (S := []) (x := t.val (end01 n [])) (by simp) (by grind) (by simp)
  have a2 := outc_ge (t := t) ho hw (S := List.range n) (x := rmin (t.val (end01 n (List.range n))) c) (fun p hp => List.mem_range.mp hp) (by unfold rmin; split <;> grind) (fun p hp => by rw [gd p (List.mem_range.mp hp)]; unfold rmin; split <;> grind)
  have b : outc t n (List.replicate n c) ≤ rmax (t.val (end01 n [])) (rmin (t.val (end01 n (List.range n))) c) := by
    by_cases e : S = []
    · subst e
      unfold rmax
      split <;> grind
    · obtain ⟨p, hp⟩ : ∃ p, p ∈ S := List.exists_mem_of_ne_nil S e
      have u := h3 p hp
      rw [gd p (h1 p hp)] at u
      have v : t.val (end01 n S) ≤ t.val (end01 n (List.range n)) := val_sub ho fun p hp => List.mem_range.mpr (h1 p hp)
      unfold rmax rmin
      (repeat' split) <;> grind
  unfold rmax at b ⊢
  split at b <;> grind
end CB

set_option Elab.async false
set_option linter.all false
set_option maxRecDepth 100000
set_option maxHeartbeats 4000000
/-! sorted of a list of tuples of ints, all of one length; of length 0 there is at most one -/
namespace CB
open PySem PySem.Spec PyProof.Rows L2
section
open TS
variable {prog : Program} {w : World} {A : Around} {E : Value → Shared → Prop} {s : Shared}
theorem sort_few {a : Addr} {vs : List Value} {n : Nat} {P : PySem.Fin → Shared → Prop} (ho : s.heap.get? a = some (seqObj "list" vs.toArray n)) (h1 : vs.length ≤ 1)
    (h : ∀ out : Array Value, out.toList.Perm vs → P (.done (.ret .none)) { s with heap := sortedHeap s.heap a vs out }) :
    wpAny (model prog w) A (Builtin.«list.sort» ⟨[.ref a], []⟩) P E s := by
  refine SK.plain_sort (r := fun _ => 0) ho (by omega) (fun h2 Q hQ => absurd h2 (by omega)) fun ps out h1 h2 h3 => ?_
  obtain ⟨p, o⟩ := out_rank (r := fun _ => 0) h1 h2 h3
  exact h out p
theorem sorted_few {l : Addr} {vs : List Value} {Q : Value → Shared → Prop} (hl : s.heap.IsList l vs.toArray) (h1 : vs.length ≤ 1)
    (h : ∀ out : Array Value, out.toList.Perm vs → Q (.ref (s.heap.objs.size + 1)) { s with heap := sortedAll s.heap vs out }) :
    wpAny (model prog w) A (call (.builtin "sorted") [.ref l]) Q E s := by
  refine Calls.call_function_entry kind_sorted plain_sorted entry_sorted (args_sorted1 _) ?_
  unfold Builtin.«sorted»
  refine wpAny_bind (m := checkCount "sorted" 1 1 _) (wpAny_pure ?_)
  refine wpAny_bind (collect_list hl ?_ (by rw [sizeLine_eq]; omega))
  refine wpAny_bind (wpAny_newList ?_ (by rw [sizeLine_eq]; omega))
  have hsz : ((s.heap.push (seqObj "list" #[] 0)).update s.heap.objs.size (Obj.mapSeq (· ++ vs.toArray))).objs.size = s.heap.objs.size + 1 := by
    rw [Heap.size_update, size_push']
  have hoL : (((s.heap.push (seqObj "list" #[] 0)).update s.heap.objs.size (Obj.mapSeq (· ++ vs.toArray))).push (seqObj "list" vs.toArray 0)).get? (s.heap.objs.size + 1) = some (seqObj "list" vs.toArray 0) := by
    rw [← hsz]; exact Heap.get?_push_size _ rfl
  show wpAny _ _ _ _ _ { s with heap := ((s.heap.push (seqObj "list" #[] 0)).update s.heap.objs.size (Obj.mapSeq (· ++ vs.toArray))).push (seqObj "list" vs.toArray 0) }
  rw [hsz]
  refine wpAny_bind (wpAny_holding (wpAny_call_entry slot_list_sort ⟨_, hoL, rfl⟩ entry_list_sort (sort_few hoL h1 fun out a1 => ⟨_, rfl, ?_⟩) (args_list_sort _)))
  exact wpAny_pure ⟨_, rfl, h out a1⟩
end
section
variable {X : Cx}
/-- sorted(xs), xs a list of fewer than 64 tuples of d ints in [0, B); of d = 0 at most one -/
def rSortL (K : PySem.W.Frag) (B : Int) : List V → Hp → VK → Prop := fun vs H Q => ∃ (a : Addr) (xs : List V) (d : Nat), vs = [V.ref a] ∧ SqL K H a xs ∧ xs.length < 64 ∧ (∀ x ∈ xs, ∃ ns, TupI K H x ns ∧ ns.length = d ∧ TS.Bd B ns) ∧ (d = 0 → xs.length ≤ 1) ∧
  ∀ (ys : List V) (p : Addr), ys.Perm xs → ys.Pairwise (fun x y => ∀ n m, TupI K H x n → TupI K H y m → TS.code B n ≤ TS.code B m) → H p = none → Q (.ref p) (upd H p (.lst ys))
theorem cr_sortL {B : Int} : CallR X (.builtin "sorted") (rSortL X.K B) := by
  intro pins s σ H vs us Q I r h
  obtain ⟨a, xs, d, rfl, hs, h64, hx, h0, q⟩ := h
  by_cases hd : 1 ≤ d
  · exact cr_sortT (d := d) (B := B) hd pins s σ H _ us Q I r ⟨a, xs, rfl, hs, h64, hx, q⟩
  · have h1 := h0 (by omega)
    obtain ⟨its, rv, hl, hz⟩ := I.list hs
    rw [Vals.ref1 r]
    obtain ⟨e1, e2⟩ := bkV_refs rv fun x m => by
      obtain ⟨ns, ⟨t, e, _⟩, _⟩ := hx x m
      exact ⟨t, e⟩
    refine sorted_few hl.isList (by rw [← rv.length]; exact h1) fun out h1' => ?_
    obtain ⟨ep, he'⟩ := PyProof.Rows.sortedAll_at s.heap its out
    have h3 : ∀ u ∈ out.toList, ∃ a, u = Value.ref a := fun u hu => e2 u (h1'.mem_iff.mp hu)
    have hp : (out.toList.map bkV).Perm xs := by
      rw [e1]
      exact h1'.map bkV
    have hlen : (out.toList.map bkV).length ≤ sizeLine := by
      rw [hp.length_eq]
      exact hz
    refine ⟨.ref _, upd H (s.heap.objs.size + 1) (.lst (out.toList.map bkV)), I.laid (t' := s.toks) (fun _ _ => PyProof.Rows.sortedAll_old) (Nat.le_succ _) ⟨hlen, out.toList, ep, bkV_vals h3, he'⟩, rfl, q _ _ hp ?_ (I.hok.fresh (Nat.le_succ _))⟩
    have hl1 : (out.toList.map bkV).length ≤ 1 := by rw [hp.length_eq]; exact h1
    match he : out.toList.map bkV, hl1 with
    | [], _ => exact .nil
    | [x], _ => exact List.pairwise_singleton _ _
end
end CB

set_option Elab.async false
set_option linter.all false
set_option maxRecDepth 100000
set_option maxHeartbeats 4000000
/-! lots, and the outcome by all lots -/
namespace CB
open PySem PySem.Spec PyProof.Rows L2
/-- persons, as numbers -/
def pI (ps : List Nat) : List Int := ps.map fun (p : Nat) => ((p : Nat) : Int)
def pV (ps : List Nat) : List V := (pI ps).map V.int
theorem pV_len (ps : List Nat) : (pV ps).length = ps.length := by simp [pV, pI]
theorem pV_get {ps : List Nat} {i : Nat} {x : V} (h : (pV ps)[i]? = some x) : ∃ p, ps[i]? = some p ∧ x = .int (p : Int) := by
  unfold pV pI at h
  rw [List.getElem?_map, List.getElem?_map] at h
  cases e : ps[i]? with
  | none => rw [e] at h; cases h
  | some p => rw [e] at h; cases h; exact ⟨p, rfl, rfl⟩
theorem pV_flat (ps : List Nat) : (pV ps).all flatV = true := by
  unfold pV
  rw [List.all_map]
  exact List.all_eq_true.mpr fun _ _ => rfl
theorem pV_in (ps : List Nat) (i : Nat) : inV (.int (i : Int)) (pV ps) = decide (i ∈ ps) := by
  unfold inV pV pI
  rw [List.any_map, List.any_map]
  rw [Bool.eq_iff_iff, List.any_eq_true, decide_eq_true_iff]
  constructor
  · rintro ⟨x, hx, e⟩
    have e' : ((x : Nat) : Int) = (i : Int) := by simpa [eqV] using e
    have : x = i := by omega
    exact this ▸ hx
  · intro h
    exact ⟨i, h, by simp [eqV]⟩
theorem rgV_pV (n : Nat) : rgV 0 (n : Int) = pV (List.range n) := by
  unfold rgV pV pI
  rw [List.map_map, show ((n : Int) - 0).toNat = n by omega]
  exact List.map_congr_left fun i _ => by simp
theorem pV_snoc (ps : List Nat) (p : Nat) : pV (ps ++ [p]) = pV ps ++ [V.int (p : Int)] := by simp [pV, pI]
theorem pI_inj {a b : List Nat} (h : pI a = pI b) : a = b := by
  induction a generalizing b with
  | nil => cases b with
    | nil => rfl
    | cons y b => simp [pI] at h
  | cons x a ih => cases b with
    | nil => simp [pI] at h
    | cons y b =>
      have h1 : ((x : Nat) : Int) = (y : Int) ∧ pI a = pI b := by simpa [pI] using h
      rw [ih h1.2, show x = y by omega]
inductive LotsAt (K : PySem.W.Frag) (H : Hp) : List V → List (List Nat) → Prop
  | nil : LotsAt K H [] []
  | cons {x : V} {xs : List V} {l : List Nat} {ls : List (List Nat)} : TupI K H x (pI l) → LotsAt K H xs ls → LotsAt K H (x :: xs) (l :: ls)
section
variable {K : PySem.W.Frag} {H H' : Hp}
theorem tupI_mono (e : KT H H') {x : V} {ns : List Int} (h : TupI K H x ns) : TupI K H' x ns := by
  obtain ⟨t, rfl, h⟩ := h
  exact ⟨t, rfl, e.sq h⟩
theorem LotsAt.mono (e : KT H H') : ∀ {xs : List V} {L : List (List Nat)}, LotsAt K H xs L → LotsAt K H' xs L
  | _, _, .nil => .nil
  | _, _, .cons h t => .cons (tupI_mono e h) (LotsAt.mono e t)
theorem LotsAt.append : ∀ {xs ys : List V} {L M : List (List Nat)}, LotsAt K H xs L → LotsAt K H ys M → LotsAt K H (xs ++ ys) (L ++ M)
  | _, _, _, _, .nil, h => h
  | _, _, _, _, .cons a b, h => .cons a (LotsAt.append b h)
theorem LotsAt.length : ∀ {xs : List V} {L : List (List Nat)}, LotsAt K H xs L → xs.length = L.length
  | _, _, .nil => rfl
  | _, _, .cons _ t => by simp [LotsAt.length t]
theorem LotsAt.getV : ∀ {xs : List V} {L : List (List Nat)} {i : Nat} {x : V}, LotsAt K H xs L → xs[i]? = some x → ∃ l, L[i]? = some l ∧ TupI K H x (pI l)
  | _, _, _, _, .nil, e => by simp at e
  | _, _, 0, _, .cons h _, e => by simp at e; subst e; exact ⟨_, rfl, h⟩
  | _, _, i + 1, x, .cons _ t, e => by
    obtain ⟨l, h1, h2⟩ := LotsAt.getV (i := i) (x := x) t (by simpa using e)
    exact ⟨l, by simpa using h1, h2⟩
theorem LotsAt.get : ∀ {xs : List V} {L : List (List Nat)} {i : Nat} {l : List Nat}, LotsAt K H xs L → L[i]? = some l → ∃ x, xs[i]? = some x ∧ TupI K H x (pI l)
  | _, _, _, _, .nil, e => by simp at e
  | _, _, 0, _, .cons h _, e => by simp at e; subst e; exact ⟨_, rfl, h⟩
  | _, _, i + 1, l, .cons _ t, e => by
    obtain ⟨x, h1, h2⟩ := LotsAt.get (i := i) (l := l) t (by simpa using e)
    exact ⟨x, by simpa using h1, h2⟩
theorem LotsAt.memV : ∀ {xs : List V} {L : List (List Nat)} {x : V}, LotsAt K H xs L → x ∈ xs → ∃ l ∈ L, TupI K H x (pI l) := fun h m => by
  obtain ⟨i, e⟩ := List.mem_iff_getElem?.mp m
  obtain ⟨l, e1, e2⟩ := h.getV e
  exact ⟨l, List.mem_of_getElem? e1, e2⟩
theorem LotsAt.perm {xs ys : List V} (p : xs.Perm ys) : ∀ {L : List (List Nat)}, LotsAt K H xs L → ∃ M, L.Perm M ∧ LotsAt K H ys M := by
  induction p with
  | nil => exact fun h => ⟨_, List.Perm.refl _, h⟩
  | cons x _ ih =>
    intro L h
    cases h with
    | cons h t =>
      obtain ⟨M, m1, m2⟩ := ih t
      exact ⟨_, m1.cons _, .cons h m2⟩
  | swap x y l =>
    intro L h
    cases h with
    | cons h t =>
      cases t with
      | cons h2 t => exact ⟨_, List.Perm.swap _ _ _, .cons h2 (.cons h t)⟩
  | trans _ _ ih1 ih2 =>
    intro L h
    obtain ⟨M, m1, m2⟩ := ih1 h
    obtain ⟨N, n1, n2⟩ := ih2 m2
    exact ⟨N, m1.trans n1, n2⟩
theorem LotsAt.pairs {B : Int} : ∀ {xs : List V} {L : List (List Nat)}, LotsAt K H xs L → xs.Pairwise (fun x y => ∀ n m, TupI K H x n → TupI K H y m → TS.code B n ≤ TS.code B m) → L.Pairwise fun a b => TS.code B (pI a) ≤ TS.code B (pI b)
  | _, _, .nil, _ => .nil
  | _, _, .cons h t, p => by
    obtain ⟨p1, p2⟩ := List.pairwise_cons.mp p
    refine List.pairwise_cons.mpr ⟨fun b hb => ?_, LotsAt.pairs t p2⟩
    obtain ⟨i, hi⟩ := List.mem_iff_getElem?.mp hb
    obtain ⟨y, hy, ty⟩ := t.get hi
    exact p1 y (List.mem_of_getElem? hy) _ _ h ty
theorem LotsAt.snoc {xs : List V} {L : List (List Nat)} {x : V} {l : List Nat} (h : LotsAt K H xs L) (t : TupI K H x (pI l)) : LotsAt K H (xs ++ [x]) (L ++ [l]) := h.append (.cons t .nil)
end
def subs : Nat → List (List Nat)
  | 0 => [[]]
  | n + 1 => subs n ++ (subs n).map fun l => l ++ [n]
theorem subs_len : ∀ n, (subs n).length = 2 ^ n
  | 0 => rfl
  | n + 1 => by rw [subs, List.length_append, List.length_map, subs_len n, Nat.pow_succ]; omega
theorem subs_lt : ∀ {n : Nat} {l : List Nat}, l ∈ subs n → ∀ p ∈ l, p < n
  | 0, l, h, p, hp => by rw [List.mem_singleton.mp h] at hp; cases hp
  | n + 1, l, h, p, hp => by
    rcases List.mem_append.mp h with h | h
    · have := subs_lt h p hp; omega
    · obtain ⟨m, hm, rfl⟩ := List.mem_map.mp h
      rcases List.mem_append.mp hp with hp | hp
      · have := subs_lt hm p hp; omega
      · rw [List.mem_singleton.mp hp]; omega
theorem subs_size : ∀ {n : Nat} {l : List Nat}, l ∈ subs n → l.length ≤ n
  | 0, l, h => by rw [List.mem_singleton.mp h]; exact Nat.le_refl _
  | n + 1, l, h => by
    rcases List.mem_append.mp h with h | h
    · have := subs_size h; omega
    · obtain ⟨m, hm, rfl⟩ := List.mem_map.mp h
      have := subs_size hm
      rw [List.length_append, List.length_singleton]; omega
theorem subs_filter (f : Nat → Bool) : ∀ n, (List.range n).filter f ∈ subs n
  | 0 => List.mem_singleton.mpr rfl
  | n + 1 => by
    have ih := subs_filter f n
    rw [List.range_succ, List.filter_append]
    cases e : f n with
    | true =>
      rw [List.filter_cons_of_pos e, List.filter_nil]
      exact List.mem_append_right _ (List.mem_map.mpr ⟨_, ih, rfl⟩)
    | false =>
      rw [List.filter_cons_of_neg (by rw [e]; decide), List.filter_nil, List.append_nil]
      exact List.mem_append_left _ ih
theorem subs_few : ∀ n, n ≤ 6 → ∀ i, i < 64 → ((subs n).filter fun l => decide (l.length = i)).length < 64 ∧ (i = 0 → ((subs n).filter fun l => decide (l.length = i)).length ≤ 1) := by
  decide +kernel
def LotsBy (L : List (List Nat)) : Prop := L.Pairwise fun a b => a.length < b.length ∨ (a.length = b.length ∧ TS.code 64 (pI a) ≤ TS.code 64 (pI b))
theorem pI_bd {n : Nat} {l : List Nat} (h : ∀ p ∈ l, p < n) (hn : n ≤ 6) : TS.Bd 64 (pI l) := fun m hm => by
  obtain ⟨p, hp, rfl⟩ := List.mem_map.mp hm
  have := h p hp
  show 0 ≤ ((p : Nat) : Int) ∧ ((p : Nat) : Int) < 64
  omega
/-- the outcome is the greatest, over all lots, of the least of the corner and of the wishes in the lot -/
def lotL (t : Tm) (n : Nat) (ws : List Rat) (l : List Nat) : List Rat := t.val (end01 n l) :: l.map fun p => ws.getD p 0
theorem end01_congr {n : Nat} {S E : List Nat} (h : ∀ p, p < n → (p ∈ S ↔ p ∈ E)) : end01 n S = end01 n E := by
  apply List.ext_getElem?
  intro i
  by_cases c : i < n
  · rw [end01_get c, end01_get c]
    simp only [h i c]
  · rw [List.getElem?_eq_none (by rw [end01_len]; omega), List.getElem?_eq_none (by rw [end01_len]; omega)]
theorem outc_lots {t : Tm} {n z : Nat} {ws : List Rat} {L : List (List Nat)} (ho : t.Ok n z) (hw : ws.length = n) (hL : L.Perm (subs n)) : maxL (L.map fun l => minL (lotL t n ws l)) = outc t n ws := by
  have ne : (L.map fun l => minL (lotL t n ws l)) ≠ [] := by
    intro e
    have := congrArg List.length e
    rw [List.length_map, hL.length_eq, subs_len] at this
    have := Nat.two_pow_pos n
    simp at *
  obtain ⟨m1, m2⟩ := maxL_mem ne
  have a : maxL (L.map fun l => minL (lotL t n ws l)) ≤ outc t n ws := by
    obtain ⟨l, hl, e⟩ := List.mem_map.mp m1
    rw [← e]
    have hs := hL.mem_iff.mp hl
    obtain ⟨_, q⟩ := minL_mem (l := lotL t n ws l) (by simp [lotL])
    exact outc_ge ho hw (subs_lt hs) (q _ List.mem_cons_self) fun p hp => q _ (List.mem_cons_of_mem _ (List.mem_map.mpr ⟨p, hp, rfl⟩))
  have b : outc t n ws ≤ maxL (L.map fun l => minL (lotL t n ws l)) := by
    obtain ⟨S, s1, s2, s3, _⟩ := outc_at (t := t) hw
    have hm := subs_filter (fun p => decide (p ∈ S)) n
    have e := end01_congr (n := n) (S := (List.range n).filter fun p => decide (p ∈ S)) (E := S) fun p hp => by
      rw [List.mem_filter, List.mem_range, decide_eq_true_iff]
      exact ⟨fun h => h.2, fun h => ⟨hp, h⟩⟩
    have g := m2 _ (List.mem_map.mpr ⟨_, hL.mem_iff.mpr hm, rfl⟩)
    obtain ⟨q, _⟩ := minL_mem (l := lotL t n ws ((List.range n).filter fun p => decide (p ∈ S))) (by simp [lotL])
    rcases List.mem_cons.mp q with h | h
    · rw [h, e] at g; grind
    · obtain ⟨p, hp, h⟩ := List.mem_map.mp h
      have hp2 := (List.mem_filter.mp hp).2
      have := s3 p (of_decide_eq_true hp2)
      rw [← h] at g; grind
  grind
/-- at wishes 1 on a lot, 0 elsewhere -/
theorem outc_end01 {t : Tm} {n z : Nat} (ho : t.Ok n z) {S : List Nat} (hS : ∀ p ∈ S, p < n) (h01 : ∀ E : List Nat, 0 ≤ t.val (end01 n E) ∧ t.val (end01 n E) ≤ 1) : outc t n (end01 n S) = t.val (end01 n S) := by
  have gd : ∀ p, p < n → (end01 n S).getD p 0 = if p ∈ S then 1 else 0 := fun p hp => by
    rw [List.getD_eq_getElem?_getD, end01_get hp]
    rfl
  have a := outc_ge (t := t) ho (end01_len n S) hS (x := t.val (end01 n S)) (by grind) fun p hp => by
    rw [gd p (hS p hp), if_pos hp]
    exact (h01 S).2
  obtain ⟨E, h1, h2, h3, h4⟩ := outc_at (t := t) (end01_len n S)
  have b : outc t n (end01 n S) ≤ t.val (end01 n S) := by
    by_cases c : ∀ p ∈ E, p ∈ S
    · have := val_sub ho c; grind
    · obtain ⟨p, hp⟩ := Classical.not_forall.mp c
      have hpE : p ∈ E := Classical.byContradiction fun h => hp fun h' => absurd h' h
      have hpS : ¬ p ∈ S := fun h => hp fun _ => h
      have := h3 p hpE
      rw [gd p (h1 p hpE), if_neg hpS] at this
      have := (h01 S).1
      grind
  grind
end CB

set_option Elab.async false
set_option linter.all false
set_option maxRecDepth 100000
set_option maxHeartbeats 4000000
namespace CB
/-! ### middles, person by person -/
def midQ (w a b : Rat) : Rat := rmax a (rmin b w)
def mids (t : Tm) (ws : List Rat) : List Nat → List Rat → Rat
  | [], b => t.val b
  | p :: L, b => midQ (ws.getD p 0) (mids t ws L (b.set p 0)) (mids t ws L (b.set p 1))
def fl (L S : List Nat) (b : List Rat) : List Rat := put S 1 (put L 0 b)
theorem fl_get {L S : List Nat} {b : List Rat} {i : Nat} {x : Rat} (h : b[i]? = some x) : (fl L S b)[i]? = some (if i ∈ S then 1 else if i ∈ L then 0 else x) := put_get (put_get h)
theorem fl_len (L S : List Nat) (b : List Rat) : (fl L S b).length = b.length := by unfold fl; rw [put_len, put_len]
theorem fl_ext {L S L' S' : List Nat} {b c : List Rat} (hl : b.length = c.length) (h : ∀ (i : Nat) (x y : Rat), b[i]? = some x → c[i]? = some y → (if i ∈ S then (1 : Rat) else if i ∈ L then 0 else x) = (if i ∈ S' then (1 : Rat) else if i ∈ L' then 0 else y)) : fl L S b = fl L' S' c := by
  apply List.ext_getElem?
  intro i
  by_cases d : i < b.length
  · have e1 : b[i]? = some b[i] := List.getElem?_eq_getElem d
    have e2 : c[i]? = some (c[i]'(by omega)) := List.getElem?_eq_getElem (by omega)
    rw [fl_get e1, fl_get e2, h i _ _ e1 e2]
  · rw [List.getElem?_eq_none (by rw [fl_len]; omega), List.getElem?_eq_none (by rw [fl_len]; omega)]
theorem fl_one {p : Nat} {L S : List Nat} {b : List Rat} (hp : p < b.length) (hn : p ∉ L) (hS : p ∈ S) : fl (p :: L) S b = fl L (S.filter fun o => o ≠ p) (b.set p 1) := by
  refine fl_ext (by rw [List.length_set]) fun i x y hx hy => ?_
  rw [List.getElem?_set] at hy
  by_cases c : i = p
  · subst c
    rw [if_pos rfl, if_pos hp] at hy
    cases hy
    rw [if_pos hS, if_neg (by simp), if_neg hn]
  · rw [if_neg (fun e => c e.symm)] at hy
    have e : x = y := Option.some.inj (hx.symm.trans hy)
    subst e
    have e1 : (i ∈ S.filter fun o => o ≠ p) ↔ i ∈ S := by simp [List.mem_filter, c]
    have e2 : i ∈ p :: L ↔ i ∈ L := by simp [c]
    by_cases d : i ∈ S
    · rw [if_pos d, if_pos (e1.mpr d)]
    · rw [if_neg d, if_neg (fun h => d (e1.mp h))]
      by_cases g : i ∈ L
      · rw [if_pos (e2.mpr g), if_pos g]
      · rw [if_neg (fun h => g (e2.mp h)), if_neg g]
theorem fl_zero {p : Nat} {L S : List Nat} {b : List Rat} (hp : p < b.length) (hS : p ∉ S) : fl (p :: L) S b = fl L S (b.set p 0) := by
  refine fl_ext (by rw [List.length_set]) fun i x y hx hy => ?_
  rw [List.getElem?_set] at hy
  by_cases c : i = p
  · subst c
    rw [if_pos rfl, if_pos hp] at hy
    cases hy
    rw [if_neg hS, if_neg hS, if_pos (by simp)]
    split <;> rfl
  · rw [if_neg (fun e => c e.symm)] at hy
    have e : x = y := Option.some.inj (hx.symm.trans hy)
    subst e
    have e2 : i ∈ p :: L ↔ i ∈ L := by simp [c]
    by_cases d : i ∈ S
    · rw [if_pos d, if_pos d]
    · rw [if_neg d, if_neg d]
      by_cases g : i ∈ L
      · rw [if_pos (e2.mpr g), if_pos g]
      · rw [if_neg (fun h => g (e2.mp h)), if_neg g]
theorem mid_mem {w a b : Rat} : a ≤ midQ w a b ∧ rmin b w ≤ midQ w a b ∧ (midQ w a b = a ∨ midQ w a b = rmin b w) := by
  unfold midQ rmax
  split <;> refine ⟨?_, ?_, ?_⟩ <;> grind
theorem mids_ge {t : Tm} {ws : List Rat} : ∀ (L : List Nat) (b : List Rat) (S : List Nat) (x : Rat), L.Nodup → (∀ p ∈ L, p < b.length) → (∀ p ∈ S, p ∈ L) → x ≤ t.val (fl L S b) → (∀ p ∈ S, x ≤ ws.getD p 0) → x ≤ mids t ws L b
  | [], b, S, x, _, _, hS, h1, _ => by
    have e : S = [] := by
      cases S with
      | nil => rfl
      | cons a l => exact absurd (hS a List.mem_cons_self) (by simp)
    subst e
    have : fl [] [] b = b := by
      apply List.ext_getElem?
      intro i
      by_cases d : i < b.length
      · rw [fl_get (List.getElem?_eq_getElem d), if_neg (by simp), if_neg (by simp), List.getElem?_eq_getElem d]
      · rw [List.getElem?_eq_none (by rw [fl_len]; omega), List.getElem?_eq_none (by omega)]
    rw [this] at h1
    exact h1
  | p :: L, b, S, x, hN, hL, hS, h1, h2 => by
    obtain ⟨n1, n2⟩ := List.nodup_cons.mp hN
    have hp := hL p List.mem_cons_self
    have hL' : ∀ c, ∀ q ∈ L, q < (b.set p c).length := fun c q hq => by rw [List.length_set]; exact hL q (List.mem_cons_of_mem _ hq)
    obtain ⟨m1, m2, _⟩ := mid_mem (w := ws.getD p 0) (a := mids t ws L (b.set p 0)) (b := mids t ws L (b.set p 1))
    show x ≤ midQ _ _ _
    by_cases c : p ∈ S
    · rw [fl_one hp n1 c] at h1
      have g := mids_ge L (b.set p 1) (S.filter fun o => o ≠ p) x n2 (hL' 1) (fun q hq => by
        have := List.mem_filter.mp hq
        rcases List.mem_cons.mp (hS q this.1) with e | e
        · exact absurd e (by simpa using this.2)
        · exact e) h1 (fun q hq => h2 q (List.mem_filter.mp hq).1)
      have g2 := h2 p c
      have : x ≤ rmin (mids t ws L (b.set p 1)) (ws.getD p 0) := by unfold rmin; split <;> grind
      grind
    · rw [fl_zero hp c] at h1
      have g := mids_ge L (b.set p 0) S x n2 (hL' 0) (fun q hq => by
        rcases List.mem_cons.mp (hS q hq) with e | e
        · exact absurd (e ▸ hq) c
        · exact e) h1 h2
      grind
theorem mids_at {t : Tm} {ws : List Rat} : ∀ (L : List Nat) (b : List Rat), L.Nodup → (∀ p ∈ L, p < b.length) → ∃ S : List Nat, (∀ p ∈ S, p ∈ L) ∧ mids t ws L b ≤ t.val (fl L S b) ∧ ∀ p ∈ S, mids t ws L b ≤ ws.getD p 0
  | [], b, _, _ => by
    refine ⟨[], by simp, ?_, by simp⟩
    have : fl [] [] b = b := by
      apply List.ext_getElem?
      intro i
      by_cases d : i < b.length
      · rw [fl_get (List.getElem?_eq_getElem d), if_neg (by simp), if_neg (by simp), List.getElem?_eq_getElem d]
      · rw [List.getElem?_eq_none (by rw [fl_len]; omega), List.getElem?_eq_none (by omega)]
    rw [this]
    show t.val b ≤ t.val b
    grind
  | p :: L, b, hN, hL => by
    obtain ⟨n1, n2⟩ := List.nodup_cons.mp hN
    have hp := hL p List.mem_cons_self
    have hL' : ∀ c, ∀ q ∈ L, q < (b.set p c).length := fun c q hq => by rw [List.length_set]; exact hL q (List.mem_cons_of_mem _ hq)
    obtain ⟨_, _, m3⟩ := mid_mem (w := ws.getD p 0) (a := mids t ws L (b.set p 0)) (b := mids t ws L (b.set p 1))
    have em : mids t ws (p :: L) b = midQ (ws.getD p 0) (mids t ws L (b.set p 0)) (mids t ws L (b.set p 1)) := rfl
    rcases m3 with e | e
    · obtain ⟨S, h1, h2, h3⟩ := mids_at (t := t) (ws := ws) L (b.set p 0) n2 (hL' 0)
      refine ⟨S, fun q hq => List.mem_cons_of_mem _ (h1 q hq), ?_, fun q hq => by rw [em, e]; exact h3 q hq⟩
      rw [fl_zero hp (fun h => n1 (h1 p h)), em, e]
      exact h2
    · obtain ⟨S, h1, h2, h3⟩ := mids_at (t := t) (ws := ws) L (b.set p 1) n2 (hL' 1)
      have le1 : rmin (mids t ws L (b.set p 1)) (ws.getD p 0) ≤ mids t ws L (b.set p 1) := by unfold rmin; split <;> grind
      have le2 : rmin (mids t ws L (b.set p 1)) (ws.getD p 0) ≤ ws.getD p 0 := by unfold rmin; split <;> grind
      have fs : (p :: S).filter (fun o => decide (o ≠ p)) = S.filter fun o => decide (o ≠ p) := by simp
      have fs2 : (S.filter fun o => decide (o ≠ p)) = S := List.filter_eq_self.mpr fun o ho => by
        have : o ≠ p := fun e => n1 (e ▸ h1 o ho)
        simpa using this
      refine ⟨p :: S, fun q hq => ?_, ?_, fun q hq => ?_⟩
      · rcases List.mem_cons.mp hq with e | e
        · rw [e]; exact List.mem_cons_self
        · exact List.mem_cons_of_mem _ (h1 q e)
      · have e2 := fl_one (b := b) (L := L) (S := p :: S) hp n1 List.mem_cons_self
        rw [fs, fs2] at e2
        rw [e2, em, e]
        grind
      · rw [em, e]
        rcases List.mem_cons.mp hq with e' | e'
        · rw [e']; exact le2
        · have := h3 q e'; grind
theorem fl_all {L S : List Nat} {b : List Rat} {n : Nat} (hb : b.length = n) (hL : ∀ p, p < n → p ∈ L) : fl L S b = end01 n S := by
  apply List.ext_getElem?
  intro i
  by_cases d : i < n
  · rw [fl_get (List.getElem?_eq_getElem (by omega)), end01_get d, if_pos (hL i d)]
  · rw [List.getElem?_eq_none (by rw [fl_len]; omega), List.getElem?_eq_none (by rw [end01_len]; omega)]
theorem mids_outc {t : Tm} {n z : Nat} {ws b : List Rat} {L : List Nat} (ho : t.Ok n z) (hw : ws.length = n) (hb : b.length = n) (hN : L.Nodup) (h1 : ∀ p ∈ L, p < n) (h2 : ∀ p, p < n → p ∈ L) : mids t ws L b = outc t n ws := by
  have hL : ∀ p ∈ L, p < b.length := fun p hp => by rw [hb]; exact h1 p hp
  have a : mids t ws L b ≤ outc t n ws := by
    obtain ⟨S, g1, g2, g3⟩ := mids_at (t := t) (ws := ws) L b hN hL
    rw [fl_all hb h2] at g2
    exact outc_ge ho hw (fun p hp => h1 p (g1 p hp)) g2 g3
  have c : outc t n ws ≤ mids t ws L b := by
    obtain ⟨S, g1, g2, g3, _⟩ := outc_at (t := t) hw
    exact mids_ge L b S _ hN hL (fun p hp => h2 p (g1 p hp)) (by rw [fl_all hb h2]; exact g2) g3
  grind
/-- of two ends, the lower is at most the higher -/
theorem mids_le {t : Tm} {n z : Nat} {ws : List Rat} (ho : t.Ok n z) {p : Nat} {L : List Nat} {b : List Rat} (hN : L.Nodup) (hL : ∀ q ∈ L, q < b.length) (hp : p ∉ L) : mids t ws L (b.set p 0) ≤ mids t ws L (b.set p 1) := by
  obtain ⟨S, g1, g2, g3⟩ := mids_at (t := t) (ws := ws) L (b.set p 0) hN (fun q hq => by rw [List.length_set]; exact hL q hq)
  refine mids_ge L (b.set p 1) S _ hN (fun q hq => by rw [List.length_set]; exact hL q hq) g1 ?_ g3
  have hp2 : p ∉ S := fun h => hp (g1 p h)
  have le : t.val (fl L S (b.set p 0)) ≤ t.val (fl L S (b.set p 1)) := by
    refine (val_nr (s := 1) (by grind) (nrL_of (by rw [fl_len, fl_len, List.length_set, List.length_set]) fun i x y hx hy => ?_) t ho).1
    have il : i < b.length := by have := (List.getElem?_eq_some_iff.mp hx).1; rwa [fl_len, List.length_set] at this
    by_cases c : i = p
    · subst c
      have e0 : (b.set i 0)[i]? = some 0 := by rw [List.getElem?_set, if_pos rfl, if_pos il]
      have e1 : (b.set i 1)[i]? = some 1 := by rw [List.getElem?_set, if_pos rfl, if_pos il]
      rw [fl_get e0, if_neg hp2, if_neg hp] at hx
      rw [fl_get e1, if_neg hp2, if_neg hp] at hy
      cases hx
      cases hy
      constructor <;> grind
    · have e0 : (b.set p 0)[i]? = some b[i] := by rw [List.getElem?_set, if_neg (fun e => c e.symm), List.getElem?_eq_getElem il]
      have e1 : (b.set p 1)[i]? = some b[i] := by rw [List.getElem?_set, if_neg (fun e => c e.symm), List.getElem?_eq_getElem il]
      rw [fl_get e0] at hx
      rw [fl_get e1] at hy
      have : x = y := Option.some.inj (hx.symm.trans hy)
      rw [this]
      exact nr_refl (by grind) y
  grind
/-- the outcome is the middle of a wish and the outcomes with it put to 0 and to 1 -/
theorem outc_mid {t : Tm} {n z p : Nat} {ws : List Rat} (ho : t.Ok n z) (hw : ws.length = n) (hq : ∀ q ∈ ws, 0 ≤ q ∧ q ≤ 1) (hp : p < n) : outc t n (ws.set p 0) ≤ outc t n (ws.set p 1) ∧ outc t n ws = midQ (ws.getD p 0) (outc t n (ws.set p 0)) (outc t n (ws.set p 1)) := by
  have l0 : (ws.set p 0).length = n := by rw [List.length_set]; exact hw
  have l1 : (ws.set p 1).length = n := by rw [List.length_set]; exact hw
  have wp : 0 ≤ ws.getD p 0 ∧ ws.getD p 0 ≤ 1 := hq _ (getD_mem (by omega))
  have gd : ∀ (c : Rat) (q : Nat), q < n → (ws.set p c).getD q 0 = if q = p then c else ws.getD q 0 := fun c q hqn => by
    rw [List.getD_eq_getElem?_getD, List.getD_eq_getElem?_getD, List.getElem?_set]
    by_cases e : q = p
    · rw [if_pos e.symm, if_pos e, if_pos (by omega)]
      rfl
    · rw [if_neg (fun h => e h.symm), if_neg e]
  have up : ∀ {vs us : List Rat}, vs.length = n → us.length = n → (∀ q, q < n → vs.getD q 0 ≤ us.getD q 0) → outc t n vs ≤ outc t n us := fun {vs us} h1 h2 h => by
    obtain ⟨S, g1, g2, g3, _⟩ := outc_at (t := t) h1
    exact outc_ge ho h2 g1 g2 fun q hq => by have := g3 q hq; have := h q (g1 q hq); grind
  have a0 : outc t n (ws.set p 0) ≤ outc t n ws := up l0 hw fun q hqn => by rw [gd 0 q hqn]; split <;> grind
  have a1 : outc t n ws ≤ outc t n (ws.set p 1) := up hw l1 fun q hqn => by rw [gd 1 q hqn]; split <;> grind
  refine ⟨by grind, ?_⟩
  have b1 : rmin (outc t n (ws.set p 1)) (ws.getD p 0) ≤ outc t n ws := by
    obtain ⟨S, g1, g2, g3, _⟩ := outc_at (t := t) l1
    have le1 : rmin (outc t n (ws.set p 1)) (ws.getD p 0) ≤ outc t n (ws.set p 1) := by unfold rmin; split <;> grind
    have le2 : rmin (outc t n (ws.set p 1)) (ws.getD p 0) ≤ ws.getD p 0 := by unfold rmin; split <;> grind
    refine outc_ge ho hw g1 (by grind) fun q hq => ?_
    have := g3 q hq
    rw [gd 1 q (g1 q hq)] at this
    by_cases e : q = p
    · rw [e]; exact le2
    · rw [if_neg e] at this; grind
  have b2 : outc t n ws ≤ outc t n (ws.set p 0) ∨ outc t n ws ≤ ws.getD p 0 := by
    obtain ⟨S, g1, g2, g3, _⟩ := outc_at (t := t) hw
    by_cases e : p ∈ S
    · exact .inr (g3 p e)
    · exact .inl (outc_ge ho l0 g1 g2 fun q hq => by
        rw [gd 0 q (g1 q hq), if_neg (fun h : q = p => e (h ▸ hq))]
        exact g3 q hq)
  unfold midQ rmax
  unfold rmin at b1 ⊢
  rcases b2 with e | e
  · (repeat' split at b1) <;> (repeat' split) <;> grind
  · (repeat' split at b1) <;> (repeat' split) <;> grind
end CB

set_option Elab.async false
set_option linter.all false
set_option maxRecDepth 100000
set_option maxHeartbeats 4000000
/-! values lie from 0 to 1 -/
namespace CB
def In01 (q : Rat) : Prop := 0 ≤ q ∧ q ≤ 1
theorem wsum_01 : ∀ {ws : List Int} {l : List Rat}, ws.length = l.length → (∀ w ∈ ws, 1 ≤ w) → (∀ q ∈ l, In01 q) →
    0 ≤ (List.zipWith (fun (w : Int) (q : Rat) => (w : Rat) * q) ws l).sum ∧ (List.zipWith (fun (w : Int) (q : Rat) => (w : Rat) * q) ws l).sum ≤ ((ws.sum : Int) : Rat)
  | [], [], _, _, _ => by simp
  | [], _ :: _, h, _, _ => by simp at h
  | _ :: _, [], h, _, _ => by simp at h
  | w :: ws, q :: l, h, hw, hq => by
    obtain ⟨i1, i2⟩ := wsum_01 (ws := ws) (l := l) (by simpa using h) (fun x hx => hw x (List.mem_cons_of_mem _ hx)) fun x hx => hq x (List.mem_cons_of_mem _ hx)
    have h1 := hw w List.mem_cons_self
    obtain ⟨q0, q1⟩ := hq q List.mem_cons_self
    have w0 : (0 : Rat) ≤ (w : Rat) := by
      have : ((0 : Int) : Rat) ≤ (w : Rat) := Rat.intCast_le_intCast.mpr (by omega)
      simpa using this
    have a := Rat.mul_nonneg w0 q0
    have b : (w : Rat) * q ≤ (w : Rat) * 1 := Rat.mul_le_mul_of_nonneg_left q1 w0
    have e : (((w :: ws).sum : Int) : Rat) = (w : Rat) + ((ws.sum : Int) : Rat) := by
      rw [List.sum_cons, Rat.intCast_add]
    rw [List.zipWith_cons_cons, List.sum_cons, e]
    constructor <;> grind
theorem wavg_01 {ws : List Int} {l : List Rat} (e : ws.length = l.length) (hn : ws ≠ []) (hw : ∀ w ∈ ws, 1 ≤ w) (h : ∀ q ∈ l, In01 q) : In01 (wavg ws l) := by
  obtain ⟨a, b⟩ := wsum_01 e hw h
  have hp : (0 : Rat) < ((ws.sum : Int) : Rat) := by exact_mod_cast sum_pos hn hw
  have hv : (0 : Rat) ≤ (((ws.sum : Int) : Rat))⁻¹ := Rat.le_of_lt (Rat.inv_pos.mpr hp)
  have hi : ((ws.sum : Int) : Rat) * (((ws.sum : Int) : Rat))⁻¹ = 1 := Rat.mul_inv_cancel _ (by grind)
  unfold wavg In01
  rw [Rat.div_def]
  have a1 := Rat.mul_nonneg a hv
  have a2 := Rat.mul_le_mul_of_nonneg_right b hv
  rw [hi] at a2
  exact ⟨a1, a2⟩
theorem rmm_01 {lo hi x : Rat} (h1 : In01 lo) (h2 : In01 hi) (h3 : In01 x) : In01 (rmax lo (rmin hi x)) := by
  unfold In01 rmax rmin at *
  (repeat' split) <;> grind
mutual
theorem val_01 {n z : Nat} {b : List Rat} (hl : b.length = n) (h : ∀ q ∈ b, In01 q) : ∀ (t : Tm), t.Ok n z → In01 (t.val b)
  | .bid p, ho => h _ (getD_mem (by rw [hl]; exact ho))
  | .fixed q, ho => ⟨ho.1, ho.2.1⟩
  | .mean ws ts, ho => wavg_01 (by rw [vals_len]; exact ho.1) (by
      intro e
      have := ho.1
      rw [e] at this
      exact ho.2.1 (List.eq_nil_of_length_eq_zero this.symm)) (fun w hw => (ho.2.2.2.1 w hw).1) (vals_01 hl h ts ho.2.2.2.2)
  | .least ts, ho => vals_01 hl h ts ho.2.2 _ (minL_mem (vals_nil ho.1)).1
  | .greatest ts, ho => vals_01 hl h ts ho.2.2 _ (maxL_mem (vals_nil ho.1)).1
  | .ranked k ts, ho => vals_01 hl h ts ho.2.2.2 _ (by
      have e := kthG_isort (k - 1) (Tm.vals b ts) (by rw [vals_len]; have := ho.1; have := ho.2.1; omega)
      exact (isort_perm _).mem_iff.mp (List.mem_of_getElem? e))
  | .between lo hi t, ho => rmm_01 ⟨ho.1.1, ho.1.2.1⟩ ⟨ho.2.1.1, ho.2.1.2.1⟩ (val_01 hl h t ho.2.2.2)
theorem vals_01 {n z : Nat} {b : List Rat} (hl : b.length = n) (h : ∀ q ∈ b, In01 q) : ∀ (ts : List Tm), Tm.Oks n z ts → ∀ q ∈ Tm.vals b ts, In01 q
  | [], _, q, hq => by cases hq
  | t :: ts, ho, q, hq => by
    rcases List.mem_cons.mp hq with e | e
    · rw [e]; exact val_01 hl h t ho.1
    · exact vals_01 hl h ts ho.2 q e
end
theorem end01_01 (n : Nat) (S : List Nat) : ∀ q ∈ end01 n S, In01 q := fun q hq => by
  rcases put_mem hq with e | e
  · rw [e]; unfold In01; constructor <;> decide
  · rw [(List.mem_replicate.mp e).2]; unfold In01; constructor <;> decide
theorem corner_01 {n z : Nat} {t : Tm} (ho : t.Ok n z) (S : List Nat) : In01 (t.val (end01 n S)) := val_01 (end01_len n S) (end01_01 n S) t ho
theorem outc_01 {n z : Nat} {t : Tm} {ws : List Rat} (ho : t.Ok n z) (hw : ws.length = n) (h : ∀ q ∈ ws, In01 q) : In01 (outc t n ws) := by
  obtain ⟨S, _, _, _, e⟩ := outc_at (t := t) hw
  rcases e with e | ⟨p, hp, e⟩
  · rw [e]; exact corner_01 ho S
  · rw [e]; exact h _ (getD_mem (by omega))
end CB

set_option Elab.async false
set_option linter.all false
set_option maxRecDepth 100000
set_option maxHeartbeats 4000000
/-! the outcome, held from both sides, is the only such number -/
namespace CB
def lessL (ws : List Rat) (c : Rat) (n : Nat) : List Nat := (List.range n).filter fun i => decide (ws.getD i 0 < c)
def justL (ws : List Rat) (c : Rat) (n : Nat) : List Nat := (List.range n).filter fun i => decide (ws.getD i 0 = c)
def moreL (ws : List Rat) (c : Rat) (n : Nat) : List Nat := (List.range n).filter fun i => decide (c < ws.getD i 0)
/-- those who wish at least so much -/
def wishL (ws : List Rat) (c : Rat) (n : Nat) : List Nat := (List.range n).filter fun i => !decide (ws.getD i 0 < c)
theorem filt_snoc (f : Nat → Bool) (i : Nat) : (List.range (i + 1)).filter f = (List.range i).filter f ++ if f i = true then [i] else [] := by
  rw [List.range_succ, List.filter_append]
  cases e : f i with
  | true => rw [List.filter_cons_of_pos e, List.filter_nil, if_pos rfl]
  | false => rw [List.filter_cons_of_neg (by rw [e]; decide), List.filter_nil, if_neg (by decide)]
theorem filt_len (f : Nat → Bool) (i : Nat) : ((List.range i).filter f).length ≤ i := by
  have := List.length_filter_le f (List.range i)
  rwa [List.length_range] at this
theorem getD_at {ws : List Rat} {p : Nat} (h : p < ws.length) : ws.getD p 0 = ws[p] := by rw [List.getD_eq_getElem?_getD, List.getElem?_eq_getElem h]; rfl
theorem moreL_mem {ws : List Rat} {c : Rat} {n p : Nat} : p ∈ moreL ws c n ↔ p < n ∧ c < ws.getD p 0 := by
  unfold moreL; rw [List.mem_filter, List.mem_range, decide_eq_true_iff]
theorem wishL_mem {ws : List Rat} {c : Rat} {n p : Nat} : p ∈ wishL ws c n ↔ p < n ∧ ¬ ws.getD p 0 < c := by
  unfold wishL; rw [List.mem_filter, List.mem_range, Bool.not_eq_true', decide_eq_false_iff_not]
/-- the two asks -/
def isOut (t : Tm) (n : Nat) (ws : List Rat) (y : Rat) : Bool := !decide (y < t.val (end01 n (moreL ws y n))) && !decide (t.val (end01 n (wishL ws y n)) < y)
theorem isOut_iff {t : Tm} {n z : Nat} {ws : List Rat} {y : Rat} (ho : t.Ok n z) (hw : ws.length = n) : isOut t n ws y = decide (y = outc t n ws) := by
  have key : (¬ y < t.val (end01 n (moreL ws y n)) ∧ ¬ t.val (end01 n (wishL ws y n)) < y) ↔ y = outc t n ws := by
    obtain ⟨S, s1, s2, s3, _⟩ := outc_at (t := t) hw
    constructor
    · rintro ⟨h1, h2⟩
      have a := outc_ge (t := t) ho hw (S := wishL ws y n) (x := y) (fun p hp => (wishL_mem.mp hp).1) (by grind) fun p hp => by have := (wishL_mem.mp hp).2; grind
      have b : outc t n ws ≤ y := by
        refine Classical.byContradiction fun hn => ?_
        have hlt : y < outc t n ws := by grind
        have sub := val_sub (t := t) ho (S := S) (E := moreL ws y n) fun p hp => moreL_mem.mpr ⟨s1 p hp, by have := s3 p hp; grind⟩
        grind
      grind
    · intro e
      refine ⟨fun h => ?_, fun h => ?_⟩
      · by_cases c : moreL ws y n = []
        · rw [c] at h
          have := outc_ge (t := t) ho hw (S := []) (x := t.val (end01 n [])) (by simp) (by grind) (by simp)
          grind
        · obtain ⟨p, hp, hm⟩ := least_of_list (fun p => ws.getD p 0) c
          have hp2 := (moreL_mem.mp hp).2
          have g := outc_ge (t := t) ho hw (S := moreL ws y n) (x := rmin (t.val (end01 n (moreL ws y n))) (ws.getD p 0)) (fun q hq => (moreL_mem.mp hq).1) (by unfold rmin; split <;> grind) fun q hq => by
            have := hm q hq
            unfold rmin
            split <;> grind
          unfold rmin at g
          split at g <;> grind
      · have sub := val_sub (t := t) ho (S := S) (E := wishL ws y n) fun p hp => wishL_mem.mpr ⟨s1 p hp, by have := s3 p hp; grind⟩
        grind
  unfold isOut
  by_cases h : y = outc t n ws
  · have k := key.mpr h
    rw [decide_eq_true h, decide_eq_false k.1, decide_eq_false k.2]
    rfl
  · rw [decide_eq_false h]
    cases c1 : decide (y < t.val (end01 n (moreL ws y n))) with
    | true => rfl
    | false =>
      cases c2 : decide (t.val (end01 n (wishL ws y n)) < y) with
      | true => rfl
      | false => exact absurd (key.mp ⟨of_decide_eq_false c1, of_decide_eq_false c2⟩) h
end CB

set_option Elab.async false
set_option linter.all false
set_option maxRecDepth 100000
set_option maxHeartbeats 4000000
/-! what comes out if some are still to bid -/
namespace CB
def mix (lo hi : List Rat) (ps : List Nat) : List Rat := lo.mapIdx fun i b => if i ∈ ps then hi.getD i 0 else b
theorem mix_len (lo hi : List Rat) (ps : List Nat) : (mix lo hi ps).length = lo.length := by simp [mix]
theorem mix_get {ps : List Nat} {b : Rat} {lo hi : List Rat} {i : Nat} (h : lo[i]? = some b) : (mix lo hi ps)[i]? = some (if i ∈ ps then hi.getD i 0 else b) := by simp [mix, h]
theorem mix_mem {ps : List Nat} {lo hi : List Rat} {q : Rat} (hl : hi.length = lo.length) (h : q ∈ mix lo hi ps) : q ∈ hi ∨ q ∈ lo := by
  obtain ⟨i, hi'⟩ := List.mem_iff_getElem?.mp h
  have il : i < lo.length := by
    have := (List.getElem?_eq_some_iff.mp hi').1
    rwa [mix_len] at this
  rw [mix_get (List.getElem?_eq_getElem il)] at hi'
  have e := Option.some.inj hi'
  by_cases c : i ∈ ps
  · rw [if_pos c] at e
    left
    rw [← e, List.getD_eq_getElem?_getD, List.getElem?_eq_getElem (by omega)]
    exact List.getElem_mem _
  · rw [if_neg c] at e
    exact .inr (e ▸ List.getElem_mem il)
theorem mix_ends (n : Nat) (ps : List Nat) : mix (List.replicate n 0) (List.replicate n 1) ps = put ps 1 (List.replicate n 0) := by
  apply List.ext_getElem?
  intro i
  by_cases c : i < n
  · have e : (List.replicate n (0 : Rat))[i]? = some 0 := by rw [List.getElem?_replicate, if_pos c]
    rw [mix_get e, put_get e]
    have e2 : (List.replicate n (1 : Rat)).getD i 0 = 1 := by rw [List.getD_eq_getElem?_getD, List.getElem?_replicate, if_pos c]; rfl
    rw [e2]
  · rw [List.getElem?_eq_none (by rw [mix_len, List.length_replicate]; omega), List.getElem?_eq_none (by rw [put_len, List.length_replicate]; omega)]
/-- what comes out between the low and the high bids of those of ls -/
def stepM (t : Tm) (ws lo hi : List Rat) (ls : List Nat) (f : Rat) (p : Nat) : Rat := rmax f (rmin (ws.getD p 0) (t.val (mix lo hi (eager ws ls p))))
def outM (t : Tm) (ws lo hi : List Rat) (ls : List Nat) : Rat := ls.foldl (stepM t ws lo hi ls) (t.val lo)
theorem outM_outc {t : Tm} {n : Nat} {ws : List Rat} (h : ws.length = n) : outM t ws (List.replicate n 0) (List.replicate n 1) (List.range n) = outc t n ws := by
  unfold outM outc outG
  rw [put_range h]
  congr 1
  funext f p
  unfold stepM stepG
  rw [mix_ends]
/-- bids lo at most hi, place by place -/
def LeL (lo hi : List Rat) : Prop := lo.length = hi.length ∧ ∀ i, lo.getD i 0 ≤ hi.getD i 0
theorem mix_nil (lo hi : List Rat) : mix lo hi [] = lo := by
  apply List.ext_getElem?
  intro i
  by_cases c : i < lo.length
  · rw [mix_get (List.getElem?_eq_getElem c), List.getElem?_eq_getElem c]
    simp
  · rw [List.getElem?_eq_none (by rw [mix_len]; omega), List.getElem?_eq_none (by omega)]
theorem mix_nr {n : Nat} {lo hi : List Rat} (hl : lo.length = n) (h : LeL lo hi) (h0 : ∀ q ∈ lo, In01 q) (h1 : ∀ q ∈ hi, In01 q) {S E : List Nat} (hs : ∀ p ∈ S, p ∈ E) : NrL 1 (mix lo hi S) (mix lo hi E) := by
  refine nrL_of (by rw [mix_len, mix_len]) fun i x y hx hy => ?_
  have il : i < lo.length := by have := (List.getElem?_eq_some_iff.mp hx).1; rwa [mix_len] at this
  rw [mix_get (List.getElem?_eq_getElem il)] at hx hy
  have a := h.2 i
  rw [getD_at il] at a
  have b0 := h0 _ (List.getElem_mem il)
  have c0 := h1 _ (getD_mem (show i < hi.length by have := h.1; omega))
  have ex := Option.some.inj hx
  have ey := Option.some.inj hy
  subst ex ey
  unfold In01 at b0 c0
  unfold Nr
  by_cases c : i ∈ S
  · rw [if_pos c, if_pos (hs i c)]
    constructor <;> grind
  · rw [if_neg c]
    by_cases d : i ∈ E
    · rw [if_pos d]; constructor <;> grind
    · rw [if_neg d]; constructor <;> grind
theorem mix_sub {n z : Nat} {t : Tm} (ho : t.Ok n z) {lo hi : List Rat} (hl : lo.length = n) (h : LeL lo hi) (h0 : ∀ q ∈ lo, In01 q) (h1 : ∀ q ∈ hi, In01 q) {S E : List Nat} (hs : ∀ p ∈ S, p ∈ E) : t.val (mix lo hi S) ≤ t.val (mix lo hi E) :=
  (val_nr (by grind) (mix_nr hl h h0 h1 hs) t ho).1
theorem foldl_stepM (t : Tm) (ws lo hi : List Rat) (ls : List Nat) : ∀ (l : List Nat) (f : Rat), f ≤ l.foldl (stepM t ws lo hi ls) f ∧ (∀ p ∈ l, rmin (ws.getD p 0) (t.val (mix lo hi (eager ws ls p))) ≤ l.foldl (stepM t ws lo hi ls) f) ∧
    (l.foldl (stepM t ws lo hi ls) f = f ∨ ∃ p ∈ l, l.foldl (stepM t ws lo hi ls) f = rmin (ws.getD p 0) (t.val (mix lo hi (eager ws ls p))))
  | [], f => ⟨by show f ≤ f; grind, by simp, .inl rfl⟩
  | q :: l, f => by
    obtain ⟨h1, h2, h3⟩ := foldl_stepM t ws lo hi ls l (stepM t ws lo hi ls f q)
    have m : f ≤ stepM t ws lo hi ls f q ∧ rmin (ws.getD q 0) (t.val (mix lo hi (eager ws ls q))) ≤ stepM t ws lo hi ls f q ∧ (stepM t ws lo hi ls f q = f ∨ stepM t ws lo hi ls f q = rmin (ws.getD q 0) (t.val (mix lo hi (eager ws ls q)))) := by
      unfold stepM rmax
      split <;> refine ⟨?_, ?_, ?_⟩ <;> grind
    rw [List.foldl_cons]
    refine ⟨by grind, fun p hp => ?_, ?_⟩
    · rcases List.mem_cons.mp hp with e | e
      · rw [e]; grind
      · exact h2 p e
    · rcases h3 with e | ⟨p, hp, e⟩
      · rcases m.2.2 with e' | e'
        · exact .inl (e.trans e')
        · exact .inr ⟨q, List.mem_cons_self, e.trans e'⟩
      · exact .inr ⟨p, List.mem_cons_of_mem _ hp, e⟩
theorem outM_ge {t : Tm} {n z : Nat} {ws lo hi : List Rat} {ls : List Nat} (ho : t.Ok n z) (hl : lo.length = n) (h : LeL lo hi) (h0 : ∀ q ∈ lo, In01 q) (h1 : ∀ q ∈ hi, In01 q) {S : List Nat} (hS : ∀ p ∈ S, p ∈ ls) {x : Rat} (k1 : x ≤ t.val (mix lo hi S)) (k2 : ∀ p ∈ S, x ≤ ws.getD p 0) : x ≤ outM t ws lo hi ls := by
  obtain ⟨f1, f2, _⟩ := foldl_stepM t ws lo hi ls ls (t.val lo)
  unfold outM
  by_cases c : S = []
  · rw [c, mix_nil] at k1
    grind
  · obtain ⟨p, hp, hm⟩ := least_of_list (fun p => ws.getD p 0) c
    have g := f2 p (hS p hp)
    have sub : ∀ o ∈ S, o ∈ eager ws ls p := fun o ho' => List.mem_filter.mpr ⟨hS o ho', by
      have := hm o ho'
      rw [Bool.not_eq_true', decide_eq_false_iff_not]
      grind⟩
    have v := mix_sub ho hl h h0 h1 sub
    have w := k2 p hp
    have : x ≤ rmin (ws.getD p 0) (t.val (mix lo hi (eager ws ls p))) := by
      unfold rmin
      split <;> grind
    grind
theorem outM_at (t : Tm) (ws lo hi : List Rat) (ls : List Nat) : ∃ S : List Nat, (∀ p ∈ S, p ∈ ls) ∧ outM t ws lo hi ls ≤ t.val (mix lo hi S) ∧ (∀ p ∈ S, outM t ws lo hi ls ≤ ws.getD p 0) ∧ (outM t ws lo hi ls = t.val (mix lo hi S) ∨ ∃ p ∈ ls, outM t ws lo hi ls = ws.getD p 0) := by
  obtain ⟨_, _, f3⟩ := foldl_stepM t ws lo hi ls ls (t.val lo)
  have f3' : outM t ws lo hi ls = t.val lo ∨ ∃ p ∈ ls, outM t ws lo hi ls = rmin (ws.getD p 0) (t.val (mix lo hi (eager ws ls p))) := f3
  rcases f3' with e | ⟨p, hp, e⟩
  · exact ⟨[], by simp, by rw [e, mix_nil]; grind, by simp, .inl (by rw [e, mix_nil])⟩
  · have m : outM t ws lo hi ls ≤ ws.getD p 0 ∧ outM t ws lo hi ls ≤ t.val (mix lo hi (eager ws ls p)) ∧ (outM t ws lo hi ls = t.val (mix lo hi (eager ws ls p)) ∨ outM t ws lo hi ls = ws.getD p 0) := by
      rw [e]
      unfold rmin
      split <;> refine ⟨?_, ?_, ?_⟩ <;> grind
    refine ⟨eager ws ls p, fun o ho => (List.mem_filter.mp ho).1, m.2.1, fun o ho => ?_, ?_⟩
    · have h := (List.mem_filter.mp ho).2
      rw [Bool.not_eq_true', decide_eq_false_iff_not] at h
      grind
    · rcases m.2.2 with e | e
      · exact .inl e
      · exact .inr ⟨p, hp, e⟩
/-- bids with those of ls at 1 in the lot, at 0 elsewhere -/
def endL (bs : List Rat) (ls lot : List Nat) : List Rat := bs.mapIdx fun i b => if i ∈ ls then (if i ∈ lot then 1 else 0) else b
theorem endL_len (bs : List Rat) (ls lot : List Nat) : (endL bs ls lot).length = bs.length := by simp [endL]
theorem endL_get {bs : List Rat} {ls lot : List Nat} {i : Nat} {b : Rat} (h : bs[i]? = some b) : (endL bs ls lot)[i]? = some (if i ∈ ls then (if i ∈ lot then 1 else 0) else b) := by simp [endL, h]
theorem endL_mem {bs : List Rat} {ls lot : List Nat} {q : Rat} (h : q ∈ endL bs ls lot) : q = 0 ∨ q = 1 ∨ q ∈ bs := by
  obtain ⟨i, hi⟩ := List.mem_iff_getElem?.mp h
  have il : i < bs.length := by have := (List.getElem?_eq_some_iff.mp hi).1; rwa [endL_len] at this
  rw [endL_get (List.getElem?_eq_getElem il)] at hi
  have e := Option.some.inj hi
  by_cases c : i ∈ ls
  · rw [if_pos c] at e
    by_cases d : i ∈ lot
    · rw [if_pos d] at e; exact .inr (.inl e.symm)
    · rw [if_neg d] at e; exact .inl e.symm
  · rw [if_neg c] at e; exact .inr (.inr (e ▸ List.getElem_mem il))
theorem mix_endL {bs : List Rat} {ls S : List Nat} : mix (put ls 0 bs) (put ls 1 bs) S = endL bs ls S := by
  apply List.ext_getElem?
  intro i
  by_cases c : i < bs.length
  · have e0 : (put ls 0 bs)[i]? = some (if i ∈ ls then 0 else bs[i]) := put_get (List.getElem?_eq_getElem c)
    have e1 : (put ls 1 bs)[i]? = some (if i ∈ ls then 1 else bs[i]) := put_get (List.getElem?_eq_getElem c)
    rw [mix_get e0, endL_get (List.getElem?_eq_getElem c), List.getD_eq_getElem?_getD, e1]
    congr 1
    by_cases d : i ∈ ls <;> by_cases f : i ∈ S <;> simp [d, f]
  · rw [List.getElem?_eq_none (by rw [mix_len, put_len]; omega), List.getElem?_eq_none (by rw [endL_len]; omega)]
theorem put_le (ls : List Nat) {bs : List Rat} (h : ∀ q ∈ bs, In01 q) : LeL (put ls 0 bs) (put ls 1 bs) := by
  refine ⟨by rw [put_len, put_len], fun i => ?_⟩
  by_cases c : i < bs.length
  · rw [List.getD_eq_getElem?_getD, put_get (List.getElem?_eq_getElem c), List.getD_eq_getElem?_getD, put_get (List.getElem?_eq_getElem c)]
    by_cases d : i ∈ ls
    · simp only [if_pos d, Option.getD_some]; grind
    · simp only [if_neg d, Option.getD_some]; grind
  · rw [List.getD_eq_getElem?_getD, List.getElem?_eq_none (by rw [put_len]; omega), List.getD_eq_getElem?_getD, List.getElem?_eq_none (by rw [put_len]; omega)]
    grind
theorem put_01 {ls : List Nat} {bs : List Rat} {x : Rat} (hx : In01 x) (h : ∀ q ∈ bs, In01 q) : ∀ q ∈ put ls x bs, In01 q := fun q hq => by
  rcases put_mem hq with e | e
  · rw [e]; exact hx
  · exact h q e
/-- what comes out behind bids -/
def outB (t : Tm) (ws bs : List Rat) (ls : List Nat) : Rat := outM t ws (put ls 0 bs) (put ls 1 bs) ls
def isHeld (t : Tm) (n : Nat) (ws bs : List Rat) (ls : List Nat) (y : Rat) : Bool := !decide (y < t.val (endL bs ls (moreL ws y n))) && !decide (t.val (endL bs ls (wishL ws y n)) < y)
theorem i01_zero : In01 0 := ⟨by decide, by decide⟩
theorem i01_one : In01 1 := ⟨by decide, by decide⟩
theorem outB_ge {t : Tm} {n z : Nat} {ws bs : List Rat} {ls : List Nat} (ho : t.Ok n z) (hb : bs.length = n) (hq : ∀ q ∈ bs, In01 q) {S : List Nat} (hS : ∀ p ∈ S, p ∈ ls) {x : Rat} (k1 : x ≤ t.val (endL bs ls S)) (k2 : ∀ p ∈ S, x ≤ ws.getD p 0) : x ≤ outB t ws bs ls :=
  outM_ge ho (by rw [put_len, hb]) (put_le ls hq) (put_01 i01_zero hq) (put_01 i01_one hq) hS (by rw [mix_endL]; exact k1) k2
theorem outB_at (t : Tm) (ws bs : List Rat) (ls : List Nat) : ∃ S : List Nat, (∀ p ∈ S, p ∈ ls) ∧ outB t ws bs ls ≤ t.val (endL bs ls S) ∧ (∀ p ∈ S, outB t ws bs ls ≤ ws.getD p 0) ∧ (outB t ws bs ls = t.val (endL bs ls S) ∨ ∃ p ∈ ls, outB t ws bs ls = ws.getD p 0) := by
  obtain ⟨S, h1, h2, h3, h4⟩ := outM_at t ws (put ls 0 bs) (put ls 1 bs) ls
  rw [mix_endL] at h2 h4
  exact ⟨S, h1, h2, h3, h4⟩
theorem endL_inter (bs : List Rat) (ls S : List Nat) : endL bs ls S = endL bs ls (ls.filter fun p => decide (p ∈ S)) := by
  apply List.ext_getElem?
  intro i
  by_cases c : i < bs.length
  · rw [endL_get (List.getElem?_eq_getElem c), endL_get (List.getElem?_eq_getElem c)]
    congr 1
    by_cases d : i ∈ ls
    · rw [if_pos d, if_pos d]
      have : (i ∈ ls.filter fun p => decide (p ∈ S)) ↔ i ∈ S := by
        rw [List.mem_filter, decide_eq_true_iff]
        exact ⟨fun h => h.2, fun h => ⟨d, h⟩⟩
      simp only [this]
    · rw [if_neg d, if_neg d]
  · rw [List.getElem?_eq_none (by rw [endL_len]; omega), List.getElem?_eq_none (by rw [endL_len]; omega)]
theorem endL_sub {t : Tm} {n z : Nat} {bs : List Rat} {ls : List Nat} (ho : t.Ok n z) (hb : bs.length = n) (hq : ∀ q ∈ bs, In01 q) {S E : List Nat} (h : ∀ p ∈ S, p ∈ E) : t.val (endL bs ls S) ≤ t.val (endL bs ls E) := by
  have := mix_sub (t := t) ho (lo := put ls 0 bs) (hi := put ls 1 bs) (by rw [put_len, hb]) (put_le ls hq) (put_01 i01_zero hq) (put_01 i01_one hq) h
  rwa [mix_endL, mix_endL] at this
theorem isHeld_iff {t : Tm} {n z : Nat} {ws bs : List Rat} {ls : List Nat} {y : Rat} (ho : t.Ok n z) (hb : bs.length = n) (hq : ∀ q ∈ bs, In01 q) (hl : ∀ p ∈ ls, p < n) : isHeld t n ws bs ls y = decide (y = outB t ws bs ls) := by
  have key : (¬ y < t.val (endL bs ls (moreL ws y n)) ∧ ¬ t.val (endL bs ls (wishL ws y n)) < y) ↔ y = outB t ws bs ls := by
    obtain ⟨S, s1, s2, s3, _⟩ := outB_at t ws bs ls
    constructor
    · rintro ⟨h1, h2⟩
      rw [endL_inter] at h2
      have a := outB_ge (t := t) (ws := ws) (ls := ls) ho hb hq (S := ls.filter fun p => decide (p ∈ wishL ws y n)) (x := y) (fun p hp => (List.mem_filter.mp hp).1) (by grind) fun p hp => by
        have := (wishL_mem.mp (of_decide_eq_true (List.mem_filter.mp hp).2)).2
        grind
      have b : outB t ws bs ls ≤ y := by
        refine Classical.byContradiction fun hn => ?_
        have hlt : y < outB t ws bs ls := by grind
        have sub := endL_sub (t := t) (ls := ls) ho hb hq (S := S) (E := moreL ws y n) fun p hp => moreL_mem.mpr ⟨hl p (s1 p hp), by have := s3 p hp; grind⟩
        grind
      grind
    · intro e
      refine ⟨fun h => ?_, fun h => ?_⟩
      · rw [endL_inter] at h
        by_cases c : (ls.filter fun p => decide (p ∈ moreL ws y n)) = []
        · rw [c] at h
          have := outB_ge (t := t) (ws := ws) (ls := ls) ho hb hq (S := []) (x := t.val (endL bs ls [])) (by simp) (by grind) (by simp)
          grind
        · obtain ⟨p, hp, hm⟩ := least_of_list (fun p => ws.getD p 0) c
          have hp2 := (moreL_mem.mp (of_decide_eq_true (List.mem_filter.mp hp).2)).2
          have g := outB_ge (t := t) (ws := ws) (ls := ls) ho hb hq (S := ls.filter fun p => decide (p ∈ moreL ws y n)) (x := rmin (t.val (endL bs ls (ls.filter fun p => decide (p ∈ moreL ws y n)))) (ws.getD p 0)) (fun q hq => (List.mem_filter.mp hq).1) (by unfold rmin; split <;> grind) fun q hq => by
            have := hm q hq
            unfold rmin
            split <;> grind
          unfold rmin at g
          split at g <;> grind
      · have sub := endL_sub (t := t) (ls := ls) ho hb hq (S := S) (E := wishL ws y n) fun p hp => wishL_mem.mpr ⟨hl p (s1 p hp), by have := s3 p hp; grind⟩
        grind
  unfold isHeld
  by_cases h : y = outB t ws bs ls
  · have k := key.mpr h
    rw [decide_eq_true h, decide_eq_false k.1, decide_eq_false k.2]
    rfl
  · rw [decide_eq_false h]
    cases c1 : decide (y < t.val (endL bs ls (moreL ws y n))) with
    | true => rfl
    | false =>
      cases c2 : decide (t.val (endL bs ls (wishL ws y n)) < y) with
      | true => rfl
      | false => exact absurd (key.mp ⟨of_decide_eq_false c1, of_decide_eq_false c2⟩) h
theorem outB_all {t : Tm} {n : Nat} {ws bs : List Rat} (hw : ws.length = n) (hb : bs.length = n) : outB t ws bs (List.range n) = outc t n ws := by
  unfold outB
  have e1 : put (List.range n) 1 bs = List.replicate n 1 := by
    apply List.ext_getElem?
    intro i
    by_cases c : i < n
    · rw [put_get (List.getElem?_eq_getElem (by omega)), if_pos (List.mem_range.mpr c), List.getElem?_replicate, if_pos c]
    · rw [List.getElem?_eq_none (by rw [put_len]; omega), List.getElem?_eq_none (by rw [List.length_replicate]; omega)]
  rw [put_range hb, e1, outM_outc hw]
theorem put_nil (x : Rat) (bs : List Rat) : put [] x bs = bs := by
  apply List.ext_getElem?
  intro i
  by_cases c : i < bs.length
  · rw [put_get (List.getElem?_eq_getElem c), List.getElem?_eq_getElem c]; simp
  · rw [List.getElem?_eq_none (by rw [put_len]; omega), List.getElem?_eq_none (by omega)]
theorem outB_none (t : Tm) (ws bs : List Rat) : outB t ws bs [] = t.val bs := by
  unfold outB outM
  rw [put_nil]
  rfl
theorem put_agree {ls : List Nat} {x : Rat} {bs cs : List Rat} (hl : bs.length = cs.length) (h : ∀ i, i ∉ ls → bs[i]? = cs[i]?) : put ls x bs = put ls x cs := by
  apply List.ext_getElem?
  intro i
  by_cases c : i < bs.length
  · rw [put_get (List.getElem?_eq_getElem c), put_get (List.getElem?_eq_getElem (show i < cs.length by omega))]
    by_cases d : i ∈ ls
    · rw [if_pos d, if_pos d]
    · have := h i d
      rw [List.getElem?_eq_getElem c, List.getElem?_eq_getElem (show i < cs.length by omega)] at this
      rw [if_neg d, if_neg d]
      exact this
  · rw [List.getElem?_eq_none (by rw [put_len]; omega), List.getElem?_eq_none (by rw [put_len]; omega)]
theorem outB_agree {t : Tm} {ws bs cs : List Rat} {ls : List Nat} (hl : bs.length = cs.length) (h : ∀ i, i ∉ ls → bs[i]? = cs[i]?) : outB t ws bs ls = outB t ws cs ls := by
  unfold outB
  rw [put_agree hl h, put_agree hl h]
end CB

set_option Elab.async false
set_option linter.all false
set_option maxRecDepth 100000
set_option maxHeartbeats 4000000
namespace CB
open PySem PySem.Spec PyProof.Rows L2
open C8 (Cal Met Mak pe_c pe_mk pe_mt pe_mt0 pe_gc CalAt)
section
variable {P : Program} {w : World} {K : PySem.W.Frag} {mg : Str → Option Value} {base : Heap}
abbrev n_replaced : List Str := ["bids", "lot", "bid", "person", "elder"]
theorem sc_replaced : FnScope ["bids", "lot", "bid", "person", "elder"] ["bids", "lot", "bid"] (defScope s_replaced) := ⟨rfl, rfl, rfl, by decide +kernel, rfl, by decide +kernel, by decide +kernel⟩
def sp_replaced (K : PySem.W.Frag) : Sp := fun vs H Q _ => ∃ (a b : Addr) (v : V) (us : List V) (bs : List Rat) (ps : List Nat) (q : Rat), vs = [.ref a, .ref b, v] ∧ SqT K H a us ∧ RQ K H us bs ∧ bs.length ≤ 6 ∧ (SqL K H b (pV ps) ∨ SqT K H b (pV ps)) ∧ RF K H v q ∧
  ∀ (p : Addr) (zs : List V) H', Same H H' → SqT K H' p zs → RQ K H' zs (put ps q bs) → Q (.ref p) H'
theorem ok_replaced (F : FnD K mg "replaced" s_replaced) (T_tuple : mg "tuple" = none) (T_enumerate : mg "enumerate" = none) : Cal P w K mg base 1 "replaced" (sp_replaced K) [] := by
  refine calOf F sc_replaced (fun _ _ _ _ _ _ us hl => match us, hl with | [_, _, _], _ => rfl) (fun vs H Q E h => ?_) (fun cdv f A outer s H vs Q E hr h => ?_)
  · obtain ⟨_, _, _, _, _, _, _, rfl, _⟩ := h
    rfl
  · obtain ⟨a, b, v, us, bs, ps, q, rfl, ha, hu, hn, hb, rv, k⟩ := h
    have ul : us.length = bs.length := RQ.length hu
    refine ⟨_, (pss_one (ps_ret (pe_callTy call_tuple_of (by rfl) T_tuple (by decide +kernel) (pa_cons (pe_lc (own := [("person", 3), ("elder", 4)]) (g := (gTup K 2 (gCons (gName 3) (gCons (gName 4) gNil)))) (te := tIf (tTest (tOp (rIn K false) (tVar 3) (tVar 1))) (tVar 2) (tVar 4)) (by rfl) sc_replaced.nd (pi_enumT (by rfl) T_enumerate (pa_cons (pv 0) pa_nil)) (blkOk_by (own := [("person", 3), ("elder", 4)]) (N := ["bids", "lot", "bid", "person", "elder"]) (sc := defScope s_replaced) (by decide +kernel)) (fun _ _ _ _ _ => (pg_tup rfl (pgs_cons (pg_name (i := 3) sc_replaced.nd rfl (Or.inl rfl)) (pgs_cons (pg_name (i := 4) sc_replaced.nd rfl (Or.inl rfl)) pgs_nil)))) (fun _ _ _ _ _ => pts_nil) (fun _ _ _ _ _ => (pe_ifExp (pt_cmpR op_in_seq (pv 3) (pv 1) rfl) (pv 2) (pv 4)))) pa_nil)))), ?_⟩
    refine ⟨_, rfl, a, us, rfl, ha, fun D hD => ?_⟩
    refine it_enumT (K := K) (a := a) (xs := us) (fun i H' => ∃ zs : List V, H' D = some (.lst zs) ∧ RQ K H' zs ((put ps q bs).take i) ∧ Same H H')
      ⟨[], upd_same, by rw [List.take_zero]; exact .nil, same_new hD⟩ (fun i H' ⟨_, _, _, s5⟩ => (Same.kt s5).sq ha) ?_ ?_
    · rintro i x T H' hx ⟨zs, g1, g2, g3⟩ hT
      obtain ⟨e, he, re⟩ := hu.getV hx
      have il := (List.getElem?_eq_some_iff.mp he).1
      have sT := same_new (o := .tup [.int ((i : Nat) : Int), x]) hT
      have hbT : SqL K (upd H' T (.tup [.int ((i : Nat) : Int), x])) b (pV ps) ∨ SqT K (upd H' T (.tup [.int ((i : Nat) : Int), x])) b (pV ps) := hb.imp (fun h => (g3.trans sT).seq h) fun h => (Same.kt (g3.trans sT)).sq h
      have kT := Same.kt (g3.trans sT)
      have zl : zs.length ≤ 6 := by rw [RQ.length g2, List.length_take, put_len]; omega
      have fin : ∀ (y : V) (z : Rat), RF K (upd H' T (.tup [.int ((i : Nat) : Int), x])) y z → (put ps q bs)[i]? = some z → ∃ acc, (upd H' T (.tup [.int ((i : Nat) : Int), x])) D = some (HO.lst acc) ∧ acc.length < sizeLine ∧ ∃ zs, (upd (upd H' T (.tup [.int ((i : Nat) : Int), x])) D (.lst (acc ++ [y]))) D = some (.lst zs) ∧ RQ K (upd (upd H' T (.tup [.int ((i : Nat) : Int), x])) D (.lst (acc ++ [y]))) zs ((put ps q bs).take (i + 1)) ∧ Same H (upd (upd H' T (.tup [.int ((i : Nat) : Int), x])) D (.lst (acc ++ [y]))) := fun y z ry hz => by
        refine ⟨zs, sT _ _ g1, small1000 (by omega), zs ++ [y], upd_same, ?_, Same.mut (g3.trans sT) hD⟩
        rw [take_succ' hz]
        exact RpAll.mono (KT.updl (sT _ _ g1)) (RQ.snoc (RpAll.mono (Same.kt sT) g2) ry)
      refine ⟨T, _, rfl, SqT.of upd_same, rfl, _, _, rfl, _, _, rfl, rfl, rfl, _, rfl, _, rfl, b, pV ps, rfl, hbT, rfl, pV_flat ps, _, rfl, ?_⟩
      show if inV (.int ((i : Nat) : Int)) (pV ps) = true then _ else _
      rw [pV_in]
      have pg := put_get (ps := ps) (x := q) he
      by_cases c : i ∈ ps
      · rw [decide_eq_true c]
        rw [if_pos c] at pg
        refine iteT ?_
        exact ⟨_, rfl, fin v q (rv.mono kT) pg⟩
      · rw [decide_eq_false c]
        rw [if_neg c] at pg
        refine iteF ?_
        exact ⟨_, rfl, fin x e (re.mono kT) pg⟩
    · rintro H' ⟨zs, g1, g2, g3⟩
      rw [ul, ← put_len ps q bs, List.take_length] at g2
      refine ⟨D, zs, rfl, .inl ⟨SqL.of g1, fun p hp => ?_⟩⟩
      have sp := same_new (o := .tup zs) hp
      exact k p zs _ (g3.trans sp) (SqT.of upd_same) (RpAll.mono (Same.kt sp) g2)
theorem Bids.put {H : Hp} {p : Addr} {zs : List V} {n s : Nat} {ps : List Nat} {q : Rat} {bs : List Rat} (h : SqT K H p zs) (r : RQ K H zs (put ps q bs)) (hl : bs.length = n) (hq : NumOk s q) (hb : ∀ x ∈ bs, NumOk s x) : Bids K H p n s (put ps q bs) :=
  ⟨zs, h, r, by rw [put_len, hl], fun x hx => by rcases put_mem hx with e | e
                                                 · rw [e]; exact hq
                                                 · exact hb x e⟩
abbrev n_mixed : List Str := ["lows", "highs", "lot", "person", "low"]
theorem sc_mixed : FnScope ["lows", "highs", "lot", "person", "low"] ["lows", "highs", "lot"] (defScope s_mixed) := ⟨rfl, rfl, rfl, by decide +kernel, rfl, by decide +kernel, by decide +kernel⟩
def sp_mixed (K : PySem.W.Frag) : Sp := fun vs H Q _ => ∃ (a b c : Addr) (us uh : List V) (lo hi : List Rat) (ps : List Nat), vs = [.ref a, .ref b, .ref c] ∧ SqT K H a us ∧ RQ K H us lo ∧ SqT K H b uh ∧ RQ K H uh hi ∧ lo.length ≤ 6 ∧ hi.length = lo.length ∧ (SqL K H c (pV ps) ∨ SqT K H c (pV ps)) ∧
  ∀ (p : Addr) (zs : List V) H', Same H H' → SqT K H' p zs → RQ K H' zs (mix lo hi ps) → Q (.ref p) H'
theorem ok_mixed (F : FnD K mg "mixed" s_mixed) (T_tuple : mg "tuple" = none) (T_enumerate : mg "enumerate" = none) : Cal P w K mg base 1 "mixed" (sp_mixed K) [] := by
  refine calOf F sc_mixed (fun _ _ _ _ _ _ us hl => match us, hl with | [_, _, _], _ => rfl) (fun vs H Q E h => ?_) (fun cdv f A outer s H vs Q E hr h => ?_)
  · obtain ⟨_, _, _, _, _, _, _, _, rfl, _⟩ := h
    rfl
  · obtain ⟨a, b, cl, us, uh, bs, hs, ps, rfl, ha, hu, hbb, huh, hn, hhl, hb, k⟩ := h
    have ul : us.length = bs.length := RQ.length hu
    refine ⟨_, (pss_one (ps_ret (pe_callTy call_tuple_of (by rfl) T_tuple (by decide +kernel) (pa_cons (pe_lc (own := [("person", 3), ("low", 4)]) (g := (gTup K 2 (gCons (gName 3) (gCons (gName 4) gNil)))) (te := tIf (tTest (tOp (rIn K false) (tVar 3) (tVar 2))) (tOp (rIxT K) (tVar 1) (tVar 3)) (tVar 4)) (by rfl) sc_mixed.nd (pi_enumT (by rfl) T_enumerate (pa_cons (pv 0) pa_nil)) (blkOk_by (own := [("person", 3), ("low", 4)]) (N := ["lows", "highs", "lot", "person", "low"]) (sc := defScope s_mixed) (by decide +kernel)) (fun _ _ _ _ _ => (pg_tup rfl (pgs_cons (pg_name (i := 3) sc_mixed.nd rfl (Or.inl rfl)) (pgs_cons (pg_name (i := 4) sc_mixed.nd rfl (Or.inl rfl)) pgs_nil)))) (fun _ _ _ _ _ => pts_nil) (fun _ _ _ _ _ => (pe_ifExp (pt_cmpR op_in_seq (pv 3) (pv 2) rfl) (pe_ix ix_tup (pv 1) (pv 3) (fun _ _ => rfl)) (pv 4)))) pa_nil)))), ?_⟩
    refine ⟨_, rfl, a, us, rfl, ha, fun D hD => ?_⟩
    refine it_enumT (K := K) (a := a) (xs := us) (fun i H' => ∃ zs : List V, H' D = some (.lst zs) ∧ RQ K H' zs ((mix bs hs ps).take i) ∧ Same H H')
      ⟨[], upd_same, by rw [List.take_zero]; exact .nil, same_new hD⟩ (fun i H' ⟨_, _, _, s5⟩ => (Same.kt s5).sq ha) ?_ ?_
    · rintro i x T H' hx ⟨zs, g1, g2, g3⟩ hT
      obtain ⟨e, he, re⟩ := hu.getV hx
      have il := (List.getElem?_eq_some_iff.mp he).1
      have sT := same_new (o := .tup [.int ((i : Nat) : Int), x]) hT
      have hbT : SqL K (upd H' T (.tup [.int ((i : Nat) : Int), x])) cl (pV ps) ∨ SqT K (upd H' T (.tup [.int ((i : Nat) : Int), x])) cl (pV ps) := hb.imp (fun h => (g3.trans sT).seq h) fun h => (Same.kt (g3.trans sT)).sq h
      have kT := Same.kt (g3.trans sT)
      have zl : zs.length ≤ 6 := by rw [RQ.length g2, List.length_take, mix_len]; omega
      have fin : ∀ (y : V) (z : Rat), RF K (upd H' T (.tup [.int ((i : Nat) : Int), x])) y z → (mix bs hs ps)[i]? = some z → ∃ acc, (upd H' T (.tup [.int ((i : Nat) : Int), x])) D = some (HO.lst acc) ∧ acc.length < sizeLine ∧ ∃ zs, (upd (upd H' T (.tup [.int ((i : Nat) : Int), x])) D (.lst (acc ++ [y]))) D = some (.lst zs) ∧ RQ K (upd (upd H' T (.tup [.int ((i : Nat) : Int), x])) D (.lst (acc ++ [y]))) zs ((mix bs hs ps).take (i + 1)) ∧ Same H (upd (upd H' T (.tup [.int ((i : Nat) : Int), x])) D (.lst (acc ++ [y]))) := fun y z ry hz => by
        refine ⟨zs, sT _ _ g1, small1000 (by omega), zs ++ [y], upd_same, ?_, Same.mut (g3.trans sT) hD⟩
        rw [take_succ' hz]
        exact RpAll.mono (KT.updl (sT _ _ g1)) (RQ.snoc (RpAll.mono (Same.kt sT) g2) ry)
      refine ⟨T, _, rfl, SqT.of upd_same, rfl, _, _, rfl, _, _, rfl, rfl, rfl, _, rfl, _, rfl, cl, pV ps, rfl, hbT, rfl, pV_flat ps, _, rfl, ?_⟩
      show if inV (.int ((i : Nat) : Int)) (pV ps) = true then _ else _
      rw [pV_in]
      have pg := mix_get (ps := ps) (hi := hs) he
      by_cases c : i ∈ ps
      · rw [decide_eq_true c]
        rw [if_pos c] at pg
        refine iteT ?_
        have ih : i < hs.length := by omega
        obtain ⟨uo, huo, ruo⟩ := RQ.get huh (List.getElem?_eq_getElem ih)
        have eo : hs.getD i 0 = hs[i] := by rw [List.getD_eq_getElem?_getD, List.getElem?_eq_getElem ih]; rfl
        rw [eo] at pg
        exact ⟨_, rfl, _, rfl, b, uh, _, uo, rfl, rfl, kT.sq hbb, at_of (j := i) rfl huo, fin uo _ (ruo.mono kT) pg⟩
      · rw [decide_eq_false c]
        rw [if_neg c] at pg
        refine iteF ?_
        exact ⟨_, rfl, fin x e (re.mono kT) pg⟩
    · rintro H' ⟨zs, g1, g2, g3⟩
      rw [ul, ← mix_len bs hs ps, List.take_length] at g2
      refine ⟨D, zs, rfl, .inl ⟨SqL.of g1, fun p hp => ?_⟩⟩
      have sp := same_new (o := .tup zs) hp
      exact k p zs _ (g3.trans sp) (SqT.of upd_same) (RpAll.mono (Same.kt sp) g2)
theorem Bids.mix {H : Hp} {p : Addr} {zs : List V} {n s : Nat} {ps : List Nat} {lo hi : List Rat} (h : SqT K H p zs) (r : RQ K H zs (mix lo hi ps)) (hl : lo.length = n) (hh : hi.length = n) (h1 : ∀ x ∈ lo, NumOk s x) (h2 : ∀ x ∈ hi, NumOk s x) : Bids K H p n s (mix lo hi ps) :=
  ⟨zs, h, r, by rw [mix_len, hl], fun x hx => (mix_mem (hh.trans hl.symm) hx).elim (h2 x) (h1 x)⟩
theorem nok_zero {s : Nat} (h : 1 ≤ s) : NumOk s 0 := ⟨by decide, by decide, Nat.two_pow_pos _, by show (1 : Nat) < 2 ^ s; exact Nat.one_lt_two_pow (by omega)⟩
theorem nok_one {s : Nat} (h : 1 ≤ s) : NumOk s 1 := ⟨by decide, by decide, by show (1 : Nat) < 2 ^ s; exact Nat.one_lt_two_pow (by omega), by show (1 : Nat) < 2 ^ s; exact Nat.one_lt_two_pow (by omega)⟩
abbrev n_settled : List Str := ["term", "wishes", "lows", "highs", "later", "ways", "found", "person", "eager", "told", "other"]
theorem sc_settled : FnScope ["term", "wishes", "lows", "highs", "later", "ways", "found", "person", "eager", "told", "other"] ["term", "wishes", "lows", "highs", "later", "ways"] (defScope s_settled) := ⟨rfl, rfl, rfl, by decide +kernel, rfl, by decide +kernel, by decide +kernel⟩
def sp_settled (K : PySem.W.Frag) (C : Addr) : Sp := fun vs H Q _ => ∃ (vt : V) (a b b2 l x dx : Addr) (n s z : Nat) (t : Tm) (ws lo hi : List Rat) (ls : List Nat), vs = [vt, .ref a, .ref b, .ref b2, .ref l, .ref x] ∧ Rp K H vt t.data ∧ t.Ok n s ∧ 1 ≤ s ∧ s ≤ 9000 ∧ t.dep ≤ 8 ∧ t.wt s + 20 ≤ 9000 ∧ n ≤ 6 ∧ z ≤ 9000 ∧
  Bids K H a n z ws ∧ Bids K H b n s lo ∧ Bids K H b2 n s hi ∧ SqT K H l (pV ls) ∧ (∀ p ∈ ls, p < n) ∧ ls.length ≤ 6 ∧ H x = some (.ins C dx []) ∧ ∀ v H', Same H H' → RF K H' v (outM t ws lo hi ls) → Q v H'
theorem ok_settled {C : Addr} (F : FnD K mg "settled" s_settled) (c_mixed : Cal P w K mg base 1 "mixed" (sp_mixed K) []) (c_worked : Cal P w K mg base 14 "worked" (spW K C 8) []) (c_is_less : Cal P w K mg base 1 "is_less" (sp_is_less K) [])
    (m_fixed : Met P w K mg base 1 C "fixed" (sp_fixed C) []) (m_lesser : Met P w K mg base 3 C "lesser" (sp_self (sp_lesser K)) []) (m_greater : Met P w K mg base 3 C "greater" (sp_self (sp_greater K)) []) : Cal P w K mg base 15 "settled" (sp_settled K C) [] := by
  refine calOf F sc_settled (fun _ _ _ _ _ _ us hl => match us, hl with | [_, _, _, _, _, _], _ => rfl) (fun vs H Q E h => ?_) (fun cdv f A outer s H vs Q E hr h => ?_)
  · obtain ⟨_, _, _, _, _, _, _, _, _, _, _, _, _, _, _, rfl, _⟩ := h
    rfl
  · obtain ⟨vt, a, b, bh, l, x, dx, n, sz, zz, t, ws, lo, hi, ls, rfl, rt, ho, hs1, hsz, hdep, hwt, hn, hzz, hW, hB, hB2, hL, hlt, hll, hx, k⟩ := h
    obtain ⟨us, b1, b2, b3, b4⟩ := id hB
    obtain ⟨uh, h1, h2, h3, h4⟩ := id hB2
    obtain ⟨uw, c1, c2, c3, c4⟩ := id hW
    refine ⟨_, (pss_cons (ps_set (i := 6) sc_settled.nd rfl (Or.inl rfl) (pe_c c_worked hr (by first | decide | omega) rfl (pa_cons (pv 0) (pa_cons (pv 2) (pa_cons (pv 5) pa_nil)))))
    (pss_cons (ps_for PassesOwn.never rfl (pi_tup (pv 4)) (pg_name (i := 7) sc_settled.nd rfl (Or.inr rfl)) (pss_cons (ps_setLc (i := 8) (own := [("other", 10)]) (tt := tNot (tB (tCall (sp_is_less K) [] C8.E0 (tCons (tOp (rIxT K) (tVar 1) (tVar 10)) (tCons (tOp (rIxT K) (tVar 1) (tVar 7)) tNil))))) (by rfl) sc_settled.nd rfl rfl (sw_true rfl rfl rfl (by decide +kernel)) (pi_tup (pv 4)) (blkOk_by (own := [("other", 10)]) (N := ["term", "wishes", "lows", "highs", "later", "ways", "found", "person", "eager", "told", "other"]) (sc := defScope s_settled) (by decide +kernel)) (fun _ _ _ _ _ => (pg_name (i := 10) sc_settled.nd rfl (Or.inl rfl))) (fun _ _ _ _ _ => (pts_one (pt_not (pt_val (pe_c c_is_less hr (by first | decide | omega) rfl (pa_cons (pe_ix ix_tup (pv 1) (pv 10) (fun _ _ => rfl)) (pa_cons (pe_ix ix_tup (pv 1) (pv 7) (fun _ _ => rfl)) pa_nil))))))) (fun _ _ _ _ _ => (pv 10)))
    (pss_cons (ps_set (i := 9) sc_settled.nd rfl (Or.inl rfl) (pe_c c_worked hr (by first | decide | omega) rfl (pa_cons (pv 0) (pa_cons (pe_c c_mixed hr (by first | decide | omega) rfl (pa_cons (pv 2) (pa_cons (pv 3) (pa_cons (pv 8) pa_nil)))) (pa_cons (pv 5) pa_nil)))))
    (pss_one (ps_set (i := 6) sc_settled.nd rfl (Or.inl rfl) (pe_mt m_greater hr (by first | decide | omega) (pv 5) (pa_cons (pv 6) (pa_cons (pe_mt m_lesser hr (by first | decide | omega) (pv 5) (pa_cons (pe_mt m_fixed hr (by first | decide | omega) (pv 5) (pa_cons (pe_ix ix_tup (pv 1) (pv 7) (fun _ _ => rfl)) pa_nil)) (pa_cons (pv 9) pa_nil))) pa_nil))))))))
    (pss_one (ps_ret (pv 6))))), ?_⟩
    refine ⟨_, rfl, _, rfl, _, rfl, vt, b, x, dx, n, sz, lo, t, rfl, rt, ho, hsz, hdep, hwt, hB, hx, fun vf H2 s2 rf => ?_⟩
    have vsz : ∀ {p : Addr} {bs' : List Rat} {H' : Hp}, Bids K H' p n sz bs' → Sz 9000 (t.val bs') := fun {p bs' H'} hh => by
      obtain ⟨_, _, _, e3, e4⟩ := hh
      exact (val_sz (fun q h => (e4 q h).2.2) e3 ho).mono (by omega)
    refine ⟨_, rfl, l, rfl, ⟨_, (Same.kt s2).sq hL⟩, for_tup (K := K) (a := l) (xs := pV ls) (fun i σ H' => ∃ (vf : V) (x7 x8 x9 : Option V), σ = [some vt, some (.ref a), some (.ref b), some (.ref bh), some (.ref l), some (.ref x), some vf, x7, x8, x9, none] ∧ Same H H' ∧ RF K H' vf ((ls.take i).foldl (stepM t ws lo hi ls) (t.val lo)) ∧ Sz 9000 ((ls.take i).foldl (stepM t ws lo hi ls) (t.val lo)))
      ⟨vf, none, none, none, rfl, s2, by rw [List.take_zero]; exact rf, by rw [List.take_zero]; exact vsz hB⟩ (fun i σ H' _ ⟨_, _, _, _, _, s5, _⟩ => (Same.kt s5).sq hL) ?_ ?_⟩
    · rintro i y σ H3 hy ⟨vf, _, x8, x9, rfl, s3, r3, z3⟩
      obtain ⟨p, hp, rfl⟩ := pV_get hy
      have pn := hlt p (List.mem_of_getElem? hp)
      obtain ⟨up, hup, rup⟩ := RQ.get c2 (List.getElem?_eq_getElem (show p < ws.length by omega))
      refine ⟨_, rfl, l, rfl, ⟨_, (Same.kt s3).sq hL⟩, fun D hD => ?_⟩
      refine it_tup (K := K) (a := l) (xs := pV ls) (fun j H' => H' D = some (.lst (pV ((ls.take j).filter fun o => !decide (ws.getD o 0 < ws.getD p 0)))) ∧ Same H3 H')
        ⟨by rw [List.take_zero]; exact upd_same, same_new hD⟩ (fun j H' ⟨_, s5⟩ => (Same.kt (s3.trans s5)).sq hL) ?_ ?_
      · rintro j z H4 hz ⟨g1, g2⟩
        obtain ⟨o, hoo, rfl⟩ := pV_get hz
        have on := hlt o (List.mem_of_getElem? hoo)
        obtain ⟨uo, huo, ruo⟩ := RQ.get c2 (List.getElem?_eq_getElem (show o < ws.length by omega))
        have s14 := s3.trans g2
        have c14 := (Same.kt s14).sq c1
        have eo : ws.getD o 0 = ws[o]'(by omega) := by rw [List.getD_eq_getElem?_getD, List.getElem?_eq_getElem (show o < ws.length by omega)]; rfl
        have ep : ws.getD p 0 = ws[p]'(by omega) := by rw [List.getD_eq_getElem?_getD, List.getElem?_eq_getElem (show p < ws.length by omega)]; rfl
        refine ⟨rfl, _, rfl, _, rfl, a, uw, _, uo, rfl, rfl, c14, at_of (j := o) rfl huo, _, rfl, _, rfl, a, uw, _, up, rfl, rfl, c14, at_of (j := p) rfl hup, uo, up, _, _, zz, zz, rfl, ruo.mono (Same.kt s14), rup.mono (Same.kt s14), (c4 _ (List.getElem_mem _)).2.2, (c4 _ (List.getElem_mem _)).2.2, by omega, _, rfl, ?_⟩
        have tk : ls.take (j + 1) = ls.take j ++ [o] := take_succ' hoo
        have zl : ((ls.take j).filter fun o => !decide (ws.getD o 0 < ws.getD p 0)).length ≤ 6 := Nat.le_trans (List.length_filter_le _ _) (by rw [List.length_take]; omega)
        rw [← eo, ← ep]
        cases cc : decide (ws.getD o 0 < ws.getD p 0) with
        | true =>
          refine iteF ?_
          refine ⟨?_, g2⟩
          rw [tk, List.filter_append, List.filter_cons_of_neg (by simp only [cc]; decide)]
          simpa using g1
        | false =>
          refine iteT ?_
          refine ⟨_, rfl, _, g1, by rw [pV_len]; exact small1000 (by omega), ?_, Same.mut g2 hD⟩
          rw [tk, List.filter_append, List.filter_cons_of_pos (by simp only [cc]; decide)]
          show upd H4 D _ D = some (.lst (pV (_ ++ [o])))
          rw [show ∀ l : List Nat, pV (l ++ [o]) = pV l ++ [V.int (o : Int)] from fun l => by simp [pV, pI]]
          exact upd_same
      · rintro H4 ⟨g1, g2⟩
        rw [pV_len, List.take_length] at g1
        have s14 := s3.trans g2
        have kl := Same.kt s14
        refine ⟨_, rfl, _, rfl, _, rfl, _, rfl, b, bh, D, us, uh, lo, hi, eager ws ls p, rfl, kl.sq b1, RpAll.mono kl b2, kl.sq h1, RpAll.mono kl h2, by omega, by omega, .inl (SqL.of g1), fun pt zt H5 s5 hzt rzt => ?_⟩
        have BT : Bids K H5 pt n sz (mix lo hi (eager ws ls p)) := Bids.mix hzt rzt b3 h3 b4 h4
        have s15 := s14.trans s5
        refine ⟨_, rfl, vt, pt, x, dx, n, sz, mix lo hi (eager ws ls p), t, rfl, rt.mono (Same.kt s15), ho, hsz, hdep, hwt, BT, s15 _ _ hx, fun v6 H6 s6 r6 => ?_⟩
        have s16 := s15.trans s6
        have hx6 := s16 _ _ hx
        have s36 := (g2.trans s5).trans s6
        have r36 := r3.mono (Same.kt s36)
        have ep : ws.getD p 0 = ws[p]'(by omega) := by rw [List.getD_eq_getElem?_getD, List.getElem?_eq_getElem (show p < ws.length by omega)]; rfl
        have rup6 : RF K H6 up (ws.getD p 0) := by rw [ep]; exact rup.mono (Same.kt s16)
        have zup : Sz 9000 (ws.getD p 0) := by rw [ep]; exact (c4 _ (List.getElem_mem _)).2.2.mono hzz
        refine ⟨_, rfl, x, dx, [], rfl, hx6, rfl, _, rfl, _, rfl, x, dx, [], rfl, hx6, rfl, _, rfl, x, dx, [], rfl, hx6, rfl, _, rfl, _, rfl, a, uw, _, up, rfl, rfl, (Same.kt s16).sq c1, at_of (j := p) rfl hup, x, up, rfl, _, rfl, ?_⟩
        refine ⟨x, [up, v6], rfl, rfl, up, v6, _, _, 9000, 9000, rfl, rup6, r6, zup, vsz BT, by omega, fun vm rm => ?_⟩
        refine ⟨x, [vf, vm], rfl, rfl, vf, vm, _, _, 9000, 9000, rfl, r36, rm, z3, sz_rmin zup (vsz BT), by omega, fun vg rg => ?_⟩
        refine ⟨vg, _, _, _, rfl, s3.trans s36, ?_, ?_⟩
        · rw [take_succ' hp, List.foldl_append]
          exact rg
        · rw [take_succ' hp, List.foldl_append]
          exact sz_rmax z3 (sz_rmin zup (vsz BT))
    · rintro σ H3 ⟨vf, _, _, _, rfl, s3, r3, z3⟩
      rw [pV_len, List.take_length] at r3
      exact ⟨_, rfl, k vf H3 s3 r3⟩
abbrev n_settled_between : List Str := ["rule", "wishes", "lows", "highs"]
theorem sc_settled_between : FnScope ["rule", "wishes", "lows", "highs"] ["rule", "wishes", "lows", "highs"] (defScope s_settled_between) := ⟨rfl, rfl, rfl, by decide +kernel, rfl, by decide +kernel, by decide +kernel⟩
def sp_settled_between (K : PySem.W.Frag) (C : Addr) : Sp := fun vs H Q _ => ∃ (r a b b2 : Addr) (n s z : Nat) (t : Tm) (ws lo hi : List Rat), vs = [.ref r, .ref a, .ref b, .ref b2] ∧ RuleAt K C H r n t ∧ t.Ok n s ∧ 1 ≤ s ∧ s ≤ 9000 ∧ t.dep ≤ 8 ∧ t.wt s + 20 ≤ 9000 ∧ n ≤ 6 ∧ z ≤ 9000 ∧ Bids K H a n z ws ∧ Bids K H b n s lo ∧ Bids K H b2 n s hi ∧
  ∀ v H', Same H H' → RF K H' v (outM t ws lo hi (List.range n)) → Q v H'
theorem ok_settled_between {C CN : Addr} (F : FnD K mg "settled_between" s_settled_between) (hc : Cls K C) (n1 : NoAttr K C "people") (n2 : NoAttr K C "term") (c_settled : Cal P w K mg base 15 "settled" (sp_settled K CN) []) (M_Numbers : Mk0 K CN) (g_Numbers : mg "Numbers" = some (.ref CN)) (T_tuple : mg "tuple" = none) (T_range : mg "range" = none) : Cal P w K mg base 16 "settled_between" (sp_settled_between K C) [] := by
  refine calOf F sc_settled_between (fun _ _ _ _ _ _ us hl => match us, hl with | [_, _, _, _], _ => rfl) (fun vs H Q E h => ?_) (fun cdv f A outer s H vs Q E hr h => ?_)
  · obtain ⟨_, _, _, _, _, _, _, _, _, _, _, rfl, _⟩ := h
    rfl
  · obtain ⟨r, a, b, b2, n, sz, zz, t, ws, lo, hi, rfl, ⟨dx0, v, hr1, rt⟩, ho, hs1, hsz, hdep, hwt, hn, hzz, hW, hB, hB2, k⟩ := h
    refine ⟨_, (pss_one (ps_ret (pe_c c_settled hr (by first | decide | omega) rfl (pa_cons (pe_fld (pv 0) rfl) (pa_cons (pv 1) (pa_cons (pv 2) (pa_cons (pv 3) (pa_cons (pe_tupRg rfl (by rfl) T_tuple (prg_1 (by rfl) T_range (pe_fld (pv 0) rfl))) (pa_cons (pe_mk0 M_Numbers rfl g_Numbers) pa_nil))))))))), ?_⟩
    refine ⟨_, rfl, r, C, dx0, _, _, rfl, hr1, hc, n2, ruleF_term n v, _, rfl, _, rfl, _, rfl, _, rfl, r, C, dx0, _, _, rfl, hr1, hc, n1, ruleF_people n v, (n : Int), rfl, RgOk.of_le (by omega) (by omega) (by omega) (by omega), fun l hl => ?_⟩
    rw [rgV_pV]
    have s1 := same_new (o := .tup (pV (List.range n))) hl
    refine fun x dx nx ndx nex => ?_
    have s2 : Same (upd H l (.tup (pV (List.range n)))) (upd (upd (upd H l (.tup (pV (List.range n)))) dx (.own x)) x (.ins CN dx [])) := (same_new ndx).trans (same_new (by rw [upd_ne (Ne.symm nex)]; exact nx))
    have s12 := s1.trans s2
    have kt := Same.kt s12
    exact ⟨v, a, b, b2, l, x, dx, n, sz, zz, t, ws, lo, hi, List.range n, rfl, rt.mono kt, ho, hs1, hsz, hdep, hwt, hn, hzz, hW.mono kt, hB.mono kt, hB2.mono kt, (Same.kt s2).sq (SqT.of upd_same), fun p hp => List.mem_range.mp hp, by rw [List.length_range]; exact hn, upd_same, fun v' H' s3 r3 => k v' H' (s12.trans s3) r3⟩
theorem repZ_ok {a : Addr} {v : V} {n : Nat} {H : Hp} {Q : VK} (h : SqT K H a [v]) (h1 : 1 ≤ n) (h6 : n ≤ 6) (q : ∀ p H', Same H H' → SqT K H' p (List.replicate n v) → Q (.ref p) H') : rRepN K (.ref a) (.int (n : Int)) H Q := by
  refine ⟨a, n, [v], rfl, rfl, h, by simp, h1, by omega, by show 1 ≤ 1000; decide, fun e => ?_, fun _ p hp => ?_⟩
  · exact q a H (Same.refl H) (by rw [e]; exact h)
  · rw [show (List.replicate n [v]).flatten = List.replicate n v by simp]
    exact q p _ (same_new hp) (SqT.of upd_same)
theorem rq_repl {H : Hp} {v : V} {q : Rat} (h : RF K H v q) : ∀ n : Nat, RQ K H (List.replicate n v) (List.replicate n q)
  | 0 => .nil
  | n + 1 => .cons h.rp (rq_repl h n)
theorem Bids.repl {H : Hp} {p : Addr} {v : V} {q : Rat} {n s : Nat} (h : SqT K H p (List.replicate n v)) (r : RF K H v q) (hq : NumOk s q) : Bids K H p n s (List.replicate n q) :=
  ⟨_, h, rq_repl r n, List.length_replicate, fun x hx => by rw [(List.mem_replicate.mp hx).2]; exact hq⟩
abbrev n_outcome_of : List Str := ["rule", "wishes"]
theorem sc_outcome_of : FnScope ["rule", "wishes"] ["rule", "wishes"] (defScope s_outcome_of) := ⟨rfl, rfl, rfl, by decide +kernel, rfl, by decide +kernel, by decide +kernel⟩
def sp_outcome_of (K : PySem.W.Frag) (C : Addr) : Sp := fun vs H Q _ => ∃ (r a : Addr) (n s z : Nat) (t : Tm) (ws : List Rat), vs = [.ref r, .ref a] ∧ RuleAt K C H r n t ∧ t.Ok n s ∧ 1 ≤ s ∧ s ≤ 9000 ∧ t.dep ≤ 8 ∧ t.wt s + 20 ≤ 9000 ∧ 1 ≤ n ∧ n ≤ 6 ∧ z ≤ 9000 ∧ Bids K H a n z ws ∧
  ∀ v H', Same H H' → RF K H' v (outc t n ws) → Q v H'
theorem ok_outcome_of {C aZ aO : Addr} (F : FnD K mg "outcome_of" s_outcome_of) (hc : Cls K C) (n1 : NoAttr K C "people") (c_settled_between : Cal P w K mg base 16 "settled_between" (sp_settled_between K C) [])
    (g_ZERO : ∃ u, mg "ZERO" = some u ∧ RelV (.ref aZ) u) (z0 : ∀ H, SqT K H aZ [.int 0, .int 1]) (g_ONE : ∃ u, mg "ONE" = some u ∧ RelV (.ref aO) u) (z1 : ∀ H, SqT K H aO [.int 1, .int 1]) : Cal P w K mg base 17 "outcome_of" (sp_outcome_of K C) [] := by
  refine calOf F sc_outcome_of (fun _ _ _ _ _ _ us hl => match us, hl with | [_, _], _ => rfl) (fun vs H Q E h => ?_) (fun cdv f A outer s H vs Q E hr h => ?_)
  · obtain ⟨_, _, _, _, _, _, _, rfl, _⟩ := h
    rfl
  · obtain ⟨r, a, n, sz, zz, t, ws, rfl, hR, ho, hs1, hsz, hdep, hwt, hn1, hn, hzz, hW, k⟩ := h
    obtain ⟨dx0, v, hr1, rt⟩ := id hR
    have rz : ∀ H, RF K H (.ref aZ) 0 := fun H => zero_rf (z0 H)
    have ro : ∀ H, RF K H (.ref aO) 1 := fun H => ⟨aO, rfl, z1 H⟩
    refine ⟨_, (pss_one (ps_ret (pe_c c_settled_between hr (by first | decide | omega) rfl (pa_cons (pv 0) (pa_cons (pv 1) (pa_cons (pe_op op_repN (pe_tup (pa_cons (pe_gc rfl g_ZERO) pa_nil)) (pe_fld (pv 0) rfl)) (pa_cons (pe_op op_repN (pe_tup (pa_cons (pe_gc rfl g_ONE) pa_nil)) (pe_fld (pv 0) rfl)) pa_nil))))))), ?_⟩
    refine ⟨_, rfl, _, rfl, (by show 1 ≤ sizeLine; decide), fun p1 hp1 => ⟨_, rfl, r, C, dx0, _, _, rfl, (same_new hp1) _ _ hr1, hc, n1, ruleF_people n v, ?_⟩⟩
    have s1 := same_new (o := .tup [.ref aZ]) hp1
    refine repZ_ok (SqT.of upd_same) hn1 hn fun p2 H2 s2 q2 => ?_
    have s12 := s1.trans s2
    refine ⟨(by show 1 ≤ sizeLine; decide), fun p3 hp3 => ⟨_, rfl, r, C, dx0, _, _, rfl, (s12.trans (same_new hp3)) _ _ hr1, hc, n1, ruleF_people n v, ?_⟩⟩
    have s3 := same_new (o := .tup [.ref aO]) hp3
    refine repZ_ok (SqT.of upd_same) hn1 hn fun p4 H4 s4 q4 => ?_
    have s14 := s12.trans (s3.trans s4)
    refine ⟨r, a, p2, p4, n, sz, zz, t, ws, List.replicate n 0, List.replicate n 1, rfl, ?_, ho, hs1, hsz, hdep, hwt, hn, hzz, hW.mono (Same.kt s14), Bids.repl ((Same.kt (s3.trans s4)).sq q2) (rz _) (nok_zero hs1), Bids.repl q4 (ro _) (nok_one hs1), fun v' H' s5 r5 => ?_⟩
    · exact ⟨dx0, v, s14 _ _ hr1, rt.mono (Same.kt s14)⟩
    · rw [outM_outc (by obtain ⟨_, _, _, e, _⟩ := hW; exact e)] at r5
      exact k v' H' (s14.trans s5) r5
abbrev n_need_wishes : List Str := ["rule", "thing"]
theorem sc_need_wishes : FnScope ["rule", "thing"] ["rule", "thing"] (defScope s_need_wishes) := ⟨rfl, rfl, rfl, by decide +kernel, rfl, by decide +kernel, by decide +kernel⟩
def sp_need_wishes (K : PySem.W.Frag) (C : Addr) : Sp := fun vs H Q _ => ∃ (r a : Addr) (n s : Nat) (t : Tm) (bs : List Rat), vs = [.ref r, .ref a] ∧ RuleAt K C H r n t ∧ Bids K H a n s bs ∧ n ≤ 6 ∧ ∀ H', Same H H' → Q .non H'
theorem ok_need_wishes {C : Addr} (F : FnD K mg "need_wishes" s_need_wishes) (hc : Cls K C) (n1 : NoAttr K C "people") (c_are_numbers : Cal P w K mg base 3 "are_numbers" (sp_are_numbers K) []) : Cal P w K mg base 4 "need_wishes" (sp_need_wishes K C) [] := by
  refine calOf F sc_need_wishes (fun _ _ _ _ _ _ us hl => match us, hl with | [_, _], _ => rfl) (fun vs H Q E h => ?_) (fun cdv f A outer s H vs Q E hr h => ?_)
  · obtain ⟨_, _, _, _, _, _, rfl, _⟩ := h
    rfl
  · obtain ⟨r, a, n, sz, t, bs, rfl, ⟨dx, v, hr1, rt⟩, hB, hn, k⟩ := h
    refine ⟨_, (pss_one (ps_if (pt_not (pt_val (pe_c c_are_numbers hr (by first | decide | omega) rfl (pa_cons (pv 1) (pa_cons (pe_fld (pv 0) rfl) pa_nil))))) (pss_one ps_never) pss_nil)), ?_⟩
    exact ⟨_, rfl, _, rfl, r, C, dx, _, _, rfl, hr1, hc, n1, ruleF_people n v, a, n, sz, bs, rfl, hB, by omega, fun H1 s1 => ⟨_, rfl, k _ s1⟩⟩
abbrev n_outcome : List Str := ["rule", "wishes"]
theorem sc_outcome : FnScope ["rule", "wishes"] ["rule", "wishes"] (defScope s_outcome) := ⟨rfl, rfl, rfl, by decide +kernel, rfl, by decide +kernel, by decide +kernel⟩
theorem ok_outcome {C : Addr} (F : FnD K mg "outcome" s_outcome) (c_need_wishes : Cal P w K mg base 4 "need_wishes" (sp_need_wishes K C) []) (c_outcome_of : Cal P w K mg base 17 "outcome_of" (sp_outcome_of K C) []) : Cal P w K mg base 18 "outcome" (sp_outcome_of K C) [] := by
  refine calOf F sc_outcome (fun _ _ _ _ _ _ us hl => match us, hl with | [_, _], _ => rfl) (fun vs H Q E h => ?_) (fun cdv f A outer s H vs Q E hr h => ?_)
  · obtain ⟨_, _, _, _, _, _, _, rfl, _⟩ := h
    rfl
  · obtain ⟨r, a, n, sz, zz, t, ws, rfl, hR, ho, hs1, hsz, hdep, hwt, hn1, hn, hzz, hW, k⟩ := h
    refine ⟨_, (pss_cons (ps_expr (pe_c c_need_wishes hr (by first | decide | omega) rfl (pa_cons (pv 0) (pa_cons (pv 1) pa_nil))))
    (pss_one (ps_ret (pe_c c_outcome_of hr (by first | decide | omega) rfl (pa_cons (pv 0) (pa_cons (pv 1) pa_nil)))))), ?_⟩
    refine ⟨_, rfl, _, rfl, r, a, n, zz, t, ws, rfl, hR, hW, hn, fun H1 s1 => ?_⟩
    exact ⟨_, rfl, _, rfl, r, a, n, sz, zz, t, ws, rfl, hR.same s1, ho, hs1, hsz, hdep, hwt, hn1, hn, hzz, hW.mono (Same.kt s1), fun v H' s2 r2 => k v H' (s1.trans s2) r2⟩
abbrev n__law_at_ends : List Str := ["_law_people", "_law_lot", "_law_person"]
theorem sc__law_at_ends : FnScope ["_law_people", "_law_lot", "_law_person"] ["_law_people", "_law_lot"] (defScope s__law_at_ends) := ⟨rfl, rfl, rfl, by decide +kernel, rfl, by decide +kernel, by decide +kernel⟩
def ends (n : Nat) (ps : List Nat) : List Rat := put ps 1 (List.replicate n 0)
def sp__law_at_ends (K : PySem.W.Frag) : Sp := fun vs H Q _ => ∃ (b : Addr) (n : Nat) (ps : List Nat), vs = [.int (n : Int), .ref b] ∧ n ≤ 6 ∧ SqT K H b (pV ps) ∧ ∀ (p : Addr) H', Same H H' → Bids K H' p n 1 (ends n ps) → Q (.ref p) H'
theorem ok__law_at_ends (F : FnD K mg "_law_at_ends" s__law_at_ends) (T_tuple : mg "tuple" = none) (T_range : mg "range" = none) : Cal P w K mg base 1 "_law_at_ends" (sp__law_at_ends K) [] := by
  refine calOf F sc__law_at_ends (fun _ _ _ _ _ _ us hl => match us, hl with | [_, _], _ => rfl) (fun vs H Q E h => ?_) (fun cdv f A outer s H vs Q E hr h => ?_)
  · obtain ⟨_, _, _, rfl, _⟩ := h
    rfl
  · obtain ⟨b, n, ps, rfl, hn, hb, k⟩ := h
    refine ⟨_, (pss_one (ps_ret (pe_callTy call_tuple_of (by rfl) T_tuple (by decide +kernel) (pa_cons (pe_lc (own := [("_law_person", 2)]) (te := tIf (tTest (tOp (rIn K false) (tVar 2) (tVar 1))) (tTup (tCons (tC (.int 1)) (tCons (tC (.int 1)) tNil))) (tTup (tCons (tC (.int 0)) (tCons (tC (.int 1)) tNil)))) (by rfl) sc__law_at_ends.nd (pi_range1 (by rfl) T_range (pa_cons (pv 0) pa_nil)) (blkOk_by (own := [("_law_person", 2)]) (N := ["_law_people", "_law_lot", "_law_person"]) (sc := defScope s__law_at_ends) (by decide +kernel)) (fun _ _ _ _ _ => (pg_name (i := 2) sc__law_at_ends.nd rfl (Or.inl rfl))) (fun _ _ _ _ _ => pts_nil) (fun _ _ _ _ _ => (pe_ifExp (pt_cmpR op_in_seq (pv 2) (pv 1) rfl) (pe_tup (pa_cons pe_int (pa_cons pe_int pa_nil))) (pe_tup (pa_cons pe_int (pa_cons pe_int pa_nil)))))) pa_nil)))), ?_⟩
    refine ⟨_, rfl, _, rfl, by omega, by omega, fun D hD => ?_⟩
    refine lc_range (lo := 0) (n := ((n : Nat) : Int).toNat) (fun i H' => ∃ zs : List V, H' D = some (.lst zs) ∧ RQ K H' zs ((ends n ps).take i) ∧ Same H H')
      ⟨[], upd_same, by rw [List.take_zero]; exact .nil, same_new hD⟩ ?_ ?_
    · rintro i H' hi ⟨zs, g1, g2, g3⟩
      have il : i < n := by omega
      have hg : (ends n ps)[i]? = some (if i ∈ ps then 1 else 0) := put_get (by rw [List.getElem?_replicate, if_pos il])
      have ei : (0 : Int) + ((i : Nat) : Int) = ((i : Nat) : Int) := Int.zero_add _
      have zl : zs.length ≤ 6 := by rw [RQ.length g2, List.length_take]; unfold ends; rw [put_len, List.length_replicate]; omega
      rw [ei]
      refine ⟨rfl, _, rfl, _, rfl, b, pV ps, rfl, .inr ((Same.kt g3).sq hb), rfl, pV_flat ps, _, rfl, ?_⟩
      show if inV (.int ((i : Nat) : Int)) (pV ps) = true then _ else _
      rw [pV_in]
      have fin : ∀ (T : Addr) (z : Int), H' T = none → RF K (upd H' T (.tup [.int z, .int 1])) (.ref T) (if i ∈ ps then 1 else 0) → ∃ acc, (upd H' T (.tup [.int z, .int 1])) D = some (HO.lst acc) ∧ acc.length < sizeLine ∧ ∃ zs, (upd (upd H' T (.tup [.int z, .int 1])) D (.lst (acc ++ [.ref T]))) D = some (.lst zs) ∧ RQ K (upd (upd H' T (.tup [.int z, .int 1])) D (.lst (acc ++ [.ref T]))) zs ((ends n ps).take (i + 1)) ∧ Same H (upd (upd H' T (.tup [.int z, .int 1])) D (.lst (acc ++ [.ref T]))) := fun T z hT ry => by
        have sT := same_new (o := .tup [.int z, .int 1]) hT
        refine ⟨zs, sT _ _ g1, small1000 (by omega), zs ++ [.ref T], upd_same, ?_, Same.mut (g3.trans sT) hD⟩
        rw [take_succ' hg]
        exact RpAll.mono (KT.updl (sT _ _ g1)) (RQ.snoc (RpAll.mono (Same.kt sT) g2) ry)
      by_cases c : i ∈ ps
      · rw [decide_eq_true c]
        refine iteT ?_
        exact ⟨(by show 2 ≤ sizeLine; decide), fun T hT => fin T 1 hT (by rw [if_pos c]; exact ⟨T, rfl, SqT.of upd_same⟩)⟩
      · rw [decide_eq_false c]
        refine iteF ?_
        exact ⟨(by show 2 ≤ sizeLine; decide), fun T hT => fin T 0 hT (by rw [if_neg c]; exact zero_rf (SqT.of upd_same))⟩
    · rintro H' ⟨zs, g1, g2, g3⟩
      have el : (ends n ps).length = n := by unfold ends; rw [put_len, List.length_replicate]
      rw [Int.toNat_natCast, show (ends n ps).take n = ends n ps from List.take_of_length_le (by omega)] at g2
      refine ⟨D, zs, rfl, .inl ⟨SqL.of g1, fun p hp => ?_⟩⟩
      have sp := same_new (o := .tup zs) hp
      exact k p _ (g3.trans sp) ⟨zs, SqT.of upd_same, RpAll.mono (Same.kt sp) g2, el, fun x hx => by
        rcases put_mem hx with e | e
        · rw [e]; exact nok_one (Nat.le_refl _)
        · rw [(List.mem_replicate.mp e).2]; exact nok_zero (Nat.le_refl _)⟩
abbrev n__law_corner : List Str := ["_law_people", "_law_term_here", "_law_lot"]
theorem sc__law_corner : FnScope ["_law_people", "_law_term_here", "_law_lot"] ["_law_people", "_law_term_here", "_law_lot"] (defScope s__law_corner) := ⟨rfl, rfl, rfl, by decide +kernel, rfl, by decide +kernel, by decide +kernel⟩
def sp__law_corner (K : PySem.W.Frag) : Sp := fun vs H Q _ => ∃ (v : V) (b : Addr) (n s : Nat) (t : Tm) (ps : List Nat), vs = [.int (n : Int), v, .ref b] ∧ n ≤ 6 ∧ SqT K H b (pV ps) ∧ Rp K H v t.data ∧ t.Ok n s ∧ 1 ≤ s ∧ s ≤ 9000 ∧ t.dep ≤ 10 ∧ t.wt s + 20 ≤ 9000 ∧
  ∀ v H', Same H H' → RF K H' v (t.val (ends n ps)) → Sz (t.wt s) (t.val (ends n ps)) → Q v H'
theorem ok__law_corner (F : FnD K mg "_law_corner" s__law_corner) (c__law_value : Cal P w K mg base 13 "_law_value" (spLV K 10) []) (c__law_at_ends : Cal P w K mg base 1 "_law_at_ends" (sp__law_at_ends K) []) : Cal P w K mg base 14 "_law_corner" (sp__law_corner K) [] := by
  refine calOf F sc__law_corner (fun _ _ _ _ _ _ us hl => match us, hl with | [_, _, _], _ => rfl) (fun vs H Q E h => ?_) (fun cdv f A outer s H vs Q E hr h => ?_)
  · obtain ⟨_, _, _, _, _, _, rfl, _⟩ := h
    rfl
  · obtain ⟨v, b, n, sz, t, ps, rfl, hn, hb, rt, ho, hs1, hsz, hdep, hwt, k⟩ := h
    refine ⟨_, (pss_one (ps_ret (pe_c c__law_value hr (by first | decide | omega) rfl (pa_cons (pv 1) (pa_cons (pe_c c__law_at_ends hr (by first | decide | omega) rfl (pa_cons (pv 0) (pa_cons (pv 2) pa_nil))) pa_nil))))), ?_⟩
    refine ⟨_, rfl, _, rfl, _, rfl, b, n, ps, rfl, hn, hb, fun p H1 s1 hB => ?_⟩
    obtain ⟨us, e1, e2, e3, e4⟩ := hB
    have e5 : ∀ q ∈ ends n ps, NumOk sz q := fun q h => (e4 q h).mono hs1
    exact ⟨v, p, n, sz, ends n ps, t, rfl, rt.mono (Same.kt s1), ho, hsz, hdep, hwt, ⟨us, e1, e2, e3, e5⟩, fun v' H2 s2 r2 => k v' H2 (s1.trans s2) r2 (val_sz (fun q h => (e5 q h).2.2) e3 ho)⟩
end
end CB

set_option Elab.async false
set_option linter.all false
set_option maxRecDepth 100000
set_option maxHeartbeats 4000000
namespace CB
open PySem PySem.Spec PyProof.Rows L2
open C8 (Cal Met Mak pe_c pe_mk pe_mt pe_mt0 pe_gc CalAt)
section
variable {P : Program} {w : World} {K : PySem.W.Frag} {mg : Str → Option Value} {base : Heap}
theorem catP_ok {a b : Addr} {xs ys : List V} {H : Hp} {Q : VK} (ha : SqT K H a xs) (hb : SqT K H b ys) (hl : xs.length + ys.length < 1000) (q : ∀ p H', Same H H' → SqT K H' p (xs ++ ys) → Q (.ref p) H') : rCatA K (.ref a) (.ref b) H Q := by
  refine ⟨a, b, xs, ys, rfl, rfl, ha, hb, Nat.le_of_lt (small1000 (by omega)), fun e => ?_, fun _ e => ?_, fun _ _ p hp => q p _ (same_new hp) (SqT.of upd_same)⟩
  · exact q b H (Same.refl H) (by rw [e]; exact hb)
  · exact q a H (Same.refl H) (by rw [e, List.append_nil]; exact ha)
abbrev n__law_by_size : List Str := ["_law_lots_here", "_law_found", "_law_size", "_law_lot"]
theorem sc__law_by_size : FnScope ["_law_lots_here", "_law_found", "_law_size", "_law_lot"] ["_law_lots_here"] (defScope s__law_by_size) := ⟨rfl, rfl, rfl, by decide +kernel, rfl, by decide +kernel, by decide +kernel⟩
def sp__law_by_size (K : PySem.W.Frag) : Sp := fun vs H Q _ => ∃ (a : Addr) (xs : List V) (n : Nat), vs = [.ref a] ∧ n ≤ 6 ∧ SqL K H a xs ∧ LotsAt K H xs (subs n) ∧
  ∀ (p : Addr) (ys : List V) (L : List (List Nat)) H', Same H H' → H p = none → H' p = some (.lst ys) → LotsAt K H' ys L → L.Perm (subs n) → LotsBy L → Q (.ref p) H'
theorem none_back {H H' : Hp} {p : Addr} (e : Same H H') (h : H' p = none) : H p = none := by
  cases c : H p with
  | none => rfl
  | some o => rw [e _ _ c] at h; cases h
theorem filt_succ {L : List (List Nat)} {i : Nat} : (L.filter fun l => decide (l.length < i + 1)).Perm ((L.filter fun l => decide (l.length < i)) ++ L.filter fun l => decide (l.length = i)) := by
  induction L with
  | nil => exact List.Perm.refl _
  | cons l L ih =>
    by_cases c : l.length < i
    · rw [List.filter_cons_of_pos (by simp; omega), List.filter_cons_of_pos (by simp; omega), List.filter_cons_of_neg (by simp; omega)]
      exact ih.cons _
    · by_cases d : l.length = i
      · rw [List.filter_cons_of_pos (by simp; omega), List.filter_cons_of_neg (by simp; omega), List.filter_cons_of_pos (by simp; omega)]
        exact (ih.cons _).trans List.perm_middle.symm
      · rw [List.filter_cons_of_neg (by simp; omega), List.filter_cons_of_neg (by simp; omega), List.filter_cons_of_neg (by simp; omega)]
        exact ih
theorem ok__law_by_size (F : FnD K mg "_law_by_size" s__law_by_size) (T_len : mg "len" = none) (T_range : mg "range" = none) (T_sorted : mg "sorted" = none) : Cal P w K mg base 1 "_law_by_size" (sp__law_by_size K) [] := by
  refine calOf F sc__law_by_size (fun _ _ _ _ _ _ us hl => match us, hl with | [_], _ => rfl) (fun vs H Q E h => ?_) (fun cdv f A outer s H vs Q E hr h => ?_)
  · obtain ⟨_, _, _, rfl, _⟩ := h
    rfl
  · obtain ⟨a, xs, n, rfl, hn, hS, hL, k⟩ := h
    have xl : xs.length = 2 ^ n := by rw [hL.length, subs_len]
    have p2 : 2 ^ n ≤ 64 := Nat.le_trans (Nat.pow_le_pow_right (by omega) hn) (show 2 ^ 6 ≤ 64 by decide)
    have n2 : n < 2 ^ n := Nat.lt_two_pow_self
    refine ⟨_, (pss_cons (ps_set (i := 1) sc__law_by_size.nd rfl (Or.inl rfl) (pe_lst pa_nil))
    (pss_cons (ps_for PassesOwn.never rfl (pi_range1 (by rfl) T_range (pa_cons (pe_callB call_len_seq (by rfl) T_len PySem.boot_len (pa_cons (pv 0) pa_nil)) pa_nil)) (pg_name (i := 2) sc__law_by_size.nd rfl (Or.inr rfl)) (pss_one (ps_set (i := 1) sc__law_by_size.nd rfl (Or.inl rfl) (pe_op op_cat (pv 1) (pe_callB (cr_sortL (B := 64)) (by rfl) T_sorted (by decide +kernel) (pa_cons (pe_lc (own := [("_law_lot", 3)]) (tt := tTest (tOp rEq (tCB (fun xs H Q => ∃ p ys, xs = [.ref p] ∧ (SqL K H p ys ∨ SqT K H p ys) ∧ Q (.int ys.length) H) (tCons (tVar 3) tNil)) (tVar 2))) (by rfl) sc__law_by_size.nd (pi_list (pv 0)) (blkOk_by (own := [("_law_lot", 3)]) (N := ["_law_lots_here", "_law_found", "_law_size", "_law_lot"]) (sc := defScope s__law_by_size) (by decide +kernel)) (fun _ _ _ _ _ => (pg_name (i := 3) sc__law_by_size.nd rfl (Or.inl rfl))) (fun _ _ _ _ _ => (pts_one (pt_cmpR op_eq (pe_callB call_len_seq (by rfl) T_len PySem.boot_len (pa_cons (pv 3) pa_nil)) (pv 2) (nomark _)))) (fun _ _ _ _ _ => (pv 3))) pa_nil))))))
    (pss_one (ps_ret (pv 1))))), ?_⟩
    refine ⟨Nat.zero_le _, fun p0 hp0 => ?_⟩
    have s0 := same_new (o := .lst []) hp0
    refine ⟨_, rfl, a, xs, rfl, .inl (s0.seq hS), _, rfl, by omega, by omega, ?_⟩
    refine for_range (lo := 0) (n := ((xs.length : Nat) : Int).toNat) (fun i σ H' => ∃ (p : Addr) (ys : List V) (L : List (List Nat)) (x2 x3 : Option V), σ = [some (.ref a), some (.ref p), x2, x3] ∧ Same H H' ∧ H p = none ∧ H' p = some (.lst ys) ∧ LotsAt K H' ys L ∧ L.Perm ((subs n).filter fun l => decide (l.length < i)) ∧ LotsBy L)
      ⟨p0, [], [], none, none, rfl, s0, hp0, upd_same, .nil, by rw [List.filter_eq_nil_iff.mpr (by simp)], .nil⟩ ?_ ?_
    · rintro i σ H1 hi ⟨p, ys, L, _, _, rfl, s1, g0, g1, g2, g3, g4⟩
      have il : i < 64 := by omega
      have few := subs_few n hn i il
      rw [show (0 : Int) + (i : Int) = (i : Int) by omega]
      refine ⟨_, rfl, _, rfl, a, rfl, ⟨_, s1.seq hS⟩, fun D hD => ?_⟩
      have sD := same_new (o := .lst []) hD
      refine it_list (K := K) (a := a) (xs := xs) (fun j H' => ∃ zs, H' D = some (.lst zs) ∧ LotsAt K H' zs (((subs n).take j).filter fun l => decide (l.length = i)) ∧ Same H1 H')
        ⟨[], upd_same, by rw [List.take_zero]; exact .nil, sD⟩ (fun j H' ⟨_, _, _, s5⟩ => (s1.trans s5).seq hS) ?_ ?_
      · rintro j x H2 hx ⟨zs, f1, f2, f3⟩
        have s2 := s1.trans f3
        obtain ⟨l, hl, ⟨t, rfl, tl⟩⟩ := (hL.mono (Same.kt s2)).getV hx
        have tk := take_succ' hl
        have zl : zs.length ≤ 64 := by
          rw [f2.length]
          refine Nat.le_trans (List.length_filter_le _ _) ?_
          rw [List.length_take, subs_len]
          omega
        refine ⟨rfl, _, rfl, t, _, rfl, .inr tl, _, rfl, rfl, _, rfl, ?_⟩
        rw [List.length_map, pI, List.length_map]
        show if decide (V.int ((l.length : Nat) : Int) = V.int (i : Int)) = true then _ else _
        by_cases c : l.length = i
        · rw [decide_eq_true (by rw [c])]
          refine iteT ?_
          refine ⟨_, rfl, _, f1, small1000 (by omega), zs ++ [.ref t], upd_same, ?_, Same.mut f3 hD⟩
          rw [tk, List.filter_append, List.filter_cons_of_pos (by simp [c]), List.filter_nil]
          exact (f2.snoc ⟨t, rfl, tl⟩).mono (KT.updl f1)
        · have c' : ¬ (V.int ((l.length : Nat) : Int) = V.int (i : Int)) := by
            intro e
            injection e with e
            omega
          rw [decide_eq_false c']
          refine iteF ⟨zs, f1, ?_, f3⟩
          rw [tk, List.filter_append, List.filter_cons_of_neg (by simp [c]), List.filter_nil, List.append_nil]
          exact f2
      · rintro H2 ⟨zs, f1, f2, f3⟩
        rw [xl, ← subs_len n, List.take_length] at f2
        have zl := f2.length
        refine ⟨D, zs, i, rfl, SqL.of f1, by omega, fun x hx => ?_, fun e => by rw [zl]; exact few.2 e, fun us q pu ou hq => ?_⟩
        · obtain ⟨l, hl, tl⟩ := f2.memV hx
          have hl2 := List.mem_filter.mp hl
          exact ⟨_, tl, by rw [pI, List.length_map]; exact of_decide_eq_true hl2.2, pI_bd (subs_lt hl2.1) hn⟩
        · obtain ⟨M, m1, m2⟩ := f2.perm pu.symm
          have om := m2.pairs ou
          have sq := same_new (o := .lst us) hq
          have s12 := f3.trans sq
          have g1' := s12 _ _ g1
          have Ll : ys.length + us.length ≤ 128 := by
            rw [g2.length, g3.length_eq, pu.length_eq, zl]
            have := List.length_filter_le (fun l : List Nat => decide (l.length < i)) (subs n)
            have := subs_len n
            omega
          refine ⟨p, q, ys, us, rfl, rfl, g1', upd_same, Nat.le_of_lt (small1000 (by omega)), fun r hr => ?_⟩
          have sr := same_new (o := .lst (ys ++ us)) hr
          refine ⟨r, ys ++ us, L ++ M, _, _, rfl, s1.trans (s12.trans sr), none_back (s1.trans s12) hr, upd_same, (g2.mono (Same.kt (s12.trans sr))).append ((m2.mono (Same.kt (sq.trans sr)))), ?_, ?_⟩
          · exact (g3.append m1.symm).trans filt_succ.symm
          · refine List.pairwise_append.mpr ⟨g4, ?_, fun x hx y hy => ?_⟩
            · refine List.Pairwise.imp_of_mem (fun {x y} hx hy h => .inr ⟨?_, h⟩) om
              have a1 := of_decide_eq_true (List.mem_filter.mp (m1.mem_iff.mpr hx)).2
              have a2 := of_decide_eq_true (List.mem_filter.mp (m1.mem_iff.mpr hy)).2
              omega
            · have a1 := of_decide_eq_true (List.mem_filter.mp (g3.mem_iff.mp hx)).2
              have a2 := of_decide_eq_true (List.mem_filter.mp (m1.mem_iff.mpr hy)).2
              left
              omega
    · rintro σ H1 ⟨p, ys, L, _, _, rfl, s1, g0, g1, g2, g3, g4⟩
      refine ⟨_, rfl, k p ys L H1 s1 g0 g1 g2 ?_ g4⟩
      have e : ((subs n).filter fun l => decide (l.length < ((xs.length : Nat) : Int).toNat)) = subs n := List.filter_eq_self.mpr fun l hl => by
        have := subs_size hl
        exact decide_eq_true (by omega)
      rw [e] at g3
      exact g3
abbrev n__law_lots : List Str := ["_law_people", "_law_found", "_law_person", "_law_lot"]
theorem sc__law_lots : FnScope ["_law_people", "_law_found", "_law_person", "_law_lot"] ["_law_people"] (defScope s__law_lots) := ⟨rfl, rfl, rfl, by decide +kernel, rfl, by decide +kernel, by decide +kernel⟩
def sp__law_lots (K : PySem.W.Frag) : Sp := fun vs H Q _ => ∃ n : Nat, vs = [.int (n : Int)] ∧ n ≤ 6 ∧ ∀ (p : Addr) (ys : List V) (L : List (List Nat)) H', Same H H' → H p = none → H' p = some (.lst ys) → LotsAt K H' ys L → L.Perm (subs n) → LotsBy L → Q (.ref p) H'
theorem ok__law_lots (F : FnD K mg "_law_lots" s__law_lots) (c__law_by_size : Cal P w K mg base 1 "_law_by_size" (sp__law_by_size K) []) (T_range : mg "range" = none) : Cal P w K mg base 2 "_law_lots" (sp__law_lots K) [] := by
  refine calOf F sc__law_lots (fun _ _ _ _ _ _ us hl => match us, hl with | [_], _ => rfl) (fun vs H Q E h => ?_) (fun cdv f A outer s H vs Q E hr h => ?_)
  · obtain ⟨_, rfl, _⟩ := h
    rfl
  · obtain ⟨n, rfl, hn, k⟩ := h
    refine ⟨_, (pss_cons (ps_set (i := 1) sc__law_lots.nd rfl (Or.inl rfl) (pe_lst (pa_cons (pe_tup pa_nil) pa_nil)))
    (pss_cons (ps_for PassesOwn.never rfl (pi_range1 (by rfl) T_range (pa_cons (pv 0) pa_nil)) (pg_name (i := 2) sc__law_lots.nd rfl (Or.inr rfl)) (pss_one (ps_set (i := 1) sc__law_lots.nd rfl (Or.inl rfl) (pe_op op_cat (pv 1) (pe_lc (own := [("_law_lot", 3)]) (te := tOp (rCatA K) (tVar 3) (tTup (tCons (tVar 2) tNil))) (by rfl) sc__law_lots.nd (pi_list (pv 1)) (blkOk_by (own := [("_law_lot", 3)]) (N := ["_law_people", "_law_found", "_law_person", "_law_lot"]) (sc := defScope s__law_lots) (by decide +kernel)) (fun _ _ _ _ _ => (pg_name (i := 3) sc__law_lots.nd rfl (Or.inl rfl))) (fun _ _ _ _ _ => pts_nil) (fun _ _ _ _ _ => (pe_op op_catA (pv 3) (pe_tup (pa_cons (pv 2) pa_nil)))))))))
    (pss_one (ps_ret (pe_c c__law_by_size hr (by first | decide | omega) rfl (pa_cons (pv 1) pa_nil)))))), ?_⟩
    refine ⟨Nat.zero_le _, fun pe hpe => ⟨(by show 1 ≤ sizeLine; decide), fun p0 hp0 => ?_⟩⟩
    have se := same_new (o := .tup []) hpe
    have s0 := same_new (o := .lst [.ref pe]) hp0
    refine ⟨_, rfl, _, rfl, by omega, by omega, ?_⟩
    refine for_range (lo := 0) (n := ((n : Nat) : Int).toNat) (fun i σ H' => ∃ (p : Addr) (ys : List V) (x2 x3 : Option V), σ = [some (.int (n : Int)), some (.ref p), x2, x3] ∧ Same H H' ∧ H' p = some (.lst ys) ∧ LotsAt K H' ys (subs i))
      ⟨p0, _, none, none, rfl, se.trans s0, upd_same, .cons ⟨pe, rfl, (Same.kt s0).sq (SqT.of upd_same)⟩ .nil⟩ ?_ ?_
    · rintro i σ H1 hi ⟨p, ys, _, _, rfl, s1, g1, g2⟩
      have il : i < 6 := by omega
      have yl : ys.length = 2 ^ i := by rw [g2.length, subs_len]
      have p2 : 2 ^ i ≤ 32 := Nat.le_trans (Nat.pow_le_pow_right (by omega) (show i ≤ 5 by omega)) (show 2 ^ 5 ≤ 32 by decide)
      rw [show (0 : Int) + (i : Int) = (i : Int) by omega]
      refine ⟨_, rfl, _, rfl, p, rfl, ⟨_, SqL.of g1⟩, fun D hD => ?_⟩
      have sD := same_new (o := .lst []) hD
      refine it_list (K := K) (a := p) (xs := ys) (fun j H' => ∃ zs, H' D = some (.lst zs) ∧ LotsAt K H' zs (((subs i).take j).map fun l => l ++ [i]) ∧ Same H1 H')
        ⟨[], upd_same, by rw [List.take_zero]; exact .nil, sD⟩ (fun j H' ⟨_, _, _, s5⟩ => s5.seq (SqL.of g1)) ?_ ?_
      · rintro j x H2 hx ⟨zs, f1, f2, f3⟩
        obtain ⟨l, hl, ⟨t, rfl, tl⟩⟩ := (g2.mono (Same.kt f3)).getV hx
        have tk := take_succ' hl
        have ll := subs_size (List.mem_of_getElem? hl)
        have zl : zs.length ≤ 64 := by rw [f2.length, List.length_map, List.length_take, subs_len]; omega
        refine ⟨rfl, _, rfl, _, rfl, (by show 1 ≤ sizeLine; decide), fun q hq => ?_⟩
        have sq := same_new (o := .tup [.int (i : Int)]) hq
        refine catP_ok ((Same.kt sq).sq tl) (SqT.of upd_same) (by rw [List.length_map, pI, List.length_map]; show l.length + 1 < 1000; omega) fun r H3 s3 hr' => ?_
        have s23 := sq.trans s3
        refine ⟨zs, s23 _ _ f1, small1000 (by omega), zs ++ [.ref r], upd_same, ?_, Same.mut (f3.trans s23) hD⟩
        rw [tk, List.map_append]
        refine ((f2.mono (Same.kt s23)).snoc ⟨r, rfl, ?_⟩).mono (KT.updl (s23 _ _ f1))
        show SqT K H3 r (pV (l ++ [i]))
        rw [pV_snoc]
        exact hr'
      · rintro H2 ⟨zs, f1, f2, f3⟩
        rw [yl, ← subs_len i, List.take_length] at f2
        refine ⟨p, D, ys, zs, rfl, rfl, f3 _ _ g1, f1, Nat.le_of_lt (small1000 ?_), fun r hr' => ?_⟩
        · rw [f2.length, List.length_map, subs_len, yl]; omega
        · have sr := same_new (o := .lst (ys ++ zs)) hr'
          exact ⟨r, _, _, _, rfl, s1.trans (f3.trans sr), upd_same, (g2.mono (Same.kt (f3.trans sr))).append (f2.mono (Same.kt sr))⟩
    · rintro σ H1 ⟨p, ys, _, _, rfl, s1, g1, g2⟩
      rw [Int.toNat_natCast] at g2
      exact ⟨_, rfl, p, ys, n, rfl, hn, SqL.of g1, g2, fun r us L H2 s2 h0 h1 h2 h3 h4 => k r us L H2 (s1.trans s2) (none_back s1 h0) h1 h2 h3 h4⟩
abbrev n__law_outcome : List Str := ["_law_people", "_law_term_here", "_law_wishes", "_law_found", "_law_lot", "_law_person"]
theorem sc__law_outcome : FnScope ["_law_people", "_law_term_here", "_law_wishes", "_law_found", "_law_lot", "_law_person"] ["_law_people", "_law_term_here", "_law_wishes"] (defScope s__law_outcome) := ⟨rfl, rfl, rfl, by decide +kernel, rfl, by decide +kernel, by decide +kernel⟩
def sp__law_outcome (K : PySem.W.Frag) : Sp := fun vs H Q _ => ∃ (v : V) (a : Addr) (n s z : Nat) (t : Tm) (ws : List Rat), vs = [.int (n : Int), v, .ref a] ∧ n ≤ 6 ∧ Rp K H v t.data ∧ t.Ok n s ∧ 1 ≤ s ∧ s ≤ 9000 ∧ t.dep ≤ 10 ∧ t.wt s + 20 ≤ 9000 ∧ z ≤ 9000 ∧ Bids K H a n z ws ∧
  ∀ v H', Same H H' → RF K H' v (outc t n ws) → Q v H'
theorem ok__law_outcome (F : FnD K mg "_law_outcome" s__law_outcome) (c__law_lots : Cal P w K mg base 2 "_law_lots" (sp__law_lots K) []) (c__law_corner : Cal P w K mg base 14 "_law_corner" (sp__law_corner K) []) (c__law_sorted : Cal P w K mg base 2 "_law_sorted" (sp__law_sorted K) []) : Cal P w K mg base 15 "_law_outcome" (sp__law_outcome K) [] := by
  refine calOf F sc__law_outcome (fun _ _ _ _ _ _ us hl => match us, hl with | [_, _, _], _ => rfl) (fun vs H Q E h => ?_) (fun cdv f A outer s H vs Q E hr h => ?_)
  · obtain ⟨_, _, _, _, _, _, _, rfl, _⟩ := h
    rfl
  · obtain ⟨v, a, n, sz, zz, t, ws, rfl, hn, rt, ho, hs1, hsz, hdep, hwt, hzz, hW, k⟩ := h
    obtain ⟨uw, c1, c2, c3, c4⟩ := id hW
    refine ⟨_, (pss_cons (ps_set (i := 3) sc__law_outcome.nd rfl (Or.inl rfl) (pe_lst pa_nil))
    (pss_cons (ps_for PassesOwn.never rfl (pi_list (pe_c c__law_lots hr (by first | decide | omega) rfl (pa_cons (pv 0) pa_nil))) (pg_name (i := 4) sc__law_outcome.nd rfl (Or.inl rfl)) (pss_one (ps_expr (pe_bm PySem.F.plainAttrs_list PySem.F.slot_list_append PySem.F.type_list_append mt_append (pv 3) (pa_cons (pe_ix ix_list (pe_c c__law_sorted hr (by first | decide | omega) rfl (pa_cons (pe_op op_cat (pe_lst (pa_cons (pe_c c__law_corner hr (by first | decide | omega) rfl (pa_cons (pv 0) (pa_cons (pv 1) (pa_cons (pv 4) pa_nil)))) pa_nil)) (pe_lc (own := [("_law_person", 5)]) (te := tOp (rIxT K) (tVar 2) (tVar 5)) (by rfl) sc__law_outcome.nd (pi_tup (pv 4)) (blkOk_by (own := [("_law_person", 5)]) (N := ["_law_people", "_law_term_here", "_law_wishes", "_law_found", "_law_lot", "_law_person"]) (sc := defScope s__law_outcome) (by decide +kernel)) (fun _ _ _ _ _ => (pg_name (i := 5) sc__law_outcome.nd rfl (Or.inl rfl))) (fun _ _ _ _ _ => pts_nil) (fun _ _ _ _ _ => (pe_ix ix_tup (pv 2) (pv 5) (fun _ _ => rfl))))) pa_nil)) pe_int (fun _ _ => rfl)) pa_nil)))))
    (pss_one (ps_ret (pe_ix ix_list (pe_c c__law_sorted hr (by first | decide | omega) rfl (pa_cons (pv 3) pa_nil)) (pe_un un_neg pe_int) (fun _ _ => rfl)))))), ?_⟩
    refine ⟨Nat.zero_le _, fun F0 hF0 => ?_⟩
    have sF := same_new (o := .lst []) hF0
    refine ⟨_, rfl, n, rfl, hn, fun pl ys L H1 s1 hpl hl lots per by_ => ⟨pl, rfl, ⟨_, SqL.of hl⟩, ?_⟩⟩
    have s01 := sF.trans s1
    have yl : ys.length = 2 ^ n := by rw [lots.length, per.length_eq, subs_len]
    have p2 : 2 ^ n ≤ 64 := Nat.le_trans (Nat.pow_le_pow_right (by omega) hn) (show 2 ^ 6 ≤ 64 by decide)
    have hF1 := s1 _ _ (upd_same (H := H) (a := F0) (o := .lst []))
    have hz : ∀ l ∈ L, ∀ q ∈ lotL t n ws l, Sz 9000 q := fun l hl q hq => by
      rcases List.mem_cons.mp hq with e | e
      · rw [e]
        refine (val_sz (s := sz) (n := n) (fun q hq => ?_) (end01_len n l) ho).mono (by omega)
        rcases put_mem hq with e | e
        · rw [e]; exact (nok_one hs1).2.2
        · rw [(List.mem_replicate.mp e).2]; exact (nok_zero hs1).2.2
      · obtain ⟨p, hp, rfl⟩ := List.mem_map.mp e
        have pn := subs_lt (per.mem_iff.mp hl) p hp
        rw [List.getD_eq_getElem?_getD, List.getElem?_eq_getElem (show p < ws.length by omega)]
        exact (c4 _ (List.getElem_mem _)).2.2.mono hzz
    refine for_list (K := K) (a := pl) (xs := ys) (fun i σ H' => ∃ (x4 x5 : Option V) (zs : List V), σ = [some (.int (n : Int)), some v, some (.ref a), some (.ref F0), x4, x5] ∧ H' F0 = some (.lst zs) ∧ RQ K H' zs ((L.take i).map fun l => minL (lotL t n ws l)) ∧ Same H H' ∧ KD F0 H1 H')
      ⟨none, none, [], rfl, hF1, by rw [List.take_zero]; exact .nil, s01, KD.refl _ _⟩ (fun i σ H' _ ⟨_, _, _, _, _, _, _, e⟩ => ?_) ?_ ?_
    · refine SqL.of (e _ _ ?_ hl)
      rintro rfl
      rw [upd_same] at hpl
      cases hpl
    · rintro i x σ H2 hx ⟨_, _, zs, rfl, f1, f2, f3, f4⟩
      have kt2 : KT H1 H2 := f4.kt hF1
      obtain ⟨l, hl1, ⟨tp, rfl, tl⟩⟩ := (lots.mono kt2).getV hx
      have tl' : SqT K H2 tp (pV l) := tl
      have lm := List.mem_of_getElem? hl1
      have lt := subs_lt (per.mem_iff.mp lm)
      have ls := subs_size (per.mem_iff.mp lm)
      have tk := take_succ' hl1
      have zl : zs.length ≤ 64 := by rw [RQ.length f2, List.length_map, List.length_take, per.length_eq, subs_len]; omega
      refine ⟨_, rfl, .inl ⟨rfl, _, SqL.of f1⟩, ?_⟩
      refine ⟨_, rfl, _, rfl, _, rfl, v, tp, n, sz, t, l, rfl, hn, tl', rt.mono (Same.kt f3), ho, hs1, hsz, hdep, hwt, fun vc H3 s3 rc zc => ?_⟩
      refine ⟨(by show 1 ≤ sizeLine; decide), fun pc hpc => ?_⟩
      have s4 := same_new (o := .lst [vc]) hpc
      have s34 := s3.trans s4
      refine ⟨_, rfl, tp, rfl, ⟨_, (Same.kt s34).sq tl'⟩, fun D hD => ?_⟩
      have sD := same_new (o := .lst []) hD
      refine it_tup (K := K) (a := tp) (xs := pV l) (fun j H' => ∃ us, H' D = some (.lst us) ∧ RQ K H' us ((l.take j).map fun p => ws.getD p 0) ∧ Same (upd H3 pc (.lst [vc])) H')
        ⟨[], upd_same, by rw [List.take_zero]; exact .nil, sD⟩ (fun j H' ⟨_, _, _, s5⟩ => (Same.kt (s34.trans s5)).sq tl') ?_ ?_
      · rintro j y H4 hy ⟨us, e1, e2, e3⟩
        obtain ⟨p, hp, rfl⟩ := pV_get hy
        have pn := lt p (List.mem_of_getElem? hp)
        obtain ⟨up, hup, rup⟩ := RQ.get c2 (List.getElem?_eq_getElem (show p < ws.length by omega))
        have ep : ws.getD p 0 = ws[p]'(by omega) := by rw [List.getD_eq_getElem?_getD, List.getElem?_eq_getElem (show p < ws.length by omega)]; rfl
        have kk : KT H H4 := Same.kt (f3.trans (s34.trans e3))
        have ul : us.length ≤ 6 := by rw [RQ.length e2, List.length_map, List.length_take]; omega
        refine ⟨rfl, _, rfl, _, rfl, a, uw, _, up, rfl, rfl, kk.sq c1, at_of (j := p) rfl hup, ?_⟩
        refine ⟨us, e1, small1000 (by omega), us ++ [up], upd_same, ?_, Same.mut e3 hD⟩
        rw [take_succ' hp, List.map_append]
        refine RpAll.mono (KT.updl e1) (RQ.snoc e2 ?_)
        show RF K H4 up (ws.getD p 0)
        rw [ep]
        exact rup.mono kk
      · rintro H4 ⟨us, e1, e2, e3⟩
        rw [pV_len, List.take_length] at e2
        have ul : us.length ≤ 6 := by rw [RQ.length e2, List.length_map]; omega
        refine ⟨pc, D, [vc], us, rfl, rfl, e3 _ _ upd_same, e1, Nat.le_of_lt (small1000 (n := [vc].length + us.length) (by rw [List.length_singleton]; omega)), fun q hq => ?_⟩
        have sq := same_new (o := .lst ([vc] ++ us)) hq
        have s37 := s4.trans (e3.trans sq)
        have rcq := rc.mono (Same.kt s37)
        refine ⟨q, [vc] ++ us, lotL t n ws l, rfl, SqL.of upd_same, .cons rcq.rp (RpAll.mono (Same.kt sq) e2), hz l lm, by rw [lotL, List.length_cons, List.length_map]; omega, fun ps zs' H5 _ s5 hzs rzs => ?_⟩
        obtain ⟨v1, e4, rv1⟩ := RQ.get rzs (isort_first (l := lotL t n ws l) (by simp [lotL]))
        have s25 := s3.trans (s37.trans s5)
        have f15 := s25 _ _ f1
        refine ⟨ps, zs', 0, v1, rfl, rfl, SqL.of hzs, at_of (j := 0) rfl e4, F0, zs, v1, rfl, rfl, f15, small1000 (by omega), ?_⟩
        refine ⟨_, _, zs ++ [v1], rfl, upd_same, ?_, Same.mut (f3.trans s25) hF0, (f4.trans (Same.kd s25)).upd⟩
        rw [tk, List.map_append]
        exact RpAll.mono (KT.updl f15) (RQ.snoc (RpAll.mono (Same.kt s25) f2) rv1)
    · rintro σ H2 ⟨_, _, zs, rfl, f1, f2, f3, f4⟩
      rw [lots.length, List.take_length] at f2
      have ml : (L.map fun l => minL (lotL t n ws l)).length = 2 ^ n := by rw [List.length_map, per.length_eq, subs_len]
      have mp : 0 < 2 ^ n := Nat.two_pow_pos n
      have mne : (L.map fun l => minL (lotL t n ws l)) ≠ [] := by
        intro e
        rw [e] at ml
        have : 0 = 2 ^ n := ml
        omega
      refine ⟨_, rfl, F0, zs, _, rfl, SqL.of f1, f2, fun q hq => ?_, by omega, fun ps zs' H5 _ s5 hzs rzs => ?_⟩
      · obtain ⟨l, hl2, rfl⟩ := List.mem_map.mp hq
        exact minL_sz (by simp [lotL]) (hz l hl2)
      · obtain ⟨v1, e1, r1⟩ := RQ.get rzs (isort_last mne)
        have zl : zs'.length = 2 ^ n := by rw [RQ.length rzs, isort_length, ml]
        have e2 : atI zs' (-1) = some v1 := by
          unfold atI ixN
          rw [if_neg (by omega), if_pos (by omega)]
          have e3 : (-1 + (zs'.length : Int)).toNat = (L.map fun l => minL (lotL t n ws l)).length - 1 := by rw [ml, zl]; omega
          show zs'[(-1 + (zs'.length : Int)).toNat]? = some v1
          rw [e3]
          exact e1
        rw [outc_lots ho c3 per] at r1
        exact ⟨_, rfl, ps, zs', -1, v1, rfl, rfl, SqL.of hzs, e2, k v1 H5 (f3.trans s5) r1⟩
end
end CB

set_option Elab.async false
set_option linter.all false
set_option maxRecDepth 100000
set_option maxHeartbeats 2000000
namespace CB
open PySem PySem.Spec PyProof.Rows L2
theorem qd_lay (q : Rat) : (qd q).canLay0 = true := by simp [qd, PyData.canLay0, PyData.canLayAll0]
theorem qd_depth (q : Rat) : (qd q).depth ≤ 2 := by simp [qd, PyData.depth, PyData.depthAll]
theorem lay_meanD : ∀ (ws : List Int) (ds : List PyData), PyData.canLayAll0 ds = true → PyData.canLayAll0 (meanD ws ds) = true
  | [], ds, _ => by simp [meanD, PyData.canLayAll0]
  | w :: ws, [], _ => by simp [meanD, PyData.canLayAll0]
  | w :: ws, d :: ds, h => by
    simp only [PyData.canLayAll0, Bool.and_eq_true] at h
    have ih := lay_meanD ws ds h.2
    show PyData.canLayAll0 (.tuple [.int w, d] :: meanD ws ds) = true
    simp only [PyData.canLayAll0, PyData.canLay0, Bool.and_eq_true]
    exact ⟨⟨trivial, h.1, trivial⟩, ih⟩
theorem depth_meanD : ∀ (ws : List Int) (ds : List PyData), PyData.depthAll (meanD ws ds) ≤ PyData.depthAll ds + 1
  | [], ds => by simp [meanD, PyData.depthAll]
  | w :: ws, [] => by simp [meanD, PyData.depthAll]
  | w :: ws, d :: ds => by
    have ih := depth_meanD ws ds
    show PyData.depthAll (.tuple [.int w, d] :: meanD ws ds) ≤ _
    simp only [PyData.depthAll, PyData.depth]
    omega
mutual
theorem data_lay : ∀ t : Tm, t.data.canLay0 = true
  | .bid p => by simp [Tm.data, PyData.canLay0, PyData.canLayAll0]; decide +kernel
  | .fixed q => by simp [Tm.data, PyData.canLay0, PyData.canLayAll0, qd_lay]; decide +kernel
  | .mean ws ts => by simp [Tm.data, PyData.canLay0, PyData.canLayAll0, lay_meanD ws _ (datas_lay ts)]; decide +kernel
  | .least ts => by simp [Tm.data, PyData.canLay0, PyData.canLayAll0, datas_lay ts]; decide +kernel
  | .greatest ts => by simp [Tm.data, PyData.canLay0, PyData.canLayAll0, datas_lay ts]; decide +kernel
  | .ranked k ts => by simp [Tm.data, PyData.canLay0, PyData.canLayAll0, datas_lay ts]; decide +kernel
  | .between lo hi t => by simp [Tm.data, PyData.canLay0, PyData.canLayAll0, qd_lay, data_lay t]; decide +kernel
theorem datas_lay : ∀ ts : List Tm, PyData.canLayAll0 (Tm.datas ts) = true
  | [] => by simp [Tm.datas, PyData.canLayAll0]
  | t :: ts => by simp [Tm.datas, PyData.canLayAll0, data_lay t, datas_lay ts]
end
mutual
theorem data_depth : ∀ t : Tm, t.data.depth ≤ 3 * t.dep + 1
  | .bid p => by simp [Tm.data, PyData.depth, PyData.depthAll, Tm.dep]
  | .fixed q => by have := qd_depth q; simp [Tm.data, PyData.depth, PyData.depthAll, Tm.dep]; omega
  | .mean ws ts => by
    have h := datas_depth ts
    have h2 := depth_meanD ws (Tm.datas ts)
    simp only [Tm.data, PyData.depth, PyData.depthAll, Tm.dep]
    omega
  | .least ts => by have h := datas_depth ts; simp only [Tm.data, PyData.depth, PyData.depthAll, Tm.dep]; omega
  | .greatest ts => by have h := datas_depth ts; simp only [Tm.data, PyData.depth, PyData.depthAll, Tm.dep]; omega
  | .ranked k ts => by have h := datas_depth ts; simp only [Tm.data, PyData.depth, PyData.depthAll, Tm.dep]; omega
  | .between lo hi t => by
    have h := data_depth t
    have h1 := qd_depth lo
    have h2 := qd_depth hi
    simp only [Tm.data, PyData.depth, PyData.depthAll, Tm.dep]
    omega
theorem datas_depth : ∀ ts : List Tm, PyData.depthAll (Tm.datas ts) ≤ 3 * Tm.deps ts + 1
  | [] => by simp [Tm.datas, PyData.depthAll]
  | t :: ts => by
    have h1 := data_depth t
    have h2 := datas_depth ts
    simp only [Tm.datas, PyData.depthAll, Tm.deps]
    omega
end
theorem qd_shaped (q : Rat) : SeqAt.shaped (qd q) = true := by
  unfold SeqAt.shaped
  have := qd_depth q
  rw [qd_lay, Bool.true_and]
  exact decide_eq_true (by omega)
theorem data_shaped {t : Tm} (h : t.dep ≤ 20) : SeqAt.shaped t.data = true := by
  unfold SeqAt.shaped
  have := data_depth t
  rw [data_lay, Bool.true_and]
  exact decide_eq_true (by omega)
end CB

set_option Elab.async false
set_option linter.all false
set_option maxRecDepth 100000
set_option maxHeartbeats 4000000
namespace CB
open PySem PySem.Spec PyProof.Rows L2
open C8 (Cal Met Mak pe_c pe_mk pe_mt pe_mt0 pe_gc CalAt)
section
variable {P : Program} {w : World} {K : PySem.W.Frag} {mg : Str → Option Value} {base : Heap}
theorem cut_take {xs : List V} {m : Nat} (h : m ≤ xs.length) : cutV xs none (some (m : Int)) = xs.take m := by
  unfold cutV
  rw [HT.sIx_none, HT.sIx_nat, Nat.min_eq_left h, List.drop_zero, Nat.sub_zero]
theorem cut_drop {xs : List V} {m : Nat} (h : m ≤ xs.length) : cutV xs (some (m : Int)) none = xs.drop m := by
  unfold cutV
  rw [HT.sIx_none, HT.sIx_nat, Nat.min_eq_left h]
  exact List.take_of_length_le (by rw [List.length_drop]; omega)
theorem slA_take {a : Addr} {xs : List V} {m : Nat} {H : Hp} {Q : VK} (h : SqT K H a xs) (hm : m ≤ xs.length) (q : ∀ p H', Same H H' → SqT K H' p (xs.take m) → Q (.ref p) H') : rSlA K (.ref a) none (some (m : Int)) H Q := by
  refine ⟨a, xs, rfl, h, fun z => ?_, fun _ p hp => ?_⟩
  · have z2 := z.2
    rw [HT.sIx_nat, Nat.min_eq_left hm] at z2
    exact q a H (Same.refl H) (by rw [z2, List.take_length]; exact h)
  · rw [cut_take hm]
    exact q p _ (same_new hp) (SqT.of upd_same)
theorem slT_take {a : Addr} {xs : List V} {m : Nat} {H : Hp} {Q : VK} (h : SqT K H a xs) (hm : m < xs.length) (q : ∀ p H', Same H H' → SqT K H' p (xs.take m) → Q (.ref p) H') : rSlT K (.ref a) none (some (m : Int)) H Q := by
  refine ⟨a, xs, rfl, h, fun z => ?_, fun p hp => ?_⟩
  · have z2 := z.2
    rw [HT.sIx_nat, Nat.min_eq_left (Nat.le_of_lt hm)] at z2
    omega
  · rw [cut_take (Nat.le_of_lt hm)]
    exact q p _ (same_new hp) (SqT.of upd_same)
theorem slT_drop {a : Addr} {xs : List V} {m : Nat} {H : Hp} {Q : VK} (h : SqT K H a xs) (h0 : 0 < m) (hm : m ≤ xs.length) (q : ∀ p H', Same H H' → SqT K H' p (xs.drop m) → Q (.ref p) H') : rSlT K (.ref a) (some (m : Int)) none H Q := by
  refine ⟨a, xs, rfl, h, fun z => ?_, fun p hp => ?_⟩
  · have z2 := z.1
    rw [HT.sIx_nat, Nat.min_eq_left hm] at z2
    omega
  · rw [cut_drop hm]
    exact q p _ (same_new hp) (SqT.of upd_same)
theorem catA_ok {a b : Addr} {xs ys : List V} {H : Hp} {Q : VK} (ha : SqT K H a xs) (hb : SqT K H b ys) (hl : xs.length + ys.length < 1000) (q : ∀ p H', Same H H' → SqT K H' p (xs ++ ys) → Q (.ref p) H') : rCatA K (.ref a) (.ref b) H Q := by
  refine ⟨a, b, xs, ys, rfl, rfl, ha, hb, Nat.le_of_lt (small1000 (by omega)), fun e => ?_, fun _ e => ?_, fun _ _ p hp => q p _ (same_new hp) (SqT.of upd_same)⟩
  · exact q b H (Same.refl H) (by rw [e]; exact hb)
  · exact q a H (Same.refl H) (by rw [e, List.append_nil]; exact ha)
theorem repN_ok {a : Addr} {v : V} {n : Nat} {H : Hp} {Q : VK} (h : SqT K H a [v]) (h1 : 1 ≤ n) (h6 : n ≤ 6) (q : ∀ p H', Same H H' → SqT K H' p (List.replicate n v) → Q (.ref p) H') : rRepN K (.ref a) (.int (n : Int)) H Q := by
  refine ⟨a, n, [v], rfl, rfl, h, by simp, h1, by omega, by show 1 ≤ 1000; decide, fun e => ?_, fun _ p hp => ?_⟩
  · exact q a H (Same.refl H) (by rw [e]; exact h)
  · rw [show (List.replicate n [v]).flatten = List.replicate n v by simp]
    exact q p _ (same_new hp) (SqT.of upd_same)
theorem RuleAt.kd {C : Addr} {H H' : Hp} {r : Addr} {n : Nat} {t : Tm} {da : Addr × Addr} (h : RuleAt K C H r n t) (d : Dice H da) (e : KD da.1 H H') : RuleAt K C H' r n t := by
  obtain ⟨dx, v, h1, h2⟩ := h
  obtain ⟨xs, hx⟩ := d.lst
  exact ⟨dx, v, e _ _ (ne_of h1 hx (by intro z; cases z)) h1, h2.mono (d.kt e)⟩
theorem bids_of {H : Hp} {v : V} {qs : List Rat} {n s : Nat} (h : Rp K H v (.tuple (qs.map qd))) (hl : qs.length = n) (hq : ∀ q ∈ qs, NumOk s q) : ∃ a, v = .ref a ∧ Bids K H a n s qs := by
  obtain ⟨a, us, rfl, h1, h2⟩ := h.tupI
  exact ⟨a, rfl, us, h1, h2, hl, hq⟩
mutual
theorem ok_mono {n s s' : Nat} (h : s ≤ s') : ∀ {t : Tm}, t.Ok n s → t.Ok n s'
  | .bid p, ho => ho
  | .fixed q, ho => NumOk.mono ho h
  | .mean ws ts, ho => ⟨ho.1, ho.2.1, ho.2.2.1, ho.2.2.2.1, oks_mono h ho.2.2.2.2⟩
  | .least ts, ho => ⟨ho.1, ho.2.1, oks_mono h ho.2.2⟩
  | .greatest ts, ho => ⟨ho.1, ho.2.1, oks_mono h ho.2.2⟩
  | .ranked k ts, ho => ⟨ho.1, ho.2.1, ho.2.2.1, oks_mono h ho.2.2.2⟩
  | .between lo hi t, ho => ⟨ho.1.mono h, ho.2.1.mono h, ho.2.2.1, ok_mono h ho.2.2.2⟩
theorem oks_mono {n s s' : Nat} (h : s ≤ s') : ∀ {ts : List Tm}, Tm.Oks n s ts → Tm.Oks n s' ts
  | [], _ => trivial
  | t :: ts, ho => ⟨ok_mono h ho.1, oks_mono h ho.2⟩
end
theorem mul_nok {m n : Nat} {q r : Rat} (h : NumOk m q) (g : NumOk n r) : NumOk (m + n) (q * r) := by
  refine ⟨Rat.mul_nonneg h.1 g.1, ?_, ?_⟩
  · have a := Rat.mul_le_mul_of_nonneg_right h.2.1 g.1
    have := g.2.1
    grind
  · have e : q * r = Rat.divInt (q.num * r.num) ((q.den : Int) * (r.den : Int)) := by
      rw [← Rat.divInt_mul_divInt, divInt_self', divInt_self']
    rw [e]
    exact divInt_sz (Int.mul_pos (den_pos _) (den_pos _)) (wide_lt h.2.2.1 g.2.2.1) (wide_lt h.2.2.d g.2.2.d)
theorem add_sz {m n : Nat} {q r : Rat} (h : Sz m q) (g : Sz n r) : Sz (m + n + 1) (q + r) := by
  have := sz_add (den_pos q) (den_pos r) h.1 h.d g.1 g.d
  rw [divInt_self', divInt_self'] at this
  exact this
theorem neg_sz {n : Nat} {r : Rat} (g : Sz n r) : Sz n (-r) := by
  refine ⟨?_, ?_⟩
  · rw [Rat.neg_num, Int.natAbs_neg]; exact g.1
  · rw [Rat.neg_den]; exact g.2
theorem nrL_snoc {s : Rat} : ∀ {l m : List Rat} {x y : Rat}, NrL s l m → Nr s x y → NrL s (l ++ [x]) (m ++ [y])
  | [], [], _, _, _, h => ⟨h, trivial⟩
  | _ :: l, _ :: m, _, _, hl, h => ⟨hl.1, nrL_snoc (l := l) (m := m) hl.2 h⟩
  | [], _ :: _, _, _, hl, _ => hl.elim
  | _ :: _, [], _, _, hl, _ => hl.elim
theorem nrL_len {s : Rat} : ∀ {l m : List Rat}, NrL s l m → l.length = m.length
  | [], [], _ => rfl
  | _ :: l, _ :: m, h => by rw [List.length_cons, List.length_cons, nrL_len h.2]
  | [], _ :: _, hl => hl.elim
  | _ :: _, [], hl => hl.elim
theorem rq_rep {H : Hp} {v : V} {q : Rat} (r : RF K H v q) : ∀ n : Nat, RQ K H (List.replicate n v) (List.replicate n q)
  | 0 => .nil
  | n + 1 => .cons r.rp (rq_rep r n)
end
end CB

set_option Elab.async false
set_option linter.all false
set_option maxRecDepth 100000
set_option maxHeartbeats 4000000
/-! == of fractions and of tuples of ints, as data -/
namespace CB
open PySem PySem.Spec PyProof.Rows L2
theorem qd_eqv (a b : Rat) : PyData.eqv (qd a) (qd b) = decide (a = b) := by
  unfold qd
  simp only [PyData.eqv, PyData.eqvAll]
  by_cases h : a = b
  · subst h; simp
  · rw [decide_eq_false h]
    by_cases h1 : a.num = b.num
    · have h2 : ¬ ((a.den : Int) = (b.den : Int)) := fun e => h (Rat.ext h1 (by omega))
      simp [h1, h2]
    · simp [h1]
end CB

set_option Elab.async false
set_option linter.all false
set_option maxRecDepth 100000
set_option maxHeartbeats 4000000
namespace CB
open PySem PySem.Spec PyProof.Rows L2
open C8 (Cal Met Mak pe_c pe_mk pe_mt pe_mt0 pe_gc CalAt)
/-! what laws about outcomes share -/
def sp_law (K : PySem.W.Frag) : Sp := fun vs H Q _ => ∃ (a : Addr) (ns : List Int), vs = [.ref a] ∧ SqL K H a (ns.map V.int) ∧ ∀ H', Q (.bl true) H'
section
variable {P : Program} {w : World} {K : PySem.W.Frag} {mg : Str → Option Value} {base : Heap}
theorem outc_sz {t : Tm} {n : Nat} {ws : List Rat} {z k : Nat} (ho : t.Ok n 20) (hz : t.wt 20 ≤ z) (hk : k ≤ z) (hw : ws.length = n) (hq : ∀ q ∈ ws, NumOk k q) : Sz z (outc t n ws) := by
  obtain ⟨S, _, _, _, h⟩ := outc_at (t := t) hw
  rcases h with e | ⟨p, hp, e⟩
  · rw [e]
    refine (val_sz (s := 20) (fun q hq => ?_) (end01_len n S) ho).mono hz
    rcases put_mem hq with e | e
    · rw [e]; exact (nok_one (s := 20) (by omega)).2.2
    · rw [(List.mem_replicate.mp e).2]; exact (nok_zero (s := 20) (by omega)).2.2
  · rw [e]
    exact (hq _ (getD_mem (by omega))).2.2.mono hk
/-- != of two values that are the same fraction -/
theorem ne_same {H : Hp} {x y : V} {q : Rat} {Q : VK} (h1 : RF K H x q) (h2 : RF K H y q) (k : Q (.bl false) H) : rNeD K x y H Q := by
  have sh := qd_shaped q
  have rf : (!PyData.eqv (qd q) (qd q)) = false := by rw [SeqAt.eqv_refl _ (qd_lay _)]; rfl
  refine ⟨qd q, qd q, h1.rp.dp, h2.rp.dp, sh, sh, ?_⟩
  show Q (.bl (!PyData.eqv (qd q) (qd q))) H
  rw [rf]
  exact k
theorem rq_set {H : Hp} {v : V} {q : Rat} (r : RF K H v q) : ∀ {us : List V} {qs : List Rat} (i : Nat), RQ K H us qs → RQ K H (us.set i v) (qs.set i q)
  | [], qs, i, h => by
    cases qs with
    | nil => exact .nil
    | cons q qs => cases h
  | u :: us, [], i, h => by cases h
  | u :: us, q2 :: qs, 0, h => by
    obtain ⟨_, _, e, h1, h2⟩ := RpAll.consI h
    cases e
    exact .cons r.rp h2
  | u :: us, q2 :: qs, i + 1, h => by
    obtain ⟨_, _, e, h1, h2⟩ := RpAll.consI h
    cases e
    exact .cons h1 (rq_set r (qs := qs) i h2)
theorem RuleAt.updl {C : Addr} {H : Hp} {r W : Addr} {n : Nat} {t : Tm} {xs : List V} {o : HO} (h : RuleAt K C H r n t) (hW : H W = some (.lst xs)) : RuleAt K C (upd H W o) r n t := by
  obtain ⟨dx, v, h1, h2⟩ := h
  exact ⟨dx, v, by rw [upd_ne (ne_of h1 hW (by intro z; cases z))]; exact h1, h2.mono (KT.updl hW)⟩
theorem ixN_nat {n i : Nat} (h : i < n) : ixN n (i : Int) = some i := by
  unfold ixN
  rw [if_pos (by omega), if_pos (by omega)]
  rfl
theorem eq_qd {H : Hp} {x y : V} {q r : Rat} {Q : VK} (h1 : RF K H x q) (h2 : RF K H y r) (k : Q (.bl (decide (q = r))) H) : rEqD K x y H Q := by
  refine ⟨qd q, qd r, h1.rp.dp, h2.rp.dp, qd_shaped q, qd_shaped r, ?_⟩
  rw [qd_eqv]
  exact k
theorem ne_qd {H : Hp} {x y : V} {q r : Rat} {Q : VK} (h1 : RF K H x q) (h2 : RF K H y r) (k : Q (.bl (!decide (q = r))) H) : rNeD K x y H Q := by
  refine ⟨qd q, qd r, h1.rp.dp, h2.rp.dp, qd_shaped q, qd_shaped r, ?_⟩
  rw [qd_eqv]
  exact k
/-- a lot, as data -/
def lotD (ps : List Nat) : PyData := .tuple (ps.map fun p => .int ((p : Nat) : Int))
theorem lot_all {H : Hp} : ∀ ps : List Nat, RpAll K H (pV ps) (ps.map fun p => .int ((p : Nat) : Int))
  | [] => .nil
  | p :: ps => .cons (.int _) (lot_all ps)
theorem lot_rp {H : Hp} {a : Addr} {ps : List Nat} (h : SqT K H a (pV ps)) : Rp K H (.ref a) (lotD ps) := .tup h (lot_all ps)
theorem lotL_lay : ∀ ps : List Nat, PyData.canLayAll0 (ps.map fun p => PyData.int ((p : Nat) : Int)) = true
  | [] => by simp [PyData.canLayAll0]
  | p :: ps => by simp [PyData.canLayAll0, PyData.canLay0, lotL_lay ps]
theorem lotD_lay (ps : List Nat) : (lotD ps).canLay0 = true := by unfold lotD; simp only [PyData.canLay0]; exact lotL_lay ps
theorem lotL_depth : ∀ ps : List Nat, PyData.depthAll (ps.map fun p => PyData.int ((p : Nat) : Int)) ≤ 1
  | [] => by simp [PyData.depthAll]
  | p :: ps => by have := lotL_depth ps; simp only [List.map_cons, PyData.depthAll, PyData.depth]; omega
theorem lotD_depth (ps : List Nat) : (lotD ps).depth ≤ 2 := by have := lotL_depth ps; unfold lotD; simp only [PyData.depth]; omega
theorem shaped_of {d : PyData} (h : d.canLay0 = true) (g : d.depth ≤ 20) : SeqAt.shaped d = true := by
  unfold SeqAt.shaped
  rw [h, Bool.true_and]
  exact decide_eq_true (by omega)
/-- != of two values that are the same data -/
theorem ne_sameD {H : Hp} {x y : V} {d : PyData} {Q : VK} (h1 : Rp K H x d) (h2 : Rp K H y d) (hl : d.canLay0 = true) (hd : d.depth ≤ 20) (k : Q (.bl false) H) : rNeD K x y H Q := by
  have rf : (!PyData.eqv d d) = false := by rw [SeqAt.eqv_refl _ hl]; rfl
  refine ⟨d, d, h1.dp, h2.dp, shaped_of hl hd, shaped_of hl hd, ?_⟩
  rw [rf]
  exact k
theorem LotsAt.kd {H H' : Hp} {xs : List V} {L : List (List Nat)} {da : Addr × Addr} (h : LotsAt K H xs L) (d : Dice H da) (e : KD da.1 H H') : LotsAt K H' xs L := h.mono (d.kt e)
end
end CB

set_option Elab.async false
set_option linter.all false
set_option maxRecDepth 100000
set_option maxHeartbeats 4000000
/-! the bottoms of what terms tell: each mean multiplies them by no more than a number that all sums of weights divide -/
namespace CB
open PySem PySem.Spec PyProof.Rows L2
/-- M times q is whole -/
def Dn (M : Nat) (q : Rat) : Prop := ∃ z : Int, q * ((M : Int) : Rat) = (z : Rat)
theorem den_rat {q : Rat} : ((q.den : Int) : Rat) ≠ 0 := by
  intro h
  have : ((q.den : Nat) : Int) = 0 := Rat.intCast_inj.mp h
  have := q.den_pos
  omega
theorem mul_den (q : Rat) : q * ((q.den : Int) : Rat) = ((q.num : Int) : Rat) := by
  have h := Rat.num_divInt_den q
  rw [Rat.divInt_eq_div] at h
  have e : q * ((q.den : Int) : Rat) = ((q.num : Int) : Rat) / ((q.den : Int) : Rat) * ((q.den : Int) : Rat) := by rw [h]
  rw [e, Rat.div_mul_cancel den_rat]
theorem dn_of {M : Nat} {q : Rat} (h : q.den ∣ M) : Dn M q := by
  obtain ⟨c, rfl⟩ := h
  refine ⟨q.num * (c : Int), ?_⟩
  rw [Int.natCast_mul, Rat.intCast_mul, Rat.intCast_mul, ← mul_den q]
  grind
theorem den_of {M : Nat} {q : Rat} (hM : 0 < M) (h : Dn M q) : q.den ∣ M := by
  obtain ⟨z, h⟩ := h
  have hm : ((M : Int) : Rat) ≠ 0 := by
    intro e
    have : ((M : Nat) : Int) = 0 := Rat.intCast_inj.mp e
    omega
  have e : q = Rat.divInt z (M : Int) := by
    rw [Rat.divInt_eq_div, ← h]
    grind
  have e2 := divInt_den (a := z) (b := (M : Int)) (by omega)
  rw [← e] at e2
  have g : Nat.gcd z.natAbs (M : Int).natAbs ∣ M := by
    have := Nat.gcd_dvd_right z.natAbs (M : Int).natAbs
    rwa [Int.natAbs_natCast] at this
  obtain ⟨c, hc⟩ := g
  have gp := gcd_pos (a := z) (b := (M : Int)) (by omega)
  have : (q.den : Int) = (c : Int) := by
    rw [e2]
    conv => lhs; lhs; rw [hc]
    rw [Int.natCast_mul, Int.mul_ediv_cancel_left _ (by omega)]
  exact ⟨Nat.gcd z.natAbs (M : Int).natAbs, by rw [show q.den = c by omega, Nat.mul_comm]; exact hc⟩
theorem dn_dvd {M M' : Nat} {q : Rat} (h : Dn M q) (d : M ∣ M') : Dn M' q := by
  obtain ⟨c, rfl⟩ := d
  obtain ⟨z, h⟩ := h
  refine ⟨z * (c : Int), ?_⟩
  rw [Int.natCast_mul, Rat.intCast_mul, Rat.intCast_mul, ← h]
  grind
theorem dn_zero {M : Nat} : Dn M 0 := ⟨0, by rw [Rat.zero_mul]; rfl⟩
theorem dn_add {M : Nat} {a b : Rat} (h : Dn M a) (g : Dn M b) : Dn M (a + b) := by
  obtain ⟨x, h⟩ := h
  obtain ⟨y, g⟩ := g
  exact ⟨x + y, by rw [Rat.add_mul, h, g, Rat.intCast_add]⟩
theorem dn_neg {M : Nat} {a : Rat} (h : Dn M a) : Dn M (-a) := by
  obtain ⟨x, h⟩ := h
  exact ⟨-x, by rw [Rat.neg_mul, h, Rat.intCast_neg]⟩
theorem dn_int {M : Nat} {a : Rat} (w : Int) (h : Dn M a) : Dn M ((w : Rat) * a) := by
  obtain ⟨x, h⟩ := h
  exact ⟨w * x, by rw [Rat.mul_assoc, h, Rat.intCast_mul]⟩
theorem dn_wsum {M : Nat} : ∀ {ws : List Int} {qs : List Rat}, (∀ q ∈ qs, Dn M q) → Dn M (List.zipWith (fun (w : Int) (q : Rat) => (w : Rat) * q) ws qs).sum
  | [], _, _ => by simpa using dn_zero
  | _ :: _, [], _ => by simpa using dn_zero
  | w :: ws, q :: qs, h => by
    rw [List.zipWith_cons_cons, List.sum_cons]
    exact dn_add (dn_int w (h q List.mem_cons_self)) (dn_wsum fun x hx => h x (List.mem_cons_of_mem _ hx))
theorem dn_div {M W : Nat} {q : Rat} {s : Int} (hs : 0 < s) (h : Dn M q) (d : s ∣ (W : Int)) : Dn (M * W) (q / ((s : Int) : Rat)) := by
  obtain ⟨c, hc⟩ := d
  obtain ⟨z, h⟩ := h
  have sn : ((s : Int) : Rat) ≠ 0 := by
    intro e
    have : s = 0 := Rat.intCast_inj.mp e
    omega
  refine ⟨z * c, ?_⟩
  rw [Int.natCast_mul, hc, Rat.intCast_mul, Rat.intCast_mul, Rat.intCast_mul, ← h]
  grind
theorem dn_sz {M k : Nat} {q : Rat} (hM : 0 < M) (hk : M < 2 ^ k) (h : Dn M q) (h0 : 0 ≤ q) (h1 : q ≤ 1) : Sz k q := by
  have d := Nat.le_of_dvd hM (den_of hM h)
  have hn : 0 ≤ q.num := Rat.num_nonneg.mpr h0
  have hl : q.num ≤ (q.den : Int) := by
    have := h1
    rw [Rat.le_iff] at this
    simpa using this
  exact ⟨by omega, by omega⟩
mutual
/-- fixed numbers' bottoms divide N, sums of weights divide W -/
def Tm.Dv (N W : Nat) : Tm → Prop
  | .bid _ => True
  | .fixed q => q.den ∣ N
  | .mean ws ts => 0 < ws.sum ∧ ws.sum ∣ (W : Int) ∧ Tm.Dvs N W ts
  | .least ts => Tm.Dvs N W ts
  | .greatest ts => Tm.Dvs N W ts
  | .ranked _ ts => Tm.Dvs N W ts
  | .between lo hi t => lo.den ∣ N ∧ hi.den ∣ N ∧ t.Dv N W
def Tm.Dvs (N W : Nat) : List Tm → Prop
  | [] => True
  | t :: ts => t.Dv N W ∧ Tm.Dvs N W ts
end
theorem dvs_iff (N W : Nat) : ∀ ts : List Tm, Tm.Dvs N W ts ↔ ∀ t ∈ ts, t.Dv N W
  | [] => by simp [Tm.Dvs]
  | t :: ts => by rw [Tm.Dvs, dvs_iff N W ts]; simp
mutual
theorem Tm.Dv.mono {N N' W W' : Nat} (h : N ∣ N') (g : W ∣ W') : ∀ {t : Tm}, t.Dv N W → t.Dv N' W'
  | .bid _, _ => trivial
  | .fixed q, d => Nat.dvd_trans d h
  | .mean ws ts, d => ⟨d.1, Int.dvd_trans d.2.1 (Int.natCast_dvd_natCast.mpr g), Tm.Dvs.mono h g d.2.2⟩
  | .least ts, d => Tm.Dvs.mono (ts := ts) h g d
  | .greatest ts, d => Tm.Dvs.mono (ts := ts) h g d
  | .ranked _ ts, d => Tm.Dvs.mono (ts := ts) h g d
  | .between lo hi t, d => ⟨Nat.dvd_trans d.1 h, Nat.dvd_trans d.2.1 h, Tm.Dv.mono h g d.2.2⟩
theorem Tm.Dvs.mono {N N' W W' : Nat} (h : N ∣ N') (g : W ∣ W') : ∀ {ts : List Tm}, Tm.Dvs N W ts → Tm.Dvs N' W' ts
  | [], _ => trivial
  | _ :: _, d => ⟨Tm.Dv.mono h g d.1, Tm.Dvs.mono h g d.2⟩
end
theorem pow_dvd' {W a b : Nat} (h : a ≤ b) : W ^ a ∣ W ^ b := Nat.pow_dvd_pow W h
theorem dn_minL {M : Nat} {l : List Rat} (h : l ≠ []) (hd : ∀ q ∈ l, Dn M q) : Dn M (minL l) := hd _ (minL_mem h).1
theorem dn_maxL {M : Nat} {l : List Rat} (h : l ≠ []) (hd : ∀ q ∈ l, Dn M q) : Dn M (maxL l) := hd _ (maxL_mem h).1
theorem kthG_in {k : Nat} {l : List Rat} (h : k < l.length) : kthG k l ∈ l := (isort_perm l).mem_iff.mp (List.mem_of_getElem? (kthG_isort k l h))
mutual
theorem val_dn {n s N W : Nat} {bs : List Rat} (hb : ∀ q ∈ bs, q.den ∣ N) (hn : bs.length = n) : ∀ {t : Tm}, t.Ok n s → t.Dv N W → Dn (N * W ^ t.dep) (t.val bs)
  | .bid p, ho, _ => by
    have hp : p < bs.length := by rw [hn]; exact ho
    show Dn _ (bs.getD p 0)
    rw [List.getD_eq_getElem?_getD, List.getElem?_eq_getElem hp]
    exact dn_of (Nat.dvd_trans (hb _ (List.getElem_mem hp)) (Nat.dvd_mul_right _ _))
  | .fixed q, _, d => dn_of (Nat.dvd_trans d (Nat.dvd_mul_right _ _))
  | .mean ws ts, ho, d => by
    have h := vals_dn hb hn ho.2.2.2.2 d.2.2
    have z : Dn (N * W ^ Tm.deps ts * W) (wavg ws (Tm.vals bs ts)) := dn_div d.1 (dn_wsum fun q hq => by
      rw [vals_map] at hq
      obtain ⟨t, ht, rfl⟩ := List.mem_map.mp hq
      exact dn_dvd (h t ht) (Nat.mul_dvd_mul_left _ (pow_dvd' (deps_mem ht)))) d.2.1
    show Dn (N * W ^ (Tm.deps ts + 1)) _
    rw [Nat.pow_succ, ← Nat.mul_assoc]
    exact z
  | .least ts, ho, d => by
    have h := vals_dn hb hn ho.2.2 d
    refine dn_minL (fun e => ho.1 (by rw [vals_map] at e; exact List.map_eq_nil_iff.mp e)) fun q hq => ?_
    rw [vals_map] at hq
    obtain ⟨t, ht, rfl⟩ := List.mem_map.mp hq
    exact dn_dvd (h t ht) (Nat.mul_dvd_mul_left _ (pow_dvd' (by have := deps_mem ht; show t.dep ≤ Tm.deps ts + 1; omega)))
  | .greatest ts, ho, d => by
    have h := vals_dn hb hn ho.2.2 d
    refine dn_maxL (fun e => ho.1 (by rw [vals_map] at e; exact List.map_eq_nil_iff.mp e)) fun q hq => ?_
    rw [vals_map] at hq
    obtain ⟨t, ht, rfl⟩ := List.mem_map.mp hq
    exact dn_dvd (h t ht) (Nat.mul_dvd_mul_left _ (pow_dvd' (by have := deps_mem ht; show t.dep ≤ Tm.deps ts + 1; omega)))
  | .ranked k ts, ho, d => by
    have h := vals_dn hb hn ho.2.2.2 d
    have hk : k - 1 < (Tm.vals bs ts).length := by rw [vals_map, List.length_map]; have := ho.1; have := ho.2.1; omega
    have m := kthG_in hk
    rw [vals_map] at m
    obtain ⟨t, ht, e⟩ := List.mem_map.mp m
    show Dn _ (kthG (k - 1) (Tm.vals bs ts))
    rw [vals_map, ← e]
    exact dn_dvd (h t ht) (Nat.mul_dvd_mul_left _ (pow_dvd' (by have := deps_mem ht; show t.dep ≤ Tm.deps ts + 1; omega)))
  | .between lo hi t, ho, d => by
    have h := dn_dvd (val_dn hb hn ho.2.2.2 d.2.2) (Nat.mul_dvd_mul_left N (pow_dvd' (W := W) (Nat.le_succ t.dep)))
    have h1 : Dn (N * W ^ (t.dep + 1)) lo := dn_of (Nat.dvd_trans d.1 (Nat.dvd_mul_right _ _))
    have h2 : Dn (N * W ^ (t.dep + 1)) hi := dn_of (Nat.dvd_trans d.2.1 (Nat.dvd_mul_right _ _))
    show Dn (N * W ^ (t.dep + 1)) (rmax lo (rmin hi (t.val bs)))
    unfold rmax rmin
    split <;> (try split) <;> first | exact h | exact h1 | exact h2
theorem vals_dn {n s N W : Nat} {bs : List Rat} (hb : ∀ q ∈ bs, q.den ∣ N) (hn : bs.length = n) : ∀ {ts : List Tm}, Tm.Oks n s ts → Tm.Dvs N W ts → ∀ t ∈ ts, Dn (N * W ^ t.dep) (t.val bs)
  | [], _, _, _, h => by cases h
  | u :: ts, ho, d, t, h => by
    rcases List.mem_cons.mp h with e | e
    · rw [e]; exact val_dn hb hn ho.1 d.1
    · exact vals_dn hb hn ho.2 d.2 t e
end
/-- a term and bids whose numbers have bottoms that are not too great -/
def DvB (t : Tm) (bs : List Rat) : Prop := ∃ N W : Nat, 0 < N ∧ 0 < W ∧ t.Dv N W ∧ N * W ^ t.dep < 2 ^ 1000 ∧ ∀ q ∈ bs, q.den ∣ N
theorem DvB.put01 {t : Tm} {bs : List Rat} (h : DvB t bs) {cs : List Rat} (hc : ∀ q ∈ cs, q.den = 1 ∨ q ∈ bs) : DvB t cs := by
  obtain ⟨N, W, h1, h2, h3, h4, h5⟩ := h
  refine ⟨N, W, h1, h2, h3, h4, fun q hq => ?_⟩
  rcases hc q hq with e | e
  · rw [e]; exact Nat.one_dvd _
  · exact h5 q e
theorem DvB.sz {t : Tm} {bs : List Rat} {n s : Nat} (h : DvB t bs) (ho : t.Ok n s) (hl : bs.length = n) (hb : ∀ q ∈ bs, In01 q) : Sz 1000 (t.val bs) := by
  obtain ⟨N, W, h1, h2, h3, h4, h5⟩ := h
  have v := val_01 hl hb t ho
  exact dn_sz (Nat.mul_pos h1 (Nat.pow_pos h2)) h4 (val_dn h5 hl ho h3) v.1 v.2
end CB

set_option Elab.async false
set_option linter.all false
set_option maxRecDepth 100000
set_option maxHeartbeats 4000000
/-! worked, told_by of terms and bids with known bottoms -/
namespace CB
open PySem PySem.Spec PyProof.Rows L2
open C8 (Cal Met Mak pe_c pe_mk pe_mt pe_mt0 pe_gc CalAt)
section
variable {P : Program} {w : World} {K : PySem.W.Frag} {mg : Str → Option Value} {base : Heap}
/-- the parts of a mean of terms -/
def mpC (s : Nat) (bs : List Rat) (ws : List Int) (ts : List Tm) : List MPart := List.zipWith (fun w t => (w, t.val bs, 1000)) ws ts
theorem mpC_ws (s : Nat) (bs : List Rat) : ∀ {ws : List Int} {ts : List Tm}, ws.length = ts.length → (mpC s bs ws ts).map (fun x => x.1) = ws
  | [], [], _ => rfl
  | w :: ws, t :: ts, h => by
    have ih := mpC_ws s bs (ws := ws) (ts := ts) (by simpa using h)
    show w :: (mpC s bs ws ts).map (fun x => x.1) = w :: ws
    rw [ih]
theorem mpC_qs (s : Nat) (bs : List Rat) : ∀ {ws : List Int} {ts : List Tm}, ws.length = ts.length → (mpC s bs ws ts).map (fun x => x.2.1) = Tm.vals bs ts
  | [], [], _ => rfl
  | w :: ws, t :: ts, h => by
    have ih := mpC_qs s bs (ws := ws) (ts := ts) (by simpa using h)
    show t.val bs :: (mpC s bs ws ts).map (fun x => x.2.1) = _
    rw [ih, Tm.vals]
theorem mpC_sz (s : Nat) (bs : List Rat) : ∀ {ws : List Int} {ts : List Tm}, ws.length = ts.length → wsz (mpC s bs ws ts) = ts.length * 1008
  | [], [], _ => rfl
  | w :: ws, t :: ts, h => by
    have ih := mpC_sz s bs (ws := ws) (ts := ts) (by simpa using h)
    show (1000 + 8) + wsz (mpC s bs ws ts) = _
    rw [ih, List.length_cons]; omega
theorem mpC_avg (s : Nat) (bs : List Rat) {ws : List Int} {ts : List Tm} (h : ws.length = ts.length) : wsum (mpC s bs ws ts) / ((wtot (mpC s bs ws ts) : Int) : Rat) = wavg ws (Tm.vals bs ts) := by
  have e1 : wtot (mpC s bs ws ts) = ws.sum := by
    unfold wtot
    rw [mpC_ws s bs h]
  have e2 : wsum (mpC s bs ws ts) = (List.zipWith (fun (w : Int) (q : Rat) => (w : Rat) * q) ws (Tm.vals bs ts)).sum := by
    clear e1
    induction ws generalizing ts with
    | nil =>
      cases ts with
      | nil => rfl
      | cons t ts => simp at h
    | cons w ws ih =>
      cases ts with
      | nil => simp at h
      | cons t ts =>
        have := ih (ts := ts) (by simpa using h)
        show wsum ((w, t.val bs, 1000) :: mpC s bs ws ts) = _
        rw [wsum_cons, this, Tm.vals]
        simp
  rw [e1, e2]
  rfl
theorem mpC_mem {s : Nat} {bs : List Rat} {ws : List Int} {ts : List Tm} {x : MPart} (h : x ∈ mpC s bs ws ts) : x.1 ∈ ws ∧ ∃ t ∈ ts, x.2 = (t.val bs, 1000) := by
  induction ws generalizing ts with
  | nil => cases h
  | cons w ws ih =>
    cases ts with
    | nil => cases h
    | cons t ts =>
      rcases List.mem_cons.mp (show x ∈ (w, t.val bs, 1000) :: mpC s bs ws ts from h) with e | e
      · subst e
        exact ⟨List.mem_cons_self, t, List.mem_cons_self, rfl⟩
      · obtain ⟨h1, u, h2, h3⟩ := ih e
        exact ⟨List.mem_cons_of_mem _ h1, u, List.mem_cons_of_mem _ h2, h3⟩
theorem mpC_length {s : Nat} {bs : List Rat} {ws : List Int} {ts : List Tm} (h : ws.length = ts.length) : (mpC s bs ws ts).length = ts.length := by
  unfold mpC
  rw [List.length_zipWith, h, Nat.min_self]
theorem DvB.kid {t u : Tm} {bs : List Rat} (h : DvB t bs) (m : u ∈ t.children) : DvB u bs := by
  obtain ⟨N, W, h1, h2, h3, h4, h5⟩ := h
  have dl : u.dep ≤ t.dep := by rw [dep_children t]; have := deps_mem m; omega
  refine ⟨N, W, h1, h2, ?_, Nat.lt_of_le_of_lt (Nat.mul_le_mul_left _ (Nat.pow_le_pow_right h2 dl)) h4, h5⟩
  cases t with
  | bid p => cases m
  | fixed q => cases m
  | mean ws ts => exact (dvs_iff _ _ _).mp h3.2.2 u m
  | least ts => exact (dvs_iff _ _ _).mp h3 u m
  | greatest ts => exact (dvs_iff _ _ _).mp h3 u m
  | ranked k ts => exact (dvs_iff _ _ _).mp h3 u m
  | between lo hi t => rw [List.mem_singleton.mp m]; exact h3.2.2
def spWd (K : PySem.W.Frag) (C : Addr) (D : Nat) : Sp := fun vs H Q _ => ∃ (v : V) (ab b dx : Addr) (n s : Nat) (bs : List Rat) (t : Tm), vs = [v, .ref ab, .ref b] ∧ Rp K H v t.data ∧ t.Ok n s ∧ s ≤ 9000 ∧ t.dep ≤ D ∧ DvB t bs ∧ Bids K H ab n s bs ∧ H b = some (.ins C dx []) ∧
  ∀ v H', Same H H' → RF K H' v (t.val bs) → Q v H'
theorem ok_worked_t {C : Addr} (F : FnD K mg "worked" s_worked) (c_inner_terms : Cal P w K mg base 1 "inner_terms" (sp_inner_terms K) []) (m_fixed : Met P w K mg base 1 C "fixed" (sp_fixed C) []) (m_mean : Met P w K mg base 4 C "mean" (sp_self (sp_mean_of K)) [])
    (m_lesser : Met P w K mg base 3 C "lesser" (sp_self (sp_lesser K)) []) (m_greater : Met P w K mg base 3 C "greater" (sp_self (sp_greater K)) []) (c_least_of : Cal P w K mg base 4 "least_of" (sp_pick K C minL) []) (c_greatest_of : Cal P w K mg base 4 "greatest_of" (sp_pick K C maxL) [])
    (c_kth_greatest : Cal P w K mg base 5 "kth_greatest" (sp_kth K C) []) : ∀ D : Nat, Cal P w K mg base (D + 6) "worked" (spWd K C D) [] := by
  intro D
  induction D with
  | zero => exact calOf (k := 5) F sc_worked (fun _ _ _ _ _ _ us hl => match us, hl with | [_, _, _], _ => rfl) (fun vs H Q E h => by obtain ⟨_, _, _, _, _, _, _, t, _, _, _, _, h, _⟩ := h; rw [dep_children t] at h; omega) (fun cdv f A outer s H vs Q E hr h => by obtain ⟨_, _, _, _, _, _, _, t, _, _, _, _, h, _⟩ := h; rw [dep_children t] at h; omega)
  | succ D ih =>
    have c_worked := ih
    refine calOf (k := D + 6) F sc_worked (fun _ _ _ _ _ _ us hl => match us, hl with | [_, _, _], _ => rfl) (fun vs H Q E h => ?_) (fun cdv f A outer s H vs Q E hr h => ?_)
    · obtain ⟨_, _, _, _, _, _, _, _, rfl, _⟩ := h
      rfl
    · obtain ⟨v, ab, b, dx, n, sz, bs, t, rfl, rt, ho, hsz, hdep, hwt, hB, hb, k⟩ := h
      have hdc := dep_children t
      have hno : ∀ f : Str, ([] : List (Str × V)).lookup f = none := fun _ => rfl
      obtain ⟨us, hB1, hB2, hB3, hB4⟩ := id hB
      refine ⟨_, (pss_cons (ps_set (i := 3) sc_worked.nd rfl (Or.inl rfl) (pe_ix ix_tup (pv 0) pe_int (fun _ _ => rfl)))
    (pss_cons (ps_if (pt_cmpR op_eq (pv 3) pe_str (nomark _)) (pss_one (ps_ret (pe_ix ix_tup (pv 1) (pe_ix ix_tup (pv 0) pe_int (fun _ _ => rfl)) (fun _ _ => rfl)))) pss_nil)
    (pss_cons (ps_if (pt_cmpR op_eq (pv 3) pe_str (nomark _)) (pss_one (ps_ret (pe_mt m_fixed hr (by first | decide | omega) (pv 2) (pa_cons (pe_ix ix_tup (pv 0) pe_int (fun _ _ => rfl)) pa_nil)))) pss_nil)
    (pss_cons (ps_setLc (i := 4) (own := [("part", 5)]) (by rfl) sc_worked.nd rfl rfl (sw_true rfl rfl rfl (by decide +kernel)) (pi_tup (pe_c c_inner_terms hr (by first | decide | omega) rfl (pa_cons (pv 0) pa_nil))) (blkOk_by (own := [("part", 5)]) (N := ["term", "bids", "ways", "word", "inner", "part", "weight", "_"]) (sc := defScope s_worked) (by decide +kernel)) (fun _ _ _ _ _ => (pg_name (i := 5) sc_worked.nd rfl (Or.inl rfl))) (fun _ _ _ _ _ => pts_nil) (fun _ _ _ _ _ => (pe_c c_worked hr (by first | decide | omega) rfl (pa_cons (pv 5) (pa_cons (pv 1) (pa_cons (pv 2) pa_nil))))))
    (pss_cons (ps_if (pt_cmpR op_eq (pv 3) pe_str (nomark _)) (pss_one (ps_ret (pe_mt m_mean hr (by first | decide | omega) (pv 2) (pa_cons (pe_lc (own := [("weight", 6), ("_", 7)]) (g := (gTup K 2 (gCons (gName 6) (gCons (gName 7) gNil)))) (by rfl) sc_worked.nd (pi_tup (pe_ix ix_tup (pv 0) pe_int (fun _ _ => rfl))) (blkOk_by (own := [("weight", 6), ("_", 7)]) (N := ["term", "bids", "ways", "word", "inner", "part", "weight", "_"]) (sc := defScope s_worked) (by decide +kernel)) (fun _ _ _ _ _ => (pg_tup rfl (pgs_cons (pg_name (i := 6) sc_worked.nd rfl (Or.inl rfl)) (pgs_cons (pg_name (i := 7) sc_worked.nd rfl (Or.inl rfl)) pgs_nil)))) (fun _ _ _ _ _ => pts_nil) (fun _ _ _ _ _ => (pv 6))) (pa_cons (pv 4) pa_nil))))) pss_nil)
    (pss_cons (ps_if (pt_cmpR op_eq (pv 3) pe_str (nomark _)) (pss_one (ps_ret (pe_mt m_greater hr (by first | decide | omega) (pv 2) (pa_cons (pe_mt m_fixed hr (by first | decide | omega) (pv 2) (pa_cons (pe_ix ix_tup (pv 0) pe_int (fun _ _ => rfl)) pa_nil)) (pa_cons (pe_mt m_lesser hr (by first | decide | omega) (pv 2) (pa_cons (pe_mt m_fixed hr (by first | decide | omega) (pv 2) (pa_cons (pe_ix ix_tup (pv 0) pe_int (fun _ _ => rfl)) pa_nil)) (pa_cons (pe_ix ix_list (pv 4) pe_int (fun _ _ => rfl)) pa_nil))) pa_nil))))) pss_nil)
    (pss_cons (ps_if (pt_cmpR op_eq (pv 3) pe_str (nomark _)) (pss_one (ps_ret (pe_c c_least_of hr (by first | decide | omega) rfl (pa_cons (pv 4) (pa_cons (pv 2) pa_nil))))) pss_nil)
    (pss_cons (ps_if (pt_cmpR op_eq (pv 3) pe_str (nomark _)) (pss_one (ps_ret (pe_c c_greatest_of hr (by first | decide | omega) rfl (pa_cons (pv 4) (pa_cons (pv 2) pa_nil))))) pss_nil)
    (pss_one (ps_ret (pe_c c_kth_greatest hr (by first | decide | omega) rfl (pa_cons (pe_ix ix_tup (pv 0) pe_int (fun _ _ => rfl)) (pa_cons (pv 4) (pa_cons (pv 2) pa_nil)))))))))))))), ?_⟩
      obtain ⟨a, r, rfl, ha⟩ := t_head rt
      refine ⟨_, rfl, _, _, _, _, rfl, rfl, ha, at_of (j := 0) rfl rfl, ?_⟩
      refine ⟨_, rfl, rfl, _, rfl, ite2 (fun c => ?_) (fun c1 => ?_)⟩
      · cases t with
        | bid p =>
          obtain ⟨a2, e, ha2⟩ := t_bid rt
          cases e
          have hp : p < bs.length := by rw [hB3]; exact ho
          obtain ⟨x, hx, rx⟩ := RQ.get hB2 (List.getElem?_eq_getElem hp)
          have ev : (Tm.bid p).val bs = bs[p] := by show bs.getD p 0 = _; rw [List.getD_eq_getElem?_getD, List.getElem?_eq_getElem hp]; rfl
          refine ⟨_, rfl, _, rfl, _, _, _, _, rfl, rfl, ha2, rfl, ab, us, _, x, rfl, rfl, hB1, at_of (j := p) rfl hx, k x _ (Same.refl _) ?_⟩
          rw [ev]
          exact rx
        | _ => exact absurd (of_decide_eq_true c) (by simp only [Tm.word]; decide +kernel)
      refine ⟨_, rfl, rfl, _, rfl, ite2 (fun c => ?_) (fun c2 => ?_)⟩
      · cases t with
        | fixed q =>
          obtain ⟨a2, x, e, ha2, hx⟩ := t_fixed rt
          cases e
          exact ⟨_, rfl, b, dx, [], rfl, hb, rfl, _, rfl, _, _, _, _, rfl, rfl, ha2, rfl, b, x, rfl, k x _ (Same.refl _) hx⟩
        | _ => exact absurd (of_decide_eq_true c) (by simp only [Tm.word]; decide +kernel)
      -- what comes of the terms within
      refine ⟨_, rfl, _, t, rfl, rt, mean_of_ok ho, fun p ws H1 s1 hp hw => ⟨p, rfl, ⟨_, hp⟩, fun L hL => ?_⟩⟩
      have kl := kids_len ho
      have hwl : ws.length = t.children.length := RTs.length hw
      refine it_tup (K := K) (a := p) (xs := ws) (fun i H' => ∃ zs : List V, H' L = some (.lst zs) ∧ RQ K H' zs (Tm.vals bs (t.children.take i)) ∧ Same H1 H')
        ⟨[], upd_same, by rw [List.take_zero]; exact .nil, same_new hL⟩ (fun i H' ⟨_, _, _, s5⟩ => (Same.kt s5).sq hp) ?_ ?_
      · rintro i x H' hx ⟨zs, g1, g2, g3⟩
        obtain ⟨u, hu, ru⟩ := RTs.getV hw hx
        have mu := List.mem_of_getElem? hu
        have ud := deps_mem mu
        have zl : zs.length ≤ 8 := by rw [RQ.length g2, vals_length, List.length_take]; omega
        have kt := Same.kt (s1.trans g3)
        refine ⟨rfl, _, rfl, _, rfl, _, rfl, x, ab, b, dx, n, sz, bs, u, rfl, ru.mono (Same.kt g3), (oks_iff _ _ _).mp (ok_children ho) u mu, hsz, by omega, hwt.kid mu, hB.mono kt, (s1.trans g3) _ _ hb, fun y H2 s2 ry => ?_⟩
        refine ⟨zs, s2 _ _ g1, small1000 (by omega), zs ++ [y], upd_same, ?_, Same.mut (g3.trans s2) hL⟩
        have e1 : Tm.vals bs (t.children.take (i + 1)) = Tm.vals bs (t.children.take i) ++ [u.val bs] := by
          rw [take_succ' hu, vals_map, vals_map, List.map_append]
          rfl
        rw [e1]
        exact RpAll.mono (KT.updl (s2 _ _ g1)) (RQ.snoc (RpAll.mono (Same.kt s2) g2) ry)
      · rintro H2 ⟨zs, g1, g2, g3⟩
        rw [hwl, List.take_length] at g2
        have s2 := s1.trans g3
        have hb2 := s2 _ _ hb
        have hz : ∀ q ∈ Tm.vals bs t.children, Sz 9000 q := by
          intro q hq
          rw [vals_map] at hq
          obtain ⟨u, hu, rfl⟩ := List.mem_map.mp hq
          exact ((hwt.kid hu).sz ((oks_iff _ _ _).mp (ok_children ho) u hu) hB3 fun q h => ⟨(hB4 q h).1, (hB4 q h).2.1⟩).mono (by omega)
        cases t with
        | bid p => exact absurd (decide_eq_true rfl) c1
        | fixed q => exact absurd (decide_eq_true rfl) c2
        | mean ws2 ts =>
          obtain ⟨wl, tne, tl, hwb, hob⟩ := ho
          refine ⟨_, rfl, rfl, _, rfl, ite2 (fun _ => ?_) (fun c => absurd (decide_eq_true rfl) c)⟩
          obtain ⟨a2, b2, us2, e, ha2, hb3, hu2⟩ := t_mean rt
          cases e
          have ha3 := (Same.kt s2).sq ha2
          have hb4 := (Same.kt s2).sq hb3
          have hu3 := RpAll.mono (Same.kt s2) hu2
          have ul : us2.length = ts.length := by rw [hu2.length, meanD_length _ _ (by rw [datas_map, List.length_map]; exact wl), datas_map, List.length_map]
          refine ⟨_, rfl, b, dx, [], rfl, hb2, rfl, _, rfl, _, _, _, _, rfl, rfl, ha3, rfl, b2, rfl, ⟨_, hb4⟩, fun M hM => ?_⟩
          refine it_tup (K := K) (a := b2) (xs := us2) (fun i H' => H' M = some (.lst ((ws2.take i).map V.int)) ∧ Same H2 H')
            ⟨by rw [List.take_zero]; exact upd_same, same_new hM⟩ (fun i H' ⟨_, s5⟩ => (Same.kt s5).sq hb4) ?_ ?_
          · rintro i x H' hx ⟨q1, q2⟩
            obtain ⟨c, z, t, y, rfl, e1, e2, p1, p2⟩ := mean_part hu3 hx
            have hi := (List.getElem?_eq_some_iff.mp hx).1
            refine ⟨c, _, rfl, (Same.kt q2).sq p1, rfl, _, _, rfl, _, _, rfl, rfl, rfl, _, rfl, _, q1, by rw [List.length_map, List.length_take]; exact small1000 (by omega), ?_, Same.mut q2 hM⟩
            rw [take_succ' e1, List.map_append]
            exact upd_same
          · rintro H3 ⟨q1, q2⟩
            rw [ul, ← wl, List.take_length] at q1
            have nML : L ≠ M := ne_of_none g1 hM
            refine ⟨_, rfl, b, [.ref M, .ref L], rfl, rfl, M, L, zs, mpC sz bs ws2 ts, rfl, ?_, SqL.of (q2 _ _ g1), ?_, ?_, ?_, by rw [mpC_length wl]; exact tl, ?_, fun v H4 s4 r4 _ => ?_⟩
            · have e1 : (mpC sz bs ws2 ts).map (fun x => V.int x.1) = ws2.map V.int := by
                have e0 := congrArg (List.map V.int) (mpC_ws sz bs wl)
                rw [List.map_map] at e0
                exact e0
              rw [e1]
              exact SqL.of q1
            · have e1 : (mpC sz bs ws2 ts).map (fun x => qd x.2.1) = (Tm.vals bs ts).map qd := by
                have e0 := congrArg (List.map qd) (mpC_qs sz bs wl)
                rw [List.map_map] at e0
                exact e0
              rw [e1]
              exact RpAll.mono (Same.kt q2) g2
            · intro e
              have := mpC_length (s := sz) (bs := bs) wl
              rw [e] at this
              exact tne (List.eq_nil_of_length_eq_zero this.symm)
            · intro x hx
              obtain ⟨h1, t, h2, h3⟩ := mpC_mem hx
              have g := hwb _ h1
              rw [MOk, h3]
              exact ⟨g.1, g.2, (hwt.kid (show t ∈ Tm.children (.mean ws2 ts) from h2)).sz ((oks_iff _ _ _).mp hob t h2) hB3 fun q h => ⟨(hB4 q h).1, (hB4 q h).2.1⟩⟩
            · rw [mpC_sz sz bs wl]
              omega
            · rw [mpC_avg sz bs wl] at r4
              exact k v H4 ((s2.trans q2).trans s4) r4
        | least ts =>
          refine ⟨_, rfl, rfl, _, rfl, ite2 (fun c => absurd (of_decide_eq_true c) (by simp only [Tm.word]; decide +kernel)) (fun _ => ?_)⟩
          refine ⟨_, rfl, rfl, _, rfl, ite2 (fun c => absurd (of_decide_eq_true c) (by simp only [Tm.word]; decide +kernel)) (fun _ => ?_)⟩
          refine ⟨_, rfl, rfl, _, rfl, ite2 (fun _ => ?_) (fun c => absurd (decide_eq_true rfl) c)⟩
          exact ⟨_, rfl, _, rfl, L, b, dx, zs, Tm.vals bs ts, rfl, SqL.of g1, hb2, g2, vals_ne ho.1, hz, fun v H3 s3 r3 => k v H3 (s2.trans s3) r3⟩
        | greatest ts =>
          refine ⟨_, rfl, rfl, _, rfl, ite2 (fun c => absurd (of_decide_eq_true c) (by simp only [Tm.word]; decide +kernel)) (fun _ => ?_)⟩
          refine ⟨_, rfl, rfl, _, rfl, ite2 (fun c => absurd (of_decide_eq_true c) (by simp only [Tm.word]; decide +kernel)) (fun _ => ?_)⟩
          refine ⟨_, rfl, rfl, _, rfl, ite2 (fun c => absurd (of_decide_eq_true c) (by simp only [Tm.word]; decide +kernel)) (fun _ => ?_)⟩
          refine ⟨_, rfl, rfl, _, rfl, ite2 (fun _ => ?_) (fun c => absurd (decide_eq_true rfl) c)⟩
          exact ⟨_, rfl, _, rfl, L, b, dx, zs, Tm.vals bs ts, rfl, SqL.of g1, hb2, g2, vals_ne ho.1, hz, fun v H3 s3 r3 => k v H3 (s2.trans s3) r3⟩
        | ranked kk ts =>
          obtain ⟨k1, k2, tl, hob⟩ := ho
          refine ⟨_, rfl, rfl, _, rfl, ite2 (fun c => absurd (of_decide_eq_true c) (by simp only [Tm.word]; decide +kernel)) (fun _ => ?_)⟩
          refine ⟨_, rfl, rfl, _, rfl, ite2 (fun c => absurd (of_decide_eq_true c) (by simp only [Tm.word]; decide +kernel)) (fun _ => ?_)⟩
          refine ⟨_, rfl, rfl, _, rfl, ite2 (fun c => absurd (of_decide_eq_true c) (by simp only [Tm.word]; decide +kernel)) (fun _ => ?_)⟩
          refine ⟨_, rfl, rfl, _, rfl, ite2 (fun c => absurd (of_decide_eq_true c) (by simp only [Tm.word]; decide +kernel)) (fun _ => ?_)⟩
          obtain ⟨a2, b2, us2, e, ha2, _, _⟩ := t_ranked rt
          cases e
          have ek : (kk : Int) = ((kk - 1 : Nat) : Int) + 1 := by omega
          refine ⟨_, rfl, _, _, _, _, rfl, rfl, (Same.kt s2).sq ha2, rfl, _, rfl, _, rfl, L, b, dx, zs, Tm.vals bs ts, kk - 1, congrArg (fun z => [V.int z, V.ref L, V.ref b]) ek, SqL.of g1, hb2, g2, by rw [vals_length]; omega, by rw [vals_length]; exact tl, hz, fun v H3 s3 r3 => k v H3 (s2.trans s3) r3⟩
        | between lo hi t =>
          obtain ⟨n1, n2, hl, hob⟩ := ho
          obtain ⟨a2, x, y, z, e, ha2, rx, ry, rz⟩ := t_between rt
          cases e
          have ha3 := (Same.kt s2).sq ha2
          refine ⟨_, rfl, rfl, _, rfl, ite2 (fun c => absurd (of_decide_eq_true c) (by simp only [Tm.word]; decide +kernel)) (fun _ => ?_)⟩
          refine ⟨_, rfl, rfl, _, rfl, ite2 (fun _ => ?_) (fun c => absurd (decide_eq_true rfl) c)⟩
          obtain ⟨x0, xs0, rfl, r0, rn⟩ := RpAll.consI (show RpAll K H2 zs (qd (t.val bs) :: []) from g2)
          have rf0 := PF.of r0
          have z0 := hz (t.val bs) List.mem_cons_self
          refine ⟨_, rfl, b, dx, [], rfl, hb2, rfl, _, rfl, b, dx, [], rfl, hb2, rfl, _, rfl, _, _, _, _, rfl, rfl, ha3, rfl, b, x, rfl, ?_⟩
          refine ⟨_, rfl, b, dx, [], rfl, hb2, rfl, _, rfl, b, dx, [], rfl, hb2, rfl, _, rfl, _, _, _, _, rfl, rfl, ha3, rfl, b, y, rfl, ?_⟩
          refine ⟨_, rfl, L, _, 0, x0, rfl, rfl, SqL.of g1, at_of (j := 0) rfl rfl, b, [y, x0], rfl, rfl, y, x0, hi, t.val bs, 9000, 9000, rfl, ry.mono (Same.kt s2), rf0, n2.2.2.mono (by omega), z0, by omega, fun v1 r1 => ?_⟩
          exact ⟨b, [x, v1], rfl, rfl, x, v1, lo, _, 9000, 9000, rfl, rx.mono (Same.kt s2), r1, n1.2.2.mono (by omega), sz_rmin (n2.2.2.mono (by omega)) z0, by omega, fun v2 r2 => k v2 H2 s2 r2⟩
def sp_told_byD (K : PySem.W.Frag) : Sp := fun vs H Q _ => ∃ (v : V) (ab : Addr) (n s : Nat) (bs : List Rat) (t : Tm), vs = [v, .ref ab] ∧ Rp K H v t.data ∧ t.Ok n s ∧ s ≤ 9000 ∧ t.dep ≤ 60 ∧ DvB t bs ∧ Bids K H ab n s bs ∧
  ∀ v H', Same H H' → RF K H' v (t.val bs) → Q v H'
theorem ok_told_by_t {C : Addr} (F : FnD K mg "told_by" s_told_by) (c_worked_t : Cal P w K mg base 66 "worked" (spWd K C 60) []) (M_Numbers : Mk0 K C) (g_Numbers : mg "Numbers" = some (.ref C)) : Cal P w K mg base 67 "told_by" (sp_told_byD K) [] := by
  refine calOf F sc_told_by (fun _ _ _ _ _ _ us hl => match us, hl with | [_, _], _ => rfl) (fun vs H Q E h => ?_) (fun cdv f A outer s H vs Q E hr h => ?_)
  · obtain ⟨_, _, _, _, _, _, rfl, _⟩ := h
    rfl
  · obtain ⟨v, ab, n, sz, bs, t, rfl, rt, ho, hs, hd, hw, hB, k⟩ := h
    have c_worked := c_worked_t
    refine ⟨_, (pss_one (ps_ret (pe_c c_worked hr (by first | decide | omega) rfl (pa_cons (pv 0) (pa_cons (pv 1) (pa_cons (pe_mk0 M_Numbers rfl g_Numbers) pa_nil)))))), ?_⟩
    refine ⟨_, rfl, _, rfl, fun x dx nx ndx nex => ?_⟩
    have s1 : Same H (upd (upd H dx (.own x)) x (.ins C dx [])) := (same_new ndx).trans (same_new (by rw [upd_ne (Ne.symm nex)]; exact nx))
    exact ⟨v, ab, x, dx, n, sz, bs, t, rfl, rt.mono (Same.kt s1), ho, hs, hd, hw, hB.mono (Same.kt s1), upd_same, fun v H' s2 r => k v H' (s1.trans s2) r⟩
end
end CB

set_option Elab.async false
set_option linter.all false
set_option maxRecDepth 100000
set_option maxHeartbeats 4000000
namespace CB
open PySem PySem.Spec PyProof.Rows L2
open C8 (Cal Met Mak pe_c pe_mk pe_mt pe_mt0 pe_gc CalAt)
section
variable {P : Program} {w : World} {K : PySem.W.Frag} {mg : Str → Option Value} {base : Heap}
/-- what the bottoms of drawn numbers, the sums of drawn weights divide -/
def N0 : Nat := 119997960
def W0 : Nat := 12252240
theorem N0_pos : 0 < N0 := by decide
theorem W0_pos : 0 < W0 := by decide
theorem den_dvd {a b : Int} (hb : 0 < b) : (Rat.divInt a b).den ∣ b.toNat := by
  have e := divInt_den (a := a) hb
  have g : Nat.gcd a.natAbs b.natAbs ∣ b.natAbs := Nat.gcd_dvd_right _ _
  obtain ⟨c, hc⟩ := g
  have gp := gcd_pos (a := a) hb
  have eb : b = ((Nat.gcd a.natAbs b.natAbs : Nat) : Int) * (c : Int) := by rw [← Int.natCast_mul, ← hc]; omega
  have : ((Rat.divInt a b).den : Int) = (c : Int) := by
    rw [e]
    conv => lhs; lhs; rw [eb]
    rw [Int.mul_ediv_cancel_left _ (by omega)]
  exact ⟨Nat.gcd a.natAbs b.natAbs, by rw [show (Rat.divInt a b).den = c by omega, Nat.mul_comm, ← hc]; omega⟩
theorem bottoms_dvd : ∀ z ∈ bottoms, z.toNat ∣ N0 := by decide
theorem sums_dvd : ∀ s : Nat, 1 ≤ s → s ≤ 18 → s ∣ W0 := by
  intro s h1 h2
  have : ∀ s, s < 19 → (s = 0 ∨ s ∣ W0) := by decide +kernel
  rcases this s (by omega) with h | h
  · omega
  · exact h
theorem sum_dvd {s : Int} (h1 : 1 ≤ s) (h2 : s ≤ 18) : 0 < s ∧ s ∣ (W0 : Int) := by
  refine ⟨by omega, ?_⟩
  have := Int.natCast_dvd_natCast.mpr (sums_dvd s.toNat (by omega) (by omega))
  rwa [Int.toNat_of_nonneg (by omega)] at this
theorem sum_bd {m : Int} : ∀ {ws : List Int}, (∀ w ∈ ws, 1 ≤ w ∧ w ≤ m) → (ws.length : Int) ≤ ws.sum ∧ ws.sum ≤ m * (ws.length : Int)
  | [], _ => by simp
  | w :: ws, h => by
    have ih := sum_bd (ws := ws) fun x hx => h x (List.mem_cons_of_mem _ hx)
    have hw := h w List.mem_cons_self
    rw [List.sum_cons, List.length_cons]
    push_cast
    rw [Int.mul_add, Int.mul_one]
    omega
def sp__law_numberD (K : PySem.W.Frag) : Sp := fun vs H Q _ => ∃ d : Addr × Addr, vs = [.ref d.1] ∧ Dice H d ∧ ∀ v q H', NumOk 20 q → q.den ∣ N0 → RF K H' v q → Dice H' d → KD d.1 H H' → Q v H'
theorem ok__law_number_t (F : FnD K mg "_law_number" s__law_number) (c__law_draw : Cal P w K mg base 1 "_law_draw" sp__law_draw []) (c__law_lowest : Cal P w K mg base 1 "_law_lowest" (sp_lowest K) []) : Cal P w K mg base 2 "_law_number" (sp__law_numberD K) [] := by
  refine calOf F sc__law_number (fun _ _ _ _ _ _ us hl => match us, hl with | [_], _ => rfl) (fun vs H Q E h => ?_) (fun cdv f A outer s H vs Q E hr h => ?_)
  · obtain ⟨_, rfl, _⟩ := h
    rfl
  · obtain ⟨da, rfl, hd, k⟩ := h
    refine ⟨_, (pss_cons (ps_set (i := 1) sc__law_number.nd rfl (Or.inl rfl) (pe_ix ix_list (pe_lst (pa_cons pe_int (pa_cons pe_int (pa_cons pe_int (pa_cons pe_int (pa_cons pe_int (pa_cons pe_int (pa_cons pe_int (pa_cons pe_int (pa_cons pe_int (pa_cons pe_int (pa_cons pe_int pa_nil)))))))))))) (pe_c c__law_draw hr (by first | decide | omega) rfl (pa_cons (pv 0) (pa_cons pe_int pa_nil))) (fun _ _ => rfl)))
    (pss_one (ps_ret (pe_c c__law_lowest hr (by first | decide | omega) rfl (pa_cons (pe_c c__law_draw hr (by first | decide | omega) rfl (pa_cons (pv 0) (pa_cons (pe_op op_add (pv 1) pe_int) pa_nil))) (pa_cons (pv 1) pa_nil)))))), ?_⟩
    refine ⟨(by show 11 ≤ sizeLine; decide), fun p hp => ?_⟩
    have npd := (hd.ne hp).1
    refine ⟨_, rfl, da, 11, rfl, hd.same (same_new hp), by decide, by decide, fun r H1 r0 r1 d1 k1 => ?_⟩
    have hl : H1 p = some (.lst (bottoms.map V.int)) := k1 p _ npd upd_same
    obtain ⟨z, hz⟩ : ∃ z, bottoms[r.toNat]? = some z := ⟨bottoms[r.toNat]'(by show r.toNat < 11; omega), List.getElem?_eq_getElem _⟩
    have zb := bottoms_ok z (List.mem_of_getElem? hz)
    have hz' : (bottoms.map V.int)[r.toNat]? = some (.int z) := by rw [List.getElem?_map, hz]; rfl
    refine ⟨p, _, r, _, rfl, rfl, SqL.of hl, at_of (j := r.toNat) (by omega) hz', ?_⟩
    refine ⟨_, rfl, _, rfl, _, _, rfl, rfl, da, z + 1, rfl, d1, by omega, by omega, fun r2 H2 g0 g1 d2 k2 => ?_⟩
    refine ⟨_, rfl, r2, z, rfl, by omega, Nat.lt_of_lt_of_le (show z.natAbs < 2 ^ 20 by omega) (Nat.pow_le_pow_right (by omega) (by omega)), fun v H3 e3 r3 => ?_⟩
    exact k v _ H3 (numOk_divInt g0 (by omega) (by omega) (by omega)) (Nat.dvd_trans (den_dvd (by omega)) (bottoms_dvd z (List.mem_of_getElem? hz))) r3 (d2.same e3) ((((Same.kd (same_new hp)).trans k1).trans k2).trans (Same.kd e3))
def sp__law_numbersD (K : PySem.W.Frag) : Sp := fun vs H Q _ => ∃ (d : Addr × Addr) (n : Nat), vs = [.ref d.1, .int (n : Int)] ∧ Dice H d ∧ n ≤ 1000 ∧ ∀ (v : V) (qs : List Rat) (H' : Hp), qs.length = n → (∀ q ∈ qs, NumOk 20 q ∧ q.den ∣ N0) → Rp K H' v (.tuple (qs.map qd)) → Dice H' d → KD d.1 H H' → Q v H'
theorem ok__law_numbers_t (F : FnD K mg "_law_numbers" s__law_numbers) (c__law_number_t : Cal P w K mg base 2 "_law_number" (sp__law_numberD K) []) (T_range : mg "range" = none) (T_tuple : mg "tuple" = none) : Cal P w K mg base 3 "_law_numbers" (sp__law_numbersD K) [] := by
  refine calOf F sc__law_numbers (fun _ _ _ _ _ _ us hl => match us, hl with | [_, _], _ => rfl) (fun vs H Q E h => ?_) (fun cdv f A outer s H vs Q E hr h => ?_)
  · obtain ⟨_, _, rfl, _⟩ := h
    rfl
  · obtain ⟨da, n, rfl, hd, hn, k⟩ := h
    have c__law_number := c__law_number_t
    refine ⟨_, (pss_one (ps_ret (pe_callTy call_tuple_of (by rfl) T_tuple (by decide +kernel) (pa_cons (pe_lc (own := [("_law_k", 2)]) (by rfl) sc__law_numbers.nd (pi_range1 (by rfl) T_range (pa_cons (pv 1) pa_nil)) (blkOk_by (own := [("_law_k", 2)]) (N := ["_law_dice_here", "_law_many", "_law_k"]) (sc := defScope s__law_numbers) (by decide +kernel)) (fun _ _ _ _ _ => (pg_name (i := 2) sc__law_numbers.nd rfl (Or.inl rfl))) (fun _ _ _ _ _ => pts_nil) (fun _ _ _ _ _ => (pe_c c__law_number hr (by first | decide | omega) rfl (pa_cons (pv 0) pa_nil)))) pa_nil)))), ?_⟩
    refine ⟨_, rfl, _, rfl, by omega, by omega, fun D hD => ?_⟩
    have ndd := hd.ne hD
    refine lc_range (lo := 0) (n := (n : Int).toNat) (fun i H' => ∃ (ys : List V) (qs : List Rat), H' D = some (.lst ys) ∧ qs.length = i ∧ RQ K H' ys qs ∧ (∀ q ∈ qs, NumOk 20 q ∧ q.den ∣ N0) ∧ Dice H' da ∧ KD da.1 H H')
      ⟨[], [], upd_same, rfl, .nil, by simp, hd.same (same_new hD), Same.kd (same_new hD)⟩ ?_ ?_
    · rintro i H' hi ⟨ys, qs, h1, h2, h3, h4, h5, h6⟩
      refine ⟨rfl, _, rfl, da, rfl, h5, fun v q H2 nq dq rq d2 k2 => ?_⟩
      have hD2 := k2 D _ ndd.1 h1
      have h3' := h3.mono (h5.kt k2)
      refine ⟨ys, hD2, small1000 (by rw [h3.length, h2]; omega), ys ++ [v], qs ++ [q], upd_same, by simp [h2], RpAll.mono (KT.updl hD2) (RQ.snoc h3' rq), ?_, ?_, ?_⟩
      · intro x hx
        rcases List.mem_append.mp hx with h | h
        · exact h4 x h
        · rw [List.mem_singleton.mp h]
          exact ⟨nq, dq⟩
      · exact d2.upd ndd
      · exact (h6.trans k2).mut hD
    · rintro H' ⟨ys, qs, h1, h2, h3, h4, h5, h6⟩
      refine ⟨D, ys, rfl, .inl ⟨SqL.of h1, fun p hp => ?_⟩⟩
      exact k _ qs _ (by rw [h2]; omega) h4 (.tup (SqT.of upd_same) (h3.mono (Same.kt (same_new hp)))) (h5.same (same_new hp)) (h6.new hp)
end
end CB

set_option Elab.async false
set_option linter.all false
set_option maxRecDepth 100000
set_option maxHeartbeats 4000000
namespace CB
open PySem PySem.Spec PyProof.Rows L2
open C8 (Cal Met Mak pe_c pe_mk pe_mt pe_mt0 pe_gc CalAt)
section
variable {P : Program} {w : World} {K : PySem.W.Frag} {mg : Str → Option Value} {base : Heap}
/-- a drawn term, with what its bottoms divide -/
structure DrawnD (n d : Nat) (t : Tm) : Prop extends Drawn n d t where
  dv : t.Dv N0 W0
def sp__law_termD (K : PySem.W.Frag) (d : Nat) : Sp := fun vs H Q _ => ∃ (da : Addr × Addr) (n : Nat) (m : Bool), vs = [.ref da.1, .int (n : Int), .int ((d : Int) + 1), .bl m] ∧ Dice H da ∧ 1 ≤ n ∧ n ≤ 6 ∧
  ∀ (v : V) (t : Tm) (H' : Hp), Rp K H' v t.data → DrawnD n d t → Dice H' da → KD da.1 H H' → Q v H'
/-- the promise of a call that goes less than D + 1 deep -/
def spTD (K : PySem.W.Frag) (D : Nat) : Sp := fun vs H Q E => ∃ d, d < D ∧ sp__law_termD K d vs H Q E
theorem ok__law_term_t (F : FnD K mg "_law_term" s__law_term) (c__law_draw : Cal P w K mg base 1 "_law_draw" sp__law_draw []) (c__law_number_t : Cal P w K mg base 2 "_law_number" (sp__law_numberD K) [])
    (c__law_sorted : Cal P w K mg base 2 "_law_sorted" (sp__law_sorted K) []) (T_len : mg "len" = none) (T_range : mg "range" = none) (T_tuple : mg "tuple" = none) : ∀ D : Nat, Cal P w K mg base (D + 4) "_law_term" (spTD K D) [] := by
  have c__law_number := c__law_number_t
  intro D
  induction D with
  | zero => exact calOf (k := 3) F sc__law_term (fun _ _ _ _ _ _ us hl => match us, hl with | [_, _, _, _], _ => rfl) (fun vs H Q E h => by obtain ⟨d, h, _⟩ := h; cases h) (fun cdv f A outer s H vs Q E hr h => by obtain ⟨d, h, _⟩ := h; cases h)
  | succ D ih =>
    have c__law_term := ih
    refine calOf (k := D + 4) F sc__law_term (fun _ _ _ _ _ _ us hl => match us, hl with | [_, _, _, _], _ => rfl) (fun vs H Q E h => ?_) (fun cdv f A outer s H vs Q E hr h => ?_)
    · obtain ⟨_, _, _, _, _, rfl, _⟩ := h
      rfl
    · obtain ⟨d, hdD, da, n, m, rfl, hd, hn1, hn6, k⟩ := h
      refine ⟨_, (pss_cons (ps_set (i := 4) sc__law_term.nd rfl (Or.inl rfl) (pe_c c__law_draw hr (by first | decide | omega) rfl (pa_cons (pv 0) (pa_cons pe_int pa_nil))))
    (C8.pss_cut (ps_if (PW.pt (pw_or (pt_cmpR op_eq (pv 2) pe_int (nomark _)) (pw_or1 (pt_cmpR op_eq (pv 4) pe_int (nomark _))))) (pss_cons (ps_if (pt_cmpR op_eq (pe_c c__law_draw hr (by first | decide | omega) rfl (pa_cons (pv 0) (pa_cons pe_int pa_nil))) pe_int (nomark _)) (pss_one (ps_ret (pe_tup (pa_cons pe_str (pa_cons (pe_c c__law_number hr (by first | decide | omega) rfl (pa_cons (pv 0) pa_nil)) pa_nil))))) pss_nil)
    (pss_one (ps_ret (pe_tup (pa_cons pe_str (pa_cons (pe_c c__law_draw hr (by first | decide | omega) rfl (pa_cons (pv 0) (pa_cons (pv 1) pa_nil))) pa_nil)))))) pss_nil)
    (pss_cons (ps_setLc (i := 5) (own := [("_law_k", 7)]) (by rfl) sc__law_term.nd rfl rfl (sw_true rfl rfl rfl (by decide +kernel)) (pi_range1 (by rfl) T_range (pa_cons (pe_op op_add pe_int (pe_c c__law_draw hr (by first | decide | omega) rfl (pa_cons (pv 0) (pa_cons pe_int pa_nil)))) pa_nil)) (blkOk_by (own := [("_law_k", 7)]) (N := ["_law_dice_here", "_law_people", "_law_deep", "_law_means", "_law_kind", "_law_parts", "_law_ends", "_law_k", "_law_part"]) (sc := defScope s__law_term) (by decide +kernel)) (fun _ _ _ _ _ => (pg_name (i := 7) sc__law_term.nd rfl (Or.inl rfl))) (fun _ _ _ _ _ => pts_nil) (fun _ _ _ _ _ => (pe_c c__law_term hr (by first | decide | omega) rfl (pa_cons (pv 0) (pa_cons (pv 1) (pa_cons (pe_op op_sub (pv 2) pe_int) (pa_cons (pv 3) pa_nil)))))))
    (pss_cons (ps_if (pt_cmpR op_eq (pv 4) pe_int (nomark _)) (pss_cons (ps_set (i := 6) sc__law_term.nd rfl (Or.inl rfl) (pe_c c__law_sorted hr (by first | decide | omega) rfl (pa_cons (pe_lst (pa_cons (pe_c c__law_number hr (by first | decide | omega) rfl (pa_cons (pv 0) pa_nil)) (pa_cons (pe_c c__law_number hr (by first | decide | omega) rfl (pa_cons (pv 0) pa_nil)) pa_nil))) pa_nil)))
    (pss_one (ps_ret (pe_tup (pa_cons pe_str (pa_cons (pe_ix ix_list (pv 6) pe_int (fun _ _ => rfl)) (pa_cons (pe_ix ix_list (pv 6) pe_int (fun _ _ => rfl)) (pa_cons (pe_ix ix_list (pv 5) pe_int (fun _ _ => rfl)) pa_nil)))))))) pss_nil)
    (pss_cons (ps_if (pt_cmpR op_eq (pv 4) pe_int (nomark _)) (pss_one (ps_ret (pe_tup (pa_cons pe_str (pa_cons (pe_callTy call_tuple_of (by rfl) T_tuple (by decide +kernel) (pa_cons (pv 5) pa_nil)) pa_nil))))) pss_nil)
    (pss_cons (ps_if (pt_cmpR op_eq (pv 4) pe_int (nomark _)) (pss_one (ps_ret (pe_tup (pa_cons pe_str (pa_cons (pe_callTy call_tuple_of (by rfl) T_tuple (by decide +kernel) (pa_cons (pv 5) pa_nil)) pa_nil))))) pss_nil)
    (pss_cons (ps_if (PW.pt (pw_or (pt_cmpR op_eq (pv 4) pe_int (nomark _)) (pw_or1 (pt_not (pt_val (pv 3)))))) (pss_one (ps_ret (pe_tup (pa_cons pe_str (pa_cons (pe_op op_add pe_int (pe_c c__law_draw hr (by first | decide | omega) rfl (pa_cons (pv 0) (pa_cons (pe_callB call_len_seq (by rfl) T_len PySem.boot_len (pa_cons (pv 5) pa_nil)) pa_nil)))) (pa_cons (pe_callTy call_tuple_of (by rfl) T_tuple (by decide +kernel) (pa_cons (pv 5) pa_nil)) pa_nil)))))) pss_nil)
    (pss_one (ps_ret (pe_tup (pa_cons pe_str (pa_cons (pe_callTy call_tuple_of (by rfl) T_tuple (by decide +kernel) (pa_cons (pe_lc (own := [("_law_part", 8)]) (by rfl) sc__law_term.nd (pi_list (pv 5)) (blkOk_by (own := [("_law_part", 8)]) (N := ["_law_dice_here", "_law_people", "_law_deep", "_law_means", "_law_kind", "_law_parts", "_law_ends", "_law_k", "_law_part"]) (sc := defScope s__law_term) (by decide +kernel)) (fun _ _ _ _ _ => (pg_name (i := 8) sc__law_term.nd rfl (Or.inl rfl))) (fun _ _ _ _ _ => pts_nil) (fun _ _ _ _ _ => (pe_tup (pa_cons (pe_op op_add pe_int (pe_c c__law_draw hr (by first | decide | omega) rfl (pa_cons (pv 0) (pa_cons pe_int pa_nil)))) (pa_cons (pv 8) pa_nil))))) pa_nil)) pa_nil)))))))))))), ?_⟩
      refine ⟨_, rfl, da, 8, rfl, hd, by decide, by decide, fun kind H1 kd0 kd1 d1 e1 => ?_⟩
      have fin : ∀ (v : V) (t : Tm) (H' : Hp), Rp K H' v t.data → DrawnD n d t → Dice H' da → KD da.1 H1 H' → Q v H' := fun v t H' a b c e => k v t H' a b c (e1.trans e)
      clear k hd e1
      have nd : ∀ {D : Addr} {H' : Hp}, Dice H' da → H' D = none → D ≠ da.1 ∧ D ≠ da.2 := fun a b => a.ne b
      refine ⟨fun σ H' => σ = [some (.ref da.1), some (.int (n : Int)), some (.int ((d : Int) + 1)), some (.bl m), some (.int kind), none, none, none, none] ∧ H' = H1 ∧ d ≠ 0, ?_, ?_⟩
      · -- a bid or a fixed number
        refine ⟨_, rfl, rfl, _, rfl, ?_⟩
        refine (fun leaf => ite2 (fun _ => leaf) (fun c1 => ⟨_, rfl, rfl, _, rfl, ite2 (fun _ => leaf) (fun c2 => ⟨rfl, rfl, fun z => c1 (decide_eq_true (by rw [z]; rfl))⟩)⟩)) ?_
        refine ⟨_, rfl, da, 5, rfl, d1, by decide, by decide, fun r H2 _ _ d2 e2 => ⟨rfl, _, rfl, ite2 (fun _ => ?_) (fun _ => ?_)⟩⟩
        · refine ⟨_, rfl, da, rfl, d2, fun v q H3 nq dq rq d3 e3 => ⟨(by show 2 ≤ sizeLine; decide), fun p hp => ?_⟩⟩
          refine fin _ (.fixed q) _ (.tup (SqT.of upd_same) (.cons (.str _) (.cons (rq.mono (Same.kt (same_new hp))).rp .nil))) ⟨⟨nq, by show 1 ≤ d + 1; omega, cB_pos d, fun s => wB_ge s d, fun s => wC_ge s d⟩, dq⟩ (d3.same (same_new hp)) ((e2.trans e3).new hp)
        · refine ⟨_, rfl, _, rfl, da, (n : Int), rfl, d2, by omega, by omega, fun r3 H3 g0 g1 d3 e3 => ⟨(by show 2 ≤ sizeLine; decide), fun p hp => ?_⟩⟩
          have er : ((r3.toNat : Nat) : Int) = r3 := Int.toNat_of_nonneg g0
          refine fin _ (.bid r3.toNat) _ (.tup (SqT.of upd_same) (.cons (.str _) (.cons (by rw [er]; exact .int _) .nil))) ⟨⟨(by show r3.toNat < n; omega), by show 1 ≤ d + 1; omega, cB_pos d, fun s => wB_ge s d, fun s => wC_ge s d⟩, trivial⟩ (d3.same (same_new hp)) ((e2.trans e3).new hp)
      · rintro σ H' ⟨rfl, rfl, hd0⟩
        obtain ⟨d', rfl⟩ : ∃ d', d = d' + 1 := ⟨d - 1, by omega⟩
        refine ⟨_, rfl, da, 3, rfl, d1, by decide, by decide, fun r H2 r0 r1 d2 e2 => ⟨_, _, rfl, rfl, _, rfl, by omega, by omega, fun D hD => ?_⟩⟩
        have nD := nd d2 hD
        refine lc_range (lo := 0) (n := (1 + r).toNat) (fun i H' => ∃ (ys : List V) (ts : List Tm), H' D = some (.lst ys) ∧ ts.length = i ∧ RTs K H' ys ts ∧ (∀ t ∈ ts, DrawnD n d' t) ∧ Dice H' da ∧ KD da.1 H2 H')
          ⟨[], [], upd_same, rfl, .nil, by simp, d2.same (same_new hD), Same.kd (same_new hD)⟩ ?_ ?_
        · rintro i H' hi ⟨ys, ts, h1, h2, h3, h4, h5, h6⟩
          have ea : ((d' + 1 : Nat) : Int) + 1 - 1 = (d' : Int) + 1 := by omega
          refine ⟨rfl, _, rfl, _, rfl, _, rfl, _, _, rfl, rfl, _, rfl, d', by omega, da, n, m, congrArg (fun z => [V.ref da.1, V.int (n : Int), V.int z, V.bl m]) ea, h5, hn1, hn6, fun v t H3 rt dt d3 e3 => ?_⟩
          have hD3 := e3 D _ nD.1 h1
          refine ⟨ys, hD3, small1000 (by rw [h3.length, h2]; omega), ys ++ [v], ts ++ [t], upd_same, by simp [h2], RpAll.mono (KT.updl hD3) (RTs.snoc (RpAll.mono (h5.kt e3) h3) rt), ?_, d3.upd nD, (h6.trans e3).mut hD⟩
          intro x hx
          rcases List.mem_append.mp hx with h | h
          · exact h4 x h
          · rw [List.mem_singleton.mp h]
            exact dt
        · rintro H3 ⟨ys, ts, h1, h2, h3, h4, d3, e3⟩
          have e13 := e2.trans e3
          obtain ⟨po, pne, pdep, pcnt, pwt, pwt2⟩ := parts_ok (fun t h => (h4 t h).toDrawn) (by omega) (by omega)
          have pdv : Tm.Dvs N0 W0 ts := (dvs_iff _ _ _).mpr fun t h => (h4 t h).dv
          have tl : ts.length ≤ 3 := by omega
          have hyl := h3.length
          have tup : ∀ (p : Addr) (H' : Hp), KT H3 H' → H' p = some (.tup ys) → Rp K H' (.ref p) (.tuple (Tm.datas ts)) := fun p H' e hp => .tup (SqT.of hp) (RpAll.mono e h3)
          have drawn : ∀ t : Tm, t.Ok n 20 → t.dep ≤ d' + 1 + 1 → t.cnt ≤ 3 * cB d' + 1 → (∀ s, t.wt s ≤ 3 * (wB s d' + 8) + 12 + 2 * s) → (∀ s, t.wt s ≤ max (3 * (wC s d' + 8) + 12) (wC s d' + 2 * s)) → t.Dv N0 W0 → DrawnD n (d' + 1) t := fun t a b c e e2 dv => ⟨⟨a, b, by show _ ≤ 1 + 3 * cB d'; omega, e, e2⟩, dv⟩
          -- between
          refine ⟨_, rfl, rfl, _, rfl, ite2 (fun _ => ?_) (fun _ => ?_)⟩
          · refine ⟨_, rfl, da, rfl, d3, fun v1 q1 H4 nq1 dq1 rq1 d4 e4 => ⟨_, rfl, da, rfl, d4, fun v2 q2 H5 nq2 dq2 rq2 d5 e5 => ⟨(by show 2 ≤ sizeLine; decide), fun p hp => ?_⟩⟩⟩
            have s6 := same_new (o := .lst [v1, v2]) hp
            have rq1' := (rq1.mono (d4.kt e5)).mono (Same.kt s6)
            have rq2' := rq2.mono (Same.kt s6)
            refine ⟨p, [v1, v2], [q1, q2], rfl, SqL.of upd_same, .cons rq1'.rp (.cons rq2'.rp .nil), ?_, by show 2 ≤ 100; decide, fun pl zs H6 hpl s7 hz rz => ?_⟩
            · intro q hq
              rcases List.mem_cons.mp hq with h | h
              · rw [h]; exact nq1.2.2.mono (by omega)
              · rw [List.mem_singleton.mp h]; exact nq2.2.2.mono (by omega)
            have all : ∀ q ∈ isort [q1, q2], NumOk 20 q := by
              intro q hq
              rcases List.mem_cons.mp ((isort_perm [q1, q2]).mem_iff.mp hq) with h | h
              · rw [h]; exact nq1
              · rw [List.mem_singleton.mp h]; exact nq2
            have allD : ∀ q ∈ isort [q1, q2], q.den ∣ N0 := by
              intro q hq
              rcases List.mem_cons.mp ((isort_perm [q1, q2]).mem_iff.mp hq) with h | h
              · rw [h]; exact dq1
              · rw [List.mem_singleton.mp h]; exact dq2
            have hlen : (isort [q1, q2]).length = 2 := isort_length _
            obtain ⟨lo, hlo⟩ : ∃ lo, (isort [q1, q2])[0]? = some lo := ⟨_, List.getElem?_eq_getElem (by omega)⟩
            obtain ⟨hi, hhi⟩ : ∃ hi, (isort [q1, q2])[1]? = some hi := ⟨_, List.getElem?_eq_getElem (by omega)⟩
            obtain ⟨u0, z0, ru0⟩ := RQ.get rz hlo
            obtain ⟨u1, z1, ru1⟩ := RQ.get rz hhi
            obtain ⟨t0, ht0⟩ : ∃ t0, ts[0]? = some t0 := ⟨_, List.getElem?_eq_getElem (by omega)⟩
            have e35 : KD da.1 H3 H5 := e4.trans e5
            have kt35 : KT H3 H6 := ((d3.kt e4).trans (d4.kt e5)).trans (Same.kt (s6.trans s7))
            have hD6 : H6 D = some (.lst ys) := (s6.trans s7) D _ (e35 D _ nD.1 h1)
            obtain ⟨w0, y0, rw0⟩ := h3.get ht0
            refine ⟨_, rfl, _, _, _, _, rfl, rfl, SqL.of hz, at_of (j := 0) rfl z0, _, rfl, _, _, _, _, rfl, rfl, SqL.of hz, at_of (j := 1) rfl z1, _, rfl, _, _, _, _, rfl, rfl, SqL.of hD6, at_of (j := 0) rfl y0, (by show 4 ≤ sizeLine; decide), fun p4 hp4 => ?_⟩
            have s8 := same_new (o := .tup [.str "between", u0, u1, w0]) hp4
            have mt0 := List.mem_of_getElem? ht0
            have g0 := h4 t0 mt0
            refine fin _ (.between lo hi t0) _ (.tup (SqT.of upd_same) (.cons (.str _) (.cons (ru0.mono (Same.kt s8)).rp (.cons (ru1.mono (Same.kt s8)).rp (.cons ((rw0.mono kt35).mono (Same.kt s8)) .nil))))) ?_ (((d5.same s6).same s7).same s8) ((((e13.trans e35).trans (Same.kd (s6.trans s7))).new hp4))
            refine drawn _ ⟨all lo (List.mem_of_getElem? hlo), all hi (List.mem_of_getElem? hhi), srt_get_le (isort_srt _) hlo hhi (by omega), g0.ok⟩ ?_ ?_ ?_ ?_ ⟨allD lo (List.mem_of_getElem? hlo), allD hi (List.mem_of_getElem? hhi), g0.dv⟩
            · show t0.dep + 1 ≤ _
              have := g0.dep
              omega
            · show t0.cnt + 1 ≤ _
              have := g0.cnt
              have := cB_pos d'
              omega
            · intro s
              show t0.wt s + s + s ≤ _
              have := g0.wt s
              omega
            · intro s
              show t0.wt s + s + s ≤ _
              have := g0.wt2 s
              omega
          -- least
          refine ⟨_, rfl, rfl, _, rfl, ite2 (fun _ => ?_) (fun _ => ?_)⟩
          · refine ⟨_, rfl, D, ys, rfl, .inl ⟨SqL.of h1, fun l hl => ⟨(by show 2 ≤ sizeLine; decide), fun p hp => ?_⟩⟩⟩
            have s4 := same_new (o := .tup ys) hl
            have s5 := same_new (o := .tup [.str "least", .ref l]) hp
            refine fin _ (.least ts) _ (.tup (SqT.of upd_same) (.cons (.str _) (.cons (tup l _ (Same.kt (s4.trans s5)) (s5 _ _ upd_same)) .nil))) ?_ (d3.same (s4.trans s5)) (e13.trans (Same.kd (s4.trans s5)))
            exact drawn _ ⟨pne, by omega, po⟩ (by show Tm.deps ts + 1 ≤ _; omega) (by show Tm.cnts ts + 1 ≤ _; omega) (fun s => by show Tm.wts s ts ≤ _; have := pwt s; omega) (fun s => by show Tm.wts s ts ≤ _; have := pwt2 s; omega) pdv
          refine ⟨_, rfl, rfl, _, rfl, ite2 (fun _ => ?_) (fun _ => ?_)⟩
          · refine ⟨_, rfl, D, ys, rfl, .inl ⟨SqL.of h1, fun l hl => ⟨(by show 2 ≤ sizeLine; decide), fun p hp => ?_⟩⟩⟩
            have s4 := same_new (o := .tup ys) hl
            have s5 := same_new (o := .tup [.str "greatest", .ref l]) hp
            refine fin _ (.greatest ts) _ (.tup (SqT.of upd_same) (.cons (.str _) (.cons (tup l _ (Same.kt (s4.trans s5)) (s5 _ _ upd_same)) .nil))) ?_ (d3.same (s4.trans s5)) (e13.trans (Same.kd (s4.trans s5)))
            exact drawn _ ⟨pne, by omega, po⟩ (by show Tm.deps ts + 1 ≤ _; omega) (by show Tm.cnts ts + 1 ≤ _; omega) (fun s => by show Tm.wts s ts ≤ _; have := pwt s; omega) (fun s => by show Tm.wts s ts ≤ _; have := pwt2 s; omega) pdv
          -- ranked
          refine ⟨_, rfl, rfl, _, rfl, ?_⟩
          refine (fun rank => ite2 (fun _ => rank) (fun _ => ⟨_, rfl, _, rfl, ite2 (fun _ => rank) (fun _ => ?mean)⟩)) ?rank
          case mean =>
            -- mean
            refine ⟨_, rfl, D, rfl, ⟨_, SqL.of h1⟩, fun D2 hD2 => ?_⟩
            have nD2 := nd d3 hD2
            have nDD : D ≠ D2 := ne_of_none h1 hD2
            refine lc_list (K := K) (a := D) (xs := ys) (fun i H' => ∃ (zs : List V) (ws : List Int), H' D2 = some (.lst zs) ∧ ws.length = i ∧ RpAll K H' zs (meanD ws (Tm.datas (ts.take i))) ∧ (∀ w ∈ ws, 1 ≤ w ∧ w ≤ 5) ∧ Dice H' da ∧ KD da.1 H3 H' ∧ H' D = some (.lst ys))
              ⟨[], [], upd_same, rfl, .nil, by simp, d3.same (same_new hD2), Same.kd (same_new hD2), by rw [upd_ne nDD]; exact h1⟩ (fun i H' _ ⟨_, _, _, _, _, _, _, _, g⟩ => SqL.of g) ?_ ?_
            · rintro i y H' hi ⟨zs, ws, g1, g2, g3, g4, g5, g6, g7⟩
              obtain ⟨t, ht, rt⟩ := h3.getV hi
              refine ⟨rfl, _, rfl, da, 5, rfl, g5, by decide, by decide, fun x H5 x0 x1 d5 e5 => ⟨_, _, rfl, rfl, _, rfl, (by show 2 ≤ sizeLine; decide), fun p hp => ?_⟩⟩
              have s6 := same_new (o := .tup [.int (1 + x), y]) hp
              have hD5 := e5 D2 _ nD2.1 g1
              have hD6 := s6 _ _ hD5
              have kt36 : KT H3 H5 := (d3.kt g6).trans (g5.kt e5)
              have zl : zs.length ≤ 3 := by
                rw [g3.length]
                unfold meanD
                rw [List.length_zipWith, g2]
                have := (List.getElem?_eq_some_iff.mp hi).1
                omega
              have nDp : D ≠ p := ne_of_none (e5 D _ nD.1 g7) hp
              refine ⟨zs, hD6, small1000 (by omega), zs ++ [.ref p], ws ++ [1 + x], upd_same, by simp [g2], ?_, ?_, (d5.same s6).upd nD2, ((g6.trans e5).trans (Same.kd s6)).mut hD2, ?_⟩
              · refine RpAll.mono (KT.updl hD6) ?_
                have e1 : ts.take (i + 1) = ts.take i ++ [t] := take_succ' ht
                have e2 : meanD (ws ++ [1 + x]) (Tm.datas (ts.take (i + 1))) = meanD ws (Tm.datas (ts.take i)) ++ [.tuple [.int (1 + x), t.data]] := by
                  rw [e1, datas_map, datas_map, List.map_append]
                  unfold meanD
                  rw [List.zipWith_append]
                  · rfl
                  · rw [List.length_map, List.length_take, g2]
                    have := (List.getElem?_eq_some_iff.mp ht).1
                    omega
                rw [e2]
                exact RpAll.append (RpAll.mono ((g5.kt e5).trans (Same.kt s6)) g3) (.cons (.tup (SqT.of upd_same) (.cons (.int _) (.cons ((rt.mono kt36).mono (Same.kt s6)) .nil))) .nil)
              · intro w hw
                rcases List.mem_append.mp hw with h | h
                · exact g4 w h
                · rw [List.mem_singleton.mp h]
                  omega
              · rw [upd_ne nDD]
                exact s6 _ _ (e5 D _ nD.1 g7)
            · rintro H4 ⟨zs, ws, g1, g2, g3, g4, d4, e4, g7⟩
              rw [hyl, List.take_length] at g3
              refine ⟨D2, zs, rfl, .inl ⟨SqL.of g1, fun l hl => ⟨(by show 2 ≤ sizeLine; decide), fun p hp => ?_⟩⟩⟩
              have s4 := same_new (o := .tup zs) hl
              have s5 := same_new (o := .tup [.str "mean", .ref l]) hp
              refine fin _ (.mean ws ts) _ (.tup (SqT.of upd_same) (.cons (.str _) (.cons (.tup (SqT.of (s5 _ _ upd_same)) (RpAll.mono (Same.kt (s4.trans s5)) g3)) .nil))) ?_ (d4.same (s4.trans s5)) ((e13.trans e4).trans (Same.kd (s4.trans s5)))
              have g5w : ∀ w ∈ ws, 1 ≤ w ∧ w ≤ 5 := g4
              exact drawn _ ⟨by rw [g2, hyl], pne, by omega, fun w h => ⟨(g4 w h).1, by have := (g4 w h).2; omega⟩, po⟩ (by show Tm.deps ts + 1 ≤ _; omega) (by show Tm.cnts ts + 1 ≤ _; omega) (fun s => by show Tm.wts s ts + 12 ≤ _; have := pwt s; omega) (fun s => by show Tm.wts s ts + 12 ≤ _; have := pwt2 s; omega) ⟨(sum_dvd (by have := (sum_bd g5w).1; omega) (by have := (sum_bd g5w).2; omega)).1, (sum_dvd (by have := (sum_bd g5w).1; omega) (by have := (sum_bd g5w).2; omega)).2, pdv⟩
          case rank =>
            refine ⟨_, rfl, _, rfl, D, ys, rfl, .inl (SqL.of h1), da, (ys.length : Int), rfl, d3, by omega, by omega, fun x H4 x0 x1 d4 e4 => ⟨_, _, rfl, rfl, _, rfl, D, ys, rfl, .inl ⟨SqL.of (e4 D _ nD.1 h1), fun l hl => ⟨(by show 3 ≤ sizeLine; decide), fun p hp => ?_⟩⟩⟩⟩
            have s4 := same_new (o := .tup ys) hl
            have s5 := same_new (o := .tup [.str "ranked", .int (1 + x), .ref l]) hp
            have er : (((1 + x).toNat : Nat) : Int) = 1 + x := Int.toNat_of_nonneg (by omega)
            refine fin _ (.ranked (1 + x).toNat ts) _ (.tup (SqT.of upd_same) (.cons (.str _) (.cons (by rw [er]; exact .int _) (.cons (tup l _ ((d3.kt e4).trans (Same.kt (s4.trans s5))) (s5 _ _ upd_same)) .nil)))) ?_ (d4.same (s4.trans s5)) ((e13.trans e4).trans (Same.kd (s4.trans s5)))
            exact drawn _ ⟨by omega, by omega, by omega, po⟩ (by show Tm.deps ts + 1 ≤ _; omega) (by show Tm.cnts ts + 1 ≤ _; omega) (fun s => by show Tm.wts s ts ≤ _; have := pwt s; omega) (fun s => by show Tm.wts s ts ≤ _; have := pwt2 s; omega) pdv
end
end CB

set_option Elab.async false
set_option linter.all false
set_option maxRecDepth 100000
set_option maxHeartbeats 4000000
namespace CB
/-! ### rules without means: the outcome is what the rule tells for the wishes themselves -/
mutual
def Tm.nomean : Tm → Bool
  | .bid _ => true
  | .fixed _ => true
  | .mean _ _ => false
  | .least ts => Tm.nomeans ts
  | .greatest ts => Tm.nomeans ts
  | .ranked _ ts => Tm.nomeans ts
  | .between _ _ t => t.nomean
def Tm.nomeans : List Tm → Bool
  | [] => true
  | t :: ts => t.nomean && Tm.nomeans ts
end
/-- both at least x, or neither -/
def Both (x a b : Rat) : Prop := x ≤ a ↔ x ≤ b
def BothL (x : Rat) : List Rat → List Rat → Prop
  | [], [] => True
  | a :: l, b :: m => Both x a b ∧ BothL x l m
  | _, _ => False
theorem rmin_both {x a b c d : Rat} (h : Both x a b) (g : Both x c d) : Both x (rmin a c) (rmin b d) := by
  unfold Both rmin at *
  (repeat' split) <;> grind
theorem rmax_both {x a b c d : Rat} (h : Both x a b) (g : Both x c d) : Both x (rmax a c) (rmax b d) := by
  unfold Both rmax at *
  (repeat' split) <;> grind
theorem foldl_rmin_both {x : Rat} : ∀ {l m : List Rat} {a b : Rat}, BothL x l m → Both x a b → Both x (l.foldl rmin a) (m.foldl rmin b)
  | [], [], _, _, _, h => h
  | _ :: l, _ :: m, _, _, hl, h => foldl_rmin_both (l := l) (m := m) hl.2 (rmin_both h hl.1)
  | [], _ :: _, _, _, hl, _ => hl.elim
  | _ :: _, [], _, _, hl, _ => hl.elim
theorem foldl_rmax_both {x : Rat} : ∀ {l m : List Rat} {a b : Rat}, BothL x l m → Both x a b → Both x (l.foldl rmax a) (m.foldl rmax b)
  | [], [], _, _, _, h => h
  | _ :: l, _ :: m, _, _, hl, h => foldl_rmax_both (l := l) (m := m) hl.2 (rmax_both h hl.1)
  | [], _ :: _, _, _, hl, _ => hl.elim
  | _ :: _, [], _, _, hl, _ => hl.elim
theorem minL_both {x : Rat} : ∀ {l m : List Rat}, BothL x l m → Both x (minL l) (minL m)
  | [], [], _ => Iff.rfl
  | _ :: _, _ :: _, hl => foldl_rmin_both hl.2 hl.1
  | [], _ :: _, hl => hl.elim
  | _ :: _, [], hl => hl.elim
theorem maxL_both {x : Rat} : ∀ {l m : List Rat}, BothL x l m → Both x (maxL l) (maxL m)
  | [], [], _ => Iff.rfl
  | _ :: _, _ :: _, hl => foldl_rmax_both hl.2 hl.1
  | [], _ :: _, hl => hl.elim
  | _ :: _, [], hl => hl.elim
theorem bub_both {x : Rat} : ∀ {l m : List Rat} {a b : Rat}, BothL x l m → Both x a b → BothL x (bub a l).1 (bub b m).1
  | [], [], _, _, _, _ => trivial
  | _ :: l, _ :: m, _, _, hl, h => ⟨rmin_both h hl.1, bub_both (l := l) (m := m) hl.2 (rmax_both h hl.1)⟩
  | [], _ :: _, _, _, hl, _ => hl.elim
  | _ :: _, [], _, _, hl, _ => hl.elim
theorem bubL_both {x : Rat} : ∀ {l m : List Rat}, BothL x l m → BothL x (bubL l) (bubL m)
  | [], [], _ => trivial
  | _ :: _, _ :: _, hl => bub_both hl.2 hl.1
  | [], _ :: _, hl => hl.elim
  | _ :: _, [], hl => hl.elim
theorem kthG_both {x : Rat} : ∀ (k : Nat) {l m : List Rat}, BothL x l m → Both x (kthG k l) (kthG k m)
  | 0, _, _, h => maxL_both h
  | k + 1, _, _, h => kthG_both k (bubL_both h)
theorem getD_both {x : Rat} : ∀ {l m : List Rat} (p : Nat), BothL x l m → Both x (l.getD p 0) (m.getD p 0)
  | [], [], _, _ => Iff.rfl
  | _ :: _, _ :: _, 0, h => h.1
  | _ :: l, _ :: m, p + 1, h => by simpa using getD_both (l := l) (m := m) p h.2
  | [], _ :: _, _, h => h.elim
  | _ :: _, [], _, h => h.elim
mutual
theorem val_both {x : Rat} {b c : List Rat} (h : BothL x b c) : ∀ t : Tm, t.nomean = true → Both x (t.val b) (t.val c)
  | .bid p, _ => getD_both p h
  | .fixed q, _ => Iff.rfl
  | .mean _ _, e => absurd e (by simp [Tm.nomean])
  | .least ts, e => minL_both (vals_both h ts e)
  | .greatest ts, e => maxL_both (vals_both h ts e)
  | .ranked k ts, e => kthG_both (k - 1) (vals_both h ts e)
  | .between lo hi t, e => rmax_both Iff.rfl (rmin_both Iff.rfl (val_both h t e))
theorem vals_both {x : Rat} {b c : List Rat} (h : BothL x b c) : ∀ ts : List Tm, Tm.nomeans ts = true → BothL x (Tm.vals b ts) (Tm.vals c ts)
  | [], _ => trivial
  | t :: ts, e => by
    have e' : (t.nomean && Tm.nomeans ts) = true := e
    rw [Bool.and_eq_true] at e'
    exact ⟨val_both h t e'.1, vals_both h ts e'.2⟩
end
theorem bothL_of {x : Rat} : ∀ {l m : List Rat}, l.length = m.length → (∀ (i : Nat) (a b : Rat), l[i]? = some a → m[i]? = some b → Both x a b) → BothL x l m
  | [], [], _, _ => trivial
  | a :: l, b :: m, e, h => ⟨h 0 a b rfl rfl, bothL_of (l := l) (m := m) (by simpa using e) fun i a b h1 h2 => h (i + 1) a b h1 h2⟩
  | [], _ :: _, e, _ => by simp at e
  | _ :: _, [], e, _ => by simp at e
theorem outc_nomean {t : Tm} {n z : Nat} {ws : List Rat} (ho : t.Ok n z) (hm : t.nomean = true) (hw : ws.length = n) (hq : ∀ q ∈ ws, 0 ≤ q ∧ q ≤ 1) (ht : 0 ≤ t.val ws ∧ t.val ws ≤ 1) (h0 : 0 ≤ t.val (end01 n [])) (h1 : ∀ S, t.val (end01 n S) ≤ 1) : outc t n ws = t.val ws := by
  have key : ∀ x : Rat, 0 < x → x ≤ 1 → (x ≤ t.val (end01 n ((List.range n).filter fun p => decide (x ≤ ws.getD p 0))) ↔ x ≤ t.val ws) := fun x x0 x1 => by
    refine val_both (bothL_of (by rw [end01_len, hw]) fun i a b ha hb => ?_) t hm
    have il : i < n := by have := (List.getElem?_eq_some_iff.mp ha).1; rwa [end01_len] at this
    rw [end01_get il] at ha
    cases ha
    have eb : ws.getD i 0 = b := by rw [List.getD_eq_getElem?_getD, hb]; rfl
    have em : (i ∈ (List.range n).filter fun p => decide (x ≤ ws.getD p 0)) ↔ x ≤ b := by
      rw [List.mem_filter, List.mem_range, decide_eq_true_iff, eb]
      exact ⟨fun h => h.2, fun h => ⟨il, h⟩⟩
    unfold Both
    by_cases c : x ≤ b
    · rw [if_pos (em.mpr c)]
      exact ⟨fun _ => c, fun _ => x1⟩
    · rw [if_neg (fun h => c (em.mp h))]
      constructor
      · intro h; grind
      · intro h; exact absurd h c
  have a : t.val ws ≤ outc t n ws := by
    by_cases c : 0 < t.val ws
    · exact outc_ge ho hw (fun p hp => List.mem_range.mp (List.mem_filter.mp hp).1) ((key _ c ht.2).mpr (by grind)) fun p hp => of_decide_eq_true (List.mem_filter.mp hp).2
    · have : t.val ws = 0 := by grind
      have := outc_ge ho hw (S := []) (x := 0) (by simp) h0 (by simp)
      grind
  have b : outc t n ws ≤ t.val ws := by
    obtain ⟨S, g1, g2, g3, _⟩ := outc_at (t := t) hw
    by_cases c : 0 < outc t n ws
    · have o1 : outc t n ws ≤ 1 := by have := h1 S; grind
      refine (key _ c o1).mp ?_
      have sub : t.val (end01 n S) ≤ t.val (end01 n ((List.range n).filter fun p => decide (outc t n ws ≤ ws.getD p 0))) := val_sub ho fun p hp => List.mem_filter.mpr ⟨List.mem_range.mpr (g1 p hp), decide_eq_true (g3 p hp)⟩
      grind
    · have := ht.1
      grind
  grind
end CB

set_option Elab.async false
set_option linter.all false
set_option maxRecDepth 100000
set_option maxHeartbeats 4000000
namespace CB
open PySem PySem.Spec PyProof.Rows L2
open C8 (Cal Met Mak pe_c pe_mk pe_mt pe_mt0 pe_gc CalAt)
section
variable {P : Program} {w : World} {K : PySem.W.Frag} {mg : Str → Option Value} {base : Heap}
/-- a drawn term, with what its bottoms divide; no mean where none may be -/
structure DrawnE (n d : Nat) (m : Bool) (t : Tm) : Prop extends DrawnD n d t where
  nm : m = false → t.nomean = true
theorem nomeans_all : ∀ {ts : List Tm}, (∀ t ∈ ts, t.nomean = true) → Tm.nomeans ts = true
  | [], _ => rfl
  | t :: ts, h => by
    show (t.nomean && Tm.nomeans ts) = true
    rw [h t List.mem_cons_self, nomeans_all (ts := ts) fun u hu => h u (List.mem_cons_of_mem _ hu)]; rfl
def sp__law_termE (K : PySem.W.Frag) (d : Nat) : Sp := fun vs H Q _ => ∃ (da : Addr × Addr) (n : Nat) (m : Bool), vs = [.ref da.1, .int (n : Int), .int ((d : Int) + 1), .bl m] ∧ Dice H da ∧ 1 ≤ n ∧ n ≤ 6 ∧
  ∀ (v : V) (t : Tm) (H' : Hp), Rp K H' v t.data → DrawnE n d m t → Dice H' da → KD da.1 H H' → Q v H'
def spTE (K : PySem.W.Frag) (D : Nat) : Sp := fun vs H Q E => ∃ d, d < D ∧ sp__law_termE K d vs H Q E
theorem ok__law_term_n_t (F : FnD K mg "_law_term" s__law_term) (c__law_draw : Cal P w K mg base 1 "_law_draw" sp__law_draw []) (c__law_number_t : Cal P w K mg base 2 "_law_number" (sp__law_numberD K) [])
    (c__law_sorted : Cal P w K mg base 2 "_law_sorted" (sp__law_sorted K) []) (T_len : mg "len" = none) (T_range : mg "range" = none) (T_tuple : mg "tuple" = none) : ∀ D : Nat, Cal P w K mg base (D + 4) "_law_term" (spTE K D) [] := by
  have c__law_number := c__law_number_t
  intro D
  induction D with
  | zero => exact calOf (k := 3) F sc__law_term (fun _ _ _ _ _ _ us hl => match us, hl with | [_, _, _, _], _ => rfl) (fun vs H Q E h => by obtain ⟨d, h, _⟩ := h; cases h) (fun cdv f A outer s H vs Q E hr h => by obtain ⟨d, h, _⟩ := h; cases h)
  | succ D ih =>
    have c__law_term := ih
    refine calOf (k := D + 4) F sc__law_term (fun _ _ _ _ _ _ us hl => match us, hl with | [_, _, _, _], _ => rfl) (fun vs H Q E h => ?_) (fun cdv f A outer s H vs Q E hr h => ?_)
    · obtain ⟨_, _, _, _, _, rfl, _⟩ := h
      rfl
    · obtain ⟨d, hdD, da, n, m, rfl, hd, hn1, hn6, k⟩ := h
      refine ⟨_, (pss_cons (ps_set (i := 4) sc__law_term.nd rfl (Or.inl rfl) (pe_c c__law_draw hr (by first | decide | omega) rfl (pa_cons (pv 0) (pa_cons pe_int pa_nil))))
    (C8.pss_cut (ps_if (PW.pt (pw_or (pt_cmpR op_eq (pv 2) pe_int (nomark _)) (pw_or1 (pt_cmpR op_eq (pv 4) pe_int (nomark _))))) (pss_cons (ps_if (pt_cmpR op_eq (pe_c c__law_draw hr (by first | decide | omega) rfl (pa_cons (pv 0) (pa_cons pe_int pa_nil))) pe_int (nomark _)) (pss_one (ps_ret (pe_tup (pa_cons pe_str (pa_cons (pe_c c__law_number hr (by first | decide | omega) rfl (pa_cons (pv 0) pa_nil)) pa_nil))))) pss_nil)
    (pss_one (ps_ret (pe_tup (pa_cons pe_str (pa_cons (pe_c c__law_draw hr (by first | decide | omega) rfl (pa_cons (pv 0) (pa_cons (pv 1) pa_nil))) pa_nil)))))) pss_nil)
    (pss_cons (ps_setLc (i := 5) (own := [("_law_k", 7)]) (by rfl) sc__law_term.nd rfl rfl (sw_true rfl rfl rfl (by decide +kernel)) (pi_range1 (by rfl) T_range (pa_cons (pe_op op_add pe_int (pe_c c__law_draw hr (by first | decide | omega) rfl (pa_cons (pv 0) (pa_cons pe_int pa_nil)))) pa_nil)) (blkOk_by (own := [("_law_k", 7)]) (N := ["_law_dice_here", "_law_people", "_law_deep", "_law_means", "_law_kind", "_law_parts", "_law_ends", "_law_k", "_law_part"]) (sc := defScope s__law_term) (by decide +kernel)) (fun _ _ _ _ _ => (pg_name (i := 7) sc__law_term.nd rfl (Or.inl rfl))) (fun _ _ _ _ _ => pts_nil) (fun _ _ _ _ _ => (pe_c c__law_term hr (by first | decide | omega) rfl (pa_cons (pv 0) (pa_cons (pv 1) (pa_cons (pe_op op_sub (pv 2) pe_int) (pa_cons (pv 3) pa_nil)))))))
    (pss_cons (ps_if (pt_cmpR op_eq (pv 4) pe_int (nomark _)) (pss_cons (ps_set (i := 6) sc__law_term.nd rfl (Or.inl rfl) (pe_c c__law_sorted hr (by first | decide | omega) rfl (pa_cons (pe_lst (pa_cons (pe_c c__law_number hr (by first | decide | omega) rfl (pa_cons (pv 0) pa_nil)) (pa_cons (pe_c c__law_number hr (by first | decide | omega) rfl (pa_cons (pv 0) pa_nil)) pa_nil))) pa_nil)))
    (pss_one (ps_ret (pe_tup (pa_cons pe_str (pa_cons (pe_ix ix_list (pv 6) pe_int (fun _ _ => rfl)) (pa_cons (pe_ix ix_list (pv 6) pe_int (fun _ _ => rfl)) (pa_cons (pe_ix ix_list (pv 5) pe_int (fun _ _ => rfl)) pa_nil)))))))) pss_nil)
    (pss_cons (ps_if (pt_cmpR op_eq (pv 4) pe_int (nomark _)) (pss_one (ps_ret (pe_tup (pa_cons pe_str (pa_cons (pe_callTy call_tuple_of (by rfl) T_tuple (by decide +kernel) (pa_cons (pv 5) pa_nil)) pa_nil))))) pss_nil)
    (pss_cons (ps_if (pt_cmpR op_eq (pv 4) pe_int (nomark _)) (pss_one (ps_ret (pe_tup (pa_cons pe_str (pa_cons (pe_callTy call_tuple_of (by rfl) T_tuple (by decide +kernel) (pa_cons (pv 5) pa_nil)) pa_nil))))) pss_nil)
    (pss_cons (ps_if (PW.pt (pw_or (pt_cmpR op_eq (pv 4) pe_int (nomark _)) (pw_or1 (pt_not (pt_val (pv 3)))))) (pss_one (ps_ret (pe_tup (pa_cons pe_str (pa_cons (pe_op op_add pe_int (pe_c c__law_draw hr (by first | decide | omega) rfl (pa_cons (pv 0) (pa_cons (pe_callB call_len_seq (by rfl) T_len PySem.boot_len (pa_cons (pv 5) pa_nil)) pa_nil)))) (pa_cons (pe_callTy call_tuple_of (by rfl) T_tuple (by decide +kernel) (pa_cons (pv 5) pa_nil)) pa_nil)))))) pss_nil)
    (pss_one (ps_ret (pe_tup (pa_cons pe_str (pa_cons (pe_callTy call_tuple_of (by rfl) T_tuple (by decide +kernel) (pa_cons (pe_lc (own := [("_law_part", 8)]) (by rfl) sc__law_term.nd (pi_list (pv 5)) (blkOk_by (own := [("_law_part", 8)]) (N := ["_law_dice_here", "_law_people", "_law_deep", "_law_means", "_law_kind", "_law_parts", "_law_ends", "_law_k", "_law_part"]) (sc := defScope s__law_term) (by decide +kernel)) (fun _ _ _ _ _ => (pg_name (i := 8) sc__law_term.nd rfl (Or.inl rfl))) (fun _ _ _ _ _ => pts_nil) (fun _ _ _ _ _ => (pe_tup (pa_cons (pe_op op_add pe_int (pe_c c__law_draw hr (by first | decide | omega) rfl (pa_cons (pv 0) (pa_cons pe_int pa_nil)))) (pa_cons (pv 8) pa_nil))))) pa_nil)) pa_nil)))))))))))), ?_⟩
      refine ⟨_, rfl, da, 8, rfl, hd, by decide, by decide, fun kind H1 kd0 kd1 d1 e1 => ?_⟩
      have fin : ∀ (v : V) (t : Tm) (H' : Hp), Rp K H' v t.data → DrawnE n d m t → Dice H' da → KD da.1 H1 H' → Q v H' := fun v t H' a b c e => k v t H' a b c (e1.trans e)
      clear k hd e1
      have nd : ∀ {D : Addr} {H' : Hp}, Dice H' da → H' D = none → D ≠ da.1 ∧ D ≠ da.2 := fun a b => a.ne b
      refine ⟨fun σ H' => σ = [some (.ref da.1), some (.int (n : Int)), some (.int ((d : Int) + 1)), some (.bl m), some (.int kind), none, none, none, none] ∧ H' = H1 ∧ d ≠ 0, ?_, ?_⟩
      · -- a bid or a fixed number
        refine ⟨_, rfl, rfl, _, rfl, ?_⟩
        refine (fun leaf => ite2 (fun _ => leaf) (fun c1 => ⟨_, rfl, rfl, _, rfl, ite2 (fun _ => leaf) (fun c2 => ⟨rfl, rfl, fun z => c1 (decide_eq_true (by rw [z]; rfl))⟩)⟩)) ?_
        refine ⟨_, rfl, da, 5, rfl, d1, by decide, by decide, fun r H2 _ _ d2 e2 => ⟨rfl, _, rfl, ite2 (fun _ => ?_) (fun _ => ?_)⟩⟩
        · refine ⟨_, rfl, da, rfl, d2, fun v q H3 nq dq rq d3 e3 => ⟨(by show 2 ≤ sizeLine; decide), fun p hp => ?_⟩⟩
          refine fin _ (.fixed q) _ (.tup (SqT.of upd_same) (.cons (.str _) (.cons (rq.mono (Same.kt (same_new hp))).rp .nil))) ⟨⟨⟨nq, by show 1 ≤ d + 1; omega, cB_pos d, fun s => wB_ge s d, fun s => wC_ge s d⟩, dq⟩, fun _ => rfl⟩ (d3.same (same_new hp)) ((e2.trans e3).new hp)
        · refine ⟨_, rfl, _, rfl, da, (n : Int), rfl, d2, by omega, by omega, fun r3 H3 g0 g1 d3 e3 => ⟨(by show 2 ≤ sizeLine; decide), fun p hp => ?_⟩⟩
          have er : ((r3.toNat : Nat) : Int) = r3 := Int.toNat_of_nonneg g0
          refine fin _ (.bid r3.toNat) _ (.tup (SqT.of upd_same) (.cons (.str _) (.cons (by rw [er]; exact .int _) .nil))) ⟨⟨⟨(by show r3.toNat < n; omega), by show 1 ≤ d + 1; omega, cB_pos d, fun s => wB_ge s d, fun s => wC_ge s d⟩, trivial⟩, fun _ => rfl⟩ (d3.same (same_new hp)) ((e2.trans e3).new hp)
      · rintro σ H' ⟨rfl, rfl, hd0⟩
        obtain ⟨d', rfl⟩ : ∃ d', d = d' + 1 := ⟨d - 1, by omega⟩
        refine ⟨_, rfl, da, 3, rfl, d1, by decide, by decide, fun r H2 r0 r1 d2 e2 => ⟨_, _, rfl, rfl, _, rfl, by omega, by omega, fun D hD => ?_⟩⟩
        have nD := nd d2 hD
        refine lc_range (lo := 0) (n := (1 + r).toNat) (fun i H' => ∃ (ys : List V) (ts : List Tm), H' D = some (.lst ys) ∧ ts.length = i ∧ RTs K H' ys ts ∧ (∀ t ∈ ts, DrawnE n d' m t) ∧ Dice H' da ∧ KD da.1 H2 H')
          ⟨[], [], upd_same, rfl, .nil, by simp, d2.same (same_new hD), Same.kd (same_new hD)⟩ ?_ ?_
        · rintro i H' hi ⟨ys, ts, h1, h2, h3, h4, h5, h6⟩
          have ea : ((d' + 1 : Nat) : Int) + 1 - 1 = (d' : Int) + 1 := by omega
          refine ⟨rfl, _, rfl, _, rfl, _, rfl, _, _, rfl, rfl, _, rfl, d', by omega, da, n, m, congrArg (fun z => [V.ref da.1, V.int (n : Int), V.int z, V.bl m]) ea, h5, hn1, hn6, fun v t H3 rt dt d3 e3 => ?_⟩
          have hD3 := e3 D _ nD.1 h1
          refine ⟨ys, hD3, small1000 (by rw [h3.length, h2]; omega), ys ++ [v], ts ++ [t], upd_same, by simp [h2], RpAll.mono (KT.updl hD3) (RTs.snoc (RpAll.mono (h5.kt e3) h3) rt), ?_, d3.upd nD, (h6.trans e3).mut hD⟩
          intro x hx
          rcases List.mem_append.mp hx with h | h
          · exact h4 x h
          · rw [List.mem_singleton.mp h]
            exact dt
        · rintro H3 ⟨ys, ts, h1, h2, h3, h4, d3, e3⟩
          have e13 := e2.trans e3
          obtain ⟨po, pne, pdep, pcnt, pwt, pwt2⟩ := parts_ok (fun t h => (h4 t h).toDrawnD.toDrawn) (by omega) (by omega)
          have pdv : Tm.Dvs N0 W0 ts := (dvs_iff _ _ _).mpr fun t h => (h4 t h).dv
          have pnm : m = false → Tm.nomeans ts = true := fun e => nomeans_all fun t h => (h4 t h).nm e
          have tl : ts.length ≤ 3 := by omega
          have hyl := h3.length
          have tup : ∀ (p : Addr) (H' : Hp), KT H3 H' → H' p = some (.tup ys) → Rp K H' (.ref p) (.tuple (Tm.datas ts)) := fun p H' e hp => .tup (SqT.of hp) (RpAll.mono e h3)
          have drawn : ∀ t : Tm, t.Ok n 20 → t.dep ≤ d' + 1 + 1 → t.cnt ≤ 3 * cB d' + 1 → (∀ s, t.wt s ≤ 3 * (wB s d' + 8) + 12 + 2 * s) → (∀ s, t.wt s ≤ max (3 * (wC s d' + 8) + 12) (wC s d' + 2 * s)) → t.Dv N0 W0 → (m = false → t.nomean = true) → DrawnE n (d' + 1) m t := fun t a b c e e2 dv nm => ⟨⟨⟨a, b, by show _ ≤ 1 + 3 * cB d'; omega, e, e2⟩, dv⟩, nm⟩
          -- between
          refine ⟨_, rfl, rfl, _, rfl, ite2 (fun _ => ?_) (fun _ => ?_)⟩
          · refine ⟨_, rfl, da, rfl, d3, fun v1 q1 H4 nq1 dq1 rq1 d4 e4 => ⟨_, rfl, da, rfl, d4, fun v2 q2 H5 nq2 dq2 rq2 d5 e5 => ⟨(by show 2 ≤ sizeLine; decide), fun p hp => ?_⟩⟩⟩
            have s6 := same_new (o := .lst [v1, v2]) hp
            have rq1' := (rq1.mono (d4.kt e5)).mono (Same.kt s6)
            have rq2' := rq2.mono (Same.kt s6)
            refine ⟨p, [v1, v2], [q1, q2], rfl, SqL.of upd_same, .cons rq1'.rp (.cons rq2'.rp .nil), ?_, by show 2 ≤ 100; decide, fun pl zs H6 hpl s7 hz rz => ?_⟩
            · intro q hq
              rcases List.mem_cons.mp hq with h | h
              · rw [h]; exact nq1.2.2.mono (by omega)
              · rw [List.mem_singleton.mp h]; exact nq2.2.2.mono (by omega)
            have all : ∀ q ∈ isort [q1, q2], NumOk 20 q := by
              intro q hq
              rcases List.mem_cons.mp ((isort_perm [q1, q2]).mem_iff.mp hq) with h | h
              · rw [h]; exact nq1
              · rw [List.mem_singleton.mp h]; exact nq2
            have allD : ∀ q ∈ isort [q1, q2], q.den ∣ N0 := by
              intro q hq
              rcases List.mem_cons.mp ((isort_perm [q1, q2]).mem_iff.mp hq) with h | h
              · rw [h]; exact dq1
              · rw [List.mem_singleton.mp h]; exact dq2
            have hlen : (isort [q1, q2]).length = 2 := isort_length _
            obtain ⟨lo, hlo⟩ : ∃ lo, (isort [q1, q2])[0]? = some lo := ⟨_, List.getElem?_eq_getElem (by omega)⟩
            obtain ⟨hi, hhi⟩ : ∃ hi, (isort [q1, q2])[1]? = some hi := ⟨_, List.getElem?_eq_getElem (by omega)⟩
            obtain ⟨u0, z0, ru0⟩ := RQ.get rz hlo
            obtain ⟨u1, z1, ru1⟩ := RQ.get rz hhi
            obtain ⟨t0, ht0⟩ : ∃ t0, ts[0]? = some t0 := ⟨_, List.getElem?_eq_getElem (by omega)⟩
            have e35 : KD da.1 H3 H5 := e4.trans e5
            have kt35 : KT H3 H6 := ((d3.kt e4).trans (d4.kt e5)).trans (Same.kt (s6.trans s7))
            have hD6 : H6 D = some (.lst ys) := (s6.trans s7) D _ (e35 D _ nD.1 h1)
            obtain ⟨w0, y0, rw0⟩ := h3.get ht0
            refine ⟨_, rfl, _, _, _, _, rfl, rfl, SqL.of hz, at_of (j := 0) rfl z0, _, rfl, _, _, _, _, rfl, rfl, SqL.of hz, at_of (j := 1) rfl z1, _, rfl, _, _, _, _, rfl, rfl, SqL.of hD6, at_of (j := 0) rfl y0, (by show 4 ≤ sizeLine; decide), fun p4 hp4 => ?_⟩
            have s8 := same_new (o := .tup [.str "between", u0, u1, w0]) hp4
            have mt0 := List.mem_of_getElem? ht0
            have g0 := h4 t0 mt0
            refine fin _ (.between lo hi t0) _ (.tup (SqT.of upd_same) (.cons (.str _) (.cons (ru0.mono (Same.kt s8)).rp (.cons (ru1.mono (Same.kt s8)).rp (.cons ((rw0.mono kt35).mono (Same.kt s8)) .nil))))) ?_ (((d5.same s6).same s7).same s8) ((((e13.trans e35).trans (Same.kd (s6.trans s7))).new hp4))
            refine drawn _ ⟨all lo (List.mem_of_getElem? hlo), all hi (List.mem_of_getElem? hhi), srt_get_le (isort_srt _) hlo hhi (by omega), g0.ok⟩ ?_ ?_ ?_ ?_ ⟨allD lo (List.mem_of_getElem? hlo), allD hi (List.mem_of_getElem? hhi), g0.dv⟩ g0.nm
            · show t0.dep + 1 ≤ _
              have := g0.dep
              omega
            · show t0.cnt + 1 ≤ _
              have := g0.cnt
              have := cB_pos d'
              omega
            · intro s
              show t0.wt s + s + s ≤ _
              have := g0.wt s
              omega
            · intro s
              show t0.wt s + s + s ≤ _
              have := g0.wt2 s
              omega
          -- least
          refine ⟨_, rfl, rfl, _, rfl, ite2 (fun _ => ?_) (fun _ => ?_)⟩
          · refine ⟨_, rfl, D, ys, rfl, .inl ⟨SqL.of h1, fun l hl => ⟨(by show 2 ≤ sizeLine; decide), fun p hp => ?_⟩⟩⟩
            have s4 := same_new (o := .tup ys) hl
            have s5 := same_new (o := .tup [.str "least", .ref l]) hp
            refine fin _ (.least ts) _ (.tup (SqT.of upd_same) (.cons (.str _) (.cons (tup l _ (Same.kt (s4.trans s5)) (s5 _ _ upd_same)) .nil))) ?_ (d3.same (s4.trans s5)) (e13.trans (Same.kd (s4.trans s5)))
            exact drawn _ ⟨pne, by omega, po⟩ (by show Tm.deps ts + 1 ≤ _; omega) (by show Tm.cnts ts + 1 ≤ _; omega) (fun s => by show Tm.wts s ts ≤ _; have := pwt s; omega) (fun s => by show Tm.wts s ts ≤ _; have := pwt2 s; omega) pdv pnm
          refine ⟨_, rfl, rfl, _, rfl, ite2 (fun _ => ?_) (fun _ => ?_)⟩
          · refine ⟨_, rfl, D, ys, rfl, .inl ⟨SqL.of h1, fun l hl => ⟨(by show 2 ≤ sizeLine; decide), fun p hp => ?_⟩⟩⟩
            have s4 := same_new (o := .tup ys) hl
            have s5 := same_new (o := .tup [.str "greatest", .ref l]) hp
            refine fin _ (.greatest ts) _ (.tup (SqT.of upd_same) (.cons (.str _) (.cons (tup l _ (Same.kt (s4.trans s5)) (s5 _ _ upd_same)) .nil))) ?_ (d3.same (s4.trans s5)) (e13.trans (Same.kd (s4.trans s5)))
            exact drawn _ ⟨pne, by omega, po⟩ (by show Tm.deps ts + 1 ≤ _; omega) (by show Tm.cnts ts + 1 ≤ _; omega) (fun s => by show Tm.wts s ts ≤ _; have := pwt s; omega) (fun s => by show Tm.wts s ts ≤ _; have := pwt2 s; omega) pdv pnm
          -- ranked
          refine ⟨_, rfl, rfl, _, rfl, ?_⟩
          refine (fun rank => ite2 (fun _ => rank) (fun _ => ⟨_, rfl, _, rfl, ite2 (fun _ => rank) (fun cm => ?mean)⟩)) ?rank
          case mean =>
            -- mean
            refine ⟨_, rfl, D, rfl, ⟨_, SqL.of h1⟩, fun D2 hD2 => ?_⟩
            have nD2 := nd d3 hD2
            have nDD : D ≠ D2 := ne_of_none h1 hD2
            refine lc_list (K := K) (a := D) (xs := ys) (fun i H' => ∃ (zs : List V) (ws : List Int), H' D2 = some (.lst zs) ∧ ws.length = i ∧ RpAll K H' zs (meanD ws (Tm.datas (ts.take i))) ∧ (∀ w ∈ ws, 1 ≤ w ∧ w ≤ 5) ∧ Dice H' da ∧ KD da.1 H3 H' ∧ H' D = some (.lst ys))
              ⟨[], [], upd_same, rfl, .nil, by simp, d3.same (same_new hD2), Same.kd (same_new hD2), by rw [upd_ne nDD]; exact h1⟩ (fun i H' _ ⟨_, _, _, _, _, _, _, _, g⟩ => SqL.of g) ?_ ?_
            · rintro i y H' hi ⟨zs, ws, g1, g2, g3, g4, g5, g6, g7⟩
              obtain ⟨t, ht, rt⟩ := h3.getV hi
              refine ⟨rfl, _, rfl, da, 5, rfl, g5, by decide, by decide, fun x H5 x0 x1 d5 e5 => ⟨_, _, rfl, rfl, _, rfl, (by show 2 ≤ sizeLine; decide), fun p hp => ?_⟩⟩
              have s6 := same_new (o := .tup [.int (1 + x), y]) hp
              have hD5 := e5 D2 _ nD2.1 g1
              have hD6 := s6 _ _ hD5
              have kt36 : KT H3 H5 := (d3.kt g6).trans (g5.kt e5)
              have zl : zs.length ≤ 3 := by
                rw [g3.length]
                unfold meanD
                rw [List.length_zipWith, g2]
                have := (List.getElem?_eq_some_iff.mp hi).1
                omega
              have nDp : D ≠ p := ne_of_none (e5 D _ nD.1 g7) hp
              refine ⟨zs, hD6, small1000 (by omega), zs ++ [.ref p], ws ++ [1 + x], upd_same, by simp [g2], ?_, ?_, (d5.same s6).upd nD2, ((g6.trans e5).trans (Same.kd s6)).mut hD2, ?_⟩
              · refine RpAll.mono (KT.updl hD6) ?_
                have e1 : ts.take (i + 1) = ts.take i ++ [t] := take_succ' ht
                have e2 : meanD (ws ++ [1 + x]) (Tm.datas (ts.take (i + 1))) = meanD ws (Tm.datas (ts.take i)) ++ [.tuple [.int (1 + x), t.data]] := by
                  rw [e1, datas_map, datas_map, List.map_append]
                  unfold meanD
                  rw [List.zipWith_append]
                  · rfl
                  · rw [List.length_map, List.length_take, g2]
                    have := (List.getElem?_eq_some_iff.mp ht).1
                    omega
                rw [e2]
                exact RpAll.append (RpAll.mono ((g5.kt e5).trans (Same.kt s6)) g3) (.cons (.tup (SqT.of upd_same) (.cons (.int _) (.cons ((rt.mono kt36).mono (Same.kt s6)) .nil))) .nil)
              · intro w hw
                rcases List.mem_append.mp hw with h | h
                · exact g4 w h
                · rw [List.mem_singleton.mp h]
                  omega
              · rw [upd_ne nDD]
                exact s6 _ _ (e5 D _ nD.1 g7)
            · rintro H4 ⟨zs, ws, g1, g2, g3, g4, d4, e4, g7⟩
              rw [hyl, List.take_length] at g3
              refine ⟨D2, zs, rfl, .inl ⟨SqL.of g1, fun l hl => ⟨(by show 2 ≤ sizeLine; decide), fun p hp => ?_⟩⟩⟩
              have s4 := same_new (o := .tup zs) hl
              have s5 := same_new (o := .tup [.str "mean", .ref l]) hp
              refine fin _ (.mean ws ts) _ (.tup (SqT.of upd_same) (.cons (.str _) (.cons (.tup (SqT.of (s5 _ _ upd_same)) (RpAll.mono (Same.kt (s4.trans s5)) g3)) .nil))) ?_ (d4.same (s4.trans s5)) ((e13.trans e4).trans (Same.kd (s4.trans s5)))
              have g5w : ∀ w ∈ ws, 1 ≤ w ∧ w ≤ 5 := g4
              exact drawn _ ⟨by rw [g2, hyl], pne, by omega, fun w h => ⟨(g4 w h).1, by have := (g4 w h).2; omega⟩, po⟩ (by show Tm.deps ts + 1 ≤ _; omega) (by show Tm.cnts ts + 1 ≤ _; omega) (fun s => by show Tm.wts s ts + 12 ≤ _; have := pwt s; omega) (fun s => by show Tm.wts s ts + 12 ≤ _; have := pwt2 s; omega) ⟨(sum_dvd (by have := (sum_bd g5w).1; omega) (by have := (sum_bd g5w).2; omega)).1, (sum_dvd (by have := (sum_bd g5w).1; omega) (by have := (sum_bd g5w).2; omega)).2, pdv⟩ (fun e => absurd (show (!m) = true by rw [e]; rfl) cm)
          case rank =>
            refine ⟨_, rfl, _, rfl, D, ys, rfl, .inl (SqL.of h1), da, (ys.length : Int), rfl, d3, by omega, by omega, fun x H4 x0 x1 d4 e4 => ⟨_, _, rfl, rfl, _, rfl, D, ys, rfl, .inl ⟨SqL.of (e4 D _ nD.1 h1), fun l hl => ⟨(by show 3 ≤ sizeLine; decide), fun p hp => ?_⟩⟩⟩⟩
            have s4 := same_new (o := .tup ys) hl
            have s5 := same_new (o := .tup [.str "ranked", .int (1 + x), .ref l]) hp
            have er : (((1 + x).toNat : Nat) : Int) = 1 + x := Int.toNat_of_nonneg (by omega)
            refine fin _ (.ranked (1 + x).toNat ts) _ (.tup (SqT.of upd_same) (.cons (.str _) (.cons (by rw [er]; exact .int _) (.cons (tup l _ ((d3.kt e4).trans (Same.kt (s4.trans s5))) (s5 _ _ upd_same)) .nil)))) ?_ (d4.same (s4.trans s5)) ((e13.trans e4).trans (Same.kd (s4.trans s5)))
            exact drawn _ ⟨by omega, by omega, by omega, po⟩ (by show Tm.deps ts + 1 ≤ _; omega) (by show Tm.cnts ts + 1 ≤ _; omega) (fun s => by show Tm.wts s ts ≤ _; have := pwt s; omega) (fun s => by show Tm.wts s ts ≤ _; have := pwt2 s; omega) pdv pnm
end
end CB

set_option Elab.async false
set_option linter.all false
set_option maxRecDepth 100000
set_option maxHeartbeats 4000000
/-! terms mirrored -/
namespace CB
open PySem PySem.Spec PyProof.Rows L2
def flL (l : List Rat) : List Rat := l.map fun q => 1 - q
theorem flL_len (l : List Rat) : (flL l).length = l.length := List.length_map _
theorem flL_get {l : List Rat} {i : Nat} (h : i < l.length) : (flL l).getD i 0 = 1 - l.getD i 0 := by
  unfold flL
  rw [List.getD_eq_getElem?_getD, List.getD_eq_getElem?_getD, List.getElem?_map, List.getElem?_eq_getElem h]
  rfl
theorem isort_fl (l : List Rat) : isort (flL l) = flL (isort l).reverse := by
  refine isort_of ?_ ?_
  · unfold flL
    refine List.Pairwise.map _ (fun a b (h : b ≤ a) => by grind) ?_
    exact List.pairwise_reverse.mpr (isort_srt l)
  · unfold flL
    exact ((List.reverse_perm _).trans (isort_perm l)).map _
theorem kthG_fl {l : List Rat} {k : Nat} (h : k < l.length) : kthG k (flL l) = 1 - kthG (l.length - 1 - k) l := by
  have a := kthG_isort k (flL l) (by rw [flL_len]; exact h)
  have b := kthG_isort (l.length - 1 - k) l (by omega)
  rw [isort_fl, flL_len] at a
  unfold flL at a
  rw [List.getElem?_map, List.getElem?_reverse (by rw [isort_length]; omega), isort_length] at a
  rw [b] at a
  exact (Option.some.inj (show some (1 - kthG (l.length - 1 - k) l) = some (kthG k (flL l)) from a)).symm
theorem flL_ne {l : List Rat} (h : l ≠ []) : flL l ≠ [] := by
  intro e
  exact h (List.map_eq_nil_iff.mp e)
theorem maxL_fl {l : List Rat} (h : l ≠ []) : maxL (flL l) = 1 - minL l := by
  obtain ⟨a1, a2⟩ := maxL_mem (flL_ne h)
  obtain ⟨b1, b2⟩ := minL_mem h
  obtain ⟨x, hx, e⟩ := List.mem_map.mp a1
  have c := a2 (1 - minL l) (List.mem_map.mpr ⟨_, b1, rfl⟩)
  have d := b2 x hx
  grind
theorem minL_fl {l : List Rat} (h : l ≠ []) : minL (flL l) = 1 - maxL l := by
  obtain ⟨a1, a2⟩ := minL_mem (flL_ne h)
  obtain ⟨b1, b2⟩ := maxL_mem h
  obtain ⟨x, hx, e⟩ := List.mem_map.mp a1
  have c := a2 (1 - maxL l) (List.mem_map.mpr ⟨_, b1, rfl⟩)
  have d := b2 x hx
  grind
theorem wsum_fl : ∀ {ws : List Int} {qs : List Rat}, ws.length = qs.length → (List.zipWith (fun (w : Int) (q : Rat) => (w : Rat) * q) ws (flL qs)).sum = ((ws.sum : Int) : Rat) - (List.zipWith (fun (w : Int) (q : Rat) => (w : Rat) * q) ws qs).sum
  | [], [], _ => by
    show (0 : Rat) = ((0 : Int) : Rat) - 0
    grind
  | w :: ws, q :: qs, h => by
    have ih := wsum_fl (ws := ws) (qs := qs) (by simpa using h)
    show ((w : Rat) * (1 - q) + (List.zipWith (fun (w : Int) (q : Rat) => (w : Rat) * q) ws (flL qs)).sum) = _
    rw [ih, List.sum_cons, List.zipWith_cons_cons, List.sum_cons, Rat.intCast_add]
    grind
theorem wavg_fl {ws : List Int} {qs : List Rat} (h : ws.length = qs.length) (hs : ws.sum ≠ 0) : wavg ws (flL qs) = 1 - wavg ws qs := by
  unfold wavg
  rw [wsum_fl h]
  have ne : ((ws.sum : Int) : Rat) ≠ 0 := fun e => hs (Rat.intCast_inj.mp e)
  generalize (List.zipWith (fun (w : Int) (q : Rat) => (w : Rat) * q) ws qs).sum = a
  generalize ((ws.sum : Int) : Rat) = b at ne
  grind
theorem num_le_den {q : Rat} (h : q ≤ 1) : q.num ≤ (q.den : Int) := by
  have := (Rat.le_iff q 1).mp h
  simpa using this
theorem fl_divInt (q : Rat) : 1 - q = Rat.divInt ((q.den : Int) - q.num) (q.den : Int) := by
  have hd := den_pos q
  have e : Rat.divInt ((q.den : Int) - q.num) (q.den : Int) = Rat.divInt (q.den : Int) (q.den : Int) - Rat.divInt q.num (q.den : Int) := by
    rw [Rat.divInt_sub_divInt _ _ (by omega) (by omega), Rat.divInt_eq_divInt_iff (by omega) (by have := Int.mul_pos hd hd; omega)]
    grind
  rw [e, divInt_self', show Rat.divInt (q.den : Int) (q.den : Int) = 1 by
    rw [show (1 : Rat) = Rat.divInt 1 1 from rfl, Rat.divInt_eq_divInt_iff (by omega) (by omega)]; omega]
theorem NumOk.fl {s : Nat} {q : Rat} (h : NumOk s q) : NumOk s (1 - q) := by
  rw [fl_divInt]
  have hn : 0 ≤ q.num := Rat.num_nonneg.mpr h.1
  have hl := num_le_den h.2.1
  exact numOk_divInt (by omega) (by omega) (den_pos q) (by have := h.2.2.2; omega)
mutual
def Tm.mir : Tm → Tm
  | .bid p => .bid p
  | .fixed q => .fixed (1 - q)
  | .mean ws ts => .mean ws (Tm.mirs ts)
  | .least ts => .greatest (Tm.mirs ts)
  | .greatest ts => .least (Tm.mirs ts)
  | .ranked k ts => .ranked (ts.length + 1 - k) (Tm.mirs ts)
  | .between lo hi t => .between (1 - hi) (1 - lo) t.mir
def Tm.mirs : List Tm → List Tm
  | [] => []
  | t :: ts => t.mir :: Tm.mirs ts
end
theorem mirs_map : ∀ ts : List Tm, Tm.mirs ts = ts.map Tm.mir
  | [] => rfl
  | t :: ts => by rw [Tm.mirs, mirs_map ts]; rfl
theorem mirs_len (ts : List Tm) : (Tm.mirs ts).length = ts.length := by rw [mirs_map, List.length_map]
mutual
theorem mir_wt (s : Nat) : ∀ t : Tm, t.mir.wt s = t.wt s
  | .bid _ => rfl
  | .fixed _ => rfl
  | .mean ws ts => by show Tm.wts s (Tm.mirs ts) + 12 = Tm.wts s ts + 12; rw [mirs_wts s ts]
  | .least ts => mirs_wts s ts
  | .greatest ts => mirs_wts s ts
  | .ranked k ts => mirs_wts s ts
  | .between lo hi t => by show t.mir.wt s + s + s = t.wt s + s + s; rw [mir_wt s t]
theorem mirs_wts (s : Nat) : ∀ ts : List Tm, Tm.wts s (Tm.mirs ts) = Tm.wts s ts
  | [] => rfl
  | t :: ts => by show t.mir.wt s + 8 + Tm.wts s (Tm.mirs ts) = t.wt s + 8 + Tm.wts s ts; rw [mir_wt s t, mirs_wts s ts]
end
mutual
theorem mir_dep : ∀ t : Tm, t.mir.dep = t.dep
  | .bid _ => rfl
  | .fixed _ => rfl
  | .mean ws ts => by show Tm.deps (Tm.mirs ts) + 1 = Tm.deps ts + 1; rw [mirs_deps ts]
  | .least ts => by show Tm.deps (Tm.mirs ts) + 1 = Tm.deps ts + 1; rw [mirs_deps ts]
  | .greatest ts => by show Tm.deps (Tm.mirs ts) + 1 = Tm.deps ts + 1; rw [mirs_deps ts]
  | .ranked k ts => by show Tm.deps (Tm.mirs ts) + 1 = Tm.deps ts + 1; rw [mirs_deps ts]
  | .between lo hi t => by show t.mir.dep + 1 = t.dep + 1; rw [mir_dep t]
theorem mirs_deps : ∀ ts : List Tm, Tm.deps (Tm.mirs ts) = Tm.deps ts
  | [] => rfl
  | t :: ts => by show max t.mir.dep (Tm.deps (Tm.mirs ts)) = max t.dep (Tm.deps ts); rw [mir_dep t, mirs_deps ts]
end
mutual
theorem mir_cnt : ∀ t : Tm, t.mir.cnt = t.cnt
  | .bid _ => rfl
  | .fixed _ => rfl
  | .mean ws ts => by show Tm.cnts (Tm.mirs ts) + 1 = Tm.cnts ts + 1; rw [mirs_cnts ts]
  | .least ts => by show Tm.cnts (Tm.mirs ts) + 1 = Tm.cnts ts + 1; rw [mirs_cnts ts]
  | .greatest ts => by show Tm.cnts (Tm.mirs ts) + 1 = Tm.cnts ts + 1; rw [mirs_cnts ts]
  | .ranked k ts => by show Tm.cnts (Tm.mirs ts) + 1 = Tm.cnts ts + 1; rw [mirs_cnts ts]
  | .between lo hi t => by show t.mir.cnt + 1 = t.cnt + 1; rw [mir_cnt t]
theorem mirs_cnts : ∀ ts : List Tm, Tm.cnts (Tm.mirs ts) = Tm.cnts ts
  | [] => rfl
  | t :: ts => by show t.mir.cnt + Tm.cnts (Tm.mirs ts) = t.cnt + Tm.cnts ts; rw [mir_cnt t, mirs_cnts ts]
end
theorem mirs_ne {ts : List Tm} (h : ts ≠ []) : Tm.mirs ts ≠ [] := by
  intro e
  have := mirs_len ts
  rw [e] at this
  exact h (List.eq_nil_of_length_eq_zero this.symm)
mutual
theorem mir_ok {n s : Nat} : ∀ {t : Tm}, t.Ok n s → t.mir.Ok n s
  | .bid p, h => h
  | .fixed q, h => NumOk.fl h
  | .mean ws ts, h => ⟨by rw [mirs_len]; exact h.1, mirs_ne h.2.1, by rw [mirs_len]; exact h.2.2.1, h.2.2.2.1, mirs_ok h.2.2.2.2⟩
  | .least ts, h => ⟨mirs_ne h.1, by rw [mirs_len]; exact h.2.1, mirs_ok h.2.2⟩
  | .greatest ts, h => ⟨mirs_ne h.1, by rw [mirs_len]; exact h.2.1, mirs_ok h.2.2⟩
  | .ranked k ts, h => by
    obtain ⟨h1, h2, h3, h4⟩ := h
    exact ⟨by omega, by rw [mirs_len]; omega, by rw [mirs_len]; exact h3, mirs_ok h4⟩
  | .between lo hi t, h => by
    obtain ⟨h1, h2, h3, h4⟩ := h
    exact ⟨NumOk.fl h2, NumOk.fl h1, by grind, mir_ok h4⟩
theorem mirs_ok {n s : Nat} : ∀ {ts : List Tm}, Tm.Oks n s ts → Tm.Oks n s (Tm.mirs ts)
  | [], _ => trivial
  | t :: ts, h => ⟨mir_ok h.1, mirs_ok h.2⟩
end
mutual
theorem mir_mir {n s : Nat} : ∀ {t : Tm}, t.Ok n s → t.mir.mir = t
  | .bid p, h => rfl
  | .fixed q, h => by show Tm.fixed (1 - (1 - q)) = _; rw [show 1 - (1 - q) = q by grind]
  | .mean ws ts, h => by show Tm.mean ws (Tm.mirs (Tm.mirs ts)) = _; rw [mirs_mirs h.2.2.2.2]
  | .least ts, h => by show Tm.least (Tm.mirs (Tm.mirs ts)) = _; rw [mirs_mirs h.2.2]
  | .greatest ts, h => by show Tm.greatest (Tm.mirs (Tm.mirs ts)) = _; rw [mirs_mirs h.2.2]
  | .ranked k ts, h => by
    obtain ⟨h1, h2, h3, h4⟩ := h
    show Tm.ranked ((Tm.mirs ts).length + 1 - (ts.length + 1 - k)) (Tm.mirs (Tm.mirs ts)) = _
    rw [mirs_mirs h4, mirs_len, show ts.length + 1 - (ts.length + 1 - k) = k by omega]
  | .between lo hi t, h => by
    show Tm.between (1 - (1 - lo)) (1 - (1 - hi)) t.mir.mir = _
    rw [mir_mir h.2.2.2, show 1 - (1 - lo) = lo by grind, show 1 - (1 - hi) = hi by grind]
theorem mirs_mirs {n s : Nat} : ∀ {ts : List Tm}, Tm.Oks n s ts → Tm.mirs (Tm.mirs ts) = ts
  | [], _ => rfl
  | t :: ts, h => by show t.mir.mir :: Tm.mirs (Tm.mirs ts) = _; rw [mir_mir h.1, mirs_mirs h.2]
end
theorem sum_pos' : ∀ {ws : List Int}, ws ≠ [] → (∀ w ∈ ws, 1 ≤ w) → 0 < ws.sum
  | [], h, _ => absurd rfl h
  | [w], _, h => by have := h w List.mem_cons_self; simp; omega
  | w :: v :: ws, _, h => by
    have := sum_pos' (ws := v :: ws) (by simp) fun x hx => h x (List.mem_cons_of_mem _ hx)
    have := h w List.mem_cons_self
    rw [List.sum_cons]
    omega
mutual
theorem mir_val {n s : Nat} {bs : List Rat} (hb : bs.length = n) : ∀ {t : Tm}, t.Ok n s → t.mir.val (flL bs) = 1 - t.val bs
  | .bid p, h => flL_get (by rw [hb]; exact h)
  | .fixed q, h => rfl
  | .mean ws ts, h => by
    obtain ⟨h1, h2, h3, h4, h5⟩ := h
    show wavg ws (Tm.vals (flL bs) (Tm.mirs ts)) = 1 - wavg ws (Tm.vals bs ts)
    rw [mirs_vals hb h5]
    refine wavg_fl (by rw [vals_map, List.length_map]; exact h1) ?_
    have : 0 < ws.sum := sum_pos' (by intro e; rw [e] at h1; exact h2 (List.eq_nil_of_length_eq_zero h1.symm)) fun w hw => (h4 w hw).1
    omega
  | .least ts, h => by
    show maxL (Tm.vals (flL bs) (Tm.mirs ts)) = 1 - minL (Tm.vals bs ts)
    rw [mirs_vals hb h.2.2]
    exact maxL_fl (by rw [vals_map]; intro e; exact h.1 (List.map_eq_nil_iff.mp e))
  | .greatest ts, h => by
    show minL (Tm.vals (flL bs) (Tm.mirs ts)) = 1 - maxL (Tm.vals bs ts)
    rw [mirs_vals hb h.2.2]
    exact minL_fl (by rw [vals_map]; intro e; exact h.1 (List.map_eq_nil_iff.mp e))
  | .ranked k ts, h => by
    obtain ⟨h1, h2, h3, h4⟩ := h
    have vl : (Tm.vals bs ts).length = ts.length := by rw [vals_map, List.length_map]
    show kthG (ts.length + 1 - k - 1) (Tm.vals (flL bs) (Tm.mirs ts)) = 1 - kthG (k - 1) (Tm.vals bs ts)
    rw [mirs_vals hb h4, kthG_fl (by rw [vl]; omega), vl, show ts.length - 1 - (ts.length + 1 - k - 1) = k - 1 by omega]
  | .between lo hi t, h => by
    obtain ⟨h1, h2, h3, h4⟩ := h
    show rmax (1 - hi) (rmin (1 - lo) (t.mir.val (flL bs))) = 1 - rmax lo (rmin hi (t.val bs))
    rw [mir_val hb h4]
    unfold rmax rmin
    grind
theorem mirs_vals {n s : Nat} {bs : List Rat} (hb : bs.length = n) : ∀ {ts : List Tm}, Tm.Oks n s ts → Tm.vals (flL bs) (Tm.mirs ts) = flL (Tm.vals bs ts)
  | [], _ => rfl
  | t :: ts, h => by
    show t.mir.val (flL bs) :: Tm.vals (flL bs) (Tm.mirs ts) = (1 - t.val bs) :: flL (Tm.vals bs ts)
    rw [mir_val hb h.1, mirs_vals hb h.2]
end
end CB

set_option Elab.async false
set_option linter.all false
set_option maxRecDepth 100000
set_option maxHeartbeats 4000000
namespace CB
open PySem PySem.Spec PyProof.Rows L2
open C8 (Cal Met Mak pe_c pe_mk pe_mt pe_mt0 pe_gc CalAt)
open StX (pa_star)
section
variable {P : Program} {w : World} {K : PySem.W.Frag} {mg : Str → Option Value} {base : Heap}
/-- of raw pairs -/
def sp_minus (K : PySem.W.Frag) : Sp := fun vs H Q _ => ∃ (v1 v2 : V) (a b c d : Int) (m n : Nat), vs = [v1, v2] ∧ PF K H v1 a b ∧ PF K H v2 c d ∧ 0 < b ∧ 0 < d ∧ 
  a.natAbs < 2 ^ m ∧ b.natAbs < 2 ^ m ∧ c.natAbs < 2 ^ n ∧ d.natAbs < 2 ^ n ∧ m + n ≤ 9000 ∧ ∀ v H', Same H H' → RF K H' v (Rat.divInt a b - Rat.divInt c d) → Q v H'
/-- one less a number -/
theorem minus_one {v1 v2 : V} {q : Rat} {s : Nat} {H : Hp} {Q : VK} (h1 : RF K H v1 1) (h2 : RF K H v2 q) (hq : Sz s q) (hs : s ≤ 8000) (k : ∀ v H', Same H H' → RF K H' v (1 - q) → Q v H') : sp_minus K [v1, v2] H Q C8.E0 := by
  refine ⟨v1, v2, 1, 1, q.num, (q.den : Int), 1, s, rfl, h1, h2, by decide, den_pos q, by decide, by decide, hq.1, hq.d, by omega, fun v H' e r => k v H' e ?_⟩
  rw [divInt_self'] at r
  exact r
abbrev n_with_inner : List Str := ["term", "inner", "word", "part", "new"]
theorem sc_with_inner : FnScope ["term", "inner", "word", "part", "new"] ["term", "inner"] (defScope s_with_inner) := ⟨rfl, rfl, rfl, by decide +kernel, rfl, by decide +kernel, by decide +kernel⟩
def Tm.withK : Tm → List Tm → Tm
  | .bid p, _ => .bid p
  | .fixed q, _ => .fixed q
  | .mean ws _, us => .mean ws us
  | .least _, us => .least us
  | .greatest _, us => .greatest us
  | .ranked k _, us => .ranked k us
  | .between lo hi t, us => .between lo hi (us.headD t)
theorem walk_zipT {a b : Addr} {xs ys : List V} {n : Nat} (hn : n = min xs.length ys.length) : Walk (RZ.ItzT K a b) n (fun H => SqT K H a xs ∧ SqT K H b ys) (YPair (fun i => xs[i]?) (fun i => ys[i]?)) := by
  subst hn
  refine ⟨fun i _ hi q => ?_, fun _ q => ⟨xs, ys, q.1, q.2, by omega⟩, fun i H v H' _ q y => ?_⟩
  · have i1 : i < xs.length := by omega
    have i2 : i < ys.length := by omega
    exact ⟨xs, ys, _, _, q.1, q.2, List.getElem?_eq_getElem i1, List.getElem?_eq_getElem i2⟩
  · obtain ⟨T, x, z, e1, e2, e3, e4, e5⟩ := y
    exact ⟨T, x, z, e1, e2, e3, e4 xs q.1, e5 ys q.2⟩
theorem meanD_snoc {ws : List Int} {ds : List PyData} {i : Nat} {z : Int} {d : PyData} (e1 : ws[i]? = some z) (e2 : ds[i]? = some d) : meanD (ws.take (i + 1)) (ds.take (i + 1)) = meanD (ws.take i) (ds.take i) ++ [.tuple [.int z, d]] := by
  unfold meanD
  rw [take_succ' e1, take_succ' e2]
  have l1 : (ws.take i).length = (ds.take i).length := by
    have := (List.getElem?_eq_some_iff.mp e1).1
    have := (List.getElem?_eq_some_iff.mp e2).1
    rw [List.length_take, List.length_take]
    omega
  rw [List.zipWith_append l1]
  rfl
def sp_with_inner (K : PySem.W.Frag) : Sp := fun vs H Q _ => ∃ (v : V) (a : Addr) (us : List V) (t : Tm) (ts : List Tm), vs = [v, .ref a] ∧ Rp K H v t.data ∧ SqT K H a us ∧ RTs K H us ts ∧ ts.length = t.children.length ∧ t.children.length ≤ 8 ∧ (∀ ws ts', t = .mean ws ts' → ws.length = ts'.length) ∧
  ∀ v' H', Same H H' → Rp K H' v' (t.withK ts).data → Q v' H'
theorem ok_with_inner (F : FnD K mg "with_inner" s_with_inner) (T_tuple : mg "tuple" = none) (T_zip : mg "zip" = none) : Cal P w K mg base 1 "with_inner" (sp_with_inner K) [] := by
  refine calOf F sc_with_inner (fun _ _ _ _ _ _ us hl => match us, hl with | [_, _], _ => rfl) (fun vs H Q E h => ?_) (fun cdv f A outer s H vs Q E hr h => ?_)
  · obtain ⟨_, _, _, _, _, rfl, _⟩ := h
    rfl
  · obtain ⟨v, a, us, t, ts, rfl, rt, hS, hu, hl, h8, hm, k⟩ := h
    refine ⟨_, (pss_cons (ps_set (i := 2) sc_with_inner.nd rfl (Or.inl rfl) (pe_ix ix_tup (pv 0) pe_int (fun _ _ => rfl)))
    (pss_cons (ps_if (pt_cmpR op_in_seq (pv 2) (pe_tup (pa_cons pe_str (pa_cons pe_str pa_nil))) rfl) (pss_one (ps_ret (pv 0))) pss_nil)
    (pss_cons (ps_if (pt_cmpR op_eq (pv 2) pe_str (nomark _)) (pss_one (ps_ret (pe_tup (pa_cons pe_str (pa_cons (pe_callTy call_tuple_of (by rfl) T_tuple (by decide +kernel) (pa_cons (pe_lc (own := [("part", 3), ("new", 4)]) (g := (gTup K 2 (gCons (gName 3) (gCons (gName 4) gNil)))) (te := tTup (tCons (tOp (rIxT K) (tVar 3) (tC (.int 0))) (tCons (tVar 4) tNil))) (by rfl) sc_with_inner.nd (RZ.pi_zipA (by rfl) T_zip (pa_cons (pe_ix ix_tup (pv 0) pe_int (fun _ _ => rfl)) (pa_cons (pv 1) pa_nil))) (blkOk_by (own := [("part", 3), ("new", 4)]) (N := ["term", "inner", "word", "part", "new"]) (sc := defScope s_with_inner) (by decide +kernel)) (fun _ _ _ _ _ => (pg_tup rfl (pgs_cons (pg_name (i := 3) sc_with_inner.nd rfl (Or.inl rfl)) (pgs_cons (pg_name (i := 4) sc_with_inner.nd rfl (Or.inl rfl)) pgs_nil)))) (fun _ _ _ _ _ => pts_nil) (fun _ _ _ _ _ => (pe_tup (pa_cons (pe_ix ix_tup (pv 3) pe_int (fun _ _ => rfl)) (pa_cons (pv 4) pa_nil))))) pa_nil)) pa_nil))))) pss_nil)
    (pss_cons (ps_if (pt_cmpR op_eq (pv 2) pe_str (nomark _)) (pss_one (ps_ret (pe_tup (pa_cons pe_str (pa_cons (pe_ix ix_tup (pv 0) pe_int (fun _ _ => rfl)) (pa_cons (pe_ix ix_tup (pv 0) pe_int (fun _ _ => rfl)) (pa_cons (pe_ix ix_tup (pv 1) pe_int (fun _ _ => rfl)) pa_nil))))))) pss_nil)
    (pss_one (ps_ret (pe_tup (pa_star (pe_slice sl_tupA (pv 0) po_none (po_some (pe_un un_neg pe_int))) (pa_cons (pv 1) pa_nil))))))))), ?_⟩
    cases t with
    | bid p =>
      obtain ⟨a2, rfl, ha2⟩ := t_bid rt
      refine ⟨_, rfl, _, _, _, _, rfl, rfl, ha2, rfl, _, rfl, (by show 2 ≤ sizeLine; decide), fun q hq => ⟨q, _, rfl, .inr (SqT.of upd_same), rfl, rfl, _, rfl, ?_⟩⟩
      refine ite2 (fun _ => ⟨_, rfl, ?_⟩) (fun c => absurd (by decide +kernel) c)
      exact k _ _ (same_new hq) (rt.mono (Same.kt (same_new hq)))
    | fixed q0 =>
      obtain ⟨a2, x, rfl, ha2, _⟩ := t_fixed rt
      refine ⟨_, rfl, _, _, _, _, rfl, rfl, ha2, rfl, _, rfl, (by show 2 ≤ sizeLine; decide), fun q hq => ⟨q, _, rfl, .inr (SqT.of upd_same), rfl, rfl, _, rfl, ?_⟩⟩
      refine ite2 (fun _ => ⟨_, rfl, ?_⟩) (fun c => absurd (by decide +kernel) c)
      exact k _ _ (same_new hq) (rt.mono (Same.kt (same_new hq)))
    | mean ws ts0 =>
      obtain ⟨a2, b2, us2, rfl, ha2, hb2, hu2⟩ := t_mean rt
      have wl := hm ws ts0 rfl
      have hl' : ts.length = ts0.length := hl
      have h8' : ts0.length ≤ 8 := h8
      have ul2 : us2.length = ts0.length := by rw [hu2.length, meanD_length _ _ (by rw [datas_map, List.length_map]; exact wl), datas_map, List.length_map]
      have ul : us.length = ts.length := RTs.length hu
      refine ⟨_, rfl, _, _, _, _, rfl, rfl, ha2, rfl, _, rfl, (by show 2 ≤ sizeLine; decide), fun q hq => ⟨q, _, rfl, .inr (SqT.of upd_same), rfl, rfl, _, rfl, ?_⟩⟩
      refine ite2 (fun c => absurd c (by decide +kernel)) (fun _ => ?_)
      have s1 := same_new (o := .tup [.str "bid", .str "fixed"]) hq
      have k1 := Same.kt s1
      refine ⟨_, rfl, rfl, _, rfl, ite2 (fun _ => ?_) (fun c => absurd (by decide +kernel) c)⟩
      refine ⟨_, rfl, _, _, _, _, rfl, rfl, k1.sq ha2, rfl, _, rfl, b2, a, us2, us, rfl, .inr ⟨k1.sq hb2, k1.sq hS, fun D hD => ?_⟩⟩
      refine lc_it (n := ts0.length) (walk_zipT (by rw [ul2, ul, hl', Nat.min_self])) (fun i H' => ∃ zs, H' D = some (.lst zs) ∧ RpAll K H' zs (meanD (ws.take i) ((Tm.datas ts).take i)) ∧ Same (upd H q (.tup [.str "bid", .str "fixed"])) H')
        ⟨[], upd_same, by rw [List.take_zero]; exact .nil, same_new hD⟩ (fun i H' _ ⟨_, _, _, e⟩ => ⟨(Same.kt e).sq (k1.sq hb2), (Same.kt e).sq (k1.sq hS)⟩) ?_ ?_
      · rintro i x H1 H2 hi ⟨zs, g1, g2, g3⟩ ⟨T, y1, y2, rfl, hT, rfl, hx, hy⟩
        dsimp only at hx hy
        have sT := same_new (o := .tup [y1, y2]) hT
        have kk := Same.kt (s1.trans (g3.trans sT))
        obtain ⟨c, z, t0, y, rfl, e1, e2, p1, p2⟩ := mean_part (hu2.mono kk) hx
        obtain ⟨t, ht, rt2⟩ := RTs.getV (RpAll.mono kk hu) hy
        have hD1 : D ≠ T := ne_of_none g1 hT
        have zl : zs.length ≤ 8 := by
          rw [g2.length]
          unfold meanD
          rw [List.length_zipWith, List.length_take, List.length_take]
          omega
        refine ⟨T, _, rfl, SqT.of upd_same, rfl, _, _, rfl, _, _, rfl, rfl, rfl, ?_⟩
        refine ⟨_, rfl, _, _, _, _, rfl, rfl, p1, rfl, _, rfl, (by show 2 ≤ sizeLine; decide), fun q2 hq2 => ?_⟩
        have s2 := same_new (o := .tup [.int z, y2]) hq2
        refine ⟨zs, s2 _ _ (sT _ _ g1), small1000 (by omega), zs ++ [.ref q2], upd_same, ?_, Same.mut ((g3.trans sT).trans s2) hD⟩
        have ed : (Tm.datas ts)[i]? = some t.data := by rw [datas_map, List.getElem?_map, ht]; rfl
        rw [meanD_snoc e1 ed]
        have gD : (upd (upd H1 T (.tup [.ref c, y2])) q2 (.tup [.int z, y2])) D = some (.lst zs) := s2 _ _ (sT _ _ g1)
        refine RpAll.mono (KT.updl gD) (RpAll.append (RpAll.mono (Same.kt (sT.trans s2)) g2) (.cons ?_ .nil))
        exact .tup (SqT.of upd_same) (.cons (.int z) (.cons (rt2.mono (Same.kt s2)) .nil))
      · rintro H1 ⟨zs, g1, g2, g3⟩
        have el : (Tm.datas ts).length = ts0.length := by rw [datas_map, List.length_map, hl']
        rw [List.take_of_length_le (by omega), List.take_of_length_le (by omega)] at g2
        refine ⟨D, zs, rfl, .inl ⟨SqL.of g1, fun l hl2 => ?_⟩⟩
        have s3 := same_new (o := .tup zs) hl2
        refine ⟨(by show 2 ≤ sizeLine; decide), fun p hp => ?_⟩
        have s4 := same_new (o := .tup [.str "mean", .ref l]) hp
        refine k _ _ (s1.trans (g3.trans (s3.trans s4))) (.tup (SqT.of upd_same) (.cons (.str _) (.cons (.tup ((Same.kt s4).sq (SqT.of upd_same)) (RpAll.mono (Same.kt (s3.trans s4)) g2)) .nil)))
    | between lo hi t0 =>
      obtain ⟨a2, x, y, z, rfl, ha2, rx, ry, rz⟩ := t_between rt
      cases ts with
      | nil => cases hl
      | cons t1 ts1 =>
      obtain ⟨u1, us1, rfl, ru1, _⟩ := RpAll.consI hu
      refine ⟨_, rfl, _, _, _, _, rfl, rfl, ha2, rfl, _, rfl, (by show 2 ≤ sizeLine; decide), fun q hq => ⟨q, _, rfl, .inr (SqT.of upd_same), rfl, rfl, _, rfl, ?_⟩⟩
      refine ite2 (fun c => absurd c (by decide +kernel)) (fun _ => ?_)
      have s1 := same_new (o := .tup [.str "bid", .str "fixed"]) hq
      have k1 := Same.kt s1
      refine ⟨_, rfl, rfl, _, rfl, ite2 (fun c => absurd c (by decide +kernel)) (fun _ => ?_)⟩
      refine ⟨_, rfl, rfl, _, rfl, ite2 (fun _ => ?_) (fun c => absurd (by decide +kernel) c)⟩
      refine ⟨_, rfl, _, _, _, _, rfl, rfl, k1.sq ha2, rfl, _, rfl, _, _, _, _, rfl, rfl, k1.sq ha2, rfl, _, rfl, _, _, _, _, rfl, rfl, k1.sq hS, at_of (j := 0) rfl rfl, (by show 4 ≤ sizeLine; decide), fun p hp => ?_⟩
      have s2 := same_new (o := .tup [.str "between", x, y, u1]) hp
      have k2 := Same.kt (s1.trans s2)
      exact k _ _ (s1.trans s2) (.tup (SqT.of upd_same) (.cons (.str _) (.cons (rx.mono k2).rp (.cons (ry.mono k2).rp (.cons (ru1.mono k2) .nil)))))
    | least ts0 =>
      obtain ⟨a2, b2, us2, rfl, ha2, hb2, hu2⟩ := t_least rt
      refine ⟨_, rfl, _, _, _, _, rfl, rfl, ha2, rfl, _, rfl, (by show 2 ≤ sizeLine; decide), fun q hq => ⟨q, _, rfl, .inr (SqT.of upd_same), rfl, rfl, _, rfl, ?_⟩⟩
      refine ite2 (fun c => absurd c (by decide +kernel)) (fun _ => ?_)
      have s1 := same_new (o := .tup [.str "bid", .str "fixed"]) hq
      have k1 := Same.kt s1
      refine ⟨_, rfl, rfl, _, rfl, ite2 (fun c => absurd c (by decide +kernel)) (fun _ => ?_)⟩
      refine ⟨_, rfl, rfl, _, rfl, ite2 (fun c => absurd c (by decide +kernel)) (fun _ => ?_)⟩
      refine ⟨_, rfl, ?_⟩
      dsimp only [tNoPart]
      refine ⟨_, rfl, _, rfl, a2, _, rfl, k1.sq ha2, fun z => absurd z.2 (show ¬ HT.sIx 2 2 (some (-1)) = 2 by decide +kernel), fun _ p hp => ⟨p, _, rfl, .inl (SqT.of upd_same), _, rfl, (by show 2 ≤ sizeLine; decide), fun p2 hp2 => ?_⟩⟩
      have s2 := (same_new (o := .tup (cutV [.str "least", .ref b2] none (some (-1)))) hp).trans (same_new (o := .tup (cutV [.str "least", .ref b2] none (some (-1)) ++ [.ref a])) hp2)
      have k2 := Same.kt (s1.trans s2)
      exact k _ _ (s1.trans s2) (.tup (SqT.of upd_same) (.cons (.str _) (.cons (.tup (k2.sq hS) (RpAll.mono k2 hu)) .nil)))
    | greatest ts0 =>
      obtain ⟨a2, b2, us2, rfl, ha2, hb2, hu2⟩ := t_greatest rt
      refine ⟨_, rfl, _, _, _, _, rfl, rfl, ha2, rfl, _, rfl, (by show 2 ≤ sizeLine; decide), fun q hq => ⟨q, _, rfl, .inr (SqT.of upd_same), rfl, rfl, _, rfl, ?_⟩⟩
      refine ite2 (fun c => absurd c (by decide +kernel)) (fun _ => ?_)
      have s1 := same_new (o := .tup [.str "bid", .str "fixed"]) hq
      have k1 := Same.kt s1
      refine ⟨_, rfl, rfl, _, rfl, ite2 (fun c => absurd c (by decide +kernel)) (fun _ => ?_)⟩
      refine ⟨_, rfl, rfl, _, rfl, ite2 (fun c => absurd c (by decide +kernel)) (fun _ => ?_)⟩
      refine ⟨_, rfl, ?_⟩
      dsimp only [tNoPart]
      refine ⟨_, rfl, _, rfl, a2, _, rfl, k1.sq ha2, fun z => absurd z.2 (show ¬ HT.sIx 2 2 (some (-1)) = 2 by decide +kernel), fun _ p hp => ⟨p, _, rfl, .inl (SqT.of upd_same), _, rfl, (by show 2 ≤ sizeLine; decide), fun p2 hp2 => ?_⟩⟩
      have s2 := (same_new (o := .tup (cutV [.str "greatest", .ref b2] none (some (-1)))) hp).trans (same_new (o := .tup (cutV [.str "greatest", .ref b2] none (some (-1)) ++ [.ref a])) hp2)
      have k2 := Same.kt (s1.trans s2)
      exact k _ _ (s1.trans s2) (.tup (SqT.of upd_same) (.cons (.str _) (.cons (.tup (k2.sq hS) (RpAll.mono k2 hu)) .nil)))
    | ranked k0 ts0 =>
      obtain ⟨a2, b2, us2, rfl, ha2, hb2, hu2⟩ := t_ranked rt
      refine ⟨_, rfl, _, _, _, _, rfl, rfl, ha2, rfl, _, rfl, (by show 2 ≤ sizeLine; decide), fun q hq => ⟨q, _, rfl, .inr (SqT.of upd_same), rfl, rfl, _, rfl, ?_⟩⟩
      refine ite2 (fun c => absurd c (by decide +kernel)) (fun _ => ?_)
      have s1 := same_new (o := .tup [.str "bid", .str "fixed"]) hq
      have k1 := Same.kt s1
      refine ⟨_, rfl, rfl, _, rfl, ite2 (fun c => absurd c (by decide +kernel)) (fun _ => ?_)⟩
      refine ⟨_, rfl, rfl, _, rfl, ite2 (fun c => absurd c (by decide +kernel)) (fun _ => ?_)⟩
      refine ⟨_, rfl, ?_⟩
      dsimp only [tNoPart]
      refine ⟨_, rfl, _, rfl, a2, _, rfl, k1.sq ha2, fun z => absurd z.2 (show ¬ HT.sIx 3 3 (some (-1)) = 3 by decide +kernel), fun _ p hp => ⟨p, _, rfl, .inl (SqT.of upd_same), _, rfl, (by show 3 ≤ sizeLine; decide), fun p2 hp2 => ?_⟩⟩
      have s2 := (same_new (o := .tup (cutV [.str "ranked", .int (k0 : Int), .ref b2] none (some (-1)))) hp).trans (same_new (o := .tup (cutV [.str "ranked", .int (k0 : Int), .ref b2] none (some (-1)) ++ [.ref a])) hp2)
      have k2 := Same.kt (s1.trans s2)
      exact k _ _ (s1.trans s2) (.tup (SqT.of upd_same) (.cons (.str _) (.cons (.int _) (.cons (.tup (k2.sq hS) (RpAll.mono k2 hu)) .nil))))
abbrev n_built : List Str := ["people", "term", "rule"]
theorem sc_built : FnScope ["people", "term", "rule"] ["people", "term"] (defScope s_built) := ⟨rfl, rfl, rfl, by decide +kernel, rfl, by decide +kernel, by decide +kernel⟩
theorem none_bk {H H' : Hp} {p : Addr} (e : Same H H') (h : H' p = none) : H p = none := by
  cases c : H p with
  | none => rfl
  | some o => rw [e _ _ c] at h; cases h
theorem ruleF_put2 (n : Nat) (v u : V) : putF "term" v (ruleF n u) = ruleF n v := by
  show (if ("people" : Str) = "term" then _ else (("people" : Str), V.int (n : Int)) :: (if ("term" : Str) = "term" then [(("term" : Str), v)] else _)) = ruleF n v
  rw [if_neg (by decide +kernel), if_pos rfl]
  rfl
def sp_built (K : PySem.W.Frag) (C : Addr) : Sp := fun vs H Q _ => ∃ (v : V) (n : Nat) (t : Tm), vs = [.int (n : Int), v] ∧ 1 ≤ n ∧ n ≤ 6 ∧ Rp K H v t.data ∧ ∀ r H', Same H H' → H r = none → RuleAt K C H' r n t → Q (.ref r) H'
theorem ok_built {C : Addr} (F : FnD K mg "built" s_built) (hc : Cls K C) (n2 : NoAttr K C "term") (c_Rule : Mak P w K mg base 6 "Rule" C (sp_Rule K C) []) : Cal P w K mg base 8 "built" (sp_built K C) [] := by
  refine calOf F sc_built (fun _ _ _ _ _ _ us hl => match us, hl with | [_, _], _ => rfl) (fun vs H Q E h => ?_) (fun cdv f A outer s H vs Q E hr h => ?_)
  · obtain ⟨_, _, _, rfl, _⟩ := h
    rfl
  · obtain ⟨v, n, t, rfl, hn1, hn, rt, k⟩ := h
    refine ⟨_, (pss_cons (ps_set (i := 2) sc_built.nd rfl (Or.inl rfl) (pe_mk c_Rule hr (by first | decide | omega) rfl (pa_cons (pv 0) (pa_cons (pe_tup (pa_cons pe_str (pa_cons pe_int pa_nil))) pa_nil))))
    (pss_cons (ps_fld (pv 2) (pv 1) rfl)
    (pss_one (ps_ret (pv 2))))), ?_⟩
    refine ⟨_, rfl, (by show 2 ≤ sizeLine; decide), fun p0 hp0 => fun rr dx nx ndx nex => ?_⟩
    have s0 := same_new (o := .tup [.str "bid", .int 0]) hp0
    generalize hH0 : upd H p0 (.tup [.str "bid", .int 0]) = H0 at s0 nx ndx
    have hb0 : Rp K H0 (.ref p0) (Tm.bid 0).data := by rw [← hH0]; exact .tup (SqT.of upd_same) (.cons (.str _) (.cons (.int _) .nil))
    have s4 : Same H0 (upd (upd H0 dx (.own rr)) rr (.ins C dx [])) := (same_new ndx).trans (same_new (by rw [upd_ne (Ne.symm nex)]; exact nx))
    refine ⟨rr, dx, .ref p0, n, 20, .bid 0, rfl, upd_same, hb0.mono (Same.kt s4), hn1, by omega, by decide, by decide, hn1, by omega, fun H5 k5 hR5 => ⟨rfl, ?_⟩⟩
    have s5 : Same H0 H5 := fun b o e => k5 b o (ne_of_none e nx) (s4 b o e)
    refine ⟨_, rfl, _, rfl, rr, C, dx, _, rfl, hR5, hc, n2, (by show 2 < 1000; decide), ?_⟩
    have s6 : Same H0 (upd H5 rr (.ins C dx (putF "term" v (ruleF n (.ref p0))))) := Same.mut s5 nx
    refine ⟨_, rfl, k rr _ (s0.trans s6) (none_bk s0 nx) ⟨dx, v, ?_, rt.mono (Same.kt (s0.trans s6))⟩⟩
    rw [upd_same, ruleF_put2]
end
end CB

set_option Elab.async false
set_option linter.all false
set_option maxRecDepth 100000
set_option maxHeartbeats 4000000
namespace CB
open PySem PySem.Spec PyProof.Rows L2
open C8 (Cal Met Mak pe_c pe_mk pe_mt pe_mt0 pe_gc CalAt)
section
variable {P : Program} {w : World} {K : PySem.W.Frag} {mg : Str → Option Value} {base : Heap}
def sp_are_persons (K : PySem.W.Frag) : Sp := fun vs H Q _ => ∃ (a : Addr) (n : Nat) (ps : List Nat), vs = [.ref a, .int (n : Int)] ∧ SqT K H a (pV ps) ∧ (∀ p ∈ ps, p < n) ∧ ps.length ≤ 12 ∧ ∀ H', Same H H' → Q (.bl true) H'
/-- strictly ascending persons -/
structure IsLot (n : Nat) (ps : List Nat) : Prop where
  lt : ∀ p ∈ ps, p < n
  up : ps.Pairwise (· < ·)
  len : ps.length ≤ 6
def sp_is_lot (K : PySem.W.Frag) : Sp := fun vs H Q _ => ∃ (a : Addr) (n : Nat) (ps : List Nat), vs = [.ref a, .int (n : Int)] ∧ SqT K H a (pV ps) ∧ IsLot n ps ∧ ∀ H', Same H H' → Q (.bl true) H'
def sp_need_lot (K : PySem.W.Frag) (C : Addr) : Sp := fun vs H Q _ => ∃ (r a : Addr) (n : Nat) (t : Tm) (ps : List Nat), vs = [.ref r, .ref a] ∧ RuleAt K C H r n t ∧ SqT K H a (pV ps) ∧ IsLot n ps ∧ ∀ H', Same H H' → Q .non H'
def sp_outcome_behind (K : PySem.W.Frag) (C : Addr) : Sp := fun vs H Q _ => ∃ (r a b l : Addr) (n s z : Nat) (t : Tm) (ws bs : List Rat) (ls : List Nat), vs = [.ref r, .ref a, .ref b, .ref l] ∧ RuleAt K C H r n t ∧ t.Ok n s ∧ 1 ≤ s ∧ s ≤ 9000 ∧ t.dep ≤ 8 ∧ t.wt s + 20 ≤ 9000 ∧ n ≤ 6 ∧ z ≤ 9000 ∧ Bids K H a n z ws ∧ Bids K H b n s bs ∧ SqT K H l (pV ls) ∧ IsLot n ls ∧
  ∀ v H', Same H H' → RF K H' v (outB t ws bs ls) → Q v H'
end
end CB

set_option Elab.async false
set_option linter.all false
set_option maxRecDepth 100000
set_option maxHeartbeats 4000000
/-! itertools.combinations(xs, r) of a list, and list(..) of it -/
namespace Cmb
open PySem PySem.Spec PyProof.Rows
open Sem (wp)
theorem mro : mroOf (.type "itertools.combinations") = pure [.type "itertools.combinations", .type "object"] := by rw [mroOf_type]; kernel_rfl
theorem lookup_new : typeLookup (.type "itertools.combinations") "__new__" = pure (some (.builtin "itertools.combinations.__new__")) := by rw [typeLookup_type, builtinLookup_eq_fast]; kernel_rfl
theorem slot_init : Slot "itertools.combinations" "__init__" "object.__init__" :=
  .of (owner := "object") (n := "__init__") (by rw [typeLookup_type, builtinLookup_eq_fast]; kernel_rfl) (by decide +kernel) (by decide +kernel) (by decide +kernel)
    (by first | exact .inl (by decide +kernel) | exact .inr (by decide +kernel)) (by rw [isSubtype_type]; kernel_rfl)
theorem sub : isSubtype (.type "itertools.combinations") (.type "itertools.combinations") = pure true := by rw [isSubtype_type]; kernel_rfl
theorem called : TypeCalled "itertools.combinations" "itertools.combinations.__new__" "object.__init__" :=
  ⟨by decide +kernel, by decide +kernel, ⟨_, _, mro⟩, madeBy_type mro lookup_new (by decide +kernel), by decide +kernel, sub, slot_init⟩
theorem typeCall_2 (a b : Value) : checkTypeCall "itertools.combinations" ⟨[a, b], []⟩ = pure () := by kernel_rfl
theorem newCall_2 (a b : Value) : checkBuiltinCall "itertools.combinations.__new__" ⟨[.type "itertools.combinations", a, b], []⟩ = pure () := by kernel_rfl
theorem entry_new : entryFor table "itertools.combinations.__new__" = some Builtin.«itertools.combinations.__new__» := entryFor_of_tree (by kernel_rfl)
theorem slot_iter : Slot "itertools.combinations" "__iter__" "itertools.combinations.__iter__" :=
  .of (owner := "itertools.combinations") (n := "__iter__") (by rw [typeLookup_type, builtinLookup_eq_fast]; kernel_rfl) (by decide +kernel) (by decide +kernel) (by decide +kernel)
    (by first | exact .inl (by decide +kernel) | exact .inr (by decide +kernel)) sub
theorem slot_next : Slot "itertools.combinations" "__next__" "itertools.combinations.__next__" :=
  .of (owner := "itertools.combinations") (n := "__next__") (by rw [typeLookup_type, builtinLookup_eq_fast]; kernel_rfl) (by decide +kernel) (by decide +kernel) (by decide +kernel)
    (by first | exact .inl (by decide +kernel) | exact .inr (by decide +kernel)) sub
theorem entry_iter : entryFor table "itertools.combinations.__iter__" = some Builtin.«dict_keyiterator.__iter__» :=
  entryFor_alias (id' := "dict_keyiterator.__iter__") (by kernel_rfl) (by first | rfl | decide +kernel | (unfold String.splitOn; simp +decide [String.splitOnAux])) (by decide +kernel) (by kernel_rfl)
theorem entry_next : entryFor table "itertools.combinations.__next__" = some Builtin.«itertools.combinations.__next__» := entryFor_of_tree (by kernel_rfl)
theorem owner_c : Manifest.owners.lookup (String.ofList ['s', 'n', 'o', 'i', 't', 'a', 'n', 'i', 'b', 'm', 'o', 'c', '.', 's', 'l', 'o', 'o', 't', 'r', 'e', 't', 'i'].reverse) = some Manifest.sig_itertools_combinations := by kernel_rfl
theorem args_iter (a : Value) : argsOk "itertools.combinations.__iter__" ⟨[a], []⟩ := by
  unfold argsOk; rw [signature?_of (id := "itertools.combinations.__iter__") (n := ['_', '_', 'r', 'e', 't', 'i', '_', '_']) (o := ['s', 'n', 'o', 'i', 't', 'a', 'n', 'i', 'b', 'm', 'o', 'c', '.', 's', 'l', 'o', 'o', 't', 'r', 'e', 't', 'i']) (by kernel_rfl) owner_c]; kernel_rfl
theorem args_next (a : Value) : argsOk "itertools.combinations.__next__" ⟨[a], []⟩ := by
  unfold argsOk; rw [signature?_of (id := "itertools.combinations.__next__") (n := ['_', '_', 't', 'x', 'e', 'n', '_', '_']) (o := ['s', 'n', 'o', 'i', 't', 'a', 'n', 'i', 'b', 'm', 'o', 'c', '.', 's', 'l', 'o', 'o', 't', 'r', 'e', 't', 'i']) (by kernel_rfl) owner_c]; kernel_rfl
theorem noDict : typeHasDict (.type "itertools.combinations") = false := by decide +kernel
theorem no_len : typeLookup (.type "itertools.combinations") "__len__" = pure none := by rw [typeLookup_type, builtinLookup_eq_fast]; kernel_rfl
theorem no_hint : typeLookup (.type "itertools.combinations") "__length_hint__" = pure none := by rw [typeLookup_type, builtinLookup_eq_fast]; kernel_rfl
/-- a combinations object: its pool, how far it is, the last tuple, the numbers -/
abbrev IsC (h : Heap) (it pool : Addr) (st : Int) (last : Value) (idx : List Nat) : Prop :=
  h.get? it = some { cls := .type "itertools.combinations", dict := none, data := .fields (#[.ref pool, .int st 0, last] ++ (idx.map fun (i : Nat) => Value.int (i : Int) 0).toArray), slots := #[] }
end Cmb

set_option Elab.async false
set_option linter.all false
set_option maxRecDepth 100000
set_option maxHeartbeats 4000000
namespace Cmb
open PySem PySem.Spec PyProof.Rows
open Sem (wp)
theorem meets_new (l : Addr) (vs : List Value) (r : Nat) (t : Tok) (hr : r ≤ vs.length) :
    Meets (Builtin.«itertools.combinations.__new__» ⟨[.type "itertools.combinations", .ref l, .int (r : Int) t], []⟩)
      (fun _ R s => s.heap.IsList l vs.toArray ∧ vs.length ≤ 1000 ∧ ∀ h' it pool, IsC h' it pool 0 .none (List.range r) → h'.IsTuple pool vs.toArray → s.heap.objs.size ≤ it → s.heap.objs.size ≤ pool → it ≠ pool → it < h'.objs.size → pool < h'.objs.size → (∀ b o, s.heap.get? b = some o → h'.get? b = some o) → R (.ok (.ret (.ref it))) { s with heap := h' }) :=
  .of_wp fun prog w A R s h => by
    obtain ⟨hl, hn, hR⟩ := h
    obtain ⟨hp, g, dd, tk, os⟩ := s
    have hsub := sub
    have hsub2 : isSubtype (.type "itertools.combinations") (.type ("itertools." ++ "combinations")) = pure true := by rw [show "itertools." ++ "combinations" = "itertools.combinations" from by decide +kernel]; exact sub
    have hd := noDict
    unfold Builtin.«itertools.combinations.__new__»
    repeat (first
      | wp_step
      | simp only [List.head?_cons, Option.some_or, List.getElem?_cons_succ, List.getElem?_cons_zero, List.length_cons, List.length_nil, List.forIn_nil])
    have h63 : ¬ ((decide ((r : Int) < -2 ^ 63) || decide ((r : Int) ≥ 2 ^ 63)) = true) := by
      rw [decide_eq_false (by omega), decide_eq_false (by omega)]
      decide
    refine wpAny_ite_false (decide_eq_false h63) ?_
    refine wpAny_pure ?_
    refine wpAny_bind (collect_list hl ?_ (by rw [sizeLine_eq]; omega))
    rw [if_neg (show ¬ (r : Int) < 0 by omega), if_neg (show ¬ Builtin.Itertools.itTooMany (r : Int) = true by unfold Builtin.Itertools.itTooMany; rw [decide_eq_true_iff]; omega)]
    refine wpAny_bind (wpAny_newTuple (wpAny_pure ?_))
    unfold Builtin.Itertools.itNewRecord
    dsimp only
    rw [hd]
    refine wpAny_bind ?_
    rw [if_pos (show (!false) = true from rfl)]
    refine wpAny_newObj_type ?_ ?sz
    case sz =>
      show _ ≤ sizeLine + 2
      simp
      rw [sizeLine_eq]
      omega
    refine wpAny_pure ⟨_, rfl, ?_⟩
    have e0 : (if (r : Int).toNat > vs.length then (2 : Int) else 0) = 0 := if_neg (by omega)
    have z1 : ((hp.push (seqObj "list" #[] 0)).update hp.objs.size (Obj.mapSeq fun x => x ++ vs.toArray)).objs.size = hp.objs.size + 1 := by rw [Heap.size_update, size_push']
    have k1 : ∀ b o, hp.get? b = some o → ((hp.push (seqObj "list" #[] 0)).update hp.objs.size (Obj.mapSeq fun x => x ++ vs.toArray)).get? b = some o := fun b o q => by
      have hlt : b < hp.objs.size := Heap.lt_size q
      rw [Heap.get?_update_ne _ _ _ _ (Nat.ne_of_lt hlt), Heap.get?_push_ne _ _ _ (Nat.ne_of_lt hlt)]
      exact q
    revert z1 k1
    generalize (hp.push (seqObj "list" #[] 0)).update hp.objs.size (Obj.mapSeq fun x => x ++ vs.toArray) = h1
    intro z1 k1
    have z2 : (h1.push { cls := .type "tuple", data := .seq vs.toArray }).objs.size = hp.objs.size + 2 := by rw [size_push', z1]
    refine hR _ _ h1.objs.size ?_ ?_ ?_ ?_ ?_ ?_ ?_ ?_
    · rw [e0]
      refine (Heap.get?_push_size _ rfl).trans ?_
      simp [rawInt]
    · exact ⟨_, Heap.get?_push_of_some _ (Heap.get?_push_size _ rfl), rfl, 0, rfl⟩
    · rw [z2]; show hp.objs.size ≤ hp.objs.size + 2; omega
    · rw [z1]; show hp.objs.size ≤ hp.objs.size + 1; omega
    · rw [size_push']; exact Nat.succ_ne_self _
    · exact Nat.lt_of_lt_of_eq (Nat.lt_succ_self _) (Eq.symm (size_push' ..))
    · show h1.objs.size < _
      rw [size_push']
      show h1.objs.size < (h1.push _).objs.size + 1
      rw [size_push']
      exact Nat.lt_succ_of_lt (Nat.lt_succ_self _)
    · exact fun b o q => Heap.get?_push_of_some _ (Heap.get?_push_of_some _ (k1 b o q))
end Cmb

set_option Elab.async false
set_option linter.all false
set_option maxRecDepth 100000
set_option maxHeartbeats 4000000
namespace Cmb
open PySem PySem.Spec PyProof.Rows
open Sem (wp)
section
variable {prog : Program} {w : World} {A : Around} {E : Value → Shared → Prop} {s : Shared}
/-- it gives itself when it is walked -/
theorem iter_comb {it pool : Addr} {st : Int} {last : Value} {idx : List Nat} {Q : Value → Shared → Prop} (hit : IsC s.heap it pool st last idx) (h : Q (.ref it) s) : wpAny (model prog w) A (pyIter (.ref it)) Q E s := by
  have hT : s.TypeIs (.ref it) "itertools.combinations" := ⟨_, hit, rfl⟩
  refine wpAny_pyIter_slot hT slot_iter (wpAny_call_entry slot_iter hT entry_iter ?_ (args_iter _))
  show wpAny _ _ (ret (.ref it)) _ _ s
  exact wpAny_pure ⟨_, rfl, "itertools.combinations", _, hT, slot_next.lookup, h⟩
/-- combinations(xs, r) of a list -/
theorem call_comb {l : Addr} {vs : List Value} {r : Nat} {t : Tok} {Q : Value → Shared → Prop} (hr : r ≤ vs.length) (hl : s.heap.IsList l vs.toArray) (hn : vs.length ≤ 1000)
    (h : ∀ h' it pool, IsC h' it pool 0 .none (List.range r) → h'.IsTuple pool vs.toArray → s.heap.objs.size ≤ it → s.heap.objs.size ≤ pool → it ≠ pool → it < h'.objs.size → pool < h'.objs.size → (∀ b o, s.heap.get? b = some o → h'.get? b = some o) → Q (.ref it) { s with heap := h' }) :
    wpAny (model prog w) A (call (.type "itertools.combinations") [.ref l, .int (r : Int) t]) Q E s := by
  refine callType_new called (by decide +kernel) (typeCall_2 _ _) (newCall_2 _ _) (fun obj => F.args_object_init_3 obj _ _) entry_new (meets_new l vs r t hr) ?_
  refine ⟨hl, hn, fun h' it pool h1 h2 h3 h4 h5 h6 h7 h8 => ?_⟩
  show _ ∧ _
  exact ⟨⟨_, h1, rfl⟩, h h' it pool h1 h2 h3 h4 h5 h6 h7 h8⟩
end
end Cmb

set_option Elab.async false
set_option linter.all false
set_option maxRecDepth 100000
set_option maxHeartbeats 4000000
/-! itertools.combinations: turn by turn, and list(..) of it -/
namespace Cmb
open PySem PySem.Spec PyProof.Rows
open Sem (wp)
/-- the numbers behind these ones, of n -/
def nextC (n : Nat) (l : List Nat) : Option (List Nat) :=
  match (List.range l.length).reverse.find? fun j => l.getD j 0 != j + n - l.length with
  | none => none
  | some j => some (l.take j ++ (List.range (l.length - j)).map (l.getD j 0 + 1 + ·))
/-- the last steps of a turn -/
abbrev outB (me p : Value) (l : List Nat) : Sem Fin :=
  (Builtin.Itertools.itPoolItems p >>= fun xs => newTuple (l.map fun j => xs.getD j .none)) >>= fun r => field me 2 >>= fun old => setField me 2 r >>= fun _ => letGo [old] [r] >>= fun _ => ret r
abbrev Nx (it : Addr) : Sem Fin := Builtin.«itertools.combinations.__next__» ⟨[.ref it], []⟩
section
variable {M : Model} {A : Around} {E : Value → Shared → Prop} {s : Shared} {it pool : Addr} {st : Int} {last : Value} {idx : List Nat} {vs : List Value}
theorem pool_ok {Q : Array Value → Shared → Prop} (hp : s.heap.IsTuple pool vs.toArray) (h : Q vs.toArray s) : wpAny M A (Builtin.Itertools.itPoolItems (.ref pool)) Q E s := by
  obtain ⟨o, ho, _, n, hd⟩ := hp
  unfold Builtin.Itertools.itPoolItems
  exact wpAny_bind (wpAny_seqItems ho hd (wpAny_pure h))
theorem numbers_ok {Q : List Nat → Shared → Prop} (hc : IsC s.heap it pool st last idx) (h : Q idx s) : wpAny M A (Builtin.Itertools.itNumbersFrom (.ref it) 3) Q E s := by
  unfold Builtin.Itertools.itNumbersFrom
  show wpAny _ _ (load it >>= _) _ _ s
  refine wpAny_bind (wpAny_load hc ?_)
  refine wpAny_pure ?_
  have e : ((#[Value.ref pool, Value.int st 0, last] ++ (idx.map fun (i : Nat) => Value.int (i : Int) 0).toArray).toList.drop 3).map (fun v => match v with | .int n _ => n.toNat | _ => 0) = idx := by
    simp [Function.comp_def]
  exact e.symm ▸ h
theorem out_ok {P : Fin → Shared → Prop} {l : List Nat} (hc : IsC s.heap it pool st last idx) (hp : s.heap.IsTuple pool vs.toArray) (hl : l.length ≤ 1000)
    (h : ∀ h', IsC h' it pool st (.ref s.heap.objs.size) idx → h'.get? s.heap.objs.size = some { cls := .type "tuple", data := .seq (l.map fun j => vs.getD j .none).toArray } → h'.objs.size = s.heap.objs.size + 1 →
      (∀ b o, b ≠ it → s.heap.get? b = some o → h'.get? b = some o) → P (.done (.ret (.ref s.heap.objs.size))) { s with heap := h' }) : wpAny M A (outB (.ref it) (.ref pool) l) P E s := by
  refine wpAny_bind (wpAny_bind (pool_ok hp ?_))
  refine wpAny_newTuple ?_ (by rw [List.length_map, sizeLine_eq]; omega)
  have hc2 : IsC (s.heap.push { cls := .type "tuple", data := .seq (l.map fun j => vs.toArray.getD j .none).toArray }) it pool st last idx := Heap.get?_push_of_some _ hc
  refine wpAny_bind (wpAny_field hc2 rfl (x := last) (by simp) ?_)
  refine wpAny_bind (wpAny_setField hc2 rfl (by simp) ?_)
  refine wpAny_bind (wpAny_letGo ?_)
  have ne : s.heap.objs.size ≠ it := Nat.ne_of_gt (Heap.lt_size hc)
  refine wpAny_pure (h _ ?_ ?_ ?_ ?_)
  · refine (Heap.get?_update_self _ hc2 rfl).trans ?_
    simp [Obj.mapFields]
  · refine (Heap.get?_update_other _ _ (Ne.symm ne)).trans ((Heap.get?_push_size _ rfl).trans ?_)
    simp
  · rw [Heap.size_update]
    exact Array.size_push ..
  · intro b o hb e
    exact (Heap.get?_update_other _ _ (Ne.symm hb)).trans (Heap.get?_push_of_some _ e)
/-- the first one -/
theorem next_first {P : Fin → Shared → Prop} (hc : IsC s.heap it pool 0 last idx) (hp : s.heap.IsTuple pool vs.toArray) (hne : pool ≠ it) (hl : idx.length ≤ 1000)
    (h : ∀ h', IsC h' it pool 1 (.ref s.heap.objs.size) idx → h'.get? s.heap.objs.size = some { cls := .type "tuple", data := .seq (idx.map fun j => vs.getD j .none).toArray } → h'.objs.size = s.heap.objs.size + 1 →
      (∀ b o, b ≠ it → s.heap.get? b = some o → h'.get? b = some o) → P (.done (.ret (.ref s.heap.objs.size))) { s with heap := h' }) : wpAny M A (Nx it) P E s := by
  show wpAny _ _ (field (.ref it) 0 >>= _) _ _ s
  refine wpAny_bind (wpAny_field hc rfl (x := .ref pool) (by simp) ?_)
  refine wpAny_bind (numbers_ok hc ?_)
  show wpAny _ _ ((field (.ref it) 1 >>= _) >>= _) _ _ s
  refine wpAny_bind (wpAny_bind (wpAny_field hc rfl (x := .int 0 0) (by simp) (wpAny_pure ?_)))
  show wpAny _ _ (setField (.ref it) 1 (rawInt 1) >>= _) _ _ s
  refine wpAny_bind (wpAny_setField hc rfl (by simp) ?_)
  have hc2 : IsC (s.heap.update it (Obj.mapFields fun x => x.setIfInBounds 1 (rawInt 1))) it pool 1 last idx := by
    refine (Heap.get?_update_self _ hc rfl).trans ?_
    simp [Obj.mapFields, rawInt]
  have hp2 : (s.heap.update it (Obj.mapFields fun x => x.setIfInBounds 1 (rawInt 1))).IsTuple pool vs.toArray := by
    obtain ⟨o, ho, r⟩ := hp
    exact ⟨o, (Heap.get?_update_other _ _ (Ne.symm hne)).trans ho, r⟩
  have z : (s.heap.update it (Obj.mapFields fun x => x.setIfInBounds 1 (rawInt 1))).objs.size = s.heap.objs.size := Heap.size_update ..
  refine out_ok (s := { s with heap := _ }) hc2 hp2 hl fun h' a1 a2 a3 a4 => ?_
  show P (.done (.ret (.ref (s.heap.update it (Obj.mapFields fun x => x.setIfInBounds 1 (rawInt 1))).objs.size))) _
  rw [z]
  refine h h' (by rw [← z]; exact a1) (by rw [← z]; exact a2) (by rw [← z]; exact a3) fun b o hb e => a4 b o hb ?_
  exact (Heap.get?_update_other _ _ (Ne.symm hb)).trans e
/-- a later one -/
theorem next_next {P : Fin → Shared → Prop} {m : List Nat} (hc : IsC s.heap it pool 1 last idx) (hp : s.heap.IsTuple pool vs.toArray) (hne : pool ≠ it) (hm : nextC vs.length idx = some m) (hl : m.length ≤ 1000)
    (h : ∀ h', IsC h' it pool 1 (.ref s.heap.objs.size) m → h'.get? s.heap.objs.size = some { cls := .type "tuple", data := .seq (m.map fun j => vs.getD j .none).toArray } → h'.objs.size = s.heap.objs.size + 1 →
      (∀ b o, b ≠ it → s.heap.get? b = some o → h'.get? b = some o) → P (.done (.ret (.ref s.heap.objs.size))) { s with heap := h' }) : wpAny M A (Nx it) P E s := by
  show wpAny _ _ (field (.ref it) 0 >>= _) _ _ s
  refine wpAny_bind (wpAny_field hc rfl (x := .ref pool) (by simp) ?_)
  refine wpAny_bind (numbers_ok hc ?_)
  show wpAny _ _ ((field (.ref it) 1 >>= _) >>= _) _ _ s
  refine wpAny_bind (wpAny_bind (wpAny_field hc rfl (x := .int 1 0) (by simp) (wpAny_pure ?_)))
  show wpAny _ _ (Builtin.Itertools.itPoolItems (.ref pool) >>= _) _ _ s
  refine wpAny_bind (pool_ok hp ?_)
  show wpAny _ _ (match nextC vs.toArray.size idx with | some m => _ | none => _) _ _ s
  rw [List.size_toArray, hm]
  show wpAny _ _ (Builtin.Itertools.itSetNumbersFrom (.ref it) 3 m >>= _) _ _ s
  refine wpAny_bind ?_
  unfold Builtin.Itertools.itSetNumbersFrom
  refine wpAny_updateFields hc rfl ?_ (by simp [sizeLine_eq]; omega)
  generalize hu : s.heap.update it (Obj.mapFields fun fs => fs.extract 0 3 ++ (m.map fun (n : Nat) => rawInt n).toArray) = hh
  have hc2 : IsC hh it pool 1 last m := by
    rw [← hu]
    refine (Heap.get?_update_self _ hc rfl).trans ?_
    simp [Obj.mapFields, rawInt]
  have hp2 : hh.IsTuple pool vs.toArray := by
    obtain ⟨o, ho, r⟩ := hp
    rw [← hu]
    exact ⟨o, (Heap.get?_update_other _ _ (Ne.symm hne)).trans ho, r⟩
  have z : hh.objs.size = s.heap.objs.size := by rw [← hu]; exact Heap.size_update ..
  refine out_ok (s := { s with heap := hh }) hc2 hp2 hl fun h' a1 a2 a3 a4 => ?_
  show P (.done (.ret (.ref hh.objs.size))) { s with heap := h' }
  rw [z]
  refine h h' (by rw [← z]; exact a1) (by rw [← z]; exact a2) (by rw [← z]; exact a3) fun b o hb e => a4 b o hb ?_
  rw [← hu]
  exact (Heap.get?_update_other _ _ (Ne.symm hb)).trans e
/-- the end's exception -/
def StopE' (e : Value) (h : Heap) : Prop := ∃ a o vs, e = .ref a ∧ h.get? a = some o ∧ o.cls = .type "StopIteration" ∧ o.data = .fields vs ∧ vs[5]? = some Value.none
theorem next_end {P : Fin → Shared → Prop} (hh : A.handled = none) (hc : IsC s.heap it pool 1 last idx) (hp : s.heap.IsTuple pool vs.toArray) (hm : nextC vs.length idx = none)
    (h : ∀ e h', StopE' e h' → s.heap.objs.size ≤ h'.objs.size → (∀ b o, b ≠ it → s.heap.get? b = some o → h'.get? b = some o) → E e { s with heap := h' }) : wpAny M A (Nx it) P E s := by
  show wpAny _ _ (field (.ref it) 0 >>= _) _ _ s
  refine wpAny_bind (wpAny_field hc rfl (x := .ref pool) (by simp) ?_)
  refine wpAny_bind (numbers_ok hc ?_)
  show wpAny _ _ ((field (.ref it) 1 >>= _) >>= _) _ _ s
  refine wpAny_bind (wpAny_bind (wpAny_field hc rfl (x := .int 1 0) (by simp) (wpAny_pure ?_)))
  show wpAny _ _ (Builtin.Itertools.itPoolItems (.ref pool) >>= _) _ _ s
  refine wpAny_bind (pool_ok hp ?_)
  show wpAny _ _ (match nextC vs.toArray.size idx with | some m => _ | none => _) _ _ s
  rw [List.size_toArray, hm]
  show wpAny _ _ (setField (.ref it) 1 (rawInt 2) >>= _) _ _ s
  refine wpAny_bind (wpAny_setField hc rfl (by simp) ?_)
  unfold Builtin.Itertools.itStop
  refine wpAny_bind ?_
  simp only [newExc, newTuple]
  refine wpAny_bind (wpAny_newObj_type ?_ (by size_fits))
  refine wpAny_bind (m := firstArgMember _ _) (wpAny_of_eq (a := Value.none) (by first | rfl | (simp only [firstArgMember]; rfl)) ?_)
  refine wpAny_newObj_type ?_ (by size_fits)
  simp only [raiseNew]
  refine wpAny_bind (wpAny_handled ?_)
  rw [hh]
  refine wpAny_bind (wpAny_pure (wpAny_throw ?_))
  refine h _ _ ⟨_, _, _, rfl, Heap.get?_push_size _ rfl, rfl, rfl, rfl⟩ ?_ fun b o hb e => ?_
  · show _ ≤ ((Array.push _ _).size)
    rw [Array.size_push]
    refine Nat.le_succ_of_le ?_
    show _ ≤ ((Array.push _ _).size)
    rw [Array.size_push]
    exact Nat.le_succ_of_le (Nat.le_of_eq (Heap.size_update ..).symm)
  · exact Heap.get?_push_of_some _ (Heap.get?_push_of_some _ ((Heap.get?_update_other _ _ (Ne.symm hb)).trans e))
end
section
variable {prog : Program} {w : World} {A : Around} {E : Value → Shared → Prop} {s : Shared} {it pool : Addr} {st : Int} {last : Value} {idx : List Nat} {vs : List Value}
theorem pynext_ok {Q : Option Value → Shared → Prop} (hc : IsC s.heap it pool st last idx)
    (h : ∀ {A' : Around} {P : Fin → Shared → Prop} {E' : Value → Shared → Prop}, A'.handled = A.handled → (∀ v s', Q (some v) s' → P (.done (.ret v)) s') → (∀ e s', StopE' e s'.heap → Q none s' → E' e s') → wpAny (model prog w) A' (Nx it) P E' s) :
    wpAny (model prog w) A (pyNext (.ref it)) Q E s := by
  have hT : s.TypeIs (.ref it) "itertools.combinations" := ⟨_, hc, rfl⟩
  unfold pyNext
  refine wpAny_bind (wpAny_attempt (wpAny_callSpecial?_slot (name := Str.ofString "__next__") hT slot_next (wpAny_call_entry slot_next hT entry_next (h rfl (fun v s' q => ?_) fun e s' q1 q2 => ?_) (args_next _))))
  · exact ⟨v, rfl, wpAny_pure q⟩
  · obtain ⟨a, o, fs, rfl, ha, hc, _⟩ := q1
    refine wpAny_bind (wpAny_isInstance (T := "StopIteration") (b := true) ⟨_, ha, hc⟩ isSubtype_stop ?_)
    exact wpAny_pure q2
end

/-- these come one behind the other -/
def Chain (n : Nat) : List Nat → List (List Nat) → Prop
  | l, [] => nextC n l = none
  | l, m :: r => nextC n l = some m ∧ Chain n m r
abbrev lobj (xs : Array Value) (c : Nat) : Obj := { cls := .type "list", dict := none, data := .seq xs c, slots := #[] }
abbrev tobj (vs : List Value) (m : List Nat) : Obj := { cls := .type "tuple", data := .seq (m.map fun j => vs.getD j .none).toArray }
/-- the tuples at these places, ascending -/
def Tups (h : Heap) (vs : List Value) (lo : Nat) : List (List Nat) → List Addr → Prop
  | [], [] => True
  | m :: ms, a :: as => h.get? a = some (tobj vs m) ∧ lo ≤ a ∧ Tups h vs (a + 1) ms as
  | _, _ => False
theorem Tups.lo {h : Heap} {vs : List Value} {lo lo' : Nat} (le : lo' ≤ lo) : ∀ {ms : List (List Nat)} {as : List Addr}, Tups h vs lo ms as → Tups h vs lo' ms as
  | [], [], _ => True.intro
  | [], _ :: _, t => t.elim
  | _ :: _, [], t => t.elim
  | _ :: _, _ :: _, t => ⟨t.1, Nat.le_trans le t.2.1, t.2.2⟩
section
variable {prog : Program} {w : World} {A : Around} {R : Result → Shared → Prop} {it pool S : Addr} {vs : List Value}
theorem loop_ok (hh : A.handled = none) (hpi : pool ≠ it) (hSi : S ≠ it) (hSp : S ≠ pool) (res : Value) :
    ∀ (rest : List (List Nat)) (s : Shared) (acc : Array Value) (c : Nat) (last : Value) (idx : List Nat), Chain vs.length idx rest → (∀ m ∈ rest, m.length ≤ 1000) → IsC s.heap it pool 1 last idx → s.heap.IsTuple pool vs.toArray →
      s.heap.get? S = some (lobj acc c) → acc.size + rest.length ≤ 1000 →
      (∀ h' (as : List Addr) c', h'.get? S = some (lobj (acc ++ (as.map Value.ref).toArray) c') → Tups h' vs s.heap.objs.size rest as → s.heap.objs.size ≤ h'.objs.size →
        (∀ b o, b ≠ it → b ≠ S → s.heap.get? b = some o → h'.get? b = some o) → R (.ok (.ret res)) { s with heap := h' }) →
      codeAny (model prog w) A (.builtin "list.extend.loop" ⟨[.ref S, .ref it, res], []⟩) R s := by
  intro rest
  induction rest with
  | nil =>
    intro s acc c last idx ch _ hc hp hS hn hR
    refine codeAny_builtin F.entry_extend_loop ?_
    rw [Around.under_plainId F.plain_extend_loop _]
    show wpAny _ A.in1 (pyNext (.ref it) >>= _) _ _ s
    refine wpAny_bind (pynext_ok hc fun hA _ f2 => next_end (hA.trans hh) hc hp ch fun e h' g1 g2 g3 => f2 e _ g1 ?_)
    exact wpAny_pure (hR h' [] c (by simpa using g3 S _ hSi hS) True.intro g2 fun b o hb _ q => g3 b o hb q)
  | cons m rest ih =>
    intro s acc c last idx ch hm hc hp hS hn hR
    rw [List.length_cons] at hn
    refine codeAny_builtin F.entry_extend_loop ?_
    rw [Around.under_plainId F.plain_extend_loop _]
    show wpAny _ A.in1 (pyNext (.ref it) >>= _) _ _ s
    refine wpAny_bind (pynext_ok hc fun hA f1 _ => next_next hc hp hpi ch.1 (hm _ List.mem_cons_self) fun h' g1 g2 g3 g4 => f1 _ _ ?_)
    have hS' := g4 S _ hSi hS
    show wpAny _ A.in1 (updateSeq S (·.push (.ref s.heap.objs.size)) >>= _) _ _ _
    refine wpAny_bind ?_
    refine wpAny_updateSeq hS' rfl ?_ (by rw [sizeLine_eq]; omega) (by show (acc.push _).size ≤ sizeLine + 1; rw [Array.size_push, sizeLine_eq]; omega)
    refine wpAny_pure ⟨plainId_quiet F.plain_extend_loop _, ?_⟩
    have ltS : S < s.heap.objs.size := Heap.lt_size hS
    have lti : it < s.heap.objs.size := Heap.lt_size hc
    have ltp : pool < s.heap.objs.size := by obtain ⟨o, ho, _⟩ := hp; exact Heap.lt_size ho
    have z : (h'.update S (Obj.mapSeq fun x => x.push (.ref s.heap.objs.size))).objs.size = h'.objs.size := Heap.size_update ..
    have keep : ∀ b o, b ≠ S → h'.get? b = some o → (h'.update S (Obj.mapSeq fun x => x.push (.ref s.heap.objs.size))).get? b = some o := fun b o hb q => (Heap.get?_update_other _ _ (Ne.symm hb)).trans q
    have hS2 : (h'.update S (Obj.mapSeq fun x => x.push (.ref s.heap.objs.size))).get? S = some (lobj (acc.push (.ref s.heap.objs.size)) _) := Heap.get?_update_self _ hS' rfl
    refine ih _ (acc.push (.ref s.heap.objs.size)) _ _ m ch.2 (fun x hx => hm x (List.mem_cons_of_mem _ hx)) (keep _ _ (Ne.symm hSi) g1) ?_ hS2 (by rw [Array.size_push]; omega) fun h2 as c' k1 k2 k3 k4 => ?_
    · obtain ⟨o, ho, r⟩ := hp
      exact ⟨o, keep _ _ (Ne.symm hSp) (g4 _ _ hpi ho), r⟩
    · have e0 : ∀ h3 : Heap, ({ ({ s with heap := h' } : Shared) with heap := h3 } : Shared) = { s with heap := h3 } := fun _ => rfl
      refine hR h2 (s.heap.objs.size :: as) c' ?_ ⟨?_, Nat.le_refl _, ?_⟩ ?_ fun b o hb1 hb2 q => k4 b o hb1 hb2 (keep b o hb2 (g4 b o hb1 q))
      · rw [k1]
        simp
      · exact k4 _ _ (Nat.ne_of_gt lti) (Nat.ne_of_gt ltS) (keep _ _ (Nat.ne_of_gt ltS) g2)
      · have le : s.heap.objs.size + 1 ≤ (h'.update S (Obj.mapSeq fun x => x.push (.ref s.heap.objs.size))).objs.size := by rw [z, g3]; exact Nat.le_refl _
        exact k2.lo le
      · rw [z, g3] at k3
        omega
/-- the whole walk, begun with the first one -/
theorem loop_all (hh : A.handled = none) (hpi : pool ≠ it) (hSi : S ≠ it) (hSp : S ≠ pool) (res : Value) {m : List Nat} {rest : List (List Nat)} {s : Shared} {c : Nat} {last : Value} (ch : Chain vs.length m rest) (hm : ∀ x ∈ m :: rest, x.length ≤ 1000)
    (hc : IsC s.heap it pool 0 last m) (hp : s.heap.IsTuple pool vs.toArray) (hS : s.heap.get? S = some (lobj #[] c)) (hn : rest.length ≤ 900)
    (hR : ∀ h' (as : List Addr) c', h'.get? S = some (lobj (as.map Value.ref).toArray c') → Tups h' vs s.heap.objs.size (m :: rest) as → s.heap.objs.size ≤ h'.objs.size →
        (∀ b o, b ≠ it → b ≠ S → s.heap.get? b = some o → h'.get? b = some o) → R (.ok (.ret res)) { s with heap := h' }) :
    codeAny (model prog w) A (.builtin "list.extend.loop" ⟨[.ref S, .ref it, res], []⟩) R s := by
  refine codeAny_builtin F.entry_extend_loop ?_
  rw [Around.under_plainId F.plain_extend_loop _]
  show wpAny _ A.in1 (pyNext (.ref it) >>= _) _ _ s
  refine wpAny_bind (pynext_ok hc fun hA f1 _ => next_first hc hp hpi (hm _ List.mem_cons_self) fun h' g1 g2 g3 g4 => f1 _ _ ?_)
  have hS' := g4 S _ hSi hS
  show wpAny _ A.in1 (updateSeq S (·.push (.ref s.heap.objs.size)) >>= _) _ _ _
  refine wpAny_bind ?_
  refine wpAny_updateSeq hS' rfl ?_ (by show 0 ≤ _; omega) (by show ((#[] : Array Value).push _).size ≤ sizeLine + 1; rw [Array.size_push, sizeLine_eq]; show 0 + 1 ≤ _; omega)
  refine wpAny_pure ⟨plainId_quiet F.plain_extend_loop _, ?_⟩
  have ltS : S < s.heap.objs.size := Heap.lt_size hS
  have lti : it < s.heap.objs.size := Heap.lt_size hc
  have z : (h'.update S (Obj.mapSeq fun x => x.push (.ref s.heap.objs.size))).objs.size = h'.objs.size := Heap.size_update ..
  have keep : ∀ b o, b ≠ S → h'.get? b = some o → (h'.update S (Obj.mapSeq fun x => x.push (.ref s.heap.objs.size))).get? b = some o := fun b o hb q => (Heap.get?_update_other _ _ (Ne.symm hb)).trans q
  have hS2 : (h'.update S (Obj.mapSeq fun x => x.push (.ref s.heap.objs.size))).get? S = some (lobj (#[].push (.ref s.heap.objs.size)) _) := Heap.get?_update_self _ hS' rfl
  refine loop_ok hh hpi hSi hSp res rest _ (#[].push (.ref s.heap.objs.size)) _ _ m ch (fun x hx => hm x (List.mem_cons_of_mem _ hx)) (keep _ _ (Ne.symm hSi) g1) ?_ hS2 (by rw [Array.size_push]; show 0 + 1 + _ ≤ _; omega) fun h2 as c' k1 k2 k3 k4 => ?_
  · obtain ⟨o, ho, r⟩ := hp
    exact ⟨o, keep _ _ (Ne.symm hSp) (g4 _ _ hpi ho), r⟩
  · refine hR h2 (s.heap.objs.size :: as) c' ?_ ⟨?_, Nat.le_refl _, ?_⟩ ?_ fun b o hb1 hb2 q => k4 b o hb1 hb2 (keep b o hb2 (g4 b o hb1 q))
    · rw [k1]
      simp
    · exact k4 _ _ (Nat.ne_of_gt lti) (Nat.ne_of_gt ltS) (keep _ _ (Nat.ne_of_gt ltS) g2)
    · have le : s.heap.objs.size + 1 ≤ (h'.update S (Obj.mapSeq fun x => x.push (.ref s.heap.objs.size))).objs.size := by rw [z, g3]; exact Nat.le_refl _
      exact k2.lo le
    · rw [z, g3] at k3
      omega
end
section
variable {prog : Program} {w : World} {A : Around} {E : Value → Shared → Prop} {s : Shared} {it pool : Addr} {vs : List Value}
/-- list(combinations(..)) -/
theorem call_list_comb {Q : Value → Shared → Prop} (hh : A.handled = none) (hpi : pool ≠ it) {m : List Nat} {rest : List (List Nat)} {last : Value} (ch : Chain vs.length m rest) (hm : ∀ x ∈ m :: rest, x.length ≤ 1000)
    (hc : IsC s.heap it pool 0 last m) (hp : s.heap.IsTuple pool vs.toArray) (hn : rest.length ≤ 900)
    (hQ : ∀ h' (as : List Addr) c', h'.get? s.heap.objs.size = some (lobj (as.map Value.ref).toArray c') → Tups h' vs (s.heap.objs.size + 1) (m :: rest) as → s.heap.objs.size + 1 ≤ h'.objs.size →
        (∀ b o, b ≠ it → s.heap.get? b = some o → h'.get? b = some o) → Q (.ref s.heap.objs.size) { s with heap := h' }) :
    wpAny (model prog w) A (call (.type "list") [.ref it]) Q E s := by
  have lti : it < s.heap.objs.size := Heap.lt_size hc
  have ltp : pool < s.heap.objs.size := by obtain ⟨o, ho, _⟩ := hp; exact Heap.lt_size ho
  refine callType_codes (Q₁ := fun obj s₁ => obj = .ref s.heap.objs.size ∧ s₁ = { s with heap := s.heap.push { cls := .type "list", data := .seq #[] } }) F.called_list (F.typeCall_list_1 _) F.entry_list_init
    (code_list_new _ ⟨rfl, rfl⟩) fun obj s₁ h₁ => ?_
  obtain ⟨rfl, rfl⟩ := h₁
  have hS : (s.heap.push { cls := .type "list", data := .seq #[] }).get? s.heap.objs.size = some { cls := .type "list", data := .seq #[] } := Heap.get?_push_size _ rfl
  refine ⟨⟨_, hS, rfl⟩, F.args_list_init_2 _ _, ?_⟩
  have hS₂ := Heap.get?_update_self (Obj.mapSeq (fun _ => (#[] : Array Value))) hS rfl
  have hc1 : IsC (s.heap.push { cls := .type "list", data := .seq #[] }) it pool 0 last m := Heap.get?_push_of_some _ hc
  generalize hg : s.heap.push { cls := .type "list", data := .seq #[] } = g at hS hS₂ hc1
  have gz : g.objs.size = s.heap.objs.size + 1 := by rw [← hg]; exact Array.size_push ..
  have gk : ∀ b o, s.heap.get? b = some o → g.get? b = some o := fun b o q => by rw [← hg]; exact Heap.get?_push_of_some _ q
  generalize hz : s.heap.objs.size = S at *
  refine wpAny_bind (m := Builtin.List.listItems (.ref S)) ?_
  unfold Builtin.List.listItems
  refine wpAny_bind (wpAny_seqItems hS rfl (wpAny_pure ?_))
  show wpAny _ _ (updateSeq S (fun _ => #[]) >>= fun _ => letGo (#[] : Array Value).toList.reverse >>= fun _ => Builtin.List.listExtendWith (.ref S) (.ref it) .none) _ _ _
  refine wpAny_bind (wpAny_updateSeq hS rfl ?_)
  refine wpAny_bind (wpAny_letGo ?_)
  have ne : S ≠ it := Nat.ne_of_gt lti
  have neP : S ≠ pool := Nat.ne_of_gt ltp
  generalize hg2 : g.update S (Obj.mapSeq (fun _ => (#[] : Array Value))) = g2 at hS₂
  have gz2 : g2.objs.size = S + 1 := by rw [← hg2, Heap.size_update, gz]
  have gk2 : ∀ b o, b ≠ S → s.heap.get? b = some o → g2.get? b = some o := fun b o hb q => by rw [← hg2]; exact (Heap.get?_update_other _ _ (Ne.symm hb)).trans (gk b o q)
  have hc2 : IsC g2 it pool 0 last m := gk2 _ _ (Ne.symm ne) hc
  have hT : ({ s with heap := g2 } : Shared).TypeIs (.ref it) "itertools.combinations" := ⟨_, hc2, rfl⟩
  unfold Builtin.List.listExtendWith
  refine wpAny_bind (wpAny_typeOf hT ?_)
  have h1 : Builtin.List.listSameRef (.ref S) (.ref it) = false := by simp [Builtin.List.listSameRef, ne]
  have h2 : (Value.type "itertools.combinations" == Value.type "list") = false := by decide +kernel
  have h3 : (Value.type "itertools.combinations" == Value.type "tuple") = false := by decide +kernel
  simp only [h1, h2, h3, Bool.or_false, Bool.false_eq_true, if_false]
  refine wpAny_bind (iter_comb hc2 ?_)
  refine wpAny_bind (wpAny_holding ?_)
  unfold Builtin.List.listLengthHint
  refine wpAny_bind (wpAny_specialOf hT no_len ?_)
  show wpAny _ _ (specialOf (Value.ref it) (Str.ofString "__length_hint__") >>= _) _ _ _
  refine wpAny_bind (wpAny_specialOf hT no_hint ?_)
  refine wpAny_pure ?_
  show wpAny _ _ (rule "list.extend.makes-room" >>= fun _ => Builtin.List.listTouch (.ref S) >>= fun _ => again (.builtin "list.extend.loop" ⟨[.ref S, .ref it, .none], []⟩)) _ _ _
  refine wpAny_bind (wpAny_rule ?_)
  refine wpAny_bind ?_
  show wpAny _ _ (updateSeq S (·.push .none) >>= fun _ => updateSeq S (·.pop)) _ _ _
  refine wpAny_bind (wpAny_updateSeq hS₂ rfl ?_)
  have hS₃ := Heap.get?_update_self (Obj.mapSeq (·.push Value.none)) hS₂ rfl
  refine wpAny_updateSeq (hz := by seq_fits) hS₃ rfl ?_
  have hS₄ := Heap.get?_update_self (Obj.mapSeq (·.pop)) hS₃ rfl
  generalize hg4 : (g2.update S (Obj.mapSeq (·.push Value.none))).update S (Obj.mapSeq (·.pop)) = g4 at hS₄
  have gz4 : g4.objs.size = S + 1 := by rw [← hg4, Heap.size_update, Heap.size_update, gz2]
  have gk4 : ∀ b o, b ≠ S → s.heap.get? b = some o → g4.get? b = some o := fun b o hb q => by
    rw [← hg4]
    exact (Heap.get?_update_other _ _ (Ne.symm hb)).trans ((Heap.get?_update_other _ _ (Ne.symm hb)).trans (gk2 b o hb q))
  refine wpAny_pure ⟨plainId_quiet F.plain_extend_loop _, loop_all (A := A.in1) (s := { s with heap := g4 }) (show A.in1.handled = none from hh) hpi ne neP .none ch hm (gk4 _ _ (Ne.symm ne) hc) ?_ hS₄ hn fun h' as c' k1 k2 k3 k4 => ?_⟩
  · obtain ⟨o, ho, r⟩ := hp
    exact ⟨o, gk4 _ _ (Ne.symm neP) ho, r⟩
  · refine ⟨rfl, hQ h' as c' k1 ?_ ?_ fun b o hb q => k4 b o hb ?_ ?_⟩
    · exact k2.lo (Nat.le_of_eq gz4.symm)
    · exact Nat.le_trans (Nat.le_of_eq gz4.symm) k3
    · exact Nat.ne_of_lt (hz ▸ Heap.lt_size q)
    · exact gk4 b o (Nat.ne_of_lt (hz ▸ Heap.lt_size q)) q
end
end Cmb

set_option Elab.async false
set_option linter.all false
set_option maxRecDepth 100000
set_option maxHeartbeats 4000000
/-! list(combinations(xs, r)) as an expression -/
namespace Cmb
/-- all that come behind these numbers, at most so many -/
def after : Nat → Nat → List Nat → List (List Nat)
  | 0, _, _ => []
  | f + 1, n, l => match nextC n l with
    | none => []
    | some m => m :: after f n m
/-- the lots of r of n, as numbers -/
def combs (n r : Nat) : List (List Nat) := List.range r :: after 30 n (List.range r)
def chainB (n : Nat) : List Nat → List (List Nat) → Bool
  | l, [] => (nextC n l).isNone
  | l, m :: r => nextC n l == some m && chainB n m r
theorem chain_of {n : Nat} : ∀ {l : List Nat} {r : List (List Nat)}, chainB n l r = true → Chain n l r
  | l, [], h => Option.isNone_iff_eq_none.mp h
  | l, m :: r, h => by
    have q := (Bool.and_eq_true _ _).mp h
    exact ⟨eq_of_beq q.1, chain_of q.2⟩
theorem combs_facts : ∀ n, n ≤ 6 → ∀ r, r ≤ n → chainB n (List.range r) (after 30 n (List.range r)) = true ∧ (combs n r).all (fun m => decide (m.length = r) && m.all fun j => decide (j < n)) = true ∧ (combs n r).length ≤ 20 := by decide +kernel
end Cmb
namespace CB
open PySem PySem.Spec PyProof.Rows L2 Cmb
/-- tuples of these -/
def TupsAt (H : Hp) : List V → List (List V) → Prop
  | [], [] => True
  | v :: vs, l :: ls => (∃ a, v = .ref a ∧ H a = some (.tup l)) ∧ TupsAt H vs ls
  | _, _ => False
theorem TupsAt.length {H : Hp} : ∀ {vs : List V} {ls : List (List V)}, TupsAt H vs ls → vs.length = ls.length
  | [], [], _ => rfl
  | _ :: _, _ :: _, h => by simp [TupsAt.length h.2]
  | [], _ :: _, h => h.elim
  | _ :: _, [], h => h.elim
theorem TupsAt.mono {H H' : Hp} (e : ∀ a xs, H a = some (.tup xs) → H' a = some (.tup xs)) : ∀ {vs : List V} {ls : List (List V)}, TupsAt H vs ls → TupsAt H' vs ls
  | [], [], _ => True.intro
  | _ :: _, _ :: _, ⟨⟨a, r, h⟩, t⟩ => ⟨⟨a, r, e _ _ h⟩, TupsAt.mono e t⟩
  | [], _ :: _, h => h.elim
  | _ :: _, [], h => h.elim
theorem TupsAt.get {H : Hp} : ∀ {vs : List V} {ls : List (List V)} {i : Nat} {v : V}, TupsAt H vs ls → vs[i]? = some v → ∃ a l, v = .ref a ∧ ls[i]? = some l ∧ H a = some (.tup l)
  | [], [], _, _, _, h => by simp at h
  | _ :: _, l :: _, 0, _, ⟨⟨a, r, h⟩, _⟩, e => by
    simp at e
    exact ⟨a, l, by rw [← e]; exact r, by simp, h⟩
  | _ :: _, _ :: _, i + 1, _, ⟨_, t⟩, e => by
    obtain ⟨a, l, h1, h2, h3⟩ := TupsAt.get (i := i) t (by simpa using e)
    exact ⟨a, l, h1, by simpa using h2, h3⟩
  | [], _ :: _, _, _, h, _ => h.elim
  | _ :: _, [], _, _, h, _ => h.elim
theorem TupsAt.append {H : Hp} : ∀ {vs ws : List V} {ls ms : List (List V)}, TupsAt H vs ls → TupsAt H ws ms → TupsAt H (vs ++ ws) (ls ++ ms)
  | [], _, [], _, _, h => h
  | _ :: _, _, _ :: _, _, ⟨a, t⟩, h => ⟨a, TupsAt.append t h⟩
  | [], _, _ :: _, _, h, _ => h.elim
  | _ :: _, _, [], _, h, _ => h.elim
def combV (xs : List V) (m : List Nat) : List V := m.map fun j => xs.getD j .non
section
variable {X : Cx} {pins : List (Addr × Obj)} {σ : L2.St} {H : Hp} {s : Shared}
theorem vals_getD {xs : List V} {us : List Value} (r : Vals xs us) (j : Nat) : RelV (xs.getD j .non) (us.getD j .none) := by
  rw [List.getD_eq_getElem?_getD, List.getD_eq_getElem?_getD]
  by_cases c : j < xs.length
  · obtain ⟨u, hu, ru⟩ := r.get (List.getElem?_eq_getElem c)
    rw [List.getElem?_eq_getElem c, hu]
    exact ru
  · rw [List.getElem?_eq_none (by omega), List.getElem?_eq_none (by have := r.length; omega)]
    rfl
theorem vals_comb {xs : List V} {us : List Value} (r : Vals xs us) : ∀ m : List Nat, Vals (combV xs m) (m.map fun j => us.getD j .none)
  | [] => .nil
  | j :: m => .cons (vals_getD r j) (vals_comb r m)
/-- new objects of a heap that has grown are tracked, one by one -/
structure Tr (X : Cx) (H H1 : Hp) (s : Shared) (h' : Heap) : Prop where
  un : Un X.fs [] H H1 s.heap h'
  ok : HOk X.prog X.w H1 h'
  same : Same H H1
theorem Tr.start (I : Inv X pins σ H s) {h' : Heap} (k : ∀ b o, s.heap.get? b = some o → h'.get? b = some o) : Tr X H H s h' := ⟨Un.kept k, I.hok.kept k, fun _ _ e => e⟩
theorem Tr.add {H1 : Hp} {h' : Heap} (t : Tr X H H1 s h') (k : ∀ b o, s.heap.get? b = some o → h'.get? b = some o) (hN : ∀ b, s.heap.objs.size ≤ b → H b = none) {a : Addr} {o : HO} (ha : s.heap.objs.size ≤ a) (hn : H1 a = none) (new : ObjOk X.prog X.w (upd H1 a o) h' a o) : Tr X H (upd H1 a o) s h' := by
  refine ⟨⟨fun b u q _ _ _ => k b u q, fun b u q _ _ _ => ⟨u.slots, k b u q⟩, fun b u q n hx => ?_, fun b u q _ => ⟨u, k b u q⟩, fun b xs q => ?_, fun b u v q => ?_, fun b ps q => ?_⟩, fun b u e => ?_, fun b u e => ?_⟩
  · rw [upd_ne (Nat.ne_of_lt (Nat.lt_of_lt_of_le (Heap.lt_size q) ha))]
    exact t.un.free b u q n hx
  · have q2 := t.same _ _ q
    rw [upd_ne (ne_of_none q2 hn)]
    exact q2
  · have q2 := t.same _ _ q
    rw [upd_ne (ne_of_none q2 hn)]
    exact q2
  · have q2 := t.same _ _ q
    exact ⟨#[], by rw [upd_ne (ne_of_none q2 hn), q2]; simp⟩
  · by_cases hb : b = a
    · subst hb
      rw [upd_same] at e
      cases e
      exact new
    · rw [upd_ne hb] at e
      exact (t.ok b u e).stay (fun _ _ _ z => z) (fun d z => by rw [upd_ne (ne_of_none z hn)]; exact z) fun d xs z => by rw [upd_ne (ne_of_none z hn)]; exact z
  · have q2 := t.same _ _ e
    rw [upd_ne (ne_of_none q2 hn)]
    exact q2
theorem Tr.tups (hN : ∀ b, s.heap.objs.size ≤ b → H b = none) {h' : Heap} (k : ∀ b o, s.heap.get? b = some o → h'.get? b = some o) {xs : List V} {us : List Value} (r : Vals xs us) : ∀ {ms : List (List Nat)} {as : List Addr} {lo : Nat} {H1 : Hp}, Tups h' us lo ms as → s.heap.objs.size ≤ lo → (∀ m ∈ ms, m.length ≤ 1000) → Tr X H H1 s h' → (∀ b, lo ≤ b → H1 b = none) →
    ∃ H2, Tr X H H2 s h' ∧ TupsAt H2 (as.map V.ref) (ms.map (combV xs)) ∧ Same H1 H2 ∧ ∀ b, b < lo → H2 b = H1 b
  | [], [], _, H1, _, _, _, t, _ => ⟨H1, t, True.intro, fun _ _ e => e, fun _ _ => rfl⟩
  | [], _ :: _, _, _, h, _, _, _, _ => h.elim
  | _ :: _, [], _, _, h, _, _, _, _ => h.elim
  | m :: ms, a :: as, lo, H1, ⟨h1, h2, h3⟩, hlo, hm, t, hf => by
    have hn := hf a h2
    have hl := hm m List.mem_cons_self
    have new : ObjOk X.prog X.w (upd H1 a (.tup (combV xs m))) h' a (.tup (combV xs m)) :=
      ⟨by unfold combV; rw [List.length_map, sizeLine_eq]; omega, _, vals_comb r m, ⟨_, h1, rfl, _, rfl⟩⟩
    have t2 := t.add k hN (Nat.le_trans hlo h2) hn new
    have hf2 : ∀ b, a + 1 ≤ b → (upd H1 a (.tup (combV xs m))) b = none := fun b hb => by
      rw [upd_ne (Nat.ne_of_gt hb)]
      exact hf b (Nat.le_trans h2 (Nat.le_of_succ_le hb))
    obtain ⟨H2, t3, t4, t5, t6⟩ := Tr.tups (lo := a + 1) hN k r h3 (show s.heap.objs.size ≤ a + 1 from Nat.le_trans hlo (Nat.le_succ_of_le h2)) (fun x hx => hm x (List.mem_cons_of_mem _ hx)) t2 hf2
    refine ⟨H2, t3, ⟨⟨a, rfl, t5 _ _ upd_same⟩, t4⟩, fun b o e => t5 _ _ ?_, fun b hb => ?_⟩
    · rw [upd_ne (ne_of_none e hn)]
      exact e
    · rw [t6 b (Nat.lt_succ_of_lt (Nat.lt_of_lt_of_le hb h2)), upd_ne (Nat.ne_of_lt (Nat.lt_of_lt_of_le hb h2))]
end
def tComb (K : PySem.W.Frag) (ta : TA) : TE := fun σ H Q => ta σ H fun vs H1 => ∃ (a : Addr) (xs : List V) (r : Nat), vs = [.ref a, .int (r : Int)] ∧ SqL K H1 a xs ∧ r ≤ xs.length ∧ xs.length ≤ 6 ∧
  ∀ p ys H', Same H1 H' → H1 p = none → H' p = some (.lst ys) → TupsAt H' ys ((combs xs.length r).map (combV xs)) → Q (.ref p) H'
section
variable {X : Cx} {ta : TA} {x : Str} {e e2 : Expr} {p0 p pos pos2 : Pos}
theorem pe_listComb (hc : X.calm = true) (hgl : Gl X "list") (hml : X.mg "list" = none) (hg : Gl X x) (hm : X.mg x = some (.type "itertools.combinations")) (ha : PA X [e, e2] ta) (hdb : (x == ("__debug__" : Str)) = false := by decide)
    (hs1 : starEach [.Call (.Name x p) [e, e2] [] pos2] X.env = (false, eval (.Call (.Name x p) [e, e2] [] pos2) X.env) :: starEach [] X.env := by rfl)
    (hp1 : (backTo pos (starEach [] X.env)).any (·.1) = false := by rfl) (hs : starEach [e, e2] X.env = (false, eval e X.env) :: starEach [e2] X.env := by rfl) (hpl : (backTo pos2 (starEach [e2] X.env)).any (·.1) = false := by rfl) :
    PE X (.Call (.Name "list" p0) [.Call (.Name x p) [e, e2] [] pos2] [] pos) (tComb X.K ta) := by
  refine ⟨fun pins s σ H Q I h => ?_⟩
  refine wpAny_Call_Name_kw (ld_blt I hgl hml PyProof.Rows.boot_list ?_)
  refine PyProof.Rows.callWith_type1 ?_ hs1 hp1
  rw [hs1]
  show wpAny _ _ (spliced ((false, eval (.Call (.Name x p) [e, e2] [] pos2) X.env) :: backTo pos (starEach [] X.env))) _ _ s
  refine Calls.spliced_cons ?_
  refine wpAny_Call_Name_kw (ld_glob I hg hm ?_ hdb)
  refine PyProof.Rows.callWith_type1 ?_ hs hpl
  refine thn (ha.run pos2 pins s σ H _ I h) fun us s1 ⟨vs, H1, I1, r1, q1⟩ => ?_
  obtain ⟨a, xs, r, rfl, hq, hr, h6, q⟩ := q1
  obtain ⟨u1, us1, rfl, ru, rus⟩ : ∃ u1 us1, us = u1 :: us1 ∧ RelV (.ref a) u1 ∧ Vals [.int (r : Int)] us1 := by
    cases r1 with
    | cons a b => exact ⟨_, _, rfl, a, b⟩
  obtain ⟨u2, us2, rfl, ru2, rus2⟩ : ∃ u2 us2, us1 = u2 :: us2 ∧ RelV (.int (r : Int)) u2 ∧ Vals [] us2 := by
    cases rus with
    | cons a b => exact ⟨_, _, rfl, a, b⟩
  cases rus2
  cases ru
  obtain ⟨tk, rfl⟩ := ru2
  obtain ⟨its, rv, pl, hsz⟩ := I1.list hq
  have hlen : its.length = xs.length := rv.length.symm
  refine call_comb (vs := its) (r := r) (by omega) pl.isList (by omega) fun h1 it pool k1 k2 k3 k4 k5 k6 k7 k8 => ?_
  refine Calls.spliced_nil ?_
  obtain ⟨f1, f2, f3⟩ := combs_facts its.length (by omega) r (by omega)
  have f4 : ∀ m ∈ combs its.length r, m.length ≤ 1000 := fun m hm => by
    have g := List.all_eq_true.mp f2 m hm
    rw [Bool.and_eq_true] at g
    have := of_decide_eq_true g.1
    omega
  refine call_list_comb (s := { s1 with heap := h1 }) (I1.ok.hd hc) (Ne.symm k5) (chain_of f1) f4 k1 k2 (by
    have f5 : (combs its.length r).length = (after 30 its.length (List.range r)).length + 1 := rfl
    omega) fun h' as c' g1 g2 g3 g4 => ?_
  have big : s1.heap.objs.size ≤ h1.objs.size := Nat.le_trans k3 (Nat.le_of_lt k6)
  have kk : ∀ b o, s1.heap.get? b = some o → h'.get? b = some o := fun b o e => g4 b o (Nat.ne_of_lt (Nat.lt_of_lt_of_le (Heap.lt_size e) k3)) (k8 b o e)
  have hN : ∀ b, s1.heap.objs.size ≤ b → H1 b = none := fun b hb => I1.hok.fresh hb
  obtain ⟨H2, t2, t3, t4, t5⟩ := Tr.tups (X := X) hN kk rv g2 (by show s1.heap.objs.size ≤ h1.objs.size + 1; omega) f4 (Tr.start I1 kk) fun b hb => hN b (Nat.le_trans big (Nat.le_trans (Nat.le_succ _) hb))
  have hn : H2 h1.objs.size = none := by
    rw [t5 _ (show h1.objs.size < h1.objs.size + 1 from Nat.lt_succ_self _)]
    exact hN _ big
  have al := t3.length
  rw [List.length_map, List.length_map] at al
  have vr : ∀ l : List Addr, Vals (l.map V.ref) (l.map Value.ref) := fun l => by
    induction l with
    | nil => exact .nil
    | cons b l ih => exact .cons rfl ih
  have new : ObjOk X.prog X.w (upd H2 h1.objs.size (.lst (as.map V.ref))) h' h1.objs.size (.lst (as.map V.ref)) :=
    ⟨by rw [List.length_map, al, sizeLine_eq]; exact Nat.le_trans f3 (by omega), as.map Value.ref, c', vr as, by exact g1⟩
  have t6 := t2.add kk hN big hn new
  refine ⟨.ref h1.objs.size, _, I1.un (t' := s1.toks) t6.un t6.ok, rfl, q _ _ _ t6.same (hN _ big) upd_same ?_⟩
  rw [hlen] at t3
  exact t3.mono fun b l e => by
    rw [upd_ne (ne_of_none e hn)]
    exact e
end
end CB

set_option Elab.async false
set_option linter.all false
set_option maxRecDepth 100000
set_option maxHeartbeats 4000000
/-! lots in their order -/
namespace CB
open PySem PySem.Spec PyProof.Rows L2 Cmb
/-- all lots of so many people, by how many they are, then as tuples -/
def lotsI (n : Nat) : List (List Nat) := (List.range (n + 1)).flatMap (combs n)
/-- those among some ascending persons -/
def lotsAm (S : List Nat) : List (List Nat) := (List.range (S.length + 1)).flatMap fun r => (combs S.length r).map fun m => m.map fun j => S.getD j 0
def byB (a b : List Nat) : Bool := decide (a.length < b.length) || (decide (a.length = b.length) && decide (TS.code 64 (pI a) ≤ TS.code 64 (pI b)))
def pairB (f : List Nat → List Nat → Bool) : List (List Nat) → Bool
  | [] => true
  | a :: l => l.all (f a) && pairB f l
theorem pairB_of {f : List Nat → List Nat → Bool} {R : List Nat → List Nat → Prop} (h : ∀ a b, f a b = true → R a b) : ∀ {l : List (List Nat)}, pairB f l = true → l.Pairwise R
  | [], _ => .nil
  | a :: l, e => by
    have q := (Bool.and_eq_true _ _).mp e
    exact .cons (fun b hb => h a b (List.all_eq_true.mp q.1 b hb)) (pairB_of h q.2)
theorem byB_of (a b : List Nat) (h : byB a b = true) : a.length < b.length ∨ (a.length = b.length ∧ TS.code 64 (pI a) ≤ TS.code 64 (pI b)) := by
  unfold byB at h
  rcases Bool.or_eq_true_iff.mp h with h | h
  · exact .inl (of_decide_eq_true h)
  · have q := (Bool.and_eq_true _ _).mp h
    exact .inr ⟨of_decide_eq_true q.1, of_decide_eq_true q.2⟩
theorem lotsI_facts : ∀ n, n ≤ 6 → (lotsI n).isPerm (subs n) = true ∧ pairB byB (lotsI n) = true := by decide +kernel
theorem code_anti : ∀ n, n ≤ 6 → ((subs n).all fun a => (subs n).all fun b => !(decide (a.length = b.length) && decide (TS.code 64 (pI a) = TS.code 64 (pI b))) || a == b) = true := by decide +kernel
theorem lotsI_perm {n : Nat} (h : n ≤ 6) : (lotsI n).Perm (subs n) := List.isPerm_iff.mp (lotsI_facts n h).1
theorem lotsI_by {n : Nat} (h : n ≤ 6) : LotsBy (lotsI n) := pairB_of byB_of (lotsI_facts n h).2
theorem lots_unique {n : Nat} {L : List (List Nat)} (h : n ≤ 6) (p : L.Perm (subs n)) (b : LotsBy L) : L = lotsI n := by
  refine List.Perm.eq_of_pairwise (fun x y hx hy r1 r2 => ?_) b (lotsI_by h) (p.trans (lotsI_perm h).symm)
  have q := List.all_eq_true.mp (List.all_eq_true.mp (code_anti n h) x (p.mem_iff.mp hx)) y ((lotsI_perm h).mem_iff.mp hy)
  rcases r1 with r1 | ⟨r1, s1⟩
  · rcases r2 with r2 | ⟨r2, s2⟩ <;> omega
  · rcases r2 with r2 | ⟨r2, s2⟩
    · omega
    · rw [decide_eq_true r1, decide_eq_true (show TS.code 64 (pI x) = TS.code 64 (pI y) by omega)] at q
      simpa using q
theorem lotsAm_facts : ∀ n, n ≤ 6 → ((subs n).all fun S => lotsAm S == (lotsI n).filter fun l => l.all fun p => S.contains p) = true := by decide +kernel
theorem lotsAm_eq {n : Nat} {S : List Nat} (h : n ≤ 6) (hS : S ∈ subs n) : lotsAm S = (lotsI n).filter fun l => l.all fun p => S.contains p :=
  eq_of_beq (List.all_eq_true.mp (lotsAm_facts n h) S hS)
theorem lotsAm_few : ∀ n, n ≤ 6 → ((subs n).all fun S => decide ((lotsAm S).length ≤ 64)) = true := by decide +kernel
theorem range_subs (n : Nat) : List.range n ∈ subs n := by
  have h := subs_filter (fun _ => true) n
  rwa [List.filter_eq_self.mpr (fun _ _ => rfl)] at h
theorem lotsAm_range {n : Nat} (h : n ≤ 6) : lotsAm (List.range n) = lotsI n := by
  rw [lotsAm_eq h (range_subs n)]
  refine List.filter_eq_self.mpr fun l hl => List.all_eq_true.mpr fun p hp => ?_
  have := subs_lt ((lotsI_perm h).mem_iff.mp hl) p hp
  simp [this]
/-- tuples of persons -/
theorem tups_lots {K : PySem.W.Frag} {H : Hp} (ps : List Nat) : ∀ {vs : List V} {ms : List (List Nat)}, (∀ m ∈ ms, ∀ j ∈ m, j < ps.length) → TupsAt H vs (ms.map (combV (pV ps))) → LotsAt K H vs (ms.map fun m => m.map fun j => ps.getD j 0)
  | [], [], _, _ => .nil
  | [], _ :: _, _, h => h.elim
  | _ :: _, [], _, h => h.elim
  | v :: vs, m :: ms, hb, ⟨⟨a, e, ha⟩, t⟩ => by
    have ec : combV (pV ps) m = pV (m.map fun j => ps.getD j 0) := by
      unfold combV pV pI
      rw [List.map_map, List.map_map, List.map_map]
      refine List.map_congr_left fun j hj => ?_
      have hl := hb m List.mem_cons_self j hj
      simp [List.getD_eq_getElem?_getD, List.getElem?_map, List.getElem?_eq_getElem hl]
    refine .cons ⟨a, e, ?_⟩ (tups_lots ps (fun m hm => hb m (List.mem_cons_of_mem _ hm)) t)
    rw [ec] at ha
    exact SqT.of ha
theorem combs_lt {k r : Nat} (hk : k ≤ 6) (hr : r ≤ k) : ∀ m ∈ combs k r, ∀ j ∈ m, j < k := fun m hm j hj => by
  have g := List.all_eq_true.mp (combs_facts k hk r hr).2.1 m hm
  rw [Bool.and_eq_true] at g
  exact of_decide_eq_true (List.all_eq_true.mp g.2 j hj)
end CB

set_option Elab.async false
set_option linter.all false
set_option maxRecDepth 100000
set_option maxHeartbeats 4000000
/-! terms whose persons are called otherwise; the outcome mirrored and renamed -/
namespace CB
open PySem PySem.Spec PyProof.Rows L2
mutual
def Tm.ren (o : List Nat) : Tm → Tm
  | .bid p => .bid (o.getD p 0)
  | .fixed q => .fixed q
  | .mean ws ts => .mean ws (Tm.rens o ts)
  | .least ts => .least (Tm.rens o ts)
  | .greatest ts => .greatest (Tm.rens o ts)
  | .ranked k ts => .ranked k (Tm.rens o ts)
  | .between lo hi t => .between lo hi (t.ren o)
def Tm.rens (o : List Nat) : List Tm → List Tm
  | [] => []
  | t :: ts => t.ren o :: Tm.rens o ts
end
theorem rens_map (o : List Nat) : ∀ ts : List Tm, Tm.rens o ts = ts.map (Tm.ren o)
  | [] => rfl
  | t :: ts => by rw [Tm.rens, rens_map o ts]; rfl
theorem rens_len (o : List Nat) (ts : List Tm) : (Tm.rens o ts).length = ts.length := by rw [rens_map, List.length_map]
mutual
theorem ren_wt (o : List Nat) (s : Nat) : ∀ t : Tm, (t.ren o).wt s = t.wt s
  | .bid _ => rfl
  | .fixed _ => rfl
  | .mean ws ts => by show Tm.wts s (Tm.rens o ts) + 12 = Tm.wts s ts + 12; rw [rens_wts o s ts]
  | .least ts => rens_wts o s ts
  | .greatest ts => rens_wts o s ts
  | .ranked k ts => rens_wts o s ts
  | .between lo hi t => by show (t.ren o).wt s + s + s = t.wt s + s + s; rw [ren_wt o s t]
theorem rens_wts (o : List Nat) (s : Nat) : ∀ ts : List Tm, Tm.wts s (Tm.rens o ts) = Tm.wts s ts
  | [] => rfl
  | t :: ts => by show (t.ren o).wt s + 8 + Tm.wts s (Tm.rens o ts) = t.wt s + 8 + Tm.wts s ts; rw [ren_wt o s t, rens_wts o s ts]
end
mutual
theorem ren_dep (o : List Nat) : ∀ t : Tm, (t.ren o).dep = t.dep
  | .bid _ => rfl
  | .fixed _ => rfl
  | .mean ws ts => by show Tm.deps (Tm.rens o ts) + 1 = Tm.deps ts + 1; rw [rens_deps o ts]
  | .least ts => by show Tm.deps (Tm.rens o ts) + 1 = Tm.deps ts + 1; rw [rens_deps o ts]
  | .greatest ts => by show Tm.deps (Tm.rens o ts) + 1 = Tm.deps ts + 1; rw [rens_deps o ts]
  | .ranked k ts => by show Tm.deps (Tm.rens o ts) + 1 = Tm.deps ts + 1; rw [rens_deps o ts]
  | .between lo hi t => by show (t.ren o).dep + 1 = t.dep + 1; rw [ren_dep o t]
theorem rens_deps (o : List Nat) : ∀ ts : List Tm, Tm.deps (Tm.rens o ts) = Tm.deps ts
  | [] => rfl
  | t :: ts => by show max (t.ren o).dep (Tm.deps (Tm.rens o ts)) = max t.dep (Tm.deps ts); rw [ren_dep o t, rens_deps o ts]
end
mutual
theorem ren_cnt (o : List Nat) : ∀ t : Tm, (t.ren o).cnt = t.cnt
  | .bid _ => rfl
  | .fixed _ => rfl
  | .mean ws ts => by show Tm.cnts (Tm.rens o ts) + 1 = Tm.cnts ts + 1; rw [rens_cnts o ts]
  | .least ts => by show Tm.cnts (Tm.rens o ts) + 1 = Tm.cnts ts + 1; rw [rens_cnts o ts]
  | .greatest ts => by show Tm.cnts (Tm.rens o ts) + 1 = Tm.cnts ts + 1; rw [rens_cnts o ts]
  | .ranked k ts => by show Tm.cnts (Tm.rens o ts) + 1 = Tm.cnts ts + 1; rw [rens_cnts o ts]
  | .between lo hi t => by show (t.ren o).cnt + 1 = t.cnt + 1; rw [ren_cnt o t]
theorem rens_cnts (o : List Nat) : ∀ ts : List Tm, Tm.cnts (Tm.rens o ts) = Tm.cnts ts
  | [] => rfl
  | t :: ts => by show (t.ren o).cnt + Tm.cnts (Tm.rens o ts) = t.cnt + Tm.cnts ts; rw [ren_cnt o t, rens_cnts o ts]
end
theorem rens_ne {o : List Nat} {ts : List Tm} (h : ts ≠ []) : Tm.rens o ts ≠ [] := by
  rw [rens_map]
  intro e
  exact h (List.map_eq_nil_iff.mp e)
/-- an order of n persons -/
def Ord (n : Nat) (o : List Nat) : Prop := o.length = n ∧ o.Perm (List.range n)
theorem Ord.lt {n : Nat} {o : List Nat} (h : Ord n o) {p : Nat} (hp : p < n) : o.getD p 0 < n := by
  have hl : p < o.length := by rw [h.1]; exact hp
  rw [List.getD_eq_getElem?_getD, List.getElem?_eq_getElem hl]
  exact List.mem_range.mp (h.2.mem_iff.mp (List.getElem_mem hl))
mutual
theorem ren_ok {n s : Nat} {o : List Nat} (ho : ∀ p, p < n → o.getD p 0 < n) : ∀ {t : Tm}, t.Ok n s → (t.ren o).Ok n s
  | .bid p, h => ho p h
  | .fixed q, h => h
  | .mean ws ts, h => ⟨by rw [rens_len]; exact h.1, rens_ne h.2.1, by rw [rens_len]; exact h.2.2.1, h.2.2.2.1, rens_ok ho h.2.2.2.2⟩
  | .least ts, h => ⟨rens_ne h.1, by rw [rens_len]; exact h.2.1, rens_ok ho h.2.2⟩
  | .greatest ts, h => ⟨rens_ne h.1, by rw [rens_len]; exact h.2.1, rens_ok ho h.2.2⟩
  | .ranked k ts, h => ⟨h.1, by rw [rens_len]; exact h.2.1, by rw [rens_len]; exact h.2.2.1, rens_ok ho h.2.2.2⟩
  | .between lo hi t, h => ⟨h.1, h.2.1, h.2.2.1, ren_ok ho h.2.2.2⟩
theorem rens_ok {n s : Nat} {o : List Nat} (ho : ∀ p, p < n → o.getD p 0 < n) : ∀ {ts : List Tm}, Tm.Oks n s ts → Tm.Oks n s (Tm.rens o ts)
  | [], _ => trivial
  | t :: ts, h => ⟨ren_ok ho h.1, rens_ok ho h.2⟩
end
mutual
/-- what a renamed term tells -/
theorem ren_val {n s : Nat} {o : List Nat} {bs cs : List Rat} (e : ∀ p, p < n → bs.getD (o.getD p 0) 0 = cs.getD p 0) : ∀ {t : Tm}, t.Ok n s → (t.ren o).val bs = t.val cs
  | .bid p, h => e p h
  | .fixed q, h => rfl
  | .mean ws ts, h => by show wavg ws (Tm.vals bs (Tm.rens o ts)) = wavg ws (Tm.vals cs ts); rw [rens_vals e h.2.2.2.2]
  | .least ts, h => by show minL (Tm.vals bs (Tm.rens o ts)) = minL (Tm.vals cs ts); rw [rens_vals e h.2.2]
  | .greatest ts, h => by show maxL (Tm.vals bs (Tm.rens o ts)) = maxL (Tm.vals cs ts); rw [rens_vals e h.2.2]
  | .ranked k ts, h => by show kthG (k - 1) (Tm.vals bs (Tm.rens o ts)) = kthG (k - 1) (Tm.vals cs ts); rw [rens_vals e h.2.2.2]
  | .between lo hi t, h => by show rmax lo (rmin hi ((t.ren o).val bs)) = rmax lo (rmin hi (t.val cs)); rw [ren_val e h.2.2.2]
theorem rens_vals {n s : Nat} {o : List Nat} {bs cs : List Rat} (e : ∀ p, p < n → bs.getD (o.getD p 0) 0 = cs.getD p 0) : ∀ {ts : List Tm}, Tm.Oks n s ts → Tm.vals bs (Tm.rens o ts) = Tm.vals cs ts
  | [], _ => rfl
  | t :: ts, h => by
    show (t.ren o).val bs :: Tm.vals bs (Tm.rens o ts) = t.val cs :: Tm.vals cs ts
    rw [ren_val e h.1, rens_vals e h.2]
end
theorem end01_getD {n p : Nat} {S : List Nat} (h : p < n) : (end01 n S).getD p 0 = if p ∈ S then 1 else 0 := by
  rw [List.getD_eq_getElem?_getD, end01_get h]
  rfl
theorem nd_inj {o : List Nat} (nd : o.Nodup) {p q : Nat} {lp : p < o.length} {lq : q < o.length} (h : o[p] = o[q]) : p = q := by
  rcases Nat.lt_trichotomy p q with c | c | c
  · exact absurd h (List.pairwise_iff_getElem.mp nd p q lp lq c)
  · exact c
  · exact absurd h.symm (List.pairwise_iff_getElem.mp nd q p lq lp c)
/-- the outcome of the renamed rule -/
theorem outc_ren {n s : Nat} {o : List Nat} {t : Tm} {ws vs : List Rat} (ht : t.Ok n s) (ho : Ord n o) (hw : ws.length = n) (hv : vs.length = n) (e : ∀ p, p < n → vs.getD (o.getD p 0) 0 = ws.getD p 0) : outc (t.ren o) n vs = outc t n ws := by
  have hr : (t.ren o).Ok n s := ren_ok (fun p hp => ho.lt hp) ht
  have inj : ∀ p q, p < n → q < n → o.getD p 0 = o.getD q 0 → p = q := fun p q hp hq h => by
    have nd : o.Nodup := ho.2.nodup_iff.mpr List.nodup_range
    have lp : p < o.length := by rw [ho.1]; exact hp
    have lq : q < o.length := by rw [ho.1]; exact hq
    rw [List.getD_eq_getElem?_getD, List.getD_eq_getElem?_getD, List.getElem?_eq_getElem lp, List.getElem?_eq_getElem lq] at h
    exact nd_inj nd h
  have sur : ∀ q, q < n → ∃ p, p < n ∧ o.getD p 0 = q := fun q hq => by
    obtain ⟨p, hp, e⟩ := List.mem_iff_getElem.mp (ho.2.mem_iff.mpr (List.mem_range.mpr hq))
    exact ⟨p, by rw [← ho.1]; exact hp, by rw [List.getD_eq_getElem?_getD, List.getElem?_eq_getElem hp]; exact e⟩
  have a : outc (t.ren o) n vs ≤ outc t n ws := by
    obtain ⟨S, h1, h2, h3, _⟩ := outc_at (t := t.ren o) hv
    refine outc_ge (S := (List.range n).filter fun p => decide (o.getD p 0 ∈ S)) ht hw (fun p hp => List.mem_range.mp (List.mem_filter.mp hp).1) ?_ ?_
    · rw [← ren_val (o := o) (bs := end01 n S) (fun p hp => ?_) ht]
      · exact h2
      · rw [end01_getD (ho.lt hp), end01_getD hp]
        by_cases c : o.getD p 0 ∈ S
        · have : p ∈ (List.range n).filter fun p => decide (o.getD p 0 ∈ S) := List.mem_filter.mpr ⟨List.mem_range.mpr hp, decide_eq_true c⟩
          rw [if_pos c, if_pos this]
        · have : ¬ p ∈ (List.range n).filter fun p => decide (o.getD p 0 ∈ S) := fun z => c (of_decide_eq_true (List.mem_filter.mp z).2)
          rw [if_neg c, if_neg this]
    · intro p hp
      have hp1 := List.mem_range.mp (List.mem_filter.mp hp).1
      rw [← e p hp1]
      exact h3 _ (of_decide_eq_true (List.mem_filter.mp hp).2)
  have b : outc t n ws ≤ outc (t.ren o) n vs := by
    obtain ⟨S, h1, h2, h3, _⟩ := outc_at (t := t) hw
    refine outc_ge (S := S.map fun p => o.getD p 0) hr hv (fun q hq => ?_) ?_ ?_
    · obtain ⟨p, hp, rfl⟩ := List.mem_map.mp hq
      exact ho.lt (h1 p hp)
    · rw [ren_val (o := o) (cs := end01 n S) (fun p hp => ?_) ht]
      · exact h2
      · rw [end01_getD (ho.lt hp), end01_getD hp]
        by_cases c : p ∈ S
        · have : o.getD p 0 ∈ S.map fun p => o.getD p 0 := List.mem_map.mpr ⟨p, c, rfl⟩
          rw [if_pos c, if_pos this]
        · have : ¬ o.getD p 0 ∈ S.map fun p => o.getD p 0 := fun z => by
            obtain ⟨q, hq, eq⟩ := List.mem_map.mp z
            exact c (inj q p (h1 q hq) hp eq ▸ hq)
          rw [if_neg c, if_neg this]
    · intro q hq
      obtain ⟨p, hp, rfl⟩ := List.mem_map.mp hq
      rw [e p (h1 p hp)]
      exact h3 p hp
  grind
/-- where a person stands in an order -/
def posL (o : List Nat) (q : Nat) : Nat := o.findIdx fun x => x == q
theorem posL_at {n : Nat} {o : List Nat} (h : Ord n o) {q : Nat} (hq : q < n) : posL o q < n ∧ o[posL o q]? = some q ∧ ∀ m, m < posL o q → o[m]? ≠ some q := by
  have hm : q ∈ o := h.2.mem_iff.mpr (List.mem_range.mpr hq)
  have lt : posL o q < o.length := List.findIdx_lt_length_of_exists ⟨q, hm, by simp⟩
  have at' : (o[posL o q] == q) = true := List.findIdx_getElem (w := lt)
  refine ⟨by rw [← h.1]; exact lt, by rw [List.getElem?_eq_getElem lt, beq_iff_eq.mp at'], fun m hm2 e => ?_⟩
  have lm : m < o.length := Nat.lt_trans hm2 lt
  have := List.not_of_lt_findIdx hm2
  rw [List.getElem?_eq_getElem lm] at e
  rw [Option.some.inj e] at this
  simp at this
theorem posL_of {n : Nat} {o : List Nat} (h : Ord n o) {p : Nat} (hp : p < n) : posL o (o.getD p 0) = p := by
  have lp : p < o.length := by rw [h.1]; exact hp
  have e0 : o.getD p 0 = o[p] := by rw [List.getD_eq_getElem?_getD, List.getElem?_eq_getElem lp]; rfl
  obtain ⟨h1, h2, _⟩ := posL_at h (h.lt hp)
  have l1 : posL o (o.getD p 0) < o.length := by rw [h.1]; exact h1
  rw [List.getElem?_eq_getElem l1] at h2
  have h3 := Option.some.inj h2
  have nd : o.Nodup := h.2.nodup_iff.mpr List.nodup_range
  exact nd_inj nd (lp := l1) (lq := lp) (h3.trans e0)
/-- the order that takes it back -/
def invL (n : Nat) (o : List Nat) : List Nat := (List.range n).map (posL o)
theorem invL_get {n : Nat} {o : List Nat} (h : Ord n o) {p : Nat} (hp : p < n) : (invL n o).getD (o.getD p 0) 0 = p := by
  unfold invL
  rw [List.getD_eq_getElem?_getD, List.getElem?_map, List.getElem?_range (h.lt hp)]
  exact posL_of h hp
theorem invL_ord {n : Nat} {o : List Nat} (h : Ord n o) : Ord n (invL n o) := by
  refine ⟨by unfold invL; rw [List.length_map, List.length_range], ?_⟩
  have e : o.map (posL o) = List.range n := by
    refine List.ext_getElem? fun j => ?_
    by_cases hj : j < n
    · have lj : j < o.length := by rw [h.1]; exact hj
      rw [List.getElem?_map, List.getElem?_eq_getElem lj, List.getElem?_range hj]
      have e0 : o.getD j 0 = o[j] := by rw [List.getD_eq_getElem?_getD, List.getElem?_eq_getElem lj]; rfl
      show some (posL o o[j]) = some j
      rw [← e0, posL_of h hj]
    · rw [List.getElem?_eq_none (by rw [List.length_map, h.1]; omega), List.getElem?_eq_none (by rw [List.length_range]; omega)]
  rw [← e]
  unfold invL
  exact (h.2.map (posL o)).symm
mutual
theorem ren_ren {n s : Nat} {o i : List Nat} (h : ∀ p, p < n → i.getD (o.getD p 0) 0 = p) : ∀ {t : Tm}, t.Ok n s → (t.ren o).ren i = t
  | .bid p, k => by show Tm.bid (i.getD (o.getD p 0) 0) = _; rw [h p k]
  | .fixed q, k => rfl
  | .mean ws ts, k => by show Tm.mean ws (Tm.rens i (Tm.rens o ts)) = _; rw [rens_rens h k.2.2.2.2]
  | .least ts, k => by show Tm.least (Tm.rens i (Tm.rens o ts)) = _; rw [rens_rens h k.2.2]
  | .greatest ts, k => by show Tm.greatest (Tm.rens i (Tm.rens o ts)) = _; rw [rens_rens h k.2.2]
  | .ranked r ts, k => by show Tm.ranked r (Tm.rens i (Tm.rens o ts)) = _; rw [rens_rens h k.2.2.2]
  | .between lo hi t, k => by show Tm.between lo hi ((t.ren o).ren i) = _; rw [ren_ren h k.2.2.2]
theorem rens_rens {n s : Nat} {o i : List Nat} (h : ∀ p, p < n → i.getD (o.getD p 0) 0 = p) : ∀ {ts : List Tm}, Tm.Oks n s ts → Tm.rens i (Tm.rens o ts) = ts
  | [], _ => rfl
  | t :: ts, k => by show (t.ren o).ren i :: Tm.rens i (Tm.rens o ts) = _; rw [ren_ren h k.1, rens_rens h k.2]
end
/-! mirrored -/
def compL (n : Nat) (l : List Nat) : List Nat := (List.range n).filter fun p => !decide (p ∈ l)
theorem fl_ends (n : Nat) (l : List Nat) : end01 n (compL n l) = flL (end01 n l) := by
  refine List.ext_getElem? fun i => ?_
  by_cases h : i < n
  · rw [end01_get h]
    unfold flL
    rw [List.getElem?_map, end01_get h]
    by_cases g : i ∈ l
    · have : i ∉ compL n l := fun z => by
        have := (List.mem_filter.mp z).2
        simp [g] at this
      rw [if_neg this, if_pos g]
      decide +kernel
    · have : i ∈ compL n l := List.mem_filter.mpr ⟨List.mem_range.mpr h, by simp [g]⟩
      rw [if_pos this, if_neg g]
      decide +kernel
  · rw [List.getElem?_eq_none (by rw [end01_len]; omega), List.getElem?_eq_none (by rw [flL_len, end01_len]; omega)]
theorem fl_more {n : Nat} {ws : List Rat} {y : Rat} (hw : ws.length = n) : moreL (flL ws) (1 - y) n = lessL ws y n := by
  unfold moreL lessL
  refine List.filter_congr fun p hp => decide_eq_decide.mpr ?_
  have := List.mem_range.mp hp
  rw [flL_get (by omega)]
  constructor <;> intro h <;> grind
theorem fl_less {n : Nat} {ws : List Rat} {y : Rat} (hw : ws.length = n) : lessL (flL ws) (1 - y) n = moreL ws y n := by
  unfold moreL lessL
  refine List.filter_congr fun p hp => decide_eq_decide.mpr ?_
  have := List.mem_range.mp hp
  rw [flL_get (by omega)]
  constructor <;> intro h <;> grind
theorem fl_just {n : Nat} {ws : List Rat} {y : Rat} (hw : ws.length = n) : justL (flL ws) (1 - y) n = justL ws y n := by
  unfold justL
  refine List.filter_congr fun p hp => decide_eq_decide.mpr ?_
  have := List.mem_range.mp hp
  rw [flL_get (by omega)]
  constructor <;> intro h <;> grind
theorem less_comp {n : Nat} {ws : List Rat} {y : Rat} : lessL ws y n = compL n (wishL ws y n) := by
  unfold lessL compL
  refine List.filter_congr fun p hp => ?_
  have hp' := List.mem_range.mp hp
  rw [Bool.eq_iff_iff, decide_eq_true_iff, Bool.not_eq_true', decide_eq_false_iff_not, wishL_mem]
  constructor
  · intro h z
    exact z.2 h
  · intro h
    by_cases c : ws.getD p 0 < y
    · exact c
    · exact absurd ⟨hp', c⟩ h
theorem fl_wish {n : Nat} {ws : List Rat} {y : Rat} (hw : ws.length = n) : wishL (flL ws) (1 - y) n = compL n (moreL ws y n) := by
  unfold wishL compL
  refine List.filter_congr fun p hp => ?_
  have hp' := List.mem_range.mp hp
  rw [flL_get (by omega), Bool.eq_iff_iff, Bool.not_eq_true', Bool.not_eq_true', decide_eq_false_iff_not, decide_eq_false_iff_not, moreL_mem]
  constructor
  · intro h z
    exact h (by have := z.2; grind)
  · intro h z
    exact h ⟨hp', by grind⟩
/-- the outcome of the mirrored rule -/
theorem outc_mir {n s : Nat} {t : Tm} {ws : List Rat} (ht : t.Ok n s) (hw : ws.length = n) : outc t.mir n (flL ws) = 1 - outc t n ws := by
  have h0 := isOut_iff (y := outc t n ws) ht hw
  rw [decide_eq_true rfl] at h0
  have h1 := isOut_iff (t := t.mir) (ws := flL ws) (y := 1 - outc t n ws) (mir_ok ht) (by rw [flL_len]; exact hw)
  have h2 : isOut t.mir n (flL ws) (1 - outc t n ws) = true := by
    unfold isOut at h0 ⊢
    rw [Bool.and_eq_true, Bool.not_eq_true', Bool.not_eq_true', decide_eq_false_iff_not, decide_eq_false_iff_not] at h0 ⊢
    rw [fl_more hw, less_comp, fl_ends, mir_val (end01_len n _) ht, fl_wish hw, fl_ends, mir_val (end01_len n _) ht]
    obtain ⟨a, b⟩ := h0
    constructor
    · intro z; exact b (by grind)
    · intro z; exact a (by grind)
  rw [h2] at h1
  exact (of_decide_eq_true h1.symm).symm
end CB

set_option Elab.async false
set_option linter.all false
set_option maxRecDepth 100000
set_option maxHeartbeats 4000000
/-! sorted(..) of a tuple of integers -/
namespace STup
open PySem PySem.Spec PyProof.Rows
open Sem (wp)
section
variable {prog : Program} {w : World} {A : Around} {E : Value → Shared → Prop} {s : Shared} {l : Addr} {vs : List Value}
theorem take_tup {Q : List Value → Shared → Prop} (hl : s.heap.IsTuple l vs.toArray) (few : vs.length ≤ 1000)
    (k : Q vs { s with heap := (s.heap.push (seqObj "list" #[] 0)).update s.heap.objs.size (Obj.mapSeq (· ++ vs.toArray)) }) : wpAny (model prog w) A (collect (.ref l)) Q E s := by
  obtain ⟨o, ho, hc, n, hd⟩ := id hl
  have z := sizeLine_eq
  unfold collect
  refine wpAny_bind (wpAny_runValue (codeAny_builtin entry_proto_collect' ?_))
  refine wpAny_bind (wpAny_newList (wpAny_pure ⟨Code.quiet_builtin _ (by decide +kernel), codeAny_builtin entry_list_iadd' ?_⟩))
  show wpAny _ _ (Builtin.List.listExtendWith (.ref s.heap.objs.size) (.ref l) _) _ _ { s with heap := s.heap.push (seqObj "list" #[] 0) }
  unfold Builtin.List.listExtendWith
  have g0 : (s.heap.push (seqObj "list" #[] 0)).get? s.heap.objs.size = some (seqObj "list" #[] 0) := Heap.get?_push_size _ rfl
  have g1 : (s.heap.push (seqObj "list" #[] 0)).get? l = some o := Heap.get?_push_of_some _ ho
  refine wpAny_bind (wpAny_typeOf (T := "tuple") ⟨o, g1, hc⟩ ?_)
  rw [if_pos (by rw [show (Value.type "tuple" == Value.type "tuple") = true from by rfl]; simp)]
  refine wpAny_bind (listItems_at g1 hd (wpAny_bind (listItems_at (xs := #[]) (n := 0) g0 rfl ?_)))
  rw [if_neg (by simp)]
  refine wpAny_bind (listUpdate_at (xs := #[]) (n := 0) g0 rfl ?_ (Nat.zero_le _) (by show (#[] ++ vs.toArray).size ≤ _; simp only [Array.size_append, List.size_toArray, List.length_nil]; omega))
  refine wpAny_pure ?_
  refine wpAny_bind (m := load s.heap.objs.size) (wpAny_load (get?_update_seq g0 _) ?_)
  show wpAny _ _ (pure ((#[] : Array Value) ++ vs.toArray).toList) _ _ _
  rw [show ((#[] : Array Value) ++ vs.toArray).toList = vs by simp]
  exact wpAny_pure k
theorem sorted_tup {ns : List Int} {Q : Value → Shared → Prop} (hl : s.heap.IsTuple l vs.toArray) (hI : IntsAre vs ns) (few : vs.length < 64)
    (k : ∀ (out : Array Value) (ms : List Int), IntsAre out.toList ms → ms.Perm ns → ms.Pairwise (· ≤ ·) → Q (.ref (s.heap.objs.size + 1)) { s with heap := sortedAll s.heap vs out }) :
    wpAny (model prog w) A (call (.builtin "sorted") [.ref l]) Q E s := by
  refine Calls.call_function_entry kind_sorted plain_sorted entry_sorted (args_sorted1 _) ?_
  unfold Builtin.«sorted»
  refine wpAny_bind (m := checkCount "sorted" 1 1 _) (wpAny_pure (wpAny_bind (take_tup hl (by omega) (wpAny_bind (wpAny_newList ?_)))))
  generalize hg : (s.heap.push (seqObj "list" #[] 0)).update s.heap.objs.size (Obj.mapSeq (· ++ vs.toArray)) = g
  have z : g.objs.size = s.heap.objs.size + 1 := by rw [← hg, Heap.size_update, size_push']
  have at1 : (g.push (seqObj "list" vs.toArray 0)).get? (s.heap.objs.size + 1) = some (seqObj "list" vs.toArray 0) := by rw [← z]; exact Heap.get?_push_size _ rfl
  show wpAny _ _ _ _ _ { s with heap := g.push (seqObj "list" vs.toArray 0) }
  rw [z]
  refine wpAny_bind (wpAny_holding (wpAny_call_entry slot_list_sort ⟨_, at1, rfl⟩ entry_list_sort (list_sort_tree at1 hI few fun out ms a1 a2 a3 => ⟨_, rfl, wpAny_pure ⟨_, rfl, ?_⟩⟩) (args_list_sort _)))
  have q := k out ms a1 a2 a3
  unfold sortedAll at q
  rw [hg] at q
  exact q
end
end STup
namespace CB
open PySem PySem.Spec PyProof.Rows L2
section
variable {X : Cx}
def rSortedTup (K : PySem.W.Frag) : List V → Hp → VK → Prop := fun vs H Q => ∃ (a : Addr) (ns : List Int), vs = [V.ref a] ∧ SqT K H a (ns.map V.int) ∧ ns.length < 64 ∧
  ∀ (ms : List Int) (p : Addr), ms.Perm ns → ms.Pairwise (· ≤ ·) → H p = none → Q (.ref p) (upd H p (.lst (ms.map V.int)))
theorem cr_sortedTup : CallR X (.builtin "sorted") (rSortedTup X.K) := by
  intro pins s σ H vs us Q I r h
  obtain ⟨a, ns, rfl, hs, few, q⟩ := h
  obtain ⟨its, rv, hl, _⟩ := I.tuple hs
  rw [Vals.ref1 r]
  have hi := rv.ints
  refine STup.sorted_tup (show s.heap.IsTuple a its.toArray from hl) hi (by rw [hi.length]; exact few) fun out ms h1 h2 h3 => ?_
  obtain ⟨ep, he⟩ := sortedAll_at s.heap its out
  have hlen : (ms.map V.int).length ≤ sizeLine := by rw [List.length_map, h2.length_eq, sizeLine_eq]; omega
  refine ⟨.ref _, upd H (s.heap.objs.size + 1) (.lst (ms.map V.int)), ?_, rfl, q ms _ h2 h3 (I.hok.fresh (Nat.le_succ _))⟩
  exact I.laid (t' := s.toks) (fun _ _ => sortedAll_old) (Nat.le_succ _) ⟨hlen, out.toList, ep, vals_of_ints h1, he⟩
end
end CB

set_option Elab.async false
set_option linter.all false
set_option maxRecDepth 100000
set_option maxHeartbeats 4000000
namespace CB
open PySem PySem.Spec PyProof.Rows L2
open C8 (Cal Met Mak pe_c pe_mk pe_mt pe_mt0 pe_gc CalAt)
section
variable {P : Program} {w : World} {K : PySem.W.Frag} {mg : Str → Option Value} {base : Heap}
theorem pV_at {ps : List Nat} {i p : Nat} (h : ps[i]? = some p) : (pV ps)[i]? = some (.int (p : Int)) := by
  unfold pV pI
  rw [List.getElem?_map, List.getElem?_map, h]
  rfl
abbrev n_renamed_term : List Str := ["term", "order", "inner"]
theorem sc_renamed_term : FnScope ["term", "order", "inner"] ["term", "order"] (defScope s_renamed_term) := ⟨rfl, rfl, rfl, by decide +kernel, rfl, by decide +kernel, by decide +kernel⟩
def spRen (K : PySem.W.Frag) (D : Nat) : Sp := fun vs H Q _ => ∃ (v : V) (a : Addr) (n s : Nat) (t : Tm) (o : List Nat), vs = [v, .ref a] ∧ Rp K H v t.data ∧ t.Ok n s ∧ s ≤ 8000 ∧ t.dep ≤ D ∧ SqT K H a (pV o) ∧ o.length = n ∧ ∀ v' H', Same H H' → Rp K H' v' (t.ren o).data → Q v' H'
theorem rkids_take {o : List Nat} {ts : List Tm} {i : Nat} {u : Tm} (h : ts[i]? = some u) : Tm.rens o (ts.take (i + 1)) = Tm.rens o (ts.take i) ++ [u.ren o] := by
  rw [take_succ' h, rens_map, rens_map, List.map_append]
  rfl
theorem with_ren {o : List Nat} {t : Tm} (h : t.word ≠ "bid") : t.withK (Tm.rens o t.children) = t.ren o := by
  cases t with
  | bid p => exact absurd rfl h
  | _ => rfl
theorem ok_renamed_term (F : FnD K mg "renamed_term" s_renamed_term) (c_inner_terms : Cal P w K mg base 1 "inner_terms" (sp_inner_terms K) []) (c_with_inner : Cal P w K mg base 1 "with_inner" (sp_with_inner K) [])
    (T_tuple : mg "tuple" = none) : ∀ D : Nat, Cal P w K mg base (D + 3) "renamed_term" (spRen K D) [] := by
  intro D
  induction D with
  | zero => exact calOf (k := 2) F sc_renamed_term (fun _ _ _ _ _ _ us hl => match us, hl with | [_, _], _ => rfl) (fun vs H Q E h => by obtain ⟨_, _, _, _, t, _, _, _, _, _, h, _⟩ := h; rw [dep_children t] at h; omega) (fun cdv f A outer s H vs Q E hr h => by obtain ⟨_, _, _, _, t, _, _, _, _, _, h, _⟩ := h; rw [dep_children t] at h; omega)
  | succ D ih =>
    have c_renamed_term := ih
    refine calOf (k := D + 3) F sc_renamed_term (fun _ _ _ _ _ _ us hl => match us, hl with | [_, _], _ => rfl) (fun vs H Q E h => ?_) (fun cdv f A outer s H vs Q E hr h => ?_)
    · obtain ⟨_, _, _, _, _, _, rfl, _⟩ := h
      rfl
    · obtain ⟨v, ao, n, sz, t, o, rfl, rt, ho, hsz, hdep, hao, hol, k⟩ := h
      have hdc := dep_children t
      refine ⟨_, (pss_cons (ps_if (pt_cmpR op_eq (pe_ix ix_tup (pv 0) pe_int (fun _ _ => rfl)) pe_str (nomark _)) (pss_one (ps_ret (pe_tup (pa_cons pe_str (pa_cons (pe_ix ix_tup (pv 1) (pe_ix ix_tup (pv 0) pe_int (fun _ _ => rfl)) (fun _ _ => rfl)) pa_nil))))) pss_nil)
    (pss_one (ps_ret (pe_c c_with_inner hr (by first | decide | omega) rfl (pa_cons (pv 0) (pa_cons (pe_callTy call_tuple_of (by rfl) T_tuple (by decide +kernel) (pa_cons (pe_lc (own := [("inner", 2)]) (by rfl) sc_renamed_term.nd (pi_tup (pe_c c_inner_terms hr (by first | decide | omega) rfl (pa_cons (pv 0) pa_nil))) (blkOk_by (own := [("inner", 2)]) (N := ["term", "order", "inner"]) (sc := defScope s_renamed_term) (by decide +kernel)) (fun _ _ _ _ _ => (pg_name (i := 2) sc_renamed_term.nd rfl (Or.inl rfl))) (fun _ _ _ _ _ => pts_nil) (fun _ _ _ _ _ => (pe_c c_renamed_term hr (by first | decide | omega) rfl (pa_cons (pv 2) (pa_cons (pv 1) pa_nil))))) pa_nil)) pa_nil)))))), ?_⟩
      obtain ⟨a, r, rfl, ha⟩ := t_head rt
      refine ⟨_, rfl, _, _, _, _, rfl, rfl, ha, at_of (j := 0) rfl rfl, rfl, _, rfl, ite2 (fun c => ?_) (fun c1 => ?_)⟩
      · cases t with
        | bid p =>
          obtain ⟨a2, e, ha2⟩ := t_bid rt
          cases e
          have hp : p < o.length := by rw [hol]; exact ho
          have hx : (pV o)[p]? = some (.int ((o.getD p 0 : Nat) : Int)) := by
            rw [List.getD_eq_getElem?_getD, List.getElem?_eq_getElem hp]
            exact pV_at (List.getElem?_eq_getElem hp)
          refine ⟨_, rfl, _, rfl, _, _, _, _, rfl, rfl, ha2, at_of (j := 1) rfl rfl, _, _, _, _, rfl, rfl, hao, at_of (j := p) rfl hx, (by show 2 ≤ sizeLine; decide), fun p2 hp2 => ?_⟩
          have s4 := same_new (o := .tup [.str "bid", .int ((o.getD p 0 : Nat) : Int)]) hp2
          exact k _ _ s4 (.tup (SqT.of upd_same) (.cons (.str _) (.cons (.int _) .nil)))
        | _ => exact absurd (of_decide_eq_true c) (by simp only [Tm.word]; decide +kernel)
      · have nb : t.word ≠ "bid" := fun e => c1 (by rw [e]; decide)
        refine ⟨_, rfl, _, rfl, _, t, rfl, rt, mean_of_ok ho, fun p ws H1 s1 hp hw => ⟨p, rfl, ⟨_, hp⟩, fun L hL => ?_⟩⟩
        have kl := kids_len ho
        have hwl : ws.length = t.children.length := RTs.length hw
        refine it_tup (K := K) (a := p) (xs := ws) (fun i H' => ∃ zs : List V, H' L = some (.lst zs) ∧ RTs K H' zs (Tm.rens o (t.children.take i)) ∧ Same H1 H')
          ⟨[], upd_same, by rw [List.take_zero]; exact .nil, same_new hL⟩ (fun i H' ⟨_, _, _, s5⟩ => (Same.kt s5).sq hp) ?_ ?_
        · rintro i x H' hx ⟨zs, g1, g2, g3⟩
          obtain ⟨u, hu, ru⟩ := RTs.getV hw hx
          have mu := List.mem_of_getElem? hu
          have ud := deps_mem mu
          have zl : zs.length ≤ 8 := by rw [RTs.length g2, rens_len, List.length_take]; omega
          refine ⟨rfl, _, rfl, _, rfl, x, ao, n, sz, u, o, rfl, ru.mono (Same.kt g3), (oks_iff _ _ _).mp (ok_children ho) u mu, hsz, by omega, (Same.kt (s1.trans g3)).sq hao, hol, fun y H2 s2 ry => ?_⟩
          refine ⟨zs, s2 _ _ g1, small1000 (by omega), zs ++ [y], upd_same, ?_, Same.mut (g3.trans s2) hL⟩
          rw [rkids_take hu]
          exact RpAll.mono (KT.updl (s2 _ _ g1)) (RTs.snoc (RpAll.mono (Same.kt s2) g2) ry)
        · rintro H2 ⟨zs, g1, g2, g3⟩
          rw [hwl, List.take_length] at g2
          have s2 := s1.trans g3
          refine ⟨L, zs, rfl, .inl ⟨SqL.of g1, fun pI hpI => ?_⟩⟩
          have s3 := same_new (o := .tup zs) hpI
          have s03 := s2.trans s3
          have hI : SqT K (upd H2 pI (.tup zs)) pI zs := SqT.of upd_same
          have hu : RTs K (upd H2 pI (.tup zs)) zs (Tm.rens o t.children) := RpAll.mono (Same.kt s3) g2
          refine ⟨.ref a, pI, zs, t, _, rfl, rt.mono (Same.kt s03), hI, hu, rens_len _ _, kl, (fun ws ts e => (mean_of_ok ho ws ts e).1), fun v' H' s' r' => k v' H' (s03.trans s') ?_⟩
          rw [← with_ren nb]
          exact r'
theorem ints_eqvA : ∀ a b : List Int, PyData.eqvAll (a.map PyData.int) (b.map PyData.int) = decide (a = b)
  | [], [] => by simp [PyData.eqvAll]
  | [], _ :: _ => by simp [PyData.eqvAll]
  | _ :: _, [] => by simp [PyData.eqvAll]
  | x :: a, y :: b => by
    have ih := ints_eqvA a b
    rw [List.map_cons, List.map_cons]
    simp only [PyData.eqvAll, PyData.eqv]
    rw [ih]
    by_cases h : x = y
    · subst h
      by_cases h2 : a = b
      · subst h2; simp
      · simp [h2]
    · simp [h]
theorem ints_lay : ∀ a : List Int, PyData.canLayAll0 (a.map PyData.int) = true
  | [] => by simp [PyData.canLayAll0]
  | x :: a => by simp [PyData.canLayAll0, PyData.canLay0, ints_lay a]
theorem ints_depth : ∀ a : List Int, PyData.depthAll (a.map PyData.int) ≤ 1
  | [] => by simp [PyData.depthAll]
  | x :: a => by have := ints_depth a; simp only [List.map_cons, PyData.depthAll, PyData.depth]; omega
theorem ints_shaped (a : List Int) : SeqAt.shaped (.list (a.map PyData.int)) = true := by
  refine shaped_of ?_ ?_
  · simp only [PyData.canLay0]; exact ints_lay a
  · have := ints_depth a
    simp only [PyData.depth]
    omega
theorem ints_dp {H : Hp} : ∀ a : List Int, DpAll K H (a.map V.int) (a.map PyData.int)
  | [] => .nil
  | x :: a => .cons (.int x) (ints_dp a)
/-- == of two lists of ints -/
theorem eq_ints {H : Hp} {D E : Addr} {a b : List Int} {Q : VK} (h1 : SqL K H D (a.map V.int)) (h2 : SqL K H E (b.map V.int)) (k : Q (.bl (decide (a = b))) H) : rEqD K (.ref D) (.ref E) H Q := by
  refine ⟨.list (a.map PyData.int), .list (b.map PyData.int), .lst h1 (ints_dp a), .lst h2 (ints_dp b), ints_shaped a, ints_shaped b, ?_⟩
  simp only [PyData.eqv]
  rw [ints_eqvA]
  exact k
theorem pI_range_sorted (n : Nat) : (pI (List.range n)).Pairwise (· ≤ ·) := by
  unfold pI
  exact List.Pairwise.map _ (fun a b (h : a ≤ b) => by omega) (List.pairwise_lt_range.imp fun h => Nat.le_of_lt h)
theorem ord_sorted {n : Nat} {o : List Nat} {ms : List Int} (h : Ord n o) (p : ms.Perm (pI o)) (w : ms.Pairwise (· ≤ ·)) : ms = pI (List.range n) :=
  List.Perm.eq_of_pairwise (fun a b _ _ h1 h2 => by omega) w (pI_range_sorted n) (p.trans (h.2.map _))
def sp_renamed (K : PySem.W.Frag) (C : Addr) : Sp := fun vs H Q _ => ∃ (r a : Addr) (n s : Nat) (t : Tm) (o : List Nat), vs = [.ref r, .ref a] ∧ RuleAt K C H r n t ∧ t.Ok n s ∧ s ≤ 8000 ∧ t.dep ≤ 60 ∧ 1 ≤ n ∧ n ≤ 6 ∧ SqT K H a (pV o) ∧ Ord n o ∧ ∀ r' H', Same H H' → H r' = none → RuleAt K C H' r' n (t.ren o) → Q (.ref r') H'
end
end CB

set_option Elab.async false
set_option linter.all false
set_option maxRecDepth 100000
set_option maxHeartbeats 2000000
namespace CB
open PySem PySem.Spec PyProof.Rows L2
/-! ### a tuple with one item put in the place of another -/
section
variable {K : PySem.W.Frag}
theorem slTk {a : Addr} {xs : List V} {m : Nat} {H : Hp} {Q : VK} (h : SqT K H a xs) (hm : m < xs.length) (q : ∀ p H', Same H H' → SqT K H' p (xs.take m) → Q (.ref p) H') : rSlT K (.ref a) none (some (m : Int)) H Q := by
  refine ⟨a, xs, rfl, h, fun z => ?_, fun p hp => ?_⟩
  · have z2 := z.2
    rw [HT.sIx_nat, Nat.min_eq_left (Nat.le_of_lt hm)] at z2
    omega
  · have e : cutV xs none (some (m : Int)) = xs.take m := by
      unfold cutV
      rw [HT.sIx_none, HT.sIx_nat, Nat.min_eq_left (Nat.le_of_lt hm), List.drop_zero, Nat.sub_zero]
    rw [e]
    exact q p _ (same_new hp) (SqT.of upd_same)
theorem slDr {a : Addr} {xs : List V} {m : Nat} {H : Hp} {Q : VK} (h : SqT K H a xs) (h0 : 0 < m) (hm : m ≤ xs.length) (q : ∀ p H', Same H H' → SqT K H' p (xs.drop m) → Q (.ref p) H') : rSlT K (.ref a) (some (m : Int)) none H Q := by
  refine ⟨a, xs, rfl, h, fun z => ?_, fun p hp => ?_⟩
  · have z2 := z.1
    rw [HT.sIx_nat, Nat.min_eq_left hm] at z2
    omega
  · have e : cutV xs (some (m : Int)) none = xs.drop m := by
      unfold cutV
      rw [HT.sIx_none, HT.sIx_nat, Nat.min_eq_left hm]
      exact List.take_of_length_le (by rw [List.length_drop]; omega)
    rw [e]
    exact q p _ (same_new hp) (SqT.of upd_same)
theorem catPk {a b : Addr} {xs ys : List V} {H : Hp} {Q : VK} (ha : SqT K H a xs) (hb : SqT K H b ys) (hl : xs.length + ys.length < 1000) (q : ∀ p H', Same H H' → SqT K H' p (xs ++ ys) → Q (.ref p) H') : rCatA K (.ref a) (.ref b) H Q := by
  refine ⟨a, b, xs, ys, rfl, rfl, ha, hb, Nat.le_trans (show xs.length + ys.length ≤ 1000 by omega) (by decide), fun e => ?_, fun _ e => ?_, fun _ _ p hp => q p _ (same_new hp) (SqT.of upd_same)⟩
  · exact q b H (Same.refl H) (by rw [e]; exact hb)
  · exact q a H (Same.refl H) (by rw [e, List.append_nil]; exact ha)
/-- t[:at] + (x,) + t[at + 1:] -/
theorem patch_ok {σ : L2.St} {H : Hp} {Q : VK} {i j k m : Nat} {a : Addr} {us : List V} {x : V} (hi : σ[i]? = some (some (.ref a))) (h : SqT K H a us) (hj : σ[j]? = some (some (.int (m : Int)))) (hk : σ[k]? = some (some x)) (hm : m < us.length) (hu : us.length < 900)
    (q : ∀ p H', Same H H' → SqT K H' p (us.take m ++ [x] ++ us.drop (m + 1)) → Q (.ref p) H') :
    tOp (rCatA K) (tOp (rCatA K) (tSl (rSlT K) (tVar i) tNoPart (tPart (tVar j))) (tTup (tCons (tVar k) tNil))) (tSl (rSlT K) (tVar i) (tPart (tOp (rI0 fun i j => V.int (i + j)) (tVar j) (tC (.int 1)))) tNoPart) σ H Q := by
  refine ⟨_, hi, ?_⟩
  dsimp only [tNoPart]
  refine ⟨_, hj, _, rfl, slTk h hm fun p1 G1 v1 f1 => ?_⟩
  refine ⟨_, hk, (by show 1 ≤ sizeLine; decide), fun q1 hq1 => ?_⟩
  have v2 := same_new (o := .tup [x]) hq1
  refine catPk ((Same.kt v2).sq f1) (SqT.of upd_same) (by rw [List.length_take]; simp; omega) fun p2 G2 v3 f2 => ?_
  have s2 : Same H G2 := v1.trans (v2.trans v3)
  refine ⟨_, hi, _, hj, _, _, rfl, rfl, _, rfl, ?_⟩
  dsimp only [tNoPart]
  rw [show (m : Int) + 1 = ((m + 1 : Nat) : Int) by omega]
  refine slDr (m := m + 1) ((Same.kt s2).sq h) (by omega) (by omega) fun p3 G3 v4 f3 => ?_
  refine catPk ((Same.kt v4).sq f2) f3 (by rw [List.length_append, List.length_take, List.length_drop]; simp; omega) fun p4 G4 v5 f4 => ?_
  exact q p4 G4 (s2.trans (v4.trans v5)) f4
/-- t[1:] -/
theorem tail_ok {σ : L2.St} {H : Hp} {Q : VK} {i : Nat} {a : Addr} {us : List V} (hi : σ[i]? = some (some (.ref a))) (h : SqT K H a us) (hm : 1 ≤ us.length) (q : ∀ p H', Same H H' → SqT K H' p (us.drop 1) → Q (.ref p) H') :
    tSl (rSlT K) (tVar i) (tPart (tC (.int 1))) tNoPart σ H Q := by
  refine ⟨_, hi, 1, rfl, ?_⟩
  dsimp only [tNoPart]
  exact slDr (m := 1) h (by decide) hm q
end
end CB

set_option Elab.async false
set_option linter.all false
set_option maxRecDepth 100000
set_option maxHeartbeats 4000000
/-! terms put in the place of bids; rows cut into parts -/
namespace CB
open PySem PySem.Spec PyProof.Rows L2
mutual
def Tm.sub (os : List Tm) : Tm → Tm
  | .bid p => os.getD p (.bid 0)
  | .fixed q => .fixed q
  | .mean ws ts => .mean ws (Tm.subs os ts)
  | .least ts => .least (Tm.subs os ts)
  | .greatest ts => .greatest (Tm.subs os ts)
  | .ranked k ts => .ranked k (Tm.subs os ts)
  | .between lo hi t => .between lo hi (t.sub os)
def Tm.subs (os : List Tm) : List Tm → List Tm
  | [] => []
  | t :: ts => t.sub os :: Tm.subs os ts
end
theorem subs_map (os : List Tm) : ∀ ts : List Tm, Tm.subs os ts = ts.map (Tm.sub os)
  | [] => rfl
  | t :: ts => by show t.sub os :: Tm.subs os ts = _; rw [subs_map os ts]; rfl
theorem subs_length (os : List Tm) (ts : List Tm) : (Tm.subs os ts).length = ts.length := by rw [subs_map, List.length_map]
theorem subs_ne {os ts : List Tm} (h : ts ≠ []) : Tm.subs os ts ≠ [] := by
  intro e
  have := subs_length os ts
  rw [e] at this
  exact h (List.length_eq_zero_iff.mp this.symm)
theorem getD_memA {α : Type} {l : List α} {p : Nat} {d : α} (h : p < l.length) : l.getD p d ∈ l := by
  rw [List.getD_eq_getElem?_getD, List.getElem?_eq_getElem h]
  exact List.getElem_mem h
theorem getD_map' {α β : Type} {l : List α} {p : Nat} {d : α} {e : β} {f : α → β} (h : p < l.length) : (l.map f).getD p e = f (l.getD p d) := by
  rw [List.getD_eq_getElem?_getD, List.getD_eq_getElem?_getD, List.getElem?_map, List.getElem?_eq_getElem h]
  rfl
section
variable {os : List Tm} {n s N W : Nat}
mutual
theorem sub_val {bs : List Rat} : ∀ {t : Tm}, t.Ok os.length s → (t.sub os).val bs = t.val (os.map (Tm.val bs))
  | .bid p, h => by
    show (os.getD p (.bid 0)).val bs = (os.map (Tm.val bs)).getD p 0
    rw [getD_map' (d := .bid 0) (show p < os.length from h)]
  | .fixed q, _ => rfl
  | .mean ws ts, h => by
    show wavg ws (Tm.vals bs (Tm.subs os ts)) = wavg ws (Tm.vals (os.map (Tm.val bs)) ts)
    rw [subs_val (ts := ts) h.2.2.2.2]
  | .least ts, h => by
    show minL (Tm.vals bs (Tm.subs os ts)) = minL (Tm.vals (os.map (Tm.val bs)) ts)
    rw [subs_val (ts := ts) h.2.2]
  | .greatest ts, h => by
    show maxL (Tm.vals bs (Tm.subs os ts)) = maxL (Tm.vals (os.map (Tm.val bs)) ts)
    rw [subs_val (ts := ts) h.2.2]
  | .ranked k ts, h => by
    show kthG _ (Tm.vals bs (Tm.subs os ts)) = kthG _ (Tm.vals (os.map (Tm.val bs)) ts)
    rw [subs_val (ts := ts) h.2.2.2]
  | .between lo hi t, h => by
    show rmax lo (rmin hi ((t.sub os).val bs)) = rmax lo (rmin hi (t.val (os.map (Tm.val bs))))
    rw [sub_val (t := t) h.2.2.2]
theorem subs_val {bs : List Rat} : ∀ {ts : List Tm}, Tm.Oks os.length s ts → Tm.vals bs (Tm.subs os ts) = Tm.vals (os.map (Tm.val bs)) ts
  | [], _ => rfl
  | t :: ts, h => by
    show (t.sub os).val bs :: Tm.vals bs (Tm.subs os ts) = t.val _ :: Tm.vals _ ts
    rw [sub_val (t := t) h.1, subs_val (ts := ts) h.2]
end
mutual
theorem sub_nomean (ho : ∀ o ∈ os, o.nomean = true) : ∀ {t : Tm}, t.Ok os.length s → t.nomean = true → (t.sub os).nomean = true
  | .bid p, h, _ => ho _ (getD_memA (show p < os.length from h))
  | .fixed q, _, _ => rfl
  | .mean ws ts, _, h => by cases h
  | .least ts, h, g => subs_nomean ho (ts := ts) h.2.2 g
  | .greatest ts, h, g => subs_nomean ho (ts := ts) h.2.2 g
  | .ranked k ts, h, g => subs_nomean ho (ts := ts) h.2.2.2 g
  | .between lo hi t, h, g => sub_nomean ho (t := t) h.2.2.2 g
theorem subs_nomean (ho : ∀ o ∈ os, o.nomean = true) : ∀ {ts : List Tm}, Tm.Oks os.length s ts → Tm.nomeans ts = true → Tm.nomeans (Tm.subs os ts) = true
  | [], _, _ => rfl
  | t :: ts, h, g => by
    have g' : (t.nomean && Tm.nomeans ts) = true := g
    rw [Bool.and_eq_true] at g'
    show ((t.sub os).nomean && Tm.nomeans (Tm.subs os ts)) = true
    rw [sub_nomean ho (t := t) h.1 g'.1, subs_nomean ho (ts := ts) h.2 g'.2]; rfl
end
mutual
theorem sub_ok (ho : ∀ o ∈ os, o.Ok n s) : ∀ {t : Tm}, t.Ok os.length s → (t.sub os).Ok n s
  | .bid p, h => ho _ (getD_memA (show p < os.length from h))
  | .fixed q, h => h
  | .mean ws ts, h => ⟨by rw [subs_length]; exact h.1, subs_ne h.2.1, by rw [subs_length]; exact h.2.2.1, h.2.2.2.1, subs_ok ho (ts := ts) h.2.2.2.2⟩
  | .least ts, h => ⟨subs_ne h.1, by rw [subs_length]; exact h.2.1, subs_ok ho (ts := ts) h.2.2⟩
  | .greatest ts, h => ⟨subs_ne h.1, by rw [subs_length]; exact h.2.1, subs_ok ho (ts := ts) h.2.2⟩
  | .ranked k ts, h => ⟨h.1, by rw [subs_length]; exact h.2.1, by rw [subs_length]; exact h.2.2.1, subs_ok ho (ts := ts) h.2.2.2⟩
  | .between lo hi t, h => ⟨h.1, h.2.1, h.2.2.1, sub_ok ho (t := t) h.2.2.2⟩
theorem subs_ok (ho : ∀ o ∈ os, o.Ok n s) : ∀ {ts : List Tm}, Tm.Oks os.length s ts → Tm.Oks n s (Tm.subs os ts)
  | [], _ => trivial
  | t :: ts, h => ⟨sub_ok ho (t := t) h.1, subs_ok ho (ts := ts) h.2⟩
end
mutual
theorem sub_dep {D : Nat} (ho : ∀ o ∈ os, o.dep ≤ D) : ∀ {t : Tm}, t.Ok os.length s → (t.sub os).dep ≤ t.dep + D
  | .bid p, h => by
    have := ho _ (getD_memA (d := Tm.bid 0) (show p < os.length from h))
    show (os.getD p (.bid 0)).dep ≤ 1 + D
    omega
  | .fixed q, h => by show 1 ≤ 1 + D; omega
  | .mean ws ts, h => by have := subs_dep ho (ts := ts) h.2.2.2.2; show Tm.deps (Tm.subs os ts) + 1 ≤ Tm.deps ts + 1 + D; omega
  | .least ts, h => by have := subs_dep ho (ts := ts) h.2.2; show Tm.deps (Tm.subs os ts) + 1 ≤ Tm.deps ts + 1 + D; omega
  | .greatest ts, h => by have := subs_dep ho (ts := ts) h.2.2; show Tm.deps (Tm.subs os ts) + 1 ≤ Tm.deps ts + 1 + D; omega
  | .ranked k ts, h => by have := subs_dep ho (ts := ts) h.2.2.2; show Tm.deps (Tm.subs os ts) + 1 ≤ Tm.deps ts + 1 + D; omega
  | .between lo hi t, h => by have := sub_dep ho (t := t) h.2.2.2; show (t.sub os).dep + 1 ≤ t.dep + 1 + D; omega
theorem subs_dep {D : Nat} (ho : ∀ o ∈ os, o.dep ≤ D) : ∀ {ts : List Tm}, Tm.Oks os.length s ts → Tm.deps (Tm.subs os ts) ≤ Tm.deps ts + D
  | [], _ => Nat.zero_le _
  | t :: ts, h => by
    have a := sub_dep ho (t := t) h.1
    have b := subs_dep ho (ts := ts) h.2
    show max (t.sub os).dep (Tm.deps (Tm.subs os ts)) ≤ max t.dep (Tm.deps ts) + D
    omega
end
mutual
theorem sub_wt {S : Nat} (hs : s ≤ S) {z : Nat} (ho : ∀ o ∈ os, o.wt s ≤ S) : ∀ {t : Tm}, t.Ok os.length z → (t.sub os).wt s ≤ t.wt S
  | .bid p, h => ho _ (getD_memA (show p < os.length from h))
  | .fixed q, h => hs
  | .mean ws ts, h => by have := subs_wt hs ho (ts := ts) h.2.2.2.2; show Tm.wts s (Tm.subs os ts) + 12 ≤ Tm.wts S ts + 12; omega
  | .least ts, h => subs_wt hs ho (ts := ts) h.2.2
  | .greatest ts, h => subs_wt hs ho (ts := ts) h.2.2
  | .ranked k ts, h => subs_wt hs ho (ts := ts) h.2.2.2
  | .between lo hi t, h => by have := sub_wt hs ho (t := t) h.2.2.2; show (t.sub os).wt s + s + s ≤ t.wt S + S + S; omega
theorem subs_wt {S : Nat} (hs : s ≤ S) {z : Nat} (ho : ∀ o ∈ os, o.wt s ≤ S) : ∀ {ts : List Tm}, Tm.Oks os.length z ts → Tm.wts s (Tm.subs os ts) ≤ Tm.wts S ts
  | [], _ => Nat.le_refl _
  | t :: ts, h => by
    have a := sub_wt hs ho (t := t) h.1
    have b := subs_wt hs ho (ts := ts) h.2
    show (t.sub os).wt s + 8 + Tm.wts s (Tm.subs os ts) ≤ t.wt S + 8 + Tm.wts S ts
    omega
end
mutual
theorem sub_dv (ho : ∀ o ∈ os, o.Dv N W) : ∀ {t : Tm}, t.Ok os.length s → t.Dv N W → (t.sub os).Dv N W
  | .bid p, h, _ => ho _ (getD_memA (show p < os.length from h))
  | .fixed q, _, g => g
  | .mean ws ts, h, g => ⟨g.1, g.2.1, subs_dv ho (ts := ts) h.2.2.2.2 g.2.2⟩
  | .least ts, h, g => subs_dv ho (ts := ts) h.2.2 g
  | .greatest ts, h, g => subs_dv ho (ts := ts) h.2.2 g
  | .ranked k ts, h, g => subs_dv ho (ts := ts) h.2.2.2 g
  | .between lo hi t, h, g => ⟨g.1, g.2.1, sub_dv ho (t := t) h.2.2.2 g.2.2⟩
theorem subs_dv (ho : ∀ o ∈ os, o.Dv N W) : ∀ {ts : List Tm}, Tm.Oks os.length s ts → Tm.Dvs N W ts → Tm.Dvs N W (Tm.subs os ts)
  | [], _, _ => trivial
  | t :: ts, h, g => ⟨sub_dv ho (t := t) h.1 g.1, subs_dv ho (ts := ts) h.2 g.2⟩
end
end
/-! renaming is putting bids -/
mutual
theorem ren_sub {o : List Nat} {s : Nat} : ∀ {t : Tm}, t.Ok o.length s → t.ren o = t.sub (o.map Tm.bid)
  | .bid p, h => by
    show Tm.bid (o.getD p 0) = (o.map Tm.bid).getD p (.bid 0)
    rw [getD_map' (d := 0) (show p < o.length from h)]
  | .fixed q, _ => rfl
  | .mean ws ts, h => by show Tm.mean ws (Tm.rens o ts) = .mean ws (Tm.subs _ ts); rw [rens_subs (ts := ts) h.2.2.2.2]
  | .least ts, h => by show Tm.least (Tm.rens o ts) = .least (Tm.subs _ ts); rw [rens_subs (ts := ts) h.2.2]
  | .greatest ts, h => by show Tm.greatest (Tm.rens o ts) = .greatest (Tm.subs _ ts); rw [rens_subs (ts := ts) h.2.2]
  | .ranked k ts, h => by show Tm.ranked k (Tm.rens o ts) = .ranked k (Tm.subs _ ts); rw [rens_subs (ts := ts) h.2.2.2]
  | .between lo hi t, h => by show Tm.between lo hi (t.ren o) = .between lo hi (t.sub _); rw [ren_sub (t := t) h.2.2.2]
theorem rens_subs {o : List Nat} {s : Nat} : ∀ {ts : List Tm}, Tm.Oks o.length s ts → Tm.rens o ts = Tm.subs (o.map Tm.bid) ts
  | [], _ => rfl
  | t :: ts, h => by show t.ren o :: Tm.rens o ts = t.sub _ :: Tm.subs _ ts; rw [ren_sub (t := t) h.1, rens_subs (ts := ts) h.2]
end
/-! ### a row cut into parts -/
def cuts {α : Type} : List Nat → List α → List (List α)
  | [], _ => []
  | n :: ns, l => l.take n :: cuts ns (l.drop n)
theorem cuts_len {α : Type} : ∀ (ns : List Nat) (l : List α), (cuts ns l).length = ns.length
  | [], _ => rfl
  | n :: ns, l => by show (cuts ns (l.drop n)).length + 1 = ns.length + 1; rw [cuts_len ns]
theorem cuts_map {α β : Type} (f : α → β) : ∀ (ns : List Nat) (l : List α), cuts ns (l.map f) = (cuts ns l).map (List.map f)
  | [], _ => rfl
  | n :: ns, l => by
    show (l.map f).take n :: cuts ns ((l.map f).drop n) = (l.take n).map f :: (cuts ns (l.drop n)).map (List.map f)
    rw [← List.map_take, ← List.map_drop, cuts_map f ns]
theorem cuts_get {α : Type} : ∀ {ns : List Nat} {l : List α} {i n : Nat}, ns[i]? = some n → (cuts ns l)[i]? = some ((l.drop (ns.take i).sum).take n)
  | [], _, _, _, h => by simp at h
  | m :: ns, l, 0, n, h => by
    simp at h
    subst h
    simp [cuts]
  | m :: ns, l, i + 1, n, h => by
    have h' : ns[i]? = some n := by simpa using h
    have ih := cuts_get (l := l.drop m) h'
    show (cuts ns (l.drop m))[i]? = _
    rw [ih, List.drop_drop, List.take_succ_cons, List.sum_cons]
theorem cuts_sub {α : Type} : ∀ {ns : List Nat} {l c : List α}, c ∈ cuts ns l → ∀ x ∈ c, x ∈ l
  | [], _, _, h => by cases h
  | n :: ns, l, c, h => by
    rcases List.mem_cons.mp (show c ∈ l.take n :: cuts ns (l.drop n) from h) with e | e
    · rw [e]; exact fun x hx => List.mem_of_mem_take hx
    · exact fun x hx => List.mem_of_mem_drop (cuts_sub e x hx)
theorem slMid {K : PySem.W.Frag} {a : Addr} {xs : List V} {i j : Nat} {H : Hp} {Q : VK} (h : SqT K H a xs) (hij : i ≤ j) (hj : j ≤ xs.length) (q : ∀ p H', Same H H' → SqT K H' p ((xs.drop i).take (j - i)) → Q (.ref p) H') : rSlA K (.ref a) (some (i : Int)) (some (j : Int)) H Q := by
  have e : cutV xs (some (i : Int)) (some (j : Int)) = (xs.drop i).take (j - i) := by
    unfold cutV
    rw [HT.sIx_nat, HT.sIx_nat, Nat.min_eq_left hj, Nat.min_eq_left (Nat.le_trans hij hj)]
  refine ⟨a, xs, rfl, h, fun z => ?_, fun _ p hp => ?_⟩
  · have z1 := z.1
    have z2 := z.2
    rw [HT.sIx_nat, Nat.min_eq_left (Nat.le_trans hij hj)] at z1
    rw [HT.sIx_nat, Nat.min_eq_left hj] at z2
    refine q a H (Same.refl _) ?_
    have : (xs.drop i).take (j - i) = xs := by
      rw [z1, List.drop_zero]
      exact List.take_of_length_le (by omega)
    rw [this]
    exact h
  · rw [e]
    exact q p _ (same_new hp) (SqT.of upd_same)
end CB

set_option Elab.async false
set_option linter.all false
set_option maxRecDepth 100000
set_option maxHeartbeats 4000000
/-! zip of a tuple and a list: two feeds of any kind, handed on as pairs -/
namespace ZiM
open PySem PySem.Spec PyProof.Rows L2
open PySem.Sem (wp)
/-- an iterator that may be asked: what it stands at (St), what it gives (f), what leaves it alone (far) -/
structure Fd (it : Addr) (far : Addr → Prop) (St : Heap → Nat → Prop) (f : Nat → Option Value) : Prop where
  item : ∀ {prog : Program} {w : World} {A : Around} {E : Value → Shared → Prop} {s : Shared} {k : Nat} {x : Value} {Q : Value → Shared → Prop}, St s.heap k → f k = some x →
    (∀ g, St g (k + 1) → Heap.SameBut it s.heap g → Q x { s with heap := g }) → wpAny (model prog w) A (Builtin.SmallTypes.nextOf (.ref it)) Q E s
  stop : ∀ {prog : Program} {w : World} {A : Around} {E : Value → Shared → Prop} {s : Shared} {k : Nat} {Q : Value → Shared → Prop}, A.handled = none → St s.heap k → f k = none →
    (∀ g e, Heap.ExtBut it s.heap g → (∃ o, g.get? e = some o ∧ o.cls = .type "StopIteration") → E (.ref e) { s with heap := g }) → wpAny (model prog w) A (Builtin.SmallTypes.nextOf (.ref it)) Q E s
  stay : ∀ {g g' : Heap} {k : Nat} {b : Addr}, St g k → far b → Heap.ExtBut b g g' → St g' k
theorem fdT {it l : Addr} {xs : Array Value} (n : l ≠ it) : Fd it (fun b => it ≠ b ∧ l ≠ b) (fun g k => g.IsTupleIter it l k ∧ g.IsTuple l xs) (fun k => xs[k]?) where
  item := fun st e q => RZ.nextOf_tuple_item st.1 st.2 e fun g a sb => q g ⟨a, st.2.extBut sb.extBut n⟩ sb
  stop := fun hh st e q => RZ.nextOf_tuple_end hh st.1 st.2 e q
  stay := fun st d e => ⟨st.1.extBut e d.1, st.2.extBut e d.2⟩
theorem fdL {it l : Addr} {xs : Array Value} (n : l ≠ it) : Fd it (fun b => it ≠ b ∧ l ≠ b) (fun g k => g.IsListIter it l k ∧ g.IsList l xs) (fun k => xs[k]?) where
  item := fun st e q => wpAny_nextOf_list_item st.1 st.2 e fun g a sb => q g ⟨a, st.2.extBut sb.extBut n⟩ sb
  stop := fun hh st e q => wpAny_nextOf_list_end hh st.1 st.2 e q
  stay := fun st d e => ⟨st.1.extBut e d.1, st.2.extBut e d.2⟩
/-- the zip's own five objects stand apart -/
structure Own5 (z TI TO i j : Addr) : Prop where
  a : TI ≠ z
  b : TO ≠ z
  c : i ≠ z
  d : j ≠ z
  e : TI ≠ TO
  f : TI ≠ i
  g : TI ≠ j
  h : TO ≠ i
  k : TO ≠ j
  l : i ≠ j
section
variable {prog : Program} {w : World} {A : Around} {E : Value → Shared → Prop} {s : Shared} {z TI TO i j : Addr} {F G : Addr → Prop} {S T : Heap → Nat → Prop} {f g : Nat → Option Value} {m n : Nat} {x y u v : Value}
def Kept5 (z TO i j : Addr) (g g' : Heap) : Prop := ∀ c o, c ≠ z → c ≠ TO → c ≠ i → c ≠ j → g.get? c = some o → g'.get? c = some o
theorem next_item {Q : Value → Shared → Prop} (O : Own5 z TI TO i j) (f1 : Fd i F S f) (f2 : Fd j G T g) (Fz : F z) (FT : F TO) (Fj : F j) (Gz : G z) (GT : G TO) (Gi : G i)
    (hz : IsZip s.heap z TI TO .none) (hI : IsPair s.heap TI (.ref i) (.ref j)) (hO : IsPair s.heap TO u v) (h1 : S s.heap m) (h2 : T s.heap n) (hx : f m = some x) (hy : g n = some y)
    (q : ∀ h', IsZip h' z TI TO (rawInt s.heap.objs.size) → IsPair h' TO x y → S h' (m + 1) → T h' (n + 1) → IsPair h' s.heap.objs.size x y → h'.objs.size = s.heap.objs.size + 1 → Kept5 z TO i j s.heap h' → Q (.ref s.heap.objs.size) { s with heap := h' })
    (FP : ∀ {h : Heap} {k : Nat} {o : Obj}, S h k → S (h.push o) k) (GP : ∀ {h : Heap} {k : Nat} {o : Obj}, T h k → T (h.push o) k) :
    wpAny (model prog w) A (Builtin.«zip.__next__» ⟨[.ref z], []⟩) (fun fin s' => ∃ r, fin = .done (.ret r) ∧ Q r s') E s := by
  show wpAny _ _ (field (.ref z) 2 >>= _) _ _ s
  refine wpAny_bind (wpAny_field hz rfl (x := .bool false) rfl ?a1); case a1 =>
  show wpAny _ _ (field (.ref z) 3 >>= _) _ _ s
  refine wpAny_bind (wpAny_field hz rfl (x := .ref TI) rfl (wpAny_bind (wpAny_seqItems hI rfl ?a2))); case a2 =>
  show wpAny _ _ (Builtin.SmallTypes.ownedTupleIsFree (.ref z) >>= _) _ _ s
  refine wpAny_bind ?a3; case a3 =>
  unfold Builtin.SmallTypes.ownedTupleIsFree
  refine wpAny_bind (wpAny_field hz rfl (x := .none) rfl (wpAny_pure ?a4)); case a4 =>
  simp only [if_true]
  refine wpAny_bind (wpAny_rule (wpAny_bind (wpAny_field hz rfl (x := .ref TO) rfl (wpAny_bind (wpAny_setField_rec hz (by simp) fun g1 z1 e1 => ?a5))))); case a5 =>
  replace z1 : IsZip g1 z TI TO .ellipsis := z1
  refine wpAny_bind ?a6; case a6 =>
  simp only [List.zipIdx_cons, List.zipIdx_nil, List.forIn_cons, List.forIn_nil]
  refine wpAny_bind (wpAny_bind (wpAny_onRaise ?a7)); case a7 =>
  show wpAny _ _ (Builtin.SmallTypes.nextOf (.ref i) >>= _) _ _ _
  refine wpAny_bind (f1.item (f1.stay h1 Fz e1.extBut) hx fun g2 s2 e2 => wpAny_pure ?a8); case a8 =>
  have O2 : IsPair g2 TO u v := e2.extBut _ _ O.h (e1.extBut _ _ O.b hO)
  refine wpAny_bind (wpAny_seqItems O2 rfl (wpAny_bind (wpAny_updateSeq_pair O2 fun g3 O3 e3 => wpAny_bind (wpAny_letGo (wpAny_pure ?a9))))); case a9 =>
  replace O3 : IsPair g3 TO x v := O3
  refine wpAny_bind (wpAny_bind (wpAny_onRaise ?b1)); case b1 =>
  show wpAny _ _ (Builtin.SmallTypes.nextOf (.ref j) >>= _) _ _ _
  refine wpAny_bind (f2.item (f2.stay (f2.stay (f2.stay h2 Gz e1.extBut) Gi e2.extBut) GT e3.extBut) hy fun g4 t4 e4 => wpAny_pure ?b2); case b2 =>
  have O4 : IsPair g4 TO x v := e4.extBut _ _ O.k O3
  refine wpAny_bind (wpAny_seqItems O4 rfl (wpAny_bind (wpAny_updateSeq_pair O4 fun g5 O5 e5 => wpAny_bind (wpAny_letGo (wpAny_pure (wpAny_pure ?b3)))))); case b3 =>
  replace O5 : IsPair g5 TO x y := O5
  refine wpAny_bind (wpAny_seqItems O5 rfl (wpAny_bind (wpAny_newTuple ?b4))); case b4 =>
  have sz : g5.objs.size = s.heap.objs.size := by rw [e5.1, e4.1, e3.1, e2.1, e1.1]
  have z5 : IsZip g5 z TI TO .ellipsis := e5.extBut _ _ O.b.symm (e4.extBut _ _ O.d.symm (e3.extBut _ _ O.b.symm (e2.extBut _ _ O.c.symm z1)))
  have k5 : Kept5 z TO i j s.heap g5 := fun c o c1 c2 c3 c4 e => e5.extBut _ _ c2 (e4.extBut _ _ c4 (e3.extBut _ _ c2 (e2.extBut _ _ c3 (e1.extBut _ _ c1 e))))
  have s5 : S g5 (m + 1) := f1.stay (f1.stay (f1.stay s2 FT e3.extBut) Fj e4.extBut) FT e5.extBut
  have t5 : T g5 (n + 1) := f2.stay t4 GT e5.extBut
  have zl : z < g5.objs.size := Heap.lt_size z5
  show wpAny _ _ (Builtin.SmallTypes.ownedTupleHandOut (.ref z) (.ref g5.objs.size) >>= _) _ _ _
  refine wpAny_bind ?b5; case b5 =>
  unfold Builtin.SmallTypes.ownedTupleHandOut
  have z6 : IsZip (g5.push { cls := .type "tuple", data := .seq #[x, y] }) z TI TO .ellipsis := Heap.get?_push_of_some _ z5
  refine wpAny_bind (wpAny_setField_rec z6 (by simp) fun g7 z7 e7 => ?b6); case b6 =>
  replace z7 : IsZip g7 z TI TO (rawInt g5.objs.size) := z7
  refine wpAny_setField_rec z7 (by simp) fun g8 z8 e8 => ?b7; case b7 =>
  replace z8 : IsZip g8 z TI TO (rawInt g5.objs.size) := z8
  have T8 : IsPair g8 g5.objs.size x y := e8.extBut _ _ (Nat.ne_of_gt zl) (e7.extBut _ _ (Nat.ne_of_gt zl) (Heap.get?_push_size _ rfl))
  have up : ∀ c o, c ≠ z → g5.get? c = some o → g8.get? c = some o := fun c o c1 e => e8.extBut _ _ c1 (e7.extBut _ _ c1 (Heap.get?_push_of_some _ e))
  have sz8 : g8.objs.size = g5.objs.size + 1 := by rw [e8.1, e7.1, Heap.size_push]
  rw [sz] at z8 T8 sz8
  refine wpAny_pure ⟨_, rfl, ?b8⟩; case b8 =>
  show Q (.ref g5.objs.size) _
  rw [sz]
  exact q g8 z8 (up _ _ O.b O5) (f1.stay (f1.stay (FP s5) Fz e7.extBut) Fz e8.extBut) (f2.stay (f2.stay (GP t5) Gz e7.extBut) Gz e8.extBut) T8 sz8 fun c o c1 c2 c3 c4 e => up c o c1 (k5 c o c1 c2 c3 c4 e)
theorem next_stop {Q : Fin → Shared → Prop} (hh : A.handled = none) (O : Own5 z TI TO i j) (f1 : Fd i F S f) (f2 : Fd j G T g) (Fz : F z) (Gz : G z) (GT : G TO) (Gi : G i)
    (hz : IsZip s.heap z TI TO .none) (hI : IsPair s.heap TI (.ref i) (.ref j)) (hO : IsPair s.heap TO u v) (h1 : S s.heap m) (h2 : T s.heap n) (he : f m = none ∨ g n = none)
    (q : ∀ h' e, Kept5 z TO i j s.heap h' → (∃ o, h'.get? e = some o ∧ o.cls = .type "StopIteration") → E (.ref e) { s with heap := h' }) : wpAny (model prog w) A (Builtin.«zip.__next__» ⟨[.ref z], []⟩) Q E s := by
  show wpAny _ _ (field (.ref z) 2 >>= _) _ _ s
  refine wpAny_bind (wpAny_field hz rfl (x := .bool false) rfl ?a1); case a1 =>
  show wpAny _ _ (field (.ref z) 3 >>= _) _ _ s
  refine wpAny_bind (wpAny_field hz rfl (x := .ref TI) rfl (wpAny_bind (wpAny_seqItems hI rfl ?a2))); case a2 =>
  show wpAny _ _ (Builtin.SmallTypes.ownedTupleIsFree (.ref z) >>= _) _ _ s
  refine wpAny_bind ?a3; case a3 =>
  unfold Builtin.SmallTypes.ownedTupleIsFree
  refine wpAny_bind (wpAny_field hz rfl (x := .none) rfl (wpAny_pure ?a4)); case a4 =>
  simp only [if_true]
  refine wpAny_bind (wpAny_rule (wpAny_bind (wpAny_field hz rfl (x := .ref TO) rfl (wpAny_bind (wpAny_setField_rec hz (by simp) fun g1 z1 e1 => ?a5))))); case a5 =>
  replace z1 : IsZip g1 z TI TO .ellipsis := z1
  refine wpAny_bind ?a6; case a6 =>
  simp only [List.zipIdx_cons, List.zipIdx_nil, List.forIn_cons, List.forIn_nil]
  refine wpAny_bind (wpAny_bind (wpAny_onRaise ?a7)); case a7 =>
  show wpAny _ _ (Builtin.SmallTypes.nextOf (.ref i) >>= _) _ _ _
  cases hx : f m with
  | none =>
    refine wpAny_bind (f1.stop hh (f1.stay h1 Fz e1.extBut) hx fun g2 e e2 ⟨oe, he1, he2⟩ => ?_)
    have z2 : IsZip g2 z TI TO .ellipsis := e2 _ _ O.c.symm z1
    have ne : e ≠ z := fun c => by subst c; rw [z2] at he1; cases he1; simp at he2
    exact wpAny_setField_rec z2 (by simp) fun g3 _ e3 => q g3 e (fun c o c1 _ c3 _ x => e3.extBut _ _ c1 (e2 _ _ c3 (e1.extBut _ _ c1 x))) ⟨oe, e3.extBut _ _ ne he1, he2⟩
  | some x =>
    have hy : g n = none := he.resolve_left fun c => by rw [hx] at c; cases c
    refine wpAny_bind (f1.item (f1.stay h1 Fz e1.extBut) hx fun g2 s2 e2 => wpAny_pure ?b1); case b1 =>
    have O2 : IsPair g2 TO u v := e2.extBut _ _ O.h (e1.extBut _ _ O.b hO)
    refine wpAny_bind (wpAny_seqItems O2 rfl (wpAny_bind (wpAny_updateSeq_pair O2 fun g3 O3 e3 => wpAny_bind (wpAny_letGo (wpAny_pure (wpAny_bind (wpAny_bind (wpAny_onRaise ?b2)))))))); case b2 =>
    show wpAny _ _ (Builtin.SmallTypes.nextOf (.ref j) >>= _) _ _ _
    refine wpAny_bind (f2.stop hh (f2.stay (f2.stay (f2.stay h2 Gz e1.extBut) Gi e2.extBut) GT e3.extBut) hy fun g4 e e4 ⟨oe, he1, he2⟩ => ?_)
    have z4 : IsZip g4 z TI TO .ellipsis := e4 _ _ O.d.symm (e3.extBut _ _ O.b.symm (e2.extBut _ _ O.c.symm z1))
    have ne : e ≠ z := fun c => by subst c; rw [z4] at he1; cases he1; simp at he2
    exact wpAny_setField_rec z4 (by simp) fun g5 _ e5 => q g5 e (fun c o c1 c2 c3 c4 x => e5.extBut _ _ c1 (e4 _ _ c4 (e3.extBut _ _ c2 (e2.extBut _ _ c3 (e1.extBut _ _ c1 x))))) ⟨oe, e5.extBut _ _ ne he1, he2⟩
theorem ask_item {Q : Option Value → Shared → Prop} (O : Own5 z TI TO i j) (f1 : Fd i F S f) (f2 : Fd j G T g) (Fz : F z) (FT : F TO) (Fj : F j) (Gz : G z) (GT : G TO) (Gi : G i)
    (hz : IsZip s.heap z TI TO .none) (hI : IsPair s.heap TI (.ref i) (.ref j)) (hO : IsPair s.heap TO u v) (h1 : S s.heap m) (h2 : T s.heap n) (hx : f m = some x) (hy : g n = some y)
    (FP : ∀ {h : Heap} {k : Nat} {o : Obj}, S h k → S (h.push o) k) (GP : ∀ {h : Heap} {k : Nat} {o : Obj}, T h k → T (h.push o) k)
    (q : ∀ h', IsZip h' z TI TO (rawInt s.heap.objs.size) → IsPair h' TO x y → S h' (m + 1) → T h' (n + 1) → IsPair h' s.heap.objs.size x y → h'.objs.size = s.heap.objs.size + 1 → Kept5 z TO i j s.heap h' → Q (some (.ref s.heap.objs.size)) { s with heap := h' }) : wpAny (model prog w) A (pyNext (.ref z)) Q E s := by
  have ty : s.TypeIs (.ref z) "zip" := ⟨_, hz, rfl⟩
  unfold pyNext
  exact wpAny_bind (wpAny_attempt (wpAny_callSpecial?_slot (name := Str.ofString "__next__") ty PySem.F.slot_zip_next (wpAny_call_entry PySem.F.slot_zip_next ty PySem.F.entry_zip_next (next_item O f1 f2 Fz FT Fj Gz GT Gi hz hI hO h1 h2 hx hy (fun h' a1 a2 a3 a4 a5 a6 a7 => wpAny_pure (q h' a1 a2 a3 a4 a5 a6 a7)) FP GP) (PySem.F.args_zip_next_1 _))))
theorem ask_stop {Q : Option Value → Shared → Prop} (hh : A.handled = none) (O : Own5 z TI TO i j) (f1 : Fd i F S f) (f2 : Fd j G T g) (Fz : F z) (Gz : G z) (GT : G TO) (Gi : G i)
    (hz : IsZip s.heap z TI TO .none) (hI : IsPair s.heap TI (.ref i) (.ref j)) (hO : IsPair s.heap TO u v) (h1 : S s.heap m) (h2 : T s.heap n) (he : f m = none ∨ g n = none)
    (q : ∀ h', Kept5 z TO i j s.heap h' → Q none { s with heap := h' }) : wpAny (model prog w) A (pyNext (.ref z)) Q E s := by
  have ty : s.TypeIs (.ref z) "zip" := ⟨_, hz, rfl⟩
  unfold pyNext
  refine wpAny_bind (wpAny_attempt (wpAny_callSpecial?_slot (name := Str.ofString "__next__") ty PySem.F.slot_zip_next (wpAny_call_entry PySem.F.slot_zip_next ty PySem.F.entry_zip_next (next_stop hh O f1 f2 Fz Gz GT Gi hz hI hO h1 h2 he fun h' e hk ⟨o, ho, hc⟩ => ?_) (PySem.F.args_zip_next_1 _))))
  exact wpAny_bind (wpAny_isInstance (T := "StopIteration") (b := true) ⟨o, ho, hc⟩ isSubtype_stop (wpAny_pure (q h' hk)))
end
/-! ### zip(tuple, list) made -/
abbrev g1H (h : Heap) (a : Addr) : Heap := h.push { cls := .type "tuple_iterator", data := .fields #[.ref a, .int 0 0] }
abbrev g2H (h : Heap) (a b : Addr) : Heap := (g1H h a).push { cls := .type "list_iterator", data := .fields #[.ref b, .int 0 0] }
abbrev g3H (h : Heap) (a b : Addr) : Heap := (g2H h a b).push { cls := .type "tuple", data := .seq #[.ref h.objs.size, .ref (g1H h a).objs.size] }
abbrev g4H (h : Heap) (a b : Addr) : Heap := (g3H h a b).push { cls := .type "tuple", data := .seq #[.none, .none] }
abbrev g5H (h : Heap) (a b : Addr) : Heap := (g4H h a b).push { cls := .type "zip", data := .fields #[.none, .bool false, .bool false, .ref (g2H h a b).objs.size, .ref (g3H h a b).objs.size] }
theorem made_meets (a b : Addr) (xs ys : Array Value) : Meets (Builtin.«zip.__new__» ⟨[.type "zip", .ref a, .ref b], []⟩)
    (fun _ R s => s.heap.IsTuple a xs ∧ s.heap.IsList b ys ∧ R (.ok (.ret (.ref (g4H s.heap a b).objs.size))) { s with heap := g5H s.heap a b }) := .of_wp fun prog w A R s h => by
  obtain ⟨hp, gs, d, tk, os⟩ := s
  obtain ⟨k1, k2, h⟩ := h
  have hsub := sub_zip
  have L1 : Heap.IsTuple (Shared.heap ⟨hp, gs, d, tk, os⟩) a xs := k1
  have L2 : Heap.IsList (Shared.heap ⟨hp.push { cls := .type "tuple_iterator", data := .fields #[.ref a, .int 0 0] }, gs, d, tk, os⟩) b ys := Heap.IsList.push k2 _
  wp_walk using wpAny_pyIter_tuple L1, wpAny_pyIter_list L2
  exact ⟨_, rfl, h⟩
theorem call_zipM {prog : Program} {w : World} {A : Around} {E : Value → Shared → Prop} {s : Shared} {a b : Addr} {xs ys : Array Value} {Q : Value → Shared → Prop} (k1 : s.heap.IsTuple a xs) (k2 : s.heap.IsList b ys)
    (q : ∀ h', IsZip h' (s.heap.objs.size + 4) (s.heap.objs.size + 2) (s.heap.objs.size + 3) .none → IsPair h' (s.heap.objs.size + 2) (.ref s.heap.objs.size) (.ref (s.heap.objs.size + 1)) →
      IsPair h' (s.heap.objs.size + 3) .none .none → h'.IsTupleIter s.heap.objs.size a 0 → h'.IsListIter (s.heap.objs.size + 1) b 0 → (∀ c o, s.heap.get? c = some o → h'.get? c = some o) → Q (.ref (s.heap.objs.size + 4)) { s with heap := h' }) :
    wpAny (model prog w) A (call (.type "zip") [.ref a, .ref b]) Q E s := by
  refine callType_new F.called_zip (by decide) (F.typeCall_zip_2 _ _) (F.newCall_zip_2 _ _) (fun obj => F.args_object_init_3 obj _ _) F.entry_zip_new (made_meets a b xs ys) ⟨k1, k2, ?_⟩
  have n1 : (g1H s.heap a).objs.size = s.heap.objs.size + 1 := Heap.size_push ..
  have n2 : (g2H s.heap a b).objs.size = s.heap.objs.size + 2 := by rw [Heap.size_push, n1]
  have n3 : (g3H s.heap a b).objs.size = s.heap.objs.size + 3 := by rw [Heap.size_push, n2]
  have n4 : (g4H s.heap a b).objs.size = s.heap.objs.size + 4 := by rw [Heap.size_push, n3]
  have p5 : (g5H s.heap a b).get? (g4H s.heap a b).objs.size = some _ := Heap.get?_push_size _ rfl
  have p4 : (g5H s.heap a b).get? (g3H s.heap a b).objs.size = some _ := Heap.get?_push_of_some _ (Heap.get?_push_size _ rfl)
  have p3 : (g5H s.heap a b).get? (g2H s.heap a b).objs.size = some _ := Heap.get?_push_of_some _ (Heap.get?_push_of_some _ (Heap.get?_push_size _ rfl))
  have p2 : (g5H s.heap a b).get? (g1H s.heap a).objs.size = some _ := Heap.get?_push_of_some _ (Heap.get?_push_of_some _ (Heap.get?_push_of_some _ (Heap.get?_push_size _ rfl)))
  have p1 : (g5H s.heap a b).get? s.heap.objs.size = some _ := Heap.get?_push_of_some _ (Heap.get?_push_of_some _ (Heap.get?_push_of_some _ (Heap.get?_push_of_some _ (Heap.get?_push_size _ rfl))))
  have up : ∀ c o, s.heap.get? c = some o → (g5H s.heap a b).get? c = some o := fun c o e => Heap.get?_push_of_some _ (Heap.get?_push_of_some _ (Heap.get?_push_of_some _ (Heap.get?_push_of_some _ (Heap.get?_push_of_some _ e))))
  show _ ∧ _
  rw [n2, n3, n4] at p5
  rw [n1, n2] at p3
  rw [n3] at p4
  rw [n1] at p2
  rw [n4]
  exact ⟨⟨_, p5, rfl⟩, q _ p5 p3 p4 ⟨_, p1, rfl, rfl⟩ ⟨_, p2, rfl, rfl⟩ up⟩
/-! ### walking over zip(tuple, list) -/
def ItzM (K : PySem.W.Frag) (a b : Addr) : It where
  go := fun i H => ∃ (xs ys : List V) (x y : V), SqT K H a xs ∧ SqL K H b ys ∧ xs[i]? = some x ∧ ys[i]? = some y
  yld := fun i H v H' => ∃ p x y, v = .ref p ∧ H p = none ∧ H' = upd H p (.tup [x, y]) ∧ (∀ xs, SqT K H a xs → xs[i]? = some x) ∧ ∀ ys, SqL K H b ys → ys[i]? = some y
  stop := fun i H => ∃ xs ys : List V, SqT K H a xs ∧ SqL K H b ys ∧ (xs.length ≤ i ∨ ys.length ≤ i)
theorem five {z TI TO i j a b : Addr} (D : ZipApart z TI TO i j a b) : Own5 z TI TO i j := ⟨D.TIz, D.TOz, D.i1z, D.i2z, D.TITO, D.TIi1, D.TIi2, D.TOi1, D.TOi2, D.i12⟩
theorem of5 {c z TI TO i j : Addr} {P : Addr → Prop} (h : c ∈ [z, TI, TO, i, j]) (a : P z) (b : P TI) (d : P TO) (e : P i) (f : P j) : P c := by
  simp only [List.mem_cons, List.not_mem_nil, or_false] at h
  rcases h with h | h | h | h | h <;> (rw [h]; assumption)
def St5 (z TI TO i j a b : Addr) : Nat → Heap → Prop := fun n h => IsZip h z TI TO .none ∧ IsPair h TI (.ref i) (.ref j) ∧ (∃ x y, IsPair h TO x y) ∧ h.IsTupleIter i a n ∧ h.IsListIter j b n
theorem turn_zipM {P : Program} {w : World} {K : PySem.W.Frag} {elts : List Expr} {kk : Nat} {tpos : Pos} {a b z TI TO i j : Addr} (D : ZipApart z TI TO i j a b) : Turn P w K (.Tuple elts kk tpos) (ItzM K a b) [z, TI, TO, i, j] z (St5 z TI TO i j a b) where
  mem := List.mem_cons_self
  obj := fun n h ⟨c1, c2, ⟨x, y, c3⟩, ⟨o1, e1, _, d1⟩, ⟨o2, e2, _, d2⟩⟩ c hc => of5 (P := fun c => ∃ o, h.get? c = some o ∧ ∀ v, o.data ≠ .cell v) hc ⟨_, c1, fun v q => nomatch q⟩ ⟨_, c2, fun v q => nomatch q⟩ ⟨_, c3, fun v q => nomatch q⟩ ⟨o1, e1, fun v q => by rw [d1] at q; cases q⟩ ⟨o2, e2, fun v q => by rw [d2] at q; cases q⟩
  keep := fun n h h' ⟨c1, c2, ⟨x, y, c3⟩, c4, c5⟩ k => ⟨k z (by simp) _ c1, k TI (by simp) _ c2, ⟨x, y, k TO (by simp) _ c3⟩, c4.at fun o q => k i (by simp) o q, c5.at fun o q => k j (by simp) o q⟩
  item := by
    intro X hP hw hK hc n pins s σ H E I fp ⟨c1, c2, ⟨x0, y0, c3⟩, c4, c5⟩ ⟨xs, ys, x, y, q1, q2, hx, hy⟩
    subst hP hw hK
    obtain ⟨l1, r1, p1, _⟩ := I.tuple q1
    obtain ⟨l2, r2, p2, _⟩ := I.list q2
    obtain ⟨u, hu, ru⟩ := r1.get hx
    obtain ⟨v, hv, rv⟩ := r2.get hy
    have zl : z < s.heap.objs.size := Heap.lt_size c1
    refine ask_item (five D) (fdT (xs := l1.toArray) D.l1i1) (fdL (xs := l2.toArray) D.l2i2) ⟨D.i1z, D.l1z⟩ ⟨D.TOi1.symm, D.l1TO⟩ ⟨D.i12, D.l1i2⟩ ⟨D.i2z, D.l2z⟩ ⟨D.TOi2.symm, D.l2TO⟩ ⟨D.i12.symm, D.l2i1⟩ c1 c2 c3 ⟨c4, p1⟩ ⟨c5, p2.isList⟩ (x := u) (y := v) (by simpa using hu) (by simpa using hv)
      (fun st => ⟨st.1.at fun o q => Heap.get?_push_of_some _ q, Heap.IsTuple.push st.2 _⟩) (fun st => ⟨st.1.at fun o q => Heap.get?_push_of_some _ q, Heap.IsList.push st.2 _⟩) fun g z1 O1 s1 t1 T1 _ k1 => ⟨_, rfl, wpAny_letOwnedTupleGo_zip (s := { s with heap := g }) z1 fun g2 z2 sb => ?_⟩
    have T2 : g2.get? s.heap.objs.size = some { cls := .type "tuple", data := .seq #[u, v] } := (sb.2 _ (Nat.ne_of_gt zl)).trans T1
    have new : ObjOk X.prog X.w (upd H s.heap.objs.size (.tup [x, y])) g2 s.heap.objs.size (.tup [x, y]) := ⟨by show 2 ≤ sizeLine; decide, [u, v], .cons ru (.cons rv .nil), ⟨_, T2, rfl, _, rfl⟩⟩
    have I2 : Inv X pins σ (upd H s.heap.objs.size (.tup [x, y])) { s with heap := g2 } := I.turnedNew (t' := s.toks) (ch := [z, TI, TO, i, j]) (fun c o hb q => by
      simp only [List.mem_cons, List.not_mem_nil, or_false, not_or] at hb
      exact (sb.2 c hb.1).trans (k1 c o hb.1 hb.2.2.1 hb.2.2.2.1 hb.2.2.2.2 q)) fp (Nat.le_refl _) new
    refine ⟨.ref s.heap.objs.size, _, I2, rfl, ⟨_, x, y, rfl, I.hok.fresh (Nat.le_refl _), rfl, fun l hl => by rw [I.tuple_inj hl q1]; exact hx, fun l hl => by rw [I.list_inj hl q2]; exact hy⟩, ⟨z2, (sb.2 _ D.TIz).trans (k1 _ _ D.TIz D.TITO D.TIi1 D.TIi2 c2), ⟨u, v, (sb.2 _ D.TOz).trans O1⟩, s1.1.at fun o q => (sb.2 _ D.i1z).trans q, t1.1.at fun o q => (sb.2 _ D.i2z).trans q⟩, fun c hcm => ?_⟩
    have lt : c < s.heap.objs.size := by
      obtain ⟨o1, e1, _⟩ := c4
      obtain ⟨o2, e2, _⟩ := c5
      exact of5 (P := fun c => c < s.heap.objs.size) hcm zl (Heap.lt_size c2) (Heap.lt_size c3) (Heap.lt_size e1) (Heap.lt_size e2)
    rw [upd_ne (Nat.ne_of_lt lt)]
    exact (fp c hcm).1
  done := by
    intro X hP hw hK hc n pins s σ H E I fp ⟨c1, c2, ⟨x0, y0, c3⟩, c4, c5⟩ ⟨xs, ys, q1, q2, hend⟩
    subst hP hw hK
    obtain ⟨l1, r1, p1, _⟩ := I.tuple q1
    obtain ⟨l2, r2, p2, _⟩ := I.list q2
    have m1 := r1.length
    have m2 := r2.length
    refine ask_stop (I.ok.hd hc) (five D) (fdT (xs := l1.toArray) D.l1i1) (fdL (xs := l2.toArray) D.l2i2) ⟨D.i1z, D.l1z⟩ ⟨D.i2z, D.l2z⟩ ⟨D.TOi2.symm, D.l2TO⟩ ⟨D.i12.symm, D.l2i1⟩ c1 c2 c3 ⟨c4, p1⟩ ⟨c5, p2.isList⟩
      (hend.imp (fun q => by simp; omega) (fun q => by simp; omega)) fun g k => ⟨rfl, I.turnedL (t' := s.toks) (ch := [z, TI, TO, i, j]) (fun c o hb q => by
        simp only [List.mem_cons, List.not_mem_nil, or_false, not_or] at hb
        exact k c o hb.1 hb.2.2.1 hb.2.2.2.1 hb.2.2.2.2 q) fp⟩
  self := fun A n s Q E st h => wpAny_pyIter_zip st.1 h
def iZipM (K : PySem.W.Frag) (ta : TA) : TI := fun σ H R => ta σ H fun vs H1 => ∃ a b xs ys, vs = [.ref a, .ref b] ∧ SqT K H1 a xs ∧ SqL K H1 b ys ∧ R (ItzM K a b) H1
theorem pi_zipM {X : Cx} {e e2 : Expr} {ta : TA} {p pos tpos : Pos} {elts : List Expr} {kk : Nat} (gz : Gl X "zip") (mz : X.mg "zip" = none) (ha : PA X [e, e2] ta) (st : starEach [e, e2] X.env = (false, eval e X.env) :: starEach [e2] X.env := by rfl)
    (pl : (backTo pos (starEach [e2] X.env)).any (·.1) = false := by rfl) : PI X (.Tuple elts kk tpos) (.Call (.Name "zip" p) [e, e2] [] pos) (iZipM X.K ta) := by
  refine ⟨fun pins s σ H R I h => Call_ (ld_blt I gz mz PyProof.Rows.boot_zip (PyProof.Rows.callWith_type1 (thn (ha.run pos pins s σ H _ I h) fun us s1 ⟨vs, H1, I1, r1, q1⟩ => ?_) st pl))⟩
  obtain ⟨a, b, xs, ys, rfl, q1, q2, q⟩ := q1
  obtain ⟨u, v, rfl, ra, rb⟩ := vals2 r1
  cases ra
  cases rb
  obtain ⟨l1, v1, p1, _⟩ := I1.tuple q1
  obtain ⟨l2, v2, p2, _⟩ := I1.list q2
  obtain ⟨o1, ho1, _⟩ := id p1
  have fr : ∀ c, s1.heap.objs.size ≤ c → FpOk X pins H1 c := fun c hle => I1.fpOk hle (I1.hok.fresh hle)
  refine call_zipM (show s1.heap.IsTuple a l1.toArray from p1) p2.isList fun g c1 c2 c3 c4 c5 hk => wpAny_pyIter_zip c1 ?_
  have I2 : Inv X pins σ H1 { s1 with heap := g } := I1.kept (t' := s1.toks) hk
  refine ⟨s1.heap.objs.size + 4, [s1.heap.objs.size + 4, s1.heap.objs.size + 2, s1.heap.objs.size + 3, s1.heap.objs.size, s1.heap.objs.size + 1], _, _, H1, rfl, I2, turn_zipM (PySem.W.ktu_apart s1.heap.objs.size a b (Heap.lt_size ho1) p2.lt), ⟨c1, c2, ⟨_, _, c3⟩, c4, c5⟩, fun c hcm => ?_, q⟩
  exact of5 (P := fun c => FpOk X pins H1 c) hcm (fr _ (Nat.le_add_right _ _)) (fr _ (Nat.le_add_right _ _)) (fr _ (Nat.le_add_right _ _)) (fr _ (Nat.le_refl _)) (fr _ (Nat.le_add_right _ _))
end ZiM

set_option Elab.async false
set_option linter.all false
set_option maxRecDepth 100000
set_option maxHeartbeats 4000000
namespace CB
open PySem PySem.Spec PyProof.Rows L2
open C8 (Cal Met Mak pe_c pe_mk pe_mt pe_mt0 pe_gc CalAt)
section
variable {P : Program} {w : World} {K : PySem.W.Frag} {mg : Str → Option Value} {base : Heap}
/-! rules in a row -/
inductive RulesAt (K : PySem.W.Frag) (C : Addr) (H : Hp) : List V → List (Nat × Tm) → Prop where
  | nil : RulesAt K C H [] []
  | cons {r : Addr} {n : Nat} {t : Tm} {rs : List V} {gs : List (Nat × Tm)} : RuleAt K C H r n t → RulesAt K C H rs gs → RulesAt K C H (.ref r :: rs) ((n, t) :: gs)
theorem RulesAt.length {C : Addr} {H : Hp} : ∀ {rs : List V} {gs : List (Nat × Tm)}, RulesAt K C H rs gs → rs.length = gs.length
  | _, _, .nil => rfl
  | _, _, .cons _ t => by simp [RulesAt.length t]
theorem RulesAt.same {C : Addr} {H H' : Hp} (e : Same H H') : ∀ {rs : List V} {gs : List (Nat × Tm)}, RulesAt K C H rs gs → RulesAt K C H' rs gs
  | _, _, .nil => .nil
  | _, _, .cons h t => .cons (h.same e) (RulesAt.same e t)
theorem RulesAt.getV {C : Addr} {H : Hp} : ∀ {rs : List V} {gs : List (Nat × Tm)} {i : Nat} {x : V}, RulesAt K C H rs gs → rs[i]? = some x → ∃ r n t, x = .ref r ∧ gs[i]? = some (n, t) ∧ RuleAt K C H r n t
  | _, _, _, _, .nil, e => by simp at e
  | _, _, 0, _, .cons (r := r) (n := n) (t := t) h _, e => by simp at e; exact ⟨r, n, t, e.symm, rfl, h⟩
  | _, _, i + 1, x, .cons _ t, e => by
    obtain ⟨r, n, u, h1, h2, h3⟩ := RulesAt.getV (i := i) (x := x) t (by simpa using e)
    exact ⟨r, n, u, h1, by simpa using h2, h3⟩
def nsOf (gs : List (Nat × Tm)) : List Nat := gs.map Prod.fst
theorem nsOf_len (gs : List (Nat × Tm)) : (nsOf gs).length = gs.length := by unfold nsOf; rw [List.length_map]
theorem nsOf_get {gs : List (Nat × Tm)} {i n : Nat} {t : Tm} (h : gs[i]? = some (n, t)) : (nsOf gs)[i]? = some n := by unfold nsOf; rw [List.getElem?_map, h]; rfl
theorem sum_take_le : ∀ (l : List Nat) (i : Nat), (l.take i).sum ≤ l.sum
  | [], i => by simp
  | a :: l, 0 => by simp
  | a :: l, i + 1 => by have := sum_take_le l i; simp only [List.take_succ_cons, List.sum_cons]; omega
theorem sum_take_succ {l : List Nat} {i n : Nat} (h : l[i]? = some n) : (l.take (i + 1)).sum = (l.take i).sum + n := by
  rw [take_succ' h, List.sum_append]; simp
def Inn (K : PySem.W.Frag) (C : Addr) (H : Hp) (a : Addr) (gs : List (Nat × Tm)) : Prop := ∃ rs, SqT K H a rs ∧ RulesAt K C H rs gs
theorem Inn.same {C : Addr} {H H' : Hp} {a : Addr} {gs : List (Nat × Tm)} (h : Inn K C H a gs) (e : Same H H') : Inn K C H' a gs := by
  obtain ⟨rs, h1, h2⟩ := h
  exact ⟨rs, (Same.kt e).sq h1, h2.same e⟩
abbrev n_need_few : List Str := ["inners", "people", "inner"]
theorem sc_need_few : FnScope ["inners", "people", "inner"] ["inners"] (defScope s_need_few) := ⟨rfl, rfl, rfl, by decide +kernel, rfl, by decide +kernel, by decide +kernel⟩
def sp_need_few (K : PySem.W.Frag) (C : Addr) : Sp := fun vs H Q _ => ∃ (a : Addr) (gs : List (Nat × Tm)), vs = [.ref a] ∧ Inn K C H a gs ∧ gs.length ≤ 6 ∧ (nsOf gs).sum ≤ 6 ∧ ∀ H', Same H H' → Q (.int (((nsOf gs).sum : Nat) : Int)) H'
theorem ok_need_few {C : Addr} (F : FnD K mg "need_few" s_need_few) (hc : Cls K C) (n1 : NoAttr K C "people") (T_sum : mg "sum" = none) (g_MOST_PEOPLE : ∃ u, mg "MOST_PEOPLE" = some u ∧ RelV (.int 6) u) : Cal P w K mg base 1 "need_few" (sp_need_few K C) [] := by
  refine calOf F sc_need_few (fun _ _ _ _ _ _ us hl => match us, hl with | [_], _ => rfl) (fun vs H Q E h => ?_) (fun cdv f A outer s H vs Q E hr h => ?_)
  · obtain ⟨_, _, rfl, _⟩ := h
    rfl
  · obtain ⟨a, gs, rfl, ⟨rs, ha, hg⟩, hl, hs, k⟩ := h
    refine ⟨_, (pss_cons (ps_set (i := 1) sc_need_few.nd rfl (Or.inl rfl) (pe_callB (cr_sum rfl) (by rfl) T_sum (by decide +kernel) (pa_cons (pe_lc (own := [("inner", 2)]) (te := tFld K (tVar 2) "people") (by rfl) sc_need_few.nd (pi_tup (pv 0)) (blkOk_by (own := [("inner", 2)]) (N := ["inners", "people", "inner"]) (sc := defScope s_need_few) (by decide +kernel)) (fun _ _ _ _ _ => (pg_name (i := 2) sc_need_few.nd rfl (Or.inl rfl))) (fun _ _ _ _ _ => pts_nil) (fun _ _ _ _ _ => (pe_fld (pv 2) rfl))) pa_nil)))
    (pss_cons (ps_if (pt_cmpR op_gt (pv 1) (pe_gc rfl g_MOST_PEOPLE) (nomark _)) (pss_one ps_never) pss_nil)
    (pss_one (ps_ret (pv 1))))), ?_⟩
    have rl := hg.length
    refine ⟨_, rfl, a, rfl, ⟨_, ha⟩, fun D hD => ?_⟩
    refine it_tup (K := K) (a := a) (xs := rs) (fun i H' => H' D = some (.lst (pV ((nsOf gs).take i))) ∧ Same H H')
      ⟨upd_same, same_new hD⟩ (fun i H' ⟨_, s5⟩ => (Same.kt s5).sq ha) ?_ ?_
    · rintro i x H' hx ⟨g1, g2⟩
      obtain ⟨r, n, t, rfl, hgi, hR⟩ := hg.getV hx
      obtain ⟨dx, v, hr1, rt⟩ := hR.same g2
      refine ⟨rfl, _, rfl, r, C, dx, _, _, rfl, hr1, hc, n1, ruleF_people n v, ?_⟩
      refine ⟨_, g1, by rw [pV_len, List.length_take, nsOf_len]; exact small1000 (by omega), ?_, Same.mut g2 hD⟩
      rw [upd_same, take_succ' (nsOf_get hgi)]
      unfold pV pI
      rw [List.map_append, List.map_append]
      rfl
    · rintro H' ⟨g1, g2⟩
      rw [List.take_of_length_le (by rw [nsOf_len]; omega)] at g1
      have es : (pI (nsOf gs)).sum = (((nsOf gs).sum : Nat) : Int) := by
        generalize nsOf gs = l
        induction l with
        | nil => rfl
        | cons n l ih => show (n : Int) + (pI l).sum = ((n + l.sum : Nat) : Int); rw [ih]; omega
      refine ⟨D, pI (nsOf gs), rfl, SqL.of g1, ?_⟩
      rw [es]
      refine ⟨_, rfl, _, _, rfl, rfl, _, rfl, ite2 (fun c => absurd (of_decide_eq_true c) (by omega)) (fun _ => ?_)⟩
      exact ⟨_, rfl, k H' g2⟩
/-- tuples with these items -/
inductive Tps (K : PySem.W.Frag) (H : Hp) : List V → List (List V) → Prop where
  | nil : Tps K H [] []
  | cons {p : Addr} {c : List V} {ps : List V} {cs : List (List V)} : SqT K H p c → Tps K H ps cs → Tps K H (.ref p :: ps) (c :: cs)
theorem Tps.length {H : Hp} : ∀ {ps : List V} {cs : List (List V)}, Tps K H ps cs → ps.length = cs.length
  | _, _, .nil => rfl
  | _, _, .cons _ t => by simp [Tps.length t]
theorem Tps.mono {H H' : Hp} (e : KT H H') : ∀ {ps : List V} {cs : List (List V)}, Tps K H ps cs → Tps K H' ps cs
  | _, _, .nil => .nil
  | _, _, .cons h t => .cons (e.sq h) (Tps.mono e t)
theorem Tps.snoc {H : Hp} {p : Addr} {c : List V} : ∀ {ps : List V} {cs : List (List V)}, Tps K H ps cs → SqT K H p c → Tps K H (ps ++ [.ref p]) (cs ++ [c])
  | _, _, .nil, h => .cons h .nil
  | _, _, .cons a t, h => .cons a (Tps.snoc t h)
theorem Tps.getV {H : Hp} : ∀ {ps : List V} {cs : List (List V)} {i : Nat} {x : V}, Tps K H ps cs → ps[i]? = some x → ∃ p c, x = .ref p ∧ cs[i]? = some c ∧ SqT K H p c
  | _, _, _, _, .nil, e => by simp at e
  | _, _, 0, _, .cons (p := p) (c := c) h _, e => by simp at e; exact ⟨p, c, e.symm, rfl, h⟩
  | _, _, i + 1, x, .cons _ t, e => by
    obtain ⟨p, c, h1, h2, h3⟩ := Tps.getV (i := i) (x := x) t (by simpa using e)
    exact ⟨p, c, h1, by simpa using h2, h3⟩
abbrev n_parted : List Str := ["inners", "row", "found", "start", "inner"]
theorem sc_parted : FnScope ["inners", "row", "found", "start", "inner"] ["inners", "row"] (defScope s_parted) := ⟨rfl, rfl, rfl, by decide +kernel, rfl, by decide +kernel, by decide +kernel⟩
def sp_parted (K : PySem.W.Frag) (C : Addr) : Sp := fun vs H Q _ => ∃ (a b : Addr) (gs : List (Nat × Tm)) (xs : List V), vs = [.ref a, .ref b] ∧ Inn K C H a gs ∧ gs.length ≤ 6 ∧ SqT K H b xs ∧ xs.length = (nsOf gs).sum ∧ xs.length ≤ 6 ∧
  ∀ L ps H', Same H H' → H' L = some (.lst ps) → Tps K H' ps (cuts (nsOf gs) xs) → Q (.ref L) H'
theorem ok_parted {C : Addr} (F : FnD K mg "parted" s_parted) (hc : Cls K C) (n1 : NoAttr K C "people") : Cal P w K mg base 1 "parted" (sp_parted K C) [] := by
  refine calOf F sc_parted (fun _ _ _ _ _ _ us hl => match us, hl with | [_, _], _ => rfl) (fun vs H Q E h => ?_) (fun cdv f A outer s H vs Q E hr h => ?_)
  · obtain ⟨_, _, _, _, rfl, _⟩ := h
    rfl
  · obtain ⟨a, b, gs, xs, rfl, ⟨rs, ha, hg⟩, hl, hb, hx, hx6, k⟩ := h
    refine ⟨_, (pss_cons (ps_set (i := 2) sc_parted.nd rfl (Or.inl rfl) (pe_lst pa_nil))
    (pss_cons (ps_set (i := 3) sc_parted.nd rfl (Or.inl rfl) pe_int)
    (pss_cons (ps_for PassesOwn.never rfl (pi_tup (pv 0)) (pg_name (i := 4) sc_parted.nd rfl (Or.inl rfl)) (pss_cons (ps_expr (pe_bm PySem.F.plainAttrs_list PySem.F.slot_list_append PySem.F.type_list_append mt_append (pv 2) (pa_cons (pe_slice sl_tupA (pv 1) (po_some (pv 3)) (po_some (pe_op op_add (pv 3) (pe_fld (pv 4) rfl)))) pa_nil)))
    (pss_one (ps_aug (i := 3) sc_parted.nd rfl (Or.inl rfl) (pe_fld (pv 4) rfl) ip_add))))
    (pss_one (ps_ret (pv 2)))))), ?_⟩
    have rl := hg.length
    have cl := cuts_len (nsOf gs) xs
    rw [nsOf_len] at cl
    refine ⟨Nat.zero_le _, fun L hL => ⟨_, rfl, a, rfl, ⟨_, (Same.kt (same_new hL)).sq ha⟩, ?_⟩⟩
    refine for_tup (K := K) (a := a) (xs := rs) (fun i σ H' => ∃ (ps : List V) (x4 : Option V), σ = [some (.ref a), some (.ref b), some (.ref L), some (.int ((((nsOf gs).take i).sum : Nat) : Int)), x4] ∧ H' L = some (.lst ps) ∧ Tps K H' ps ((cuts (nsOf gs) xs).take i) ∧ Same H H')
      ⟨[], none, rfl, upd_same, .nil, same_new hL⟩ (fun i σ H' _ ⟨_, _, _, _, _, s5⟩ => (Same.kt s5).sq ha) ?_ ?_
    · rintro i x σ H' hxi ⟨ps, _, rfl, g1, g2, g3⟩
      obtain ⟨r, n, t, rfl, hgi, hR⟩ := hg.getV hxi
      obtain ⟨dx, v, hr1, rt⟩ := hR.same g3
      have gn := nsOf_get hgi
      have ts := sum_take_succ gn
      have tl := sum_take_le (nsOf gs) (i + 1)
      have ci := cuts_get (l := xs) gn
      have pl : ps.length ≤ 6 := by rw [g2.length, List.length_take]; omega
      refine ⟨_, rfl, .inl ⟨rfl, _, SqL.of g1⟩, _, rfl, _, rfl, _, rfl, _, rfl, _, rfl, r, C, dx, _, _, rfl, hr1, hc, n1, ruleF_people n v, _, _, rfl, rfl, _, rfl, ?_⟩
      rw [show ((((nsOf gs).take i).sum : Nat) : Int) + (n : Int) = (((((nsOf gs).take i).sum + n : Nat)) : Int) by omega]
      refine slMid ((Same.kt g3).sq hb) (by omega) (by omega) fun p H2 s2 hp => ?_
      rw [Nat.add_sub_cancel_left] at hp
      have g1' := s2 _ _ g1
      refine ⟨L, ps, _, rfl, rfl, g1', small1000 (by omega), ?_⟩
      have hL0 : H L = none := hL
      have s3 : Same H (upd H2 L (.lst (ps ++ [.ref p]))) := Same.mut (g3.trans s2) hL0
      refine ⟨_, rfl, _, rfl, r, C, dx, _, _, rfl, ?_, hc, n1, ruleF_people n v, _, _, rfl, rfl, ?_⟩
      · rw [upd_ne (ne_of (s2 _ _ hr1) g1' (by intro z; cases z))]
        exact s2 _ _ hr1
      · refine ⟨ps ++ [.ref p], some (.ref r), ?_, upd_same, ?_, s3⟩
        · rw [ts]
          show [_, _, _, some (V.int ((((nsOf gs).take i).sum : Int) + (n : Int))), _] = _
          rw [show ((((nsOf gs).take i).sum : Nat) : Int) + (n : Int) = (((((nsOf gs).take i).sum + n : Nat)) : Int) by omega]
        · rw [take_succ' ci]
          exact Tps.mono (KT.updl g1') (Tps.snoc (Tps.mono (Same.kt s2) g2) hp)
    · rintro σ H' ⟨ps, _, rfl, g1, g2, g3⟩
      rw [List.take_of_length_le (by omega)] at g2
      exact ⟨_, rfl, k L ps H' g3 g1 g2⟩
abbrev n_with_terms : List Str := ["term", "own", "inner"]
theorem sc_with_terms : FnScope ["term", "own", "inner"] ["term", "own"] (defScope s_with_terms) := ⟨rfl, rfl, rfl, by decide +kernel, rfl, by decide +kernel, by decide +kernel⟩
def spWT (K : PySem.W.Frag) (D : Nat) : Sp := fun vs H Q _ => ∃ (v : V) (L : Addr) (s : Nat) (t : Tm) (os : List Tm) (us : List V), vs = [v, .ref L] ∧ Rp K H v t.data ∧ t.Ok os.length s ∧ t.dep ≤ D ∧ H L = some (.lst us) ∧ RTs K H us os ∧ ∀ v' H', Same H H' → Rp K H' v' (t.sub os).data → Q v' H'
theorem skids_take {o : List Tm} {ts : List Tm} {i : Nat} {u : Tm} (h : ts[i]? = some u) : Tm.subs o (ts.take (i + 1)) = Tm.subs o (ts.take i) ++ [u.sub o] := by
  rw [take_succ' h, subs_map, subs_map, List.map_append]
  rfl
theorem with_sub {o : List Tm} {t : Tm} (h : t.word ≠ "bid") : t.withK (Tm.subs o t.children) = t.sub o := by
  cases t with
  | bid p => exact absurd rfl h
  | _ => rfl
theorem ok_with_terms (F : FnD K mg "with_terms" s_with_terms) (c_inner_terms : Cal P w K mg base 1 "inner_terms" (sp_inner_terms K) []) (c_with_inner : Cal P w K mg base 1 "with_inner" (sp_with_inner K) [])
    (T_tuple : mg "tuple" = none) : ∀ D : Nat, Cal P w K mg base (D + 3) "with_terms" (spWT K D) [] := by
  intro D
  induction D with
  | zero => exact calOf (k := 2) F sc_with_terms (fun _ _ _ _ _ _ us hl => match us, hl with | [_, _], _ => rfl) (fun vs H Q E h => by obtain ⟨_, _, _, t, _, _, _, _, _, h, _⟩ := h; rw [dep_children t] at h; omega) (fun cdv f A outer s H vs Q E hr h => by obtain ⟨_, _, _, t, _, _, _, _, _, h, _⟩ := h; rw [dep_children t] at h; omega)
  | succ D ih =>
    have c_with_terms := ih
    refine calOf (k := D + 3) F sc_with_terms (fun _ _ _ _ _ _ us hl => match us, hl with | [_, _], _ => rfl) (fun vs H Q E h => ?_) (fun cdv f A outer s H vs Q E hr h => ?_)
    · obtain ⟨_, _, _, _, _, _, rfl, _⟩ := h
      rfl
    · obtain ⟨v, LO, sz, t, o, us, rfl, rt, ho, hdep, hLO, hus, k⟩ := h
      have hdc := dep_children t
      refine ⟨_, (pss_cons (ps_if (pt_cmpR op_eq (pe_ix ix_tup (pv 0) pe_int (fun _ _ => rfl)) pe_str (nomark _)) (pss_one (ps_ret (pe_ix ix_list (pv 1) (pe_ix ix_tup (pv 0) pe_int (fun _ _ => rfl)) (fun _ _ => rfl)))) pss_nil)
    (pss_one (ps_ret (pe_c c_with_inner hr (by first | decide | omega) rfl (pa_cons (pv 0) (pa_cons (pe_callTy call_tuple_of (by rfl) T_tuple (by decide +kernel) (pa_cons (pe_lc (own := [("inner", 2)]) (by rfl) sc_with_terms.nd (pi_tup (pe_c c_inner_terms hr (by first | decide | omega) rfl (pa_cons (pv 0) pa_nil))) (blkOk_by (own := [("inner", 2)]) (N := ["term", "own", "inner"]) (sc := defScope s_with_terms) (by decide +kernel)) (fun _ _ _ _ _ => (pg_name (i := 2) sc_with_terms.nd rfl (Or.inl rfl))) (fun _ _ _ _ _ => pts_nil) (fun _ _ _ _ _ => (pe_c c_with_terms hr (by first | decide | omega) rfl (pa_cons (pv 2) (pa_cons (pv 1) pa_nil))))) pa_nil)) pa_nil)))))), ?_⟩
      obtain ⟨a, r, rfl, ha⟩ := t_head rt
      refine ⟨_, rfl, _, _, _, _, rfl, rfl, ha, at_of (j := 0) rfl rfl, rfl, _, rfl, ite2 (fun c => ?_) (fun c1 => ?_)⟩
      · cases t with
        | bid p =>
          obtain ⟨a2, e, ha2⟩ := t_bid rt
          cases e
          have hp : p < o.length := ho
          obtain ⟨x, hx, rx⟩ := RTs.get hus (List.getElem?_eq_getElem hp)
          have ev : (Tm.bid p).sub o = o[p] := by show o.getD p (.bid 0) = _; rw [List.getD_eq_getElem?_getD, List.getElem?_eq_getElem hp]; rfl
          refine ⟨_, rfl, _, rfl, _, _, _, _, rfl, rfl, ha2, at_of (j := 1) rfl rfl, _, _, _, _, rfl, rfl, SqL.of hLO, at_of (j := p) rfl hx, ?_⟩
          refine k _ _ (Same.refl _) ?_
          rw [ev]
          exact rx
        | _ => exact absurd (of_decide_eq_true c) (by simp only [Tm.word]; decide +kernel)
      · have nb : t.word ≠ "bid" := fun e => c1 (by rw [e]; decide)
        refine ⟨_, rfl, _, rfl, _, t, rfl, rt, mean_of_ok ho, fun p ws H1 s1 hp hw => ⟨p, rfl, ⟨_, hp⟩, fun L hL => ?_⟩⟩
        have kl := kids_len ho
        have hwl : ws.length = t.children.length := RTs.length hw
        refine it_tup (K := K) (a := p) (xs := ws) (fun i H' => ∃ zs : List V, H' L = some (.lst zs) ∧ RTs K H' zs (Tm.subs o (t.children.take i)) ∧ Same H1 H')
          ⟨[], upd_same, by rw [List.take_zero]; exact .nil, same_new hL⟩ (fun i H' ⟨_, _, _, s5⟩ => (Same.kt s5).sq hp) ?_ ?_
        · rintro i x H' hx ⟨zs, g1, g2, g3⟩
          obtain ⟨u, hu, ru⟩ := RTs.getV hw hx
          have mu := List.mem_of_getElem? hu
          have ud := deps_mem mu
          have zl : zs.length ≤ 8 := by rw [RTs.length g2, subs_length, List.length_take]; omega
          refine ⟨rfl, _, rfl, _, rfl, x, LO, sz, u, o, us, rfl, ru.mono (Same.kt g3), (oks_iff _ _ _).mp (ok_children ho) u mu, by omega, (s1.trans g3) _ _ hLO, RpAll.mono (Same.kt (s1.trans g3)) hus, fun y H2 s2 ry => ?_⟩
          refine ⟨zs, s2 _ _ g1, small1000 (by omega), zs ++ [y], upd_same, ?_, Same.mut (g3.trans s2) hL⟩
          rw [skids_take hu]
          exact RpAll.mono (KT.updl (s2 _ _ g1)) (RTs.snoc (RpAll.mono (Same.kt s2) g2) ry)
        · rintro H2 ⟨zs, g1, g2, g3⟩
          rw [hwl, List.take_length] at g2
          have s2 := s1.trans g3
          refine ⟨L, zs, rfl, .inl ⟨SqL.of g1, fun pI hpI => ?_⟩⟩
          have s3 := same_new (o := .tup zs) hpI
          have s03 := s2.trans s3
          have hI : SqT K (upd H2 pI (.tup zs)) pI zs := SqT.of upd_same
          have hu : RTs K (upd H2 pI (.tup zs)) zs (Tm.subs o t.children) := RpAll.mono (Same.kt s3) g2
          refine ⟨.ref a, pI, zs, t, _, rfl, rt.mono (Same.kt s03), hI, hu, subs_length _ _, kl, (fun ws ts e => (mean_of_ok ho ws ts e).1), fun v' H' s' r' => k v' H' (s03.trans s') ?_⟩
          rw [← with_sub nb]
          exact r'
theorem walk_zipM {a b : Addr} {xs ys : List V} {n : Nat} (hn : n = min xs.length ys.length) : Walk (ZiM.ItzM K a b) n (fun H => SqT K H a xs ∧ SqL K H b ys) (YPair (fun i => xs[i]?) (fun i => ys[i]?)) := by
  subst hn
  refine ⟨fun i _ hi q => ?_, fun _ q => ⟨xs, ys, q.1, q.2, by omega⟩, fun i H v H' _ q y => ?_⟩
  · have i1 : i < xs.length := by omega
    have i2 : i < ys.length := by omega
    exact ⟨xs, ys, _, _, q.1, q.2, List.getElem?_eq_getElem i1, List.getElem?_eq_getElem i2⟩
  · obtain ⟨T, x, z, e1, e2, e3, e4, e5⟩ := y
    exact ⟨T, x, z, e1, e2, e3, e4 xs q.1, e5 ys q.2⟩
/-- everybody's own places, group by group -/
def ownT (gs : List (Nat × Tm)) : List Tm := List.zipWith (fun (g : Nat × Tm) (c : List Nat) => g.2.ren c) gs (cuts (nsOf gs) (List.range (nsOf gs).sum))
theorem ownT_len (gs : List (Nat × Tm)) : (ownT gs).length = gs.length := by unfold ownT; rw [List.length_zipWith, cuts_len, nsOf_len, Nat.min_self]
theorem ownT_get {gs : List (Nat × Tm)} {i n : Nat} {t : Tm} {c : List Nat} (h : gs[i]? = some (n, t)) (g : (cuts (nsOf gs) (List.range (nsOf gs).sum))[i]? = some c) : (ownT gs)[i]? = some (t.ren c) := by
  unfold ownT
  rw [List.getElem?_zipWith, h, g]
theorem pV_map (l : List Nat) : pV l = l.map fun (p : Nat) => V.int (p : Int) := by unfold pV pI; rw [List.map_map]; rfl
theorem cuts_pV (ns l : List Nat) : cuts ns (pV l) = (cuts ns l).map pV := by
  rw [pV_map, cuts_map]
  congr 1
  funext c
  exact (pV_map c).symm
theorem RTs.snoc' {H : Hp} {zs : List V} {ts : List Tm} {v : V} {t : Tm} (h : RTs K H zs ts) (r : Rp K H v t.data) : RTs K H (zs ++ [v]) (ts ++ [t]) := RTs.snoc h r
abbrev n_composed : List Str := ["outer", "inners", "people", "names", "own", "inner", "part"]
theorem sc_composed : FnScope ["outer", "inners", "people", "names", "own", "inner", "part"] ["outer", "inners"] (defScope s_composed) := ⟨rfl, rfl, rfl, by decide +kernel, rfl, by decide +kernel, by decide +kernel⟩
def sp_composed (K : PySem.W.Frag) (C : Addr) : Sp := fun vs H Q _ => ∃ (r a : Addr) (t : Tm) (s : Nat) (gs : List (Nat × Tm)), vs = [.ref r, .ref a] ∧ RuleAt K C H r gs.length t ∧ t.Ok gs.length s ∧ t.dep ≤ 60 ∧ Inn K C H a gs ∧ 1 ≤ gs.length ∧ gs.length ≤ 6 ∧ 1 ≤ (nsOf gs).sum ∧ (nsOf gs).sum ≤ 6 ∧ (∀ g ∈ gs, g.2.Ok g.1 s ∧ s ≤ 8000 ∧ g.2.dep ≤ 60) ∧
  ∀ r' H', Same H H' → H r' = none → RuleAt K C H' r' (nsOf gs).sum (t.sub (ownT gs)) → Q (.ref r') H'
theorem ok_composed {C : Addr} (F : FnD K mg "composed" s_composed) (hc : Cls K C) (n2 : NoAttr K C "term") (c_need_few : Cal P w K mg base 1 "need_few" (sp_need_few K C) []) (c_parted : Cal P w K mg base 1 "parted" (sp_parted K C) []) (c_renamed_term : Cal P w K mg base 63 "renamed_term" (spRen K 60) []) (c_with_terms : Cal P w K mg base 63 "with_terms" (spWT K 60) []) (c_built : Cal P w K mg base 8 "built" (sp_built K C) []) (T_zip : mg "zip" = none) (T_tuple : mg "tuple" = none) (T_range : mg "range" = none) : Cal P w K mg base 64 "composed" (sp_composed K C) [] := by
  refine calOf F sc_composed (fun _ _ _ _ _ _ us hl => match us, hl with | [_, _], _ => rfl) (fun vs H Q E h => ?_) (fun cdv f A outer s H vs Q E hr h => ?_)
  · obtain ⟨_, _, _, _, _, rfl, _⟩ := h
    rfl
  · obtain ⟨r, a, t, sz, gs, rfl, hR, ho, hdep, hI, hg1, hg6, hs1, hs6, hgs, k⟩ := h
    refine ⟨_, (pss_cons (ps_set (i := 2) sc_composed.nd rfl (Or.inl rfl) (pe_c c_need_few hr (by first | decide | omega) rfl (pa_cons (pv 1) pa_nil)))
    (pss_cons (ps_set (i := 3) sc_composed.nd rfl (Or.inl rfl) (pe_c c_parted hr (by first | decide | omega) rfl (pa_cons (pv 1) (pa_cons (pe_tupRg rfl (by rfl) T_tuple (prg_1 (by rfl) T_range (pv 2))) pa_nil))))
    (pss_cons (ps_setLc (i := 4) (own := [("inner", 5), ("part", 6)]) (g := (gTup K 2 (gCons (gName 5) (gCons (gName 6) gNil)))) (te := tCall (spRen K 60) [] C8.E0 (tCons (tFld K (tVar 5) "term") (tCons (tVar 6) tNil))) (by rfl) sc_composed.nd rfl rfl (sw_true rfl rfl rfl (by decide +kernel)) (ZiM.pi_zipM (by rfl) T_zip (pa_cons (pv 1) (pa_cons (pv 3) pa_nil))) (blkOk_by (own := [("inner", 5), ("part", 6)]) (N := ["outer", "inners", "people", "names", "own", "inner", "part"]) (sc := defScope s_composed) (by decide +kernel)) (fun _ _ _ _ _ => (pg_tup rfl (pgs_cons (pg_name (i := 5) sc_composed.nd rfl (Or.inl rfl)) (pgs_cons (pg_name (i := 6) sc_composed.nd rfl (Or.inl rfl)) pgs_nil)))) (fun _ _ _ _ _ => pts_nil) (fun _ _ _ _ _ => (pe_c c_renamed_term hr (by first | decide | omega) rfl (pa_cons (pe_fld (pv 5) rfl) (pa_cons (pv 6) pa_nil)))))
    (pss_one (ps_ret (pe_c c_built hr (by first | decide | omega) rfl (pa_cons (pv 2) (pa_cons (pe_c c_with_terms hr (by first | decide | omega) rfl (pa_cons (pe_fld (pv 0) rfl) (pa_cons (pv 4) pa_nil))) pa_nil)))))))), ?_⟩
    obtain ⟨dxO, vO, hrO, rtO⟩ := id hR
    refine ⟨_, rfl, a, gs, rfl, hI, hg6, hs6, fun H1 s1 => ?_⟩
    refine ⟨_, rfl, _, rfl, (((nsOf gs).sum : Nat) : Int), rfl, RgOk.of_le (by omega) (by omega) (by omega) (by omega), fun pr hpr => ?_⟩
    rw [rgV_pV]
    have s2 := same_new (o := .tup (pV (List.range (nsOf gs).sum))) hpr
    have s02 := s1.trans s2
    have rl : (pV (List.range (nsOf gs).sum)).length = (nsOf gs).sum := by rw [pV_len, List.length_range]
    refine ⟨a, pr, gs, _, rfl, hI.same s02, hg6, SqT.of upd_same, rl, by omega, fun L ps H2 s3 hL hps => ?_⟩
    rw [cuts_pV] at hps
    have s03 := s02.trans s3
    obtain ⟨rs, hrs, hRs⟩ := hI.same s03
    have rlen := hRs.length
    have plen : ps.length = gs.length := by rw [hps.length, List.length_map, cuts_len, nsOf_len]
    refine ⟨_, rfl, _, rfl, a, L, rs, ps, rfl, hrs, SqL.of hL, fun D hD => ?_⟩
    refine lc_it (n := gs.length) (walk_zipM (by omega)) (fun i H' => ∃ zs, H' D = some (.lst zs) ∧ RTs K H' zs ((ownT gs).take i) ∧ Same H2 H')
      ⟨[], upd_same, by rw [List.take_zero]; exact .nil, same_new hD⟩ (fun i H' _ ⟨_, _, _, e⟩ => ⟨(Same.kt e).sq hrs, e.seq (SqL.of hL)⟩) ?_ ?_
    · rintro i x H3 H4 hi ⟨zs, g1, g2, g3⟩ ⟨T, y1, y2, rfl, hT, rfl, hx, hy⟩
      dsimp only at hx hy
      have sT := same_new (o := .tup [y1, y2]) hT
      obtain ⟨ri, n, u, rfl, hgi, hRi⟩ := hRs.getV hx
      obtain ⟨pc, c, rfl, hci, hpc⟩ := hps.getV hy
      rw [List.getElem?_map] at hci
      obtain ⟨o, hoi, rfl⟩ := Option.map_eq_some_iff.mp hci
      obtain ⟨dx, v, hr1, rt⟩ := hRi.same (g3.trans sT)
      have gm := List.mem_of_getElem? hgi
      obtain ⟨uo, us8, ud⟩ := hgs _ gm
      have og := ownT_get hgi hoi
      have oc := cuts_get (l := List.range (nsOf gs).sum) (nsOf_get hgi)
      rw [hoi] at oc
      have ol : o.length = n := by
        rw [Option.some.inj oc, List.length_take, List.length_drop, List.length_range]
        have a1 := sum_take_succ (nsOf_get hgi)
        have a2 := sum_take_le (nsOf gs) (i + 1)
        omega
      have zl : zs.length ≤ 6 := by rw [RTs.length g2, List.length_take]; omega
      refine ⟨T, _, rfl, SqT.of upd_same, rfl, _, _, rfl, _, _, rfl, rfl, rfl, ?_⟩
      refine ⟨_, rfl, ri, C, dx, _, _, rfl, hr1, hc, n2, ruleF_term n v, _, rfl, v, pc, n, sz, u, o, rfl, rt, uo, us8, ud, (Same.kt (g3.trans sT)).sq hpc, ol, fun y H5 s5 ry => ?_⟩
      have g1' := s5 _ _ (sT _ _ g1)
      refine ⟨zs, g1', small1000 (by omega), zs ++ [y], upd_same, ?_, Same.mut ((g3.trans sT).trans s5) hD⟩
      rw [take_succ' og]
      exact RpAll.mono (KT.updl g1') (RTs.snoc (RpAll.mono (Same.kt (sT.trans s5)) g2) ry)
    · rintro H3 ⟨zs, g1, g2, g3⟩
      rw [List.take_of_length_le (by rw [ownT_len]; exact Nat.le_refl _)] at g2
      have s04 := s03.trans g3
      refine ⟨_, rfl, _, rfl, r, C, dxO, _, _, rfl, s04 _ _ hrO, hc, n2, ruleF_term gs.length vO, _, rfl, vO, D, sz, t, ownT gs, zs, rfl, rtO.mono (Same.kt s04), by rw [ownT_len]; exact ho, hdep, g1, g2, fun v' H5 s5 rv => ?_⟩
      exact ⟨v', (nsOf gs).sum, _, rfl, hs1, hs6, rv, fun r' H6 s6 hn hR6 => k r' H6 ((s04.trans s5).trans s6) (none_bk (s04.trans s5) hn) hR6⟩
/-- what the groups come to, each for itself -/
def nestN (gs : List (Nat × Tm)) (ws : List Rat) : List Rat := List.zipWith (fun (g : Nat × Tm) (c : List Rat) => outc g.2 g.1 c) gs (cuts (nsOf gs) ws)
theorem nestN_len (gs : List (Nat × Tm)) (ws : List Rat) : (nestN gs ws).length = gs.length := by unfold nestN; rw [List.length_zipWith, cuts_len, nsOf_len, Nat.min_self]
theorem nestN_get {gs : List (Nat × Tm)} {ws : List Rat} {i n : Nat} {t : Tm} {c : List Rat} (h : gs[i]? = some (n, t)) (g : (cuts (nsOf gs) ws)[i]? = some c) : (nestN gs ws)[i]? = some (outc t n c) := by
  unfold nestN
  rw [List.getElem?_zipWith, h, g]
theorem rq_part {H : Hp} {us : List V} {ws : List Rat} (h : RQ K H us ws) (i n : Nat) : RQ K H ((us.drop i).take n) ((ws.drop i).take n) := by
  have d : ∀ (i : Nat) {us : List V} {ds : List PyData}, RpAll K H us ds → RpAll K H (us.drop i) (ds.drop i) := fun i => by
    induction i with
    | zero => intro us ds h; exact h
    | succ i ih =>
      intro us ds h
      cases h with
      | nil => exact .nil
      | cons a b => exact ih b
  have a := RpAll.take n (d i h)
  show RpAll K H _ (((ws.drop i).take n).map qd)
  rw [List.map_take, List.map_drop]
  exact a
theorem part_bids {H : Hp} {p : Addr} {us : List V} {ws : List Rat} {z i n : Nat} (hp : SqT K H p ((us.drop i).take n)) (h : RQ K H us ws) (hl : i + n ≤ ws.length) (hz : ∀ q ∈ ws, NumOk z q) : Bids K H p n z ((ws.drop i).take n) :=
  ⟨_, hp, rq_part h i n, by rw [List.length_take, List.length_drop]; omega, fun q hq => hz q (List.mem_of_mem_drop (List.mem_of_mem_take hq))⟩
structure GrOk (z : Nat) (g : Nat × Tm) : Prop where
  ok : g.2.Ok g.1 20
  one : 1 ≤ g.1
  dep : g.2.dep ≤ 8
  wt : g.2.wt 20 ≤ z
theorem nest_ok {z : Nat} {gs : List (Nat × Tm)} {ws : List Rat} (hg : ∀ g ∈ gs, GrOk z g) (hl : ws.length = (nsOf gs).sum) (hz : ∀ q ∈ ws, NumOk z q) : ∀ q ∈ nestN gs ws, NumOk z q := fun q hq => by
  obtain ⟨i, hi, rfl⟩ := List.getElem_of_mem hq
  rw [nestN_len] at hi
  obtain ⟨⟨n, t⟩, hgi⟩ : ∃ g, gs[i]? = some g := ⟨_, List.getElem?_eq_getElem hi⟩
  have cg := cuts_get (l := ws) (nsOf_get hgi)
  have e := nestN_get hgi cg
  rw [List.getElem?_eq_getElem (by rw [nestN_len]; exact hi)] at e
  rw [Option.some.inj e]
  have g := hg _ (List.mem_of_getElem? hgi)
  have a1 := sum_take_succ (nsOf_get hgi)
  have a2 := sum_take_le (nsOf gs) (i + 1)
  have cl : ((ws.drop ((nsOf gs).take i).sum).take n).length = n := by rw [List.length_take, List.length_drop]; omega
  have cz : ∀ q ∈ (ws.drop ((nsOf gs).take i).sum).take n, NumOk z q := fun q h => hz q (List.mem_of_mem_drop (List.mem_of_mem_take h))
  have o1 := outc_01 g.ok cl fun q h => ⟨(cz q h).1, (cz q h).2.1⟩
  exact ⟨o1.1, o1.2, outc_sz g.ok g.wt (Nat.le_refl _) cl cz⟩
abbrev n_groups_first : List Str := ["outer", "inners", "wishes", "people", "numbers", "inner", "part"]
theorem sc_groups_first : FnScope ["outer", "inners", "wishes", "people", "numbers", "inner", "part"] ["outer", "inners", "wishes"] (defScope s_groups_first) := ⟨rfl, rfl, rfl, by decide +kernel, rfl, by decide +kernel, by decide +kernel⟩
def sp_groups_first (K : PySem.W.Frag) (C : Addr) : Sp := fun vs H Q _ => ∃ (r a b : Addr) (t : Tm) (s z : Nat) (gs : List (Nat × Tm)) (ws : List Rat), vs = [.ref r, .ref a, .ref b] ∧ RuleAt K C H r gs.length t ∧ t.Ok gs.length s ∧ 1 ≤ s ∧ s ≤ 9000 ∧ t.dep ≤ 8 ∧ t.wt s + 20 ≤ 9000 ∧ Inn K C H a gs ∧ 1 ≤ gs.length ∧ gs.length ≤ 6 ∧ (nsOf gs).sum ≤ 6 ∧ (∀ g ∈ gs, GrOk z g) ∧ z + 20 ≤ 9000 ∧ Bids K H b (nsOf gs).sum z ws ∧
  ∀ v H', Same H H' → RF K H' v (outc t gs.length (nestN gs ws)) → Q v H'
theorem ok_groups_first {C : Addr} (F : FnD K mg "groups_first" s_groups_first) (c_need_few : Cal P w K mg base 1 "need_few" (sp_need_few K C) []) (c_are_numbers : Cal P w K mg base 3 "are_numbers" (sp_are_numbers K) []) (c_parted : Cal P w K mg base 1 "parted" (sp_parted K C) []) (c_outcome_of : Cal P w K mg base 17 "outcome_of" (sp_outcome_of K C) []) (T_zip : mg "zip" = none) (T_tuple : mg "tuple" = none) : Cal P w K mg base 18 "groups_first" (sp_groups_first K C) [] := by
  refine calOf F sc_groups_first (fun _ _ _ _ _ _ us hl => match us, hl with | [_, _, _], _ => rfl) (fun vs H Q E h => ?_) (fun cdv f A outer s H vs Q E hr h => ?_)
  · obtain ⟨_, _, _, _, _, _, _, _, rfl, _⟩ := h
    rfl
  · obtain ⟨r, a, b, t, sz, z, gs, ws, rfl, hR, ho, hs1, hs9, hdep, hwt, hI, hg1, hg6, hs6, hgs, hz, hB, k⟩ := h
    refine ⟨_, (pss_cons (ps_set (i := 3) sc_groups_first.nd rfl (Or.inl rfl) (pe_c c_need_few hr (by first | decide | omega) rfl (pa_cons (pv 1) pa_nil)))
    (pss_cons (ps_if (pt_not (pt_val (pe_c c_are_numbers hr (by first | decide | omega) rfl (pa_cons (pv 2) (pa_cons (pv 3) pa_nil))))) (pss_one ps_never) pss_nil)
    (pss_cons (ps_setLc (i := 4) (own := [("inner", 5), ("part", 6)]) (g := (gTup K 2 (gCons (gName 5) (gCons (gName 6) gNil)))) (te := tCall (sp_outcome_of K C) [] C8.E0 (tCons (tVar 5) (tCons (tVar 6) tNil))) (by rfl) sc_groups_first.nd rfl rfl (sw_true rfl rfl rfl (by decide +kernel)) (ZiM.pi_zipM (by rfl) T_zip (pa_cons (pv 1) (pa_cons (pe_c c_parted hr (by first | decide | omega) rfl (pa_cons (pv 1) (pa_cons (pv 2) pa_nil))) pa_nil))) (blkOk_by (own := [("inner", 5), ("part", 6)]) (N := ["outer", "inners", "wishes", "people", "numbers", "inner", "part"]) (sc := defScope s_groups_first) (by decide +kernel)) (fun _ _ _ _ _ => (pg_tup rfl (pgs_cons (pg_name (i := 5) sc_groups_first.nd rfl (Or.inl rfl)) (pgs_cons (pg_name (i := 6) sc_groups_first.nd rfl (Or.inl rfl)) pgs_nil)))) (fun _ _ _ _ _ => pts_nil) (fun _ _ _ _ _ => (pe_c c_outcome_of hr (by first | decide | omega) rfl (pa_cons (pv 5) (pa_cons (pv 6) pa_nil)))))
    (pss_one (ps_ret (pe_c c_outcome_of hr (by first | decide | omega) rfl (pa_cons (pv 0) (pa_cons (pe_callTy call_tuple_of (by rfl) T_tuple (by decide +kernel) (pa_cons (pv 4) pa_nil)) pa_nil)))))))), ?_⟩
    refine ⟨_, rfl, a, gs, rfl, hI, hg6, hs6, fun H1 s1 => ?_⟩
    refine ⟨_, rfl, _, rfl, b, (nsOf gs).sum, z, ws, rfl, hB.mono (Same.kt s1), by omega, fun H2 s2 => ⟨_, rfl, iteF ?_⟩⟩
    have s02 := s1.trans s2
    obtain ⟨us, hus, hq, hwl, hnum⟩ := hB.mono (Same.kt s02)
    have ul : us.length = (nsOf gs).sum := by rw [RQ.length hq, hwl]
    refine ⟨_, rfl, _, rfl, _, rfl, a, b, gs, us, rfl, hI.same s02, hg6, hus, ul, by omega, fun L ps H3 s3 hL hps => ?_⟩
    have s03 := s02.trans s3
    obtain ⟨rs, hrs, hRs⟩ := hI.same s03
    have rlen := hRs.length
    have plen : ps.length = gs.length := by rw [hps.length, cuts_len, nsOf_len]
    have hq3 := RpAll.mono (Same.kt s3) hq
    refine ⟨a, L, rs, ps, rfl, hrs, SqL.of hL, fun D hD => ?_⟩
    refine lc_it (n := gs.length) (walk_zipM (by omega)) (fun i H' => ∃ zs, H' D = some (.lst zs) ∧ RQ K H' zs ((nestN gs ws).take i) ∧ Same H3 H')
      ⟨[], upd_same, by rw [List.take_zero]; exact .nil, same_new hD⟩ (fun i H' _ ⟨_, _, _, e⟩ => ⟨(Same.kt e).sq hrs, e.seq (SqL.of hL)⟩) ?_ ?_
    · rintro i x H4 H5 hi ⟨zs, g1, g2, g3⟩ ⟨T, y1, y2, rfl, hT, rfl, hx, hy⟩
      dsimp only at hx hy
      have sT := same_new (o := .tup [y1, y2]) hT
      obtain ⟨ri, n, u, rfl, hgi, hRi⟩ := hRs.getV hx
      obtain ⟨pc, c, rfl, hci, hpc⟩ := hps.getV hy
      rw [cuts_get (nsOf_get hgi)] at hci
      have ec := Option.some.inj hci
      subst ec
      have g := hgs _ (List.mem_of_getElem? hgi)
      have a1 := sum_take_succ (nsOf_get hgi)
      have a2 := sum_take_le (nsOf gs) (i + 1)
      have zl : zs.length ≤ 6 := by rw [RQ.length g2, List.length_take]; omega
      have kk := Same.kt (g3.trans sT)
      have pb := part_bids (kk.sq hpc) (RpAll.mono kk hq3) (z := z) (by omega) hnum
      have gw := g.wt
      refine ⟨T, _, rfl, SqT.of upd_same, rfl, _, _, rfl, _, _, rfl, rfl, rfl, ?_⟩
      refine ⟨_, rfl, _, rfl, ri, pc, n, 20, z, u, _, rfl, hRi.same (g3.trans sT), g.ok, by decide, by decide, g.dep, by have : u.wt 20 ≤ z := gw; omega, g.one, ?_, by omega, pb, fun y H6 s6 ry => ?_⟩
      · omega
      have g1' := s6 _ _ (sT _ _ g1)
      refine ⟨zs, g1', small1000 (by omega), zs ++ [y], upd_same, ?_, Same.mut ((g3.trans sT).trans s6) hD⟩
      rw [take_succ' (nestN_get hgi (cuts_get (nsOf_get hgi)))]
      exact RpAll.mono (KT.updl g1') (RQ.snoc (RpAll.mono (Same.kt (sT.trans s6)) g2) ry)
    · rintro H4 ⟨zs, g1, g2, g3⟩
      rw [List.take_of_length_le (by rw [nestN_len]; exact Nat.le_refl _)] at g2
      refine ⟨_, rfl, _, rfl, D, zs, rfl, .inl ⟨SqL.of g1, fun p hp => ?_⟩⟩
      have sp := same_new (o := .tup zs) hp
      have s05 := (s03.trans g3).trans sp
      exact ⟨r, p, gs.length, sz, z, t, nestN gs ws, rfl, hR.same s05, ho, hs1, hs9, hdep, hwt, hg1, hg6, by omega, ⟨zs, SqT.of upd_same, RpAll.mono (Same.kt sp) g2, nestN_len _ _, nest_ok hgs hwl hnum⟩, fun v H' s6 rv => k v H' (s05.trans s6) rv⟩
end
end CB

set_option Elab.async false
set_option linter.all false
set_option maxRecDepth 100000
set_option maxHeartbeats 4000000
namespace CB
open PySem PySem.Spec PyProof.Rows L2
open C8 (Cal Met Mak pe_c pe_mk pe_mt pe_mt0 pe_gc CalAt)
section
variable {P : Program} {w : World} {K : PySem.W.Frag} {mg : Str → Option Value} {base : Heap}
/-- a drawn group: how many, and their term -/
structure GrD (m : Bool) (g : Nat × Tm) : Prop where
  ok : g.2.Ok g.1 20
  one : 1 ≤ g.1
  six : g.1 ≤ 6
  dep : g.2.dep ≤ 3
  cnt : g.2.cnt ≤ 13
  wt : ∀ s, g.2.wt s ≤ 9 * s + 144
  dv : g.2.Dv N0 W0
  nm : m = false → g.2.nomean = true
theorem grd {n d : Nat} {m : Bool} {t : Tm} (h : DrawnE n d m t) (hd : d ≤ 2) (h1 : 1 ≤ n) (h6 : n ≤ 6) : GrD m (n, t) := by
  have d3 : d = 0 ∨ d = 1 ∨ d = 2 := by omega
  refine ⟨h.ok, h1, h6, by have := h.dep; show t.dep ≤ 3; omega, ?_, fun s => ?_, h.dv, h.nm⟩
  · have c := h.cnt
    show t.cnt ≤ 13
    rcases d3 with e | e | e <;> subst e
    · exact Nat.le_trans c (by decide)
    · exact Nat.le_trans c (by decide)
    · exact Nat.le_trans c (by decide)
  · have c := h.wt2 s
    show t.wt s ≤ 9 * s + 144
    rcases d3 with e | e | e <;> subst e
    · have : wC s 0 = s := rfl
      omega
    · have : wC s 1 = max (3 * (wC s 0 + 8) + 12) (wC s 0 + 2 * s) := rfl
      have : wC s 0 = s := rfl
      omega
    · have : wC s 2 = max (3 * (wC s 1 + 8) + 12) (wC s 1 + 2 * s) := rfl
      have : wC s 1 = max (3 * (wC s 0 + 8) + 12) (wC s 0 + 2 * s) := rfl
      have : wC s 0 = s := rfl
      omega
def grV (g : Nat × Tm) : PyData := .tuple [.int (g.1 : Int), g.2.data]
/-- groups as the law keeps them -/
def InL (K : PySem.W.Frag) (H : Hp) (L : Addr) (gs : List (Nat × Tm)) : Prop := ∃ ps, H L = some (.lst ps) ∧ RpAll K H ps (gs.map grV)
theorem InL.kd {H H' : Hp} {L : Addr} {gs : List (Nat × Tm)} {da : Addr × Addr} (h : InL K H L gs) (d : Dice H da) (e : KD da.1 H H') (n : L ≠ da.1) : InL K H' L gs := by
  obtain ⟨ps, h1, h2⟩ := h
  exact ⟨ps, e _ _ n h1, RpAll.mono (d.kt e) h2⟩
theorem InL.same {H H' : Hp} {L : Addr} {gs : List (Nat × Tm)} (h : InL K H L gs) (e : Same H H') : InL K H' L gs := by
  obtain ⟨ps, h1, h2⟩ := h
  exact ⟨ps, e _ _ h1, RpAll.mono (Same.kt e) h2⟩
abbrev n__law_inners : List Str := ["_law_dice_here", "_law_outer", "_law_most", "_law_found", "_law_left", "_law_person", "_law_many"]
theorem sc__law_inners : FnScope ["_law_dice_here", "_law_outer", "_law_most", "_law_found", "_law_left", "_law_person", "_law_many"] ["_law_dice_here", "_law_outer", "_law_most"] (defScope s__law_inners) := ⟨rfl, rfl, rfl, by decide +kernel, rfl, by decide +kernel, by decide +kernel⟩
def sp__law_inners (K : PySem.W.Frag) : Sp := fun vs H Q _ => ∃ (da : Addr × Addr) (m most : Nat), vs = [.ref da.1, .int (m : Int), .int (most : Int)] ∧ Dice H da ∧ m ≤ most ∧ most ≤ 6 ∧
  ∀ (L : Addr) (gs : List (Nat × Tm)) (H' : Hp), gs.length = m → (nsOf gs).sum ≤ most → (∀ g ∈ gs, GrD true g) → InL K H' L gs → L ≠ da.1 → Dice H' da → KD da.1 H H' → Q (.ref L) H'
theorem ok__law_inners (F : FnD K mg "_law_inners" s__law_inners) (c__law_draw : Cal P w K mg base 1 "_law_draw" sp__law_draw []) (c__law_term_n_t : Cal P w K mg base 8 "_law_term" (spTE K 4) []) (T_range : mg "range" = none) (T_min : mg "min" = none) : Cal P w K mg base 9 "_law_inners" (sp__law_inners K) [] := by
  refine calOf F sc__law_inners (fun _ _ _ _ _ _ us hl => match us, hl with | [_, _, _], _ => rfl) (fun vs H Q E h => ?_) (fun cdv f A outer s H vs Q E hr h => ?_)
  · obtain ⟨_, _, _, rfl, _⟩ := h
    rfl
  · obtain ⟨da, m, most, rfl, d0, hm, h6, k⟩ := h
    have c__law_term := c__law_term_n_t
    refine ⟨_, (pss_cons (ps_set (i := 3) sc__law_inners.nd rfl (Or.inl rfl) (pe_lst pa_nil))
    (pss_cons (ps_set (i := 4) sc__law_inners.nd rfl (Or.inl rfl) (pe_op op_sub (pv 2) (pv 1)))
    (pss_cons (ps_for PassesOwn.never rfl (pi_range1 (by rfl) T_range (pa_cons (pv 1) pa_nil)) (pg_name (i := 5) sc__law_inners.nd rfl (Or.inl rfl)) (pss_cons (ps_set (i := 6) sc__law_inners.nd rfl (Or.inl rfl) (pe_op op_add pe_int (pe_c c__law_draw hr (by first | decide | omega) rfl (pa_cons (pv 0) (pa_cons (pe_op op_add (pe_callB (call_min2 rfl) (by rfl) T_min (by decide +kernel) (pa_cons (pv 4) (pa_cons pe_int pa_nil))) pe_int) pa_nil)))))
    (pss_cons (ps_set (i := 4) sc__law_inners.nd rfl (Or.inl rfl) (pe_op op_sub (pv 4) (pe_op op_sub (pv 6) pe_int)))
    (pss_one (ps_expr (pe_bm PySem.F.plainAttrs_list PySem.F.slot_list_append PySem.F.type_list_append mt_append (pv 3) (pa_cons (pe_tup (pa_cons (pv 6) (pa_cons (pe_c c__law_term hr (by first | decide | omega) rfl (pa_cons (pv 0) (pa_cons (pv 6) (pa_cons (pe_op op_add pe_int (pe_c c__law_draw hr (by first | decide | omega) rfl (pa_cons (pv 0) (pa_cons pe_int pa_nil)))) (pa_cons pe_bl pa_nil))))) pa_nil))) pa_nil)))))))
    (pss_one (ps_ret (pv 3)))))), ?_⟩
    refine ⟨Nat.zero_le _, fun L hL => ?_⟩
    have nL := d0.ne hL
    have v0 := same_new (o := .lst []) hL
    refine ⟨_, rfl, _, rfl, _, _, rfl, rfl, _, rfl, _, rfl, by omega, by omega, ?_⟩
    refine for_range (lo := 0) (n := ((m : Nat) : Int).toNat) (fun i σ H' => ∃ (lf : Nat) (x5 x6 : Option V) (gs : List (Nat × Tm)), σ = [some (.ref da.1), some (.int (m : Int)), some (.int (most : Int)), some (.ref L), some (.int (lf : Int)), x5, x6] ∧ gs.length = i ∧ (nsOf gs).sum + lf + m = i + most ∧ (∀ g ∈ gs, GrD true g) ∧ InL K H' L gs ∧ Dice H' da ∧ KD da.1 H H')
      ⟨most - m, none, none, [], by show [_, _, _, _, some (V.int ((most : Int) - (m : Int))), _, _] = _; rw [show (most : Int) - (m : Int) = ((most - m : Nat) : Int) by omega], rfl, by show 0 + (most - m) + m = 0 + most; omega, by simp, ⟨[], upd_same, .nil⟩, d0.same v0, Same.kd v0⟩ ?_ ?_
    · rintro i σ H1 hi ⟨lf, x5, x6, gs, rfl, g1, g2, g3, g4, d1, e1⟩
      have im : i < m := by omega
      refine ⟨_, rfl, _, rfl, _, _, rfl, _, _, rfl, rfl, ?_⟩
      obtain ⟨mn, hmn, mn2, mnl⟩ : ∃ mn : Nat, (if (2 : Int) < (lf : Int) then (2 : Int) else (lf : Int)) = (mn : Int) ∧ mn ≤ 2 ∧ mn ≤ lf := by
        by_cases c : (2 : Int) < (lf : Int)
        · exact ⟨2, by rw [if_pos c]; rfl, by omega, by omega⟩
        · exact ⟨lf, by rw [if_neg c], by omega, by omega⟩
      rw [hmn]
      refine ⟨da, (mn : Int) + 1, rfl, d1, by omega, by omega, fun r H2 r0 r1 d2 e2 => ⟨_, _, rfl, rfl, _, rfl, _, rfl, _, _, rfl, rfl, _, _, rfl, rfl, ?_⟩⟩
      obtain ⟨q, hq⟩ : ∃ q : Nat, r = (q : Int) := ⟨r.toNat, (Int.toNat_of_nonneg r0).symm⟩
      subst hq
      have gl2 := g4.kd d1 e2 nL.1
      obtain ⟨ps, h1, h2⟩ := gl2
      refine ⟨_, rfl, .inl ⟨rfl, _, SqL.of h1⟩, _, rfl, _, rfl, _, rfl, _, rfl, da, 3, rfl, d2, by decide, by decide, fun z H3 z0 z1 d3 e3 => ⟨_, _, rfl, rfl, ?_⟩⟩
      obtain ⟨zd, hz⟩ : ∃ zd : Nat, z = (zd : Int) := ⟨z.toNat, (Int.toNat_of_nonneg z0).symm⟩
      subst hz
      have eN : (1 : Int) + (q : Int) = ((q + 1 : Nat) : Int) := by omega
      have eZ : (1 : Int) + (zd : Int) = (zd : Int) + 1 := by omega
      refine ⟨zd, by omega, da, q + 1, true, congrArg (fun x => [V.ref da.1, x, _, _]) (congrArg V.int eN) |>.trans (congrArg (fun x => [V.ref da.1, _, V.int x, V.bl true]) eZ), d3, by omega, by omega, fun v t H4 rt dt d4 e4 => ?_⟩
      refine ⟨(by show 2 ≤ sizeLine; decide), fun p hp => ?_⟩
      have sp := same_new (o := .tup [.int (1 + (q : Int)), v]) hp
      have hL4 := sp _ _ ((e3.trans e4) _ _ nL.1 h1)
      have pl : ps.length ≤ 6 := by rw [h2.length, List.length_map]; omega
      refine ⟨L, ps, _, rfl, rfl, hL4, small1000 (by omega), ?_⟩
      refine ⟨lf - q, some (.int (0 + (i : Int))), some (.int (1 + (q : Int))), gs ++ [(q + 1, t)], ?_, by simp [g1], ?_, ?_, ⟨_, upd_same, ?_⟩, (d4.same sp).upd nL, (((e1.trans (e2.trans (e3.trans e4)))).trans (Same.kd sp)).mut hL⟩
      · show [_, _, _, _, some (V.int ((lf : Int) - (1 + (q : Int) - 1))), _, _] = _
        rw [show (lf : Int) - (1 + (q : Int) - 1) = ((lf - q : Nat) : Int) by omega]
      · unfold nsOf
        rw [List.map_append, List.sum_append]
        show (gs.map Prod.fst).sum + ((q + 1) + 0) + (lf - q) + m = _
        have : (gs.map Prod.fst).sum + lf + m = i + most := g2
        omega
      · intro g hg
        rcases List.mem_append.mp hg with h | h
        · exact g3 g h
        · rw [List.mem_singleton.mp h]; exact grd dt (by omega) (by omega) (by omega)
      · rw [List.map_append]
        refine RpAll.mono (KT.updl hL4) (RpAll.append (RpAll.mono ((d2.kt e3).trans ((d3.kt e4).trans (Same.kt sp))) h2) (.cons (.tup (SqT.of upd_same) (.cons ?_ (.cons (rt.mono (Same.kt sp)) .nil))) .nil))
        rw [show (1 : Int) + (q : Int) = ((q + 1 : Nat) : Int) by omega]
        exact .int _
    · rintro σ H1 ⟨lf, x5, x6, gs, rfl, g1, g2, g3, g4, d1, e1⟩
      exact ⟨_, rfl, k L gs H1 (by omega) (by omega) g3 g4 nL.1 d1 e1⟩
def sp__law_lattice_inners (K : PySem.W.Frag) : Sp := fun vs H Q _ => ∃ (da : Addr × Addr) (m : Nat), vs = [.ref da.1, .int (m : Int)] ∧ Dice H da ∧ m ≤ 3 ∧
  ∀ (L : Addr) (gs : List (Nat × Tm)) (H' : Hp), gs.length = m → (nsOf gs).sum ≤ 6 → (∀ g ∈ gs, GrD false g) → InL K H' L gs → L ≠ da.1 → Dice H' da → KD da.1 H H' → Q (.ref L) H'
theorem RulesAt.updl {C : Addr} {H : Hp} {D : Addr} {xs : List V} {o : HO} (h : H D = some (.lst xs)) : ∀ {rs : List V} {gs : List (Nat × Tm)}, RulesAt K C H rs gs → RulesAt K C (upd H D o) rs gs
  | _, _, .nil => .nil
  | _, _, .cons ⟨dx, v, h1, h2⟩ t => .cons ⟨dx, v, by rw [upd_ne (ne_of h1 h (by intro z; cases z))]; exact h1, h2.mono (KT.updl h)⟩ (RulesAt.updl h t)
theorem RulesAt.snoc {C : Addr} {H : Hp} {r : Addr} {n : Nat} {t : Tm} : ∀ {rs : List V} {gs : List (Nat × Tm)}, RulesAt K C H rs gs → RuleAt K C H r n t → RulesAt K C H (rs ++ [.ref r]) (gs ++ [(n, t)])
  | _, _, .nil, h => .cons h .nil
  | _, _, .cons a b, h => .cons a (RulesAt.snoc b h)
def sp__law_rules (K : PySem.W.Frag) (C : Addr) : Sp := fun vs H Q _ => ∃ (L : Addr) (gs : List (Nat × Tm)) (m : Bool), vs = [.ref L] ∧ InL K H L gs ∧ gs.length ≤ 6 ∧ (∀ g ∈ gs, GrD m g) ∧ ∀ a H', Same H H' → Inn K C H' a gs → Q (.ref a) H'
end
end CB

set_option Elab.async false
set_option linter.all false
set_option maxRecDepth 100000
set_option maxHeartbeats 4000000
namespace CB
open PySem PySem.Spec PyProof.Rows L2
open C8 (Cal Met Mak pe_c pe_mk pe_mt pe_mt0 pe_gc CalAt)
section
variable {P : Program} {w : World} {K : PySem.W.Frag} {mg : Str → Option Value} {base : Heap}
theorem term_dr {da : Addr × Addr} {n d : Nat} {m : Bool} {H : Hp} {Q : VK} (hd : Dice H da) (h1 : 1 ≤ n) (h6 : n ≤ 6) (h2 : d ≤ 2) (k : ∀ v t H', Rp K H' v t.data → GrD m (n, t) → Dice H' da → KD da.1 H H' → Q v H') : spTE K 4 [.ref da.1, .int (n : Int), .int ((d : Int) + 1), .bl m] H Q C8.E0 :=
  ⟨d, by omega, da, n, m, rfl, hd, h1, h6, fun v t H' rt dt d' e' => k v t H' rt (grd dt h2 h1 h6) d' e'⟩
def sp__law_world (K : PySem.W.Frag) : Sp := fun vs H Q _ => ∃ (da : Addr × Addr), vs = [.ref da.1] ∧ Dice H da ∧
  ∀ (p : Addr) (v : V) (L : Addr) (m : Nat) (t : Tm) (gs : List (Nat × Tm)) (H' : Hp), SqT K H' p [.int (m : Int), v, .ref L] → Rp K H' v t.data → GrD true (m, t) → gs.length = m → (nsOf gs).sum ≤ 6 → (∀ g ∈ gs, GrD true g) → InL K H' L gs → L ≠ da.1 → Dice H' da → KD da.1 H H' → Q (.ref p) H'
abbrev n__law_pieces : List Str := ["_law_inners_here", "_law_row", "_law_found", "_law_first", "_law_many", "_law_term_here"]
theorem sc__law_pieces : FnScope ["_law_inners_here", "_law_row", "_law_found", "_law_first", "_law_many", "_law_term_here"] ["_law_inners_here", "_law_row"] (defScope s__law_pieces) := ⟨rfl, rfl, rfl, by decide +kernel, rfl, by decide +kernel, by decide +kernel⟩
def sp__law_pieces (K : PySem.W.Frag) : Sp := fun vs H Q _ => ∃ (L b : Addr) (gs : List (Nat × Tm)) (xs : List V), vs = [.ref L, .ref b] ∧ InL K H L gs ∧ gs.length ≤ 6 ∧ SqT K H b xs ∧ xs.length = (nsOf gs).sum ∧ xs.length ≤ 6 ∧
  ∀ R ps H', Same H H' → H' R = some (.lst ps) → Tps K H' ps (cuts (nsOf gs) xs) → Q (.ref R) H'
theorem ok__law_pieces (F : FnD K mg "_law_pieces" s__law_pieces) : Cal P w K mg base 1 "_law_pieces" (sp__law_pieces K) [] := by
  refine calOf F sc__law_pieces (fun _ _ _ _ _ _ us hl => match us, hl with | [_, _], _ => rfl) (fun vs H Q E h => ?_) (fun cdv f A outer s H vs Q E hr h => ?_)
  · obtain ⟨_, _, _, _, rfl, _⟩ := h
    rfl
  · obtain ⟨L, b, gs, xs, rfl, ⟨qs, hq1, hq2⟩, hl, hb, hx, hx6, k⟩ := h
    refine ⟨_, (pss_cons (ps_set (i := 2) sc__law_pieces.nd rfl (Or.inl rfl) (pe_lst pa_nil))
    (pss_cons (ps_set (i := 3) sc__law_pieces.nd rfl (Or.inl rfl) pe_int)
    (pss_cons (ps_for PassesOwn.never rfl (pi_list (pv 0)) (pg_tup rfl (pgs_cons (pg_name (i := 4) sc__law_pieces.nd rfl (Or.inl rfl)) (pgs_cons (pg_name (i := 5) sc__law_pieces.nd rfl (Or.inl rfl)) pgs_nil))) (pss_cons (ps_expr (pe_bm PySem.F.plainAttrs_list PySem.F.slot_list_append PySem.F.type_list_append mt_append (pv 2) (pa_cons (pe_slice sl_tupA (pv 1) (po_some (pv 3)) (po_some (pe_op op_add (pv 3) (pv 4)))) pa_nil)))
    (pss_one (ps_set (i := 3) sc__law_pieces.nd rfl (Or.inl rfl) (pe_op op_add (pv 3) (pv 4))))))
    (pss_one (ps_ret (pv 2)))))), ?_⟩
    have ql : qs.length = gs.length := by rw [hq2.length, List.length_map]
    have cl := cuts_len (nsOf gs) xs
    rw [nsOf_len] at cl
    refine ⟨Nat.zero_le _, fun R hR => ⟨_, rfl, L, rfl, ⟨_, (same_new hR).seq (SqL.of hq1)⟩, ?_⟩⟩
    refine for_list (a := L) (xs := qs) (fun i σ H' => ∃ (ps : List V) (x4 x5 : Option V), σ = [some (.ref L), some (.ref b), some (.ref R), some (.int ((((nsOf gs).take i).sum : Nat) : Int)), x4, x5] ∧ H' R = some (.lst ps) ∧ Tps K H' ps ((cuts (nsOf gs) xs).take i) ∧ Same H H')
      ⟨[], none, none, rfl, upd_same, .nil, same_new hR⟩ (fun i σ H' _ ⟨_, _, _, _, _, _, s5⟩ => s5.seq (SqL.of hq1)) ?_ ?_
    · rintro i x σ H' hxi ⟨ps, _, _, rfl, g1, g2, g3⟩
      have il := (List.getElem?_eq_some_iff.mp hxi).1
      obtain ⟨⟨n, t⟩, hgi⟩ : ∃ g, gs[i]? = some g := ⟨_, List.getElem?_eq_getElem (by omega)⟩
      obtain ⟨d, hd, rd⟩ := RpAll.getV hq2 hxi
      rw [List.getElem?_map, hgi] at hd
      have ed := Option.some.inj hd
      subst ed
      obtain ⟨p0, u, y, rfl, hp0, r1, r2⟩ := rp2 rd
      have eu := r1.intI
      subst eu
      have gn := nsOf_get hgi
      have ts := sum_take_succ gn
      have tl := sum_take_le (nsOf gs) (i + 1)
      have ci := cuts_get (l := xs) gn
      have pl : ps.length ≤ 6 := by rw [g2.length, List.length_take]; omega
      refine ⟨p0, _, rfl, (Same.kt g3).sq hp0, rfl, _, _, rfl, _, _, rfl, rfl, ?_⟩
      refine ⟨_, rfl, .inl ⟨rfl, _, SqL.of g1⟩, _, rfl, _, rfl, _, rfl, _, rfl, _, rfl, _, _, rfl, rfl, _, rfl, ?_⟩
      rw [show ((((nsOf gs).take i).sum : Nat) : Int) + ((n, t).1 : Int) = (((((nsOf gs).take i).sum + n : Nat)) : Int) by show _ + (n : Int) = _; omega]
      refine slMid ((Same.kt g3).sq hb) (by omega) (by omega) fun p H2 s2 hp => ?_
      rw [Nat.add_sub_cancel_left] at hp
      have g1' := s2 _ _ g1
      refine ⟨R, ps, _, rfl, rfl, g1', small1000 (by omega), ?_⟩
      have s3 : Same H (upd H2 R (.lst (ps ++ [.ref p]))) := Same.mut (g3.trans s2) hR
      refine ⟨_, rfl, _, rfl, _, _, rfl, rfl, ?_⟩
      refine ⟨ps ++ [.ref p], some (.int ((n : Nat) : Int)), some y, ?_, upd_same, ?_, s3⟩
      · rw [ts]
        show [_, _, _, some (V.int ((((nsOf gs).take i).sum : Int) + (n : Int))), _, _] = _
        rw [show ((((nsOf gs).take i).sum : Nat) : Int) + (n : Int) = (((((nsOf gs).take i).sum + n : Nat)) : Int) by omega]
      · rw [take_succ' ci]
        exact Tps.mono (KT.updl g1') (Tps.snoc (Tps.mono (Same.kt s2) g2) hp)
    · rintro σ H' ⟨ps, _, _, rfl, g1, g2, g3⟩
      rw [List.take_of_length_le (by omega)] at g2
      exact ⟨_, rfl, k R ps H' g3 g1 g2⟩
abbrev n__law_nested : List Str := ["_law_term_here", "_law_inners_here", "_law_wishes", "_law_pieces_here", "_law_own", "_law_k"]
theorem sc__law_nested : FnScope ["_law_term_here", "_law_inners_here", "_law_wishes", "_law_pieces_here", "_law_own", "_law_k"] ["_law_term_here", "_law_inners_here", "_law_wishes"] (defScope s__law_nested) := ⟨rfl, rfl, rfl, by decide +kernel, rfl, by decide +kernel, by decide +kernel⟩
def sp__law_nested (K : PySem.W.Frag) : Sp := fun vs H Q _ => ∃ (v : V) (L b : Addr) (t : Tm) (z : Nat) (gs : List (Nat × Tm)) (ws : List Rat), vs = [v, .ref L, .ref b] ∧ Rp K H v t.data ∧ t.Ok gs.length 20 ∧ t.dep ≤ 10 ∧ t.wt 20 + 20 ≤ 9000 ∧ InL K H L gs ∧ gs.length ≤ 6 ∧ (nsOf gs).sum ≤ 6 ∧ (∀ g ∈ gs, GrOk z g) ∧ z + 20 ≤ 9000 ∧ Bids K H b (nsOf gs).sum z ws ∧
  ∀ v H', Same H H' → RF K H' v (outc t gs.length (nestN gs ws)) → Q v H'
theorem ok__law_nested (F : FnD K mg "_law_nested" s__law_nested) (c__law_pieces : Cal P w K mg base 1 "_law_pieces" (sp__law_pieces K) []) (c__law_outcome : Cal P w K mg base 15 "_law_outcome" (sp__law_outcome K) []) (T_range : mg "range" = none) (T_len : mg "len" = none) (T_tuple : mg "tuple" = none) : Cal P w K mg base 16 "_law_nested" (sp__law_nested K) [] := by
  refine calOf F sc__law_nested (fun _ _ _ _ _ _ us hl => match us, hl with | [_, _, _], _ => rfl) (fun vs H Q E h => ?_) (fun cdv f A outer s H vs Q E hr h => ?_)
  · obtain ⟨_, _, _, _, _, _, _, rfl, _⟩ := h
    rfl
  · obtain ⟨v, L, b, t, z, gs, ws, rfl, rt, ho, hdep, hwt, hI, hg6, hs6, hgs, hz, hB, k⟩ := h
    refine ⟨_, (pss_cons (ps_set (i := 3) sc__law_nested.nd rfl (Or.inr rfl) (pe_c c__law_pieces hr (by first | decide | omega) rfl (pa_cons (pv 1) (pa_cons (pv 2) pa_nil))))
    (pss_cons (ps_setLc (i := 4) (own := [("_law_k", 5)]) (te := tCall (sp__law_outcome K) [] C8.E0 (tCons (tOp (rIxT K) (tOp (rIxL K) (tVar 1) (tVar 5)) (tC (.int 0))) (tCons (tOp (rIxT K) (tOp (rIxL K) (tVar 1) (tVar 5)) (tC (.int 1))) (tCons (tOp (rIxL K) (tVar 3) (tVar 5)) tNil)))) (by rfl) sc__law_nested.nd rfl rfl (sw_true rfl rfl rfl (by decide +kernel)) (pi_range1 (by rfl) T_range (pa_cons (pe_callB call_len_seq (by rfl) T_len PySem.boot_len (pa_cons (pv 1) pa_nil)) pa_nil)) (blkOk_by (own := [("_law_k", 5)]) (N := ["_law_term_here", "_law_inners_here", "_law_wishes", "_law_pieces_here", "_law_own", "_law_k"]) (sc := defScope s__law_nested) (by decide +kernel)) (fun _ _ _ _ _ => (pg_name (i := 5) sc__law_nested.nd rfl (Or.inl rfl))) (fun _ _ _ _ _ => pts_nil) (fun _ _ _ _ _ => (pe_c c__law_outcome hr (by first | decide | omega) rfl (pa_cons (pe_ix ix_tup (pe_ix ix_list (pv 1) (pv 5) (fun _ _ => rfl)) pe_int (fun _ _ => rfl)) (pa_cons (pe_ix ix_tup (pe_ix ix_list (pv 1) (pv 5) (fun _ _ => rfl)) pe_int (fun _ _ => rfl)) (pa_cons (pe_ix ix_list (pv 3) (pv 5) (fun _ _ => rfl)) pa_nil))))))
    (pss_one (ps_ret (pe_c c__law_outcome hr (by first | decide | omega) rfl (pa_cons (pe_callB call_len_seq (by rfl) T_len PySem.boot_len (pa_cons (pv 1) pa_nil)) (pa_cons (pv 0) (pa_cons (pe_callTy call_tuple_of (by rfl) T_tuple (by decide +kernel) (pa_cons (pv 4) pa_nil)) pa_nil)))))))), ?_⟩
    obtain ⟨us, hus, hq, hwl, hnum⟩ := id hB
    have ul : us.length = (nsOf gs).sum := by rw [RQ.length hq, hwl]
    refine ⟨_, rfl, _, rfl, L, b, gs, us, rfl, hI, hg6, hus, ul, by omega, fun R ps H1 s1 hR hps => ?_⟩
    obtain ⟨qs, hq1, hq2⟩ := hI.same s1
    have ql : qs.length = gs.length := by rw [hq2.length, List.length_map]
    have plen : ps.length = gs.length := by rw [hps.length, cuts_len, nsOf_len]
    have hq3 := RpAll.mono (Same.kt s1) hq
    refine ⟨_, rfl, L, qs, rfl, .inl (SqL.of hq1), _, rfl, by omega, by omega, fun D hD => ?_⟩
    refine lc_range (lo := 0) (n := ((qs.length : Nat) : Int).toNat) (fun i H' => ∃ zs, H' D = some (.lst zs) ∧ RQ K H' zs ((nestN gs ws).take i) ∧ Same H1 H')
      ⟨[], upd_same, by rw [List.take_zero]; exact .nil, same_new hD⟩ ?_ ?_
    · rintro i H' hi ⟨zs, g1, g2, g3⟩
      rw [show (0 : Int) + ((i : Nat) : Int) = ((i : Nat) : Int) from Int.zero_add _]
      have il : i < gs.length := by omega
      obtain ⟨⟨n, u⟩, hgi⟩ : ∃ g, gs[i]? = some g := ⟨_, List.getElem?_eq_getElem il⟩
      obtain ⟨x, hx⟩ : ∃ x, qs[i]? = some x := ⟨_, List.getElem?_eq_getElem (by omega)⟩
      obtain ⟨y, hy⟩ : ∃ y, ps[i]? = some y := ⟨_, List.getElem?_eq_getElem (by omega)⟩
      obtain ⟨d, hd, rd⟩ := RpAll.getV hq2 hx
      rw [List.getElem?_map, hgi] at hd
      have ed := Option.some.inj hd
      subst ed
      obtain ⟨p0, m0, vt, rfl, hp0, r1, r2⟩ := rp2 rd
      have eu := r1.intI
      subst eu
      obtain ⟨pc, c, rfl, hci, hpc⟩ := hps.getV hy
      rw [cuts_get (nsOf_get hgi)] at hci
      have ec := Option.some.inj hci
      subst ec
      have g := hgs _ (List.mem_of_getElem? hgi)
      have a1 := sum_take_succ (nsOf_get hgi)
      have a2 := sum_take_le (nsOf gs) (i + 1)
      have zl : zs.length ≤ 6 := by rw [RQ.length g2, List.length_take]; omega
      have kk := Same.kt g3
      have pb := part_bids (kk.sq hpc) (RpAll.mono kk hq3) (z := z) (by omega) hnum
      have gw : u.wt 20 ≤ z := g.wt
      have gd : u.dep ≤ 8 := g.dep
      refine ⟨rfl, _, rfl, _, rfl, _, _, _, _, rfl, rfl, g3.seq (SqL.of hq1), at_of (j := i) rfl hx, _, _, _, _, rfl, rfl, kk.sq hp0, rfl, _, rfl, _, rfl, _, _, _, _, rfl, rfl, g3.seq (SqL.of hq1), at_of (j := i) rfl hx, _, _, _, _, rfl, rfl, kk.sq hp0, rfl, _, rfl, _, rfl, _, _, _, _, rfl, rfl, g3.seq (SqL.of hR), at_of (j := i) rfl hy, ?_⟩
      refine ⟨vt, pc, n, 20, z, u, _, rfl, by omega, r2.mono kk, g.ok, by decide, by decide, by omega, by omega, by omega, pb, fun yv H6 s6 ry => ?_⟩
      have g1' := s6 _ _ g1
      refine ⟨zs, g1', small1000 (by omega), zs ++ [yv], upd_same, ?_, Same.mut (g3.trans s6) hD⟩
      rw [take_succ' (nestN_get hgi (cuts_get (nsOf_get hgi)))]
      exact RpAll.mono (KT.updl g1') (RQ.snoc (RpAll.mono (Same.kt s6) g2) ry)
    · rintro H4 ⟨zs, g1, g2, g3⟩
      rw [Int.toNat_natCast, ql, List.take_of_length_le (by rw [nestN_len]; exact Nat.le_refl _)] at g2
      refine ⟨_, rfl, L, qs, rfl, .inl (g3.seq (SqL.of hq1)), _, rfl, _, rfl, D, zs, rfl, .inl ⟨SqL.of g1, fun p hp => ?_⟩⟩
      have sp := same_new (o := .tup zs) hp
      have s05 := (s1.trans g3).trans sp
      refine ⟨v, p, gs.length, 20, z, t, nestN gs ws, congrArg (fun x => [V.int x, v, V.ref p]) (show (qs.length : Int) = (gs.length : Int) by omega), hg6, rt.mono (Same.kt s05), ho, by decide, by decide, hdep, hwt, by omega, ⟨zs, SqT.of upd_same, RpAll.mono (Same.kt sp) g2, nestN_len _ _, nest_ok hgs hwl hnum⟩, fun v' H' s6 rv => k v' H' (s05.trans s6) rv⟩
end
end CB

set_option Elab.async false
set_option linter.all false
set_option maxRecDepth 100000
set_option maxHeartbeats 4000000
namespace CB
open PySem PySem.Spec PyProof.Rows L2 Cmb
open C8 (Cal Met Mak pe_c pe_mk pe_mt pe_mt0 pe_gc CalAt)
section
variable {P : Program} {w : World} {K : PySem.W.Frag} {mg : Str → Option Value} {base : Heap}
def sp_corner_of (K : PySem.W.Frag) (C : Addr) : Sp := fun vs H Q _ => ∃ (r b : Addr) (n s : Nat) (t : Tm) (ps : List Nat), vs = [.ref r, .ref b] ∧ RuleAt K C H r n t ∧ t.Ok n s ∧ 1 ≤ s ∧ s ≤ 9000 ∧ t.dep ≤ 60 ∧ t.wt s + 20 ≤ 9000 ∧ 1 ≤ n ∧ n ≤ 6 ∧ (SqL K H b (pV ps) ∨ SqT K H b (pV ps)) ∧
  ∀ v H', Same H H' → RF K H' v (t.val (end01 n ps)) → Q v H'
abbrev n_lots_among : List Str := ["persons", "found", "many"]
theorem sc_lots_among : FnScope ["persons", "found", "many"] ["persons"] (defScope s_lots_among) := ⟨rfl, rfl, rfl, by decide +kernel, rfl, by decide +kernel, by decide +kernel⟩
def sp_lots_among (K : PySem.W.Frag) : Sp := fun vs H Q _ => ∃ (a : Addr) (ps : List Nat), vs = [.ref a] ∧ ps.length ≤ 6 ∧ SqL K H a (pV ps) ∧ ∀ p ys H', Same H H' → H p = none → H' p = some (.lst ys) → LotsAt K H' ys (lotsAm ps) → Q (.ref p) H'
theorem few_flat (k m : Nat) (hk : k ≤ 6) (hm : m ≤ k + 1) : ((List.range m).flatMap fun r => combs k r).length ≤ 20 * m := by
  induction m with
  | zero => simp
  | succ m ih =>
    have i2 := ih (by omega)
    have f := (combs_facts k hk m (by omega)).2.2
    rw [List.range_succ, List.flatMap_append, List.length_append]
    simp only [List.flatMap_cons, List.flatMap_nil, List.append_nil]
    omega
theorem ok_lots_among (F : FnD K mg "lots_among" s_lots_among) (g_combinations : mg "combinations" = some (.type "itertools.combinations")) (T_list : mg "list" = none) (T_range : mg "range" = none) (T_len : mg "len" = none) : Cal P w K mg base 1 "lots_among" (sp_lots_among K) [] := by
  refine calOf F sc_lots_among (fun _ _ _ _ _ _ us hl => match us, hl with | [_], _ => rfl) (fun vs H Q E h => ?_) (fun cdv f A outer s H vs Q E hr h => ?_)
  · obtain ⟨_, _, rfl, _⟩ := h
    rfl
  · obtain ⟨a, ps, rfl, h6, hS, k⟩ := h
    refine ⟨_, (pss_cons (ps_set (i := 1) sc_lots_among.nd rfl (Or.inl rfl) (pe_lst pa_nil))
    (pss_cons (ps_for PassesOwn.never rfl (pi_range1 (by rfl) T_range (pa_cons (pe_op op_add (pe_callB call_len_seq (by rfl) T_len PySem.boot_len (pa_cons (pv 0) pa_nil)) pe_int) pa_nil)) (pg_name (i := 2) sc_lots_among.nd rfl (Or.inl rfl)) (pss_one (ps_expr (pe_bm PySem.F.plainAttrs_list PySem.F.slot_list_extend PySem.F.type_list_extend mt_extend (pv 1) (pa_cons (pe_listComb rfl (by rfl) T_list (by rfl) g_combinations (pa_cons (pv 0) (pa_cons (pv 2) pa_nil))) pa_nil)))))
    (pss_one (ps_ret (pv 1))))), ?_⟩
    refine ⟨Nat.zero_le _, fun p0 hp0 => ?_⟩
    have s0 := same_new (o := .lst []) hp0
    refine ⟨_, rfl, a, pV ps, rfl, .inl (s0.seq hS), _, _, rfl, rfl, _, rfl, by rw [pV_len]; omega, by rw [pV_len]; omega, ?_⟩
    refine for_range (lo := 0) (n := (((pV ps).length : Int) + 1).toNat) (fun i σ H' => ∃ (ys : List V) (y : Option V), σ = [some (.ref a), some (.ref p0), y] ∧ H' p0 = some (.lst ys) ∧ LotsAt K H' ys ((List.range i).flatMap fun r => (combs ps.length r).map fun m => m.map fun j => ps.getD j 0) ∧ Same H H')
      ⟨[], none, rfl, upd_same, .nil, s0⟩ ?_ ?_
    · rintro i σ H1 hi ⟨ys, _, rfl, g1, g2, g3⟩
      rw [pV_len] at hi
      have il : i ≤ ps.length := by omega
      rw [show (0 : Int) + ((i : Nat) : Int) = ((i : Nat) : Int) from Int.zero_add _]
      refine ⟨_, rfl, .inl ⟨rfl, _, SqL.of g1⟩, _, rfl, _, rfl, a, pV ps, i, rfl, g3.seq hS, by rw [pV_len]; exact il, by rw [pV_len]; exact h6, fun p zs H2 s2 hp hz ht => ?_⟩
      rw [pV_len] at ht
      have lt := tups_lots (K := K) ps (combs_lt h6 il) ht
      have g1' := s2 _ _ g1
      have zl := ht.length
      have yl := g2.length
      have fz := (combs_facts ps.length h6 i il).2.2
      have fy := few_flat ps.length i h6 (by omega)
      rw [List.length_map] at zl
      have fe : ((List.range i).flatMap fun r => (combs ps.length r).map fun m => m.map fun j => ps.getD j 0) = ((List.range i).flatMap fun r => combs ps.length r).map fun m => m.map fun j => ps.getD j 0 := by rw [List.map_flatMap]
      rw [fe, List.length_map] at yl
      refine ⟨p0, p, ys, zs, rfl, rfl, g1', hz, Nat.le_of_lt (small1000 (by omega)), ?_⟩
      refine ⟨_, _, rfl, upd_same, ?_, ?_⟩
      · rw [List.range_succ, List.flatMap_append]
        simp only [List.flatMap_cons, List.flatMap_nil, List.append_nil]
        exact ((g2.mono (Same.kt s2)).append lt).mono (KT.updl g1')
      · exact Same.mut (g3.trans s2) hp0
    · rintro σ H1 ⟨ys, _, rfl, g1, g2, g3⟩
      rw [pV_len, show (((ps.length : Nat) : Int) + 1).toNat = ps.length + 1 by omega] at g2
      exact ⟨_, rfl, k p0 ys H1 g3 hp0 g1 g2⟩
def sp_all_but (K : PySem.W.Frag) (C : Addr) : Sp := fun vs H Q _ => ∃ (r b : Addr) (n : Nat) (t : Tm) (ps : List Nat), vs = [.ref r, .ref b] ∧ RuleAt K C H r n t ∧ n ≤ 6 ∧ (SqL K H b (pV ps) ∨ SqT K H b (pV ps)) ∧
  ∀ p H', Same H H' → H p = none → H' p = some (.lst (pV ((List.range n).filter fun i => !decide (i ∈ ps)))) → Q (.ref p) H'
end
end CB

set_option Elab.async false
set_option linter.all false
set_option maxRecDepth 100000
set_option maxHeartbeats 4000000
namespace CB
open PySem PySem.Spec PyProof.Rows L2 Cmb
open C8 (Cal Met Mak pe_c pe_mk pe_mt pe_mt0 pe_gc CalAt)
section
variable {P : Program} {w : World} {K : PySem.W.Frag} {mg : Str → Option Value} {base : Heap}
abbrev n_all_lots : List Str := ["people"]
theorem sc_all_lots : FnScope ["people"] ["people"] (defScope s_all_lots) := ⟨rfl, rfl, rfl, by decide +kernel, rfl, by decide +kernel, by decide +kernel⟩
def sp_all_lots (K : PySem.W.Frag) : Sp := fun vs H Q _ => ∃ n : Nat, vs = [.int (n : Int)] ∧ n ≤ 6 ∧ ∀ p ys H', Same H H' → H p = none → H' p = some (.lst ys) → LotsAt K H' ys (lotsI n) → Q (.ref p) H'
theorem ok_all_lots (F : FnD K mg "all_lots" s_all_lots) (c_lots_among : Cal P w K mg base 1 "lots_among" (sp_lots_among K) []) (T_list : mg "list" = none) (T_range : mg "range" = none) : Cal P w K mg base 2 "all_lots" (sp_all_lots K) [] := by
  refine calOf F sc_all_lots (fun _ _ _ _ _ _ us hl => match us, hl with | [_], _ => rfl) (fun vs H Q E h => ?_) (fun cdv f A outer s H vs Q E hr h => ?_)
  · obtain ⟨_, rfl, _⟩ := h
    rfl
  · obtain ⟨n, rfl, hn, k⟩ := h
    refine ⟨_, (pss_one (ps_ret (pe_c c_lots_among hr (by first | decide | omega) rfl (pa_cons (pe_listRg rfl (by rfl) T_list (prg_1 (by rfl) T_range (pv 0))) pa_nil)))), ?_⟩
    refine ⟨_, rfl, (n : Int), rfl, RgOk.of_le (by omega) (by omega) (by omega) (by omega), fun l hl => ?_⟩
    rw [rgV_pV]
    have s1 := same_new (o := .lst (pV (List.range n))) hl
    refine ⟨l, List.range n, rfl, by rw [List.length_range]; exact hn, SqL.of upd_same, fun p ys H' s2 hp hy hL => ?_⟩
    rw [lotsAm_range hn] at hL
    exact k p ys H' (s1.trans s2) (none_back s1 hp) hy hL
def sp_need_as_many (K : PySem.W.Frag) (C : Addr) : Sp := fun vs H Q _ => ∃ (a b : Addr) (n : Nat) (t u : Tm), vs = [.ref a, .ref b] ∧ RuleAt K C H a n t ∧ RuleAt K C H b n u ∧ Q .non H
/-- a lot, or None -/
def OptLot (K : PySem.W.Frag) (H : Hp) (x : V) : Option (List Nat) → Prop
  | none => x = .non
  | some l => TupI K H x (pI l)
theorem OptLot.mono {H H' : Hp} (e : KT H H') {x : V} {o : Option (List Nat)} (h : OptLot K H x o) : OptLot K H' x o := by
  cases o with
  | none => exact h
  | some l => exact tupI_mono e h
def partB (t u : Tm) (n : Nat) (l : List Nat) : Bool := !decide (t.val (end01 n l) = u.val (end01 n l))
/-- the first lot at which the corners part -/
def partL (t u : Tm) (n : Nat) : Option (List Nat) := (lotsI n).find? (partB t u n)
theorem find_none_take {f : List Nat → Bool} {L : List (List Nat)} {i : Nat} {l : List Nat} (h : L[i]? = some l) (hn : (L.take i).find? f = none) : (f l = true → L.find? f = some l) ∧ (f l = false → (L.take (i + 1)).find? f = none) := by
  constructor
  · intro e
    have hl := List.getElem?_eq_some_iff.mp h
    have ed : L = L.take i ++ (l :: L.drop (i + 1)) := by
      rw [← hl.2, ← List.drop_eq_getElem_cons hl.1, List.take_append_drop]
    rw [ed, List.find?_append, hn]
    simp [e]
  · intro e
    rw [take_succ' h, List.find?_append, hn]
    simp [e]
def sp_parting_lot (K : PySem.W.Frag) (C : Addr) : Sp := fun vs H Q _ => ∃ (a b : Addr) (n s : Nat) (t u : Tm), vs = [.ref a, .ref b] ∧ RuleAt K C H a n t ∧ RuleAt K C H b n u ∧ t.Ok n s ∧ u.Ok n s ∧ 1 ≤ s ∧ s ≤ 9000 ∧ t.dep ≤ 60 ∧ u.dep ≤ 60 ∧ t.wt s + 20 ≤ 9000 ∧ u.wt s + 20 ≤ 9000 ∧ 1 ≤ n ∧ n ≤ 6 ∧
  ∀ x H', Same H H' → OptLot K H' x (partL t u n) → Q x H'
end
end CB

set_option Elab.async false
set_option linter.all false
set_option maxRecDepth 100000
set_option maxHeartbeats 4000000
namespace CB
open PySem PySem.Spec PyProof.Rows L2
open C8 (Cal Met Mak pe_c pe_mk pe_mt pe_mt0 pe_gc CalAt)
section
variable {P : Program} {w : World} {K : PySem.W.Frag} {mg : Str → Option Value} {base : Heap}
abbrev n__law_moved : List Str := ["_law_term_here", "_law_places", "_law_parts", "_law_weight", "_law_part"]
theorem sc__law_moved : FnScope ["_law_term_here", "_law_places", "_law_parts", "_law_weight", "_law_part"] ["_law_term_here", "_law_places"] (defScope s__law_moved) := ⟨rfl, rfl, rfl, by decide +kernel, rfl, by decide +kernel, by decide +kernel⟩
def spLM (K : PySem.W.Frag) (D : Nat) : Sp := fun vs H Q _ => ∃ (v : V) (L : Addr) (s : Nat) (t : Tm) (os : List Tm) (us : List V), vs = [v, .ref L] ∧ Rp K H v t.data ∧ t.Ok os.length s ∧ t.dep ≤ D ∧ H L = some (.lst us) ∧ RTs K H us os ∧ ∀ v' H', Same H H' → Rp K H' v' (t.sub os).data → Q v' H'
theorem ok__law_moved (F : FnD K mg "_law_moved" s__law_moved) (T_tuple : mg "tuple" = none) : ∀ D : Nat, Cal P w K mg base (D + 3) "_law_moved" (spLM K D) [] := by
  intro D
  induction D with
  | zero => exact calOf (k := 2) F sc__law_moved (fun _ _ _ _ _ _ us hl => match us, hl with | [_, _], _ => rfl) (fun vs H Q E h => by obtain ⟨_, _, _, t, _, _, _, _, _, h, _⟩ := h; rw [dep_children t] at h; omega) (fun cdv f A outer s H vs Q E hr h => by obtain ⟨_, _, _, t, _, _, _, _, _, h, _⟩ := h; rw [dep_children t] at h; omega)
  | succ D ih =>
    have c__law_moved := ih
    refine calOf (k := D + 3) F sc__law_moved (fun _ _ _ _ _ _ us hl => match us, hl with | [_, _], _ => rfl) (fun vs H Q E h => ?_) (fun cdv f A outer s H vs Q E hr h => ?_)
    · obtain ⟨_, _, _, _, _, _, rfl, _⟩ := h
      rfl
    · obtain ⟨v, LO, sz, t, o, us, rfl, rt, ho, hdep, hLO, hus, k⟩ := h
      have hdc := dep_children t
      refine ⟨_, (pss_cons (ps_if (pt_cmpR op_eq (pe_ix ix_tup (pv 0) pe_int (fun _ _ => rfl)) pe_str (nomark _)) (pss_one (ps_ret (pe_ix ix_list (pv 1) (pe_ix ix_tup (pv 0) pe_int (fun _ _ => rfl)) (fun _ _ => rfl)))) pss_nil)
    (pss_cons (ps_if (pt_cmpR op_eq (pe_ix ix_tup (pv 0) pe_int (fun _ _ => rfl)) pe_str (nomark _)) (pss_one (ps_ret (pv 0))) pss_nil)
    (pss_cons (ps_if (pt_cmpR op_eq (pe_ix ix_tup (pv 0) pe_int (fun _ _ => rfl)) pe_str (nomark _)) (pss_one (ps_ret (pe_tup (pa_cons pe_str (pa_cons (pe_callTy call_tuple_of (by rfl) T_tuple (by decide +kernel) (pa_cons (pe_lc (own := [("_law_weight", 3), ("_law_part", 4)]) (g := (gTup K 2 (gCons (gName 3) (gCons (gName 4) gNil)))) (te := tTup (tCons (tVar 3) (tCons (tCall (spLM K D) [] C8.E0 (tCons (tVar 4) (tCons (tVar 1) tNil))) tNil))) (by rfl) sc__law_moved.nd (pi_tup (pe_ix ix_tup (pv 0) pe_int (fun _ _ => rfl))) (blkOk_by (own := [("_law_weight", 3), ("_law_part", 4)]) (N := ["_law_term_here", "_law_places", "_law_parts", "_law_weight", "_law_part"]) (sc := defScope s__law_moved) (by decide +kernel)) (fun _ _ _ _ _ => (pg_tup rfl (pgs_cons (pg_name (i := 3) sc__law_moved.nd rfl (Or.inl rfl)) (pgs_cons (pg_name (i := 4) sc__law_moved.nd rfl (Or.inl rfl)) pgs_nil)))) (fun _ _ _ _ _ => pts_nil) (fun _ _ _ _ _ => (pe_tup (pa_cons (pv 3) (pa_cons (pe_c c__law_moved hr (by first | decide | omega) rfl (pa_cons (pv 4) (pa_cons (pv 1) pa_nil))) pa_nil))))) pa_nil)) pa_nil))))) pss_nil)
    (pss_cons (ps_if (pt_cmpR op_eq (pe_ix ix_tup (pv 0) pe_int (fun _ _ => rfl)) pe_str (nomark _)) (pss_one (ps_ret (pe_tup (pa_cons (pe_ix ix_tup (pv 0) pe_int (fun _ _ => rfl)) (pa_cons (pe_ix ix_tup (pv 0) pe_int (fun _ _ => rfl)) (pa_cons (pe_ix ix_tup (pv 0) pe_int (fun _ _ => rfl)) (pa_cons (pe_c c__law_moved hr (by first | decide | omega) rfl (pa_cons (pe_ix ix_tup (pv 0) pe_int (fun _ _ => rfl)) (pa_cons (pv 1) pa_nil))) pa_nil))))))) pss_nil)
    (pss_cons (ps_set (i := 2) sc__law_moved.nd rfl (Or.inl rfl) (pe_callTy call_tuple_of (by rfl) T_tuple (by decide +kernel) (pa_cons (pe_lc (own := [("_law_part", 4)]) (by rfl) sc__law_moved.nd (pi_tup (pe_ix ix_tup (pv 0) (pe_un un_neg pe_int) (fun _ _ => rfl))) (blkOk_by (own := [("_law_part", 4)]) (N := ["_law_term_here", "_law_places", "_law_parts", "_law_weight", "_law_part"]) (sc := defScope s__law_moved) (by decide +kernel)) (fun _ _ _ _ _ => (pg_name (i := 4) sc__law_moved.nd rfl (Or.inl rfl))) (fun _ _ _ _ _ => pts_nil) (fun _ _ _ _ _ => (pe_c c__law_moved hr (by first | decide | omega) rfl (pa_cons (pv 4) (pa_cons (pv 1) pa_nil))))) pa_nil)))
    (pss_cons (ps_if (pt_cmpR op_eq (pe_ix ix_tup (pv 0) pe_int (fun _ _ => rfl)) pe_str (nomark _)) (pss_one (ps_ret (pe_tup (pa_cons pe_str (pa_cons (pe_ix ix_tup (pv 0) pe_int (fun _ _ => rfl)) (pa_cons (pv 2) pa_nil)))))) pss_nil)
    (pss_one (ps_ret (pe_tup (pa_cons (pe_ix ix_tup (pv 0) pe_int (fun _ _ => rfl)) (pa_cons (pv 2) pa_nil))))))))))), ?_⟩
      obtain ⟨a, r, rfl, ha⟩ := t_head rt
      refine ⟨_, rfl, _, _, _, _, rfl, rfl, ha, at_of (j := 0) rfl rfl, rfl, _, rfl, ite2 (fun c => ?_) (fun c1 => ?_)⟩
      · cases t with
        | bid p =>
          obtain ⟨a2, e, ha2⟩ := t_bid rt
          cases e
          have hp : p < o.length := ho
          obtain ⟨x, hx, rx⟩ := RTs.get hus (List.getElem?_eq_getElem hp)
          have ev : (Tm.bid p).sub o = o[p] := by show o.getD p (.bid 0) = _; rw [List.getD_eq_getElem?_getD, List.getElem?_eq_getElem hp]; rfl
          refine ⟨_, rfl, _, rfl, _, _, _, _, rfl, rfl, ha2, at_of (j := 1) rfl rfl, _, _, _, _, rfl, rfl, SqL.of hLO, at_of (j := p) rfl hx, ?_⟩
          refine k _ _ (Same.refl _) ?_
          rw [ev]
          exact rx
        | _ => exact absurd (of_decide_eq_true c) (by simp only [Tm.word]; decide +kernel)
      refine ⟨_, rfl, _, _, _, _, rfl, rfl, ha, at_of (j := 0) rfl rfl, rfl, _, rfl, ite2 (fun c => ?_) (fun c2 => ?_)⟩
      · cases t with
        | fixed q => exact ⟨_, rfl, k _ _ (Same.refl _) rt⟩
        | _ => exact absurd (of_decide_eq_true c) (by simp only [Tm.word]; decide +kernel)
      refine ⟨_, rfl, _, _, _, _, rfl, rfl, ha, at_of (j := 0) rfl rfl, rfl, _, rfl, ite2 (fun c => ?_) (fun c3 => ?_)⟩
      · cases t with
        | mean ws ts =>
          obtain ⟨a2, b, qs, e, hA, hb, hu⟩ := t_mean rt
          cases e
          obtain ⟨wl, tne, tl, hwb, hob⟩ := ho
          refine ⟨_, rfl, _, _, _, _, rfl, rfl, hA, rfl, b, rfl, ⟨_, hb⟩, fun D1 hD1 => ?_⟩
          have ql : qs.length = ts.length := by rw [hu.length, meanD_length _ _ (by rw [datas_map, List.length_map]; exact wl), datas_map, List.length_map]
          refine it_tup (K := K) (a := b) (xs := qs) (fun i H' => ∃ zs : List V, H' D1 = some (.lst zs) ∧ RpAll K H' zs (meanD (ws.take i) ((Tm.datas (Tm.subs o ts)).take i)) ∧ Same H H')
            ⟨[], upd_same, by rw [List.take_zero]; exact .nil, same_new hD1⟩ (fun i H' ⟨_, _, _, s5⟩ => (Same.kt s5).sq hb) ?_ ?_
          · rintro i x H' hx ⟨zs, g1, g2, g3⟩
            obtain ⟨c, z, u, y, rfl, e1, e2, p1, p2⟩ := mean_part hu hx
            have um := List.mem_of_getElem? e2
            have ud := deps_mem um
            have zl : zs.length ≤ 8 := by
              rw [g2.length]
              unfold meanD
              rw [List.length_zipWith, List.length_take, List.length_take]
              have := (List.getElem?_eq_some_iff.mp hx).1
              omega
            refine ⟨c, _, rfl, (Same.kt g3).sq p1, rfl, _, _, rfl, _, _, rfl, rfl, rfl, ?_⟩
            have hd2 : Tm.deps ts + 1 ≤ D + 1 := hdep
            refine ⟨_, rfl, _, rfl, _, rfl, y, LO, sz, u, o, us, rfl, p2.mono (Same.kt g3), (oks_iff _ _ _).mp hob u um, by omega, g3 _ _ hLO, RpAll.mono (Same.kt g3) hus, fun v2 H2 s2 r2 => ⟨(by show 2 ≤ sizeLine; decide), fun q hq => ?_⟩⟩
            have sq := same_new (o := .tup [.int z, v2]) hq
            have g1' := sq _ _ (s2 _ _ g1)
            refine ⟨zs, g1', small1000 (by omega), zs ++ [.ref q], upd_same, ?_, Same.mut ((g3.trans s2).trans sq) hD1⟩
            have ed : (Tm.datas (Tm.subs o ts))[i]? = some (u.sub o).data := by rw [datas_map, subs_map, List.getElem?_map, List.getElem?_map, e2]; rfl
            rw [meanD_snoc e1 ed]
            refine RpAll.mono (KT.updl g1') (RpAll.append (RpAll.mono (Same.kt (s2.trans sq)) g2) (.cons ?_ .nil))
            exact .tup (SqT.of upd_same) (.cons (.int z) (.cons (r2.mono (Same.kt sq)) .nil))
          · rintro H' ⟨zs, g1, g2, g3⟩
            have el : (Tm.datas (Tm.subs o ts)).length = ts.length := by rw [datas_map, List.length_map, subs_length]
            rw [List.take_of_length_le (by omega), List.take_of_length_le (by omega)] at g2
            refine ⟨D1, zs, rfl, .inl ⟨SqL.of g1, fun l hl2 => ⟨(by show 2 ≤ sizeLine; decide), fun p hp => ?_⟩⟩⟩
            have s3 := same_new (o := .tup zs) hl2
            have s4 := same_new (o := .tup [.str "mean", .ref l]) hp
            exact k _ _ (g3.trans (s3.trans s4)) (.tup (SqT.of upd_same) (.cons (.str _) (.cons (.tup ((Same.kt s4).sq (SqT.of upd_same)) (RpAll.mono (Same.kt (s3.trans s4)) g2)) .nil)))
        | _ => exact absurd (of_decide_eq_true c) (by simp only [Tm.word]; decide +kernel)
      refine ⟨_, rfl, _, _, _, _, rfl, rfl, ha, at_of (j := 0) rfl rfl, rfl, _, rfl, ite2 (fun c => ?_) (fun c4 => ?_)⟩
      · cases t with
        | between lo hi u =>
          obtain ⟨a2, x, y, z, e, hA, rx, ry, rz⟩ := t_between rt
          cases e
          have ud : u.dep + 1 ≤ D + 1 := hdep
          refine ⟨_, rfl, _, _, _, _, rfl, rfl, hA, rfl, _, rfl, _, _, _, _, rfl, rfl, hA, rfl, _, rfl, _, _, _, _, rfl, rfl, hA, rfl, _, rfl, _, _, _, _, rfl, rfl, hA, rfl, _, rfl, ?_⟩
          refine ⟨z, LO, sz, u, o, us, rfl, rz, ho.2.2.2, by omega, hLO, hus, fun v2 H2 s2 r2 => ⟨(by show 4 ≤ sizeLine; decide), fun p hp => ?_⟩⟩
          have sp := same_new (o := .tup [.str "between", x, y, v2]) hp
          have k2 := Same.kt (s2.trans sp)
          exact k _ _ (s2.trans sp) (.tup (SqT.of upd_same) (.cons (.str _) (.cons (rx.mono k2).rp (.cons (ry.mono k2).rp (.cons (r2.mono (Same.kt sp)) .nil)))))
        | _ => exact absurd (of_decide_eq_true c) (by simp only [Tm.word]; decide +kernel)
      obtain ⟨xs, b, qs, hA, hlast, hb, hu⟩ : ∃ (xs : List V) (b : Addr) (qs : List V), SqT K H a xs ∧ atI xs (-1) = some (.ref b) ∧ SqT K H b qs ∧ RTs K H qs t.children := by
        cases t with
        | bid p => exact absurd rfl c1
        | fixed p => exact absurd rfl c2
        | mean ws ts => exact absurd rfl c3
        | between lo hi u => exact absurd rfl c4
        | least ts => obtain ⟨a2, b, qs, e, hA, hb, hu⟩ := t_least rt; cases e; exact ⟨_, b, qs, hA, rfl, hb, hu⟩
        | greatest ts => obtain ⟨a2, b, qs, e, hA, hb, hu⟩ := t_greatest rt; cases e; exact ⟨_, b, qs, hA, rfl, hb, hu⟩
        | ranked k ts => obtain ⟨a2, b, qs, e, hA, hb, hu⟩ := t_ranked rt; cases e; exact ⟨_, b, qs, hA, rfl, hb, hu⟩
      have kl := kids_len ho
      have ql : qs.length = t.children.length := RTs.length hu
      refine ⟨_, rfl, _, rfl, _, _, _, _, rfl, rfl, hA, hlast, b, rfl, ⟨_, hb⟩, fun D1 hD1 => ?_⟩
      refine it_tup (K := K) (a := b) (xs := qs) (fun i H' => ∃ zs : List V, H' D1 = some (.lst zs) ∧ RTs K H' zs (Tm.subs o (t.children.take i)) ∧ Same H H')
        ⟨[], upd_same, by rw [List.take_zero]; exact .nil, same_new hD1⟩ (fun i H' ⟨_, _, _, s5⟩ => (Same.kt s5).sq hb) ?_ ?_
      · rintro i x H' hx ⟨zs, g1, g2, g3⟩
        obtain ⟨u, hu2, ru⟩ := RTs.getV hu hx
        have mu := List.mem_of_getElem? hu2
        have ud := deps_mem mu
        have zl : zs.length ≤ 8 := by rw [RTs.length g2, subs_length, List.length_take]; omega
        refine ⟨rfl, _, rfl, _, rfl, x, LO, sz, u, o, us, rfl, ru.mono (Same.kt g3), (oks_iff _ _ _).mp (ok_children ho) u mu, by omega, g3 _ _ hLO, RpAll.mono (Same.kt g3) hus, fun y H2 s2 ry => ?_⟩
        refine ⟨zs, s2 _ _ g1, small1000 (by omega), zs ++ [y], upd_same, ?_, Same.mut (g3.trans s2) hD1⟩
        rw [take_succ' hu2, subs_map, List.map_append, ← subs_map]
        exact RpAll.mono (KT.updl (s2 _ _ g1)) (RTs.snoc (RpAll.mono (Same.kt s2) g2) ry)
      rintro H2 ⟨zs, g1, g2, g3⟩
      rw [ql, List.take_length] at g2
      refine ⟨D1, zs, rfl, .inl ⟨SqL.of g1, fun pI hpI => ?_⟩⟩
      have s3 := same_new (o := .tup zs) hpI
      have s03 := g3.trans s3
      have hI : SqT K (upd H2 pI (.tup zs)) pI zs := SqT.of upd_same
      have hu3 : RTs K (upd H2 pI (.tup zs)) zs (Tm.subs o t.children) := RpAll.mono (Same.kt s3) g2
      have rp : Rp K (upd H2 pI (.tup zs)) (.ref pI) (.tuple (Tm.datas (Tm.subs o t.children))) := .tup hI hu3
      have ha3 := (Same.kt s03).sq ha
      have hA3 := (Same.kt s03).sq hA
      refine ⟨_, rfl, _, _, _, _, rfl, rfl, ha3, at_of (j := 0) rfl rfl, rfl, _, rfl, ite2 (fun c => ?_) (fun c5 => ?_)⟩
      · cases t with
        | ranked m ts =>
          obtain ⟨a2, b2, qs2, e, hB, hb2, hu2⟩ := t_ranked (rt.mono (Same.kt s03))
          cases e
          refine ⟨_, rfl, _, _, _, _, rfl, rfl, hB, rfl, _, rfl, (by show 3 ≤ sizeLine; decide), fun p hp => ?_⟩
          have sp := same_new (o := .tup [.str "ranked", .int (m : Int), .ref pI]) hp
          exact k _ _ (s03.trans sp) (.tup (SqT.of upd_same) (.cons (.str _) (.cons (.int _) (.cons (rp.mono (Same.kt sp)) .nil))))
        | _ => exact absurd (of_decide_eq_true c) (by simp only [Tm.word]; decide +kernel)
      refine ⟨_, rfl, _, _, _, _, rfl, rfl, ha3, at_of (j := 0) rfl rfl, _, rfl, (by show 2 ≤ sizeLine; decide), fun p hp => ?_⟩
      have sp := same_new (o := .tup [.str t.word, .ref pI]) hp
      cases t with
      | bid p => exact absurd rfl c1
      | fixed p => exact absurd rfl c2
      | mean ws ts => exact absurd rfl c3
      | between lo hi u => exact absurd rfl c4
      | ranked m ts => exact absurd rfl c5
      | least ts => exact k _ _ (s03.trans sp) (.tup (SqT.of upd_same) (.cons (.str _) (.cons (rp.mono (Same.kt sp)) .nil)))
      | greatest ts => exact k _ _ (s03.trans sp) (.tup (SqT.of upd_same) (.cons (.str _) (.cons (rp.mono (Same.kt sp)) .nil)))
abbrev n__law_whole : List Str := ["_law_term_here", "_law_inners_here", "_law_places", "_law_first", "_law_many", "_law_inner", "_law_person"]
theorem sc__law_whole : FnScope ["_law_term_here", "_law_inners_here", "_law_places", "_law_first", "_law_many", "_law_inner", "_law_person"] ["_law_term_here", "_law_inners_here"] (defScope s__law_whole) := ⟨rfl, rfl, rfl, by decide +kernel, rfl, by decide +kernel, by decide +kernel⟩
def sp__law_whole (K : PySem.W.Frag) : Sp := fun vs H Q _ => ∃ (v : V) (L : Addr) (t : Tm) (gs : List (Nat × Tm)) (m : Bool), vs = [v, .ref L] ∧ Rp K H v t.data ∧ t.Ok gs.length 20 ∧ t.dep ≤ 10 ∧ InL K H L gs ∧ gs.length ≤ 6 ∧ (nsOf gs).sum ≤ 6 ∧ (∀ g ∈ gs, GrD m g) ∧
  ∀ v' H', Same H H' → Rp K H' v' (.tuple [.int (((nsOf gs).sum : Nat) : Int), (t.sub (ownT gs)).data]) → Q v' H'
theorem bids_range {N k n : Nat} (hn : k + n ≤ N) : (((List.range N).drop k).take n).map Tm.bid = (List.range n).map fun p => Tm.bid (k + p) := by
  refine List.ext_getElem (by simp; omega) fun i h1 h2 => ?_
  simp at h1
  simp
theorem ok__law_whole (F : FnD K mg "_law_whole" s__law_whole) (c__law_moved : Cal P w K mg base 13 "_law_moved" (spLM K 10) []) (T_range : mg "range" = none) : Cal P w K mg base 14 "_law_whole" (sp__law_whole K) [] := by
  refine calOf F sc__law_whole (fun _ _ _ _ _ _ us hl => match us, hl with | [_, _], _ => rfl) (fun vs H Q E h => ?_) (fun cdv f A outer s H vs Q E hr h => ?_)
  · obtain ⟨_, _, _, _, _, rfl, _⟩ := h
    rfl
  · obtain ⟨v, L, t, gs, m, rfl, rt, ho, hdep, ⟨qs, hq1, hq2⟩, hl, hs6, hgs, k⟩ := h
    refine ⟨_, (pss_cons (ps_set (i := 2) sc__law_whole.nd rfl (Or.inl rfl) (pe_lst pa_nil))
    (pss_cons (ps_set (i := 3) sc__law_whole.nd rfl (Or.inr rfl) pe_int)
    (pss_cons (ps_for PassesOwn.never rfl (pi_list (pv 1)) (pg_tup rfl (pgs_cons (pg_name (i := 4) sc__law_whole.nd rfl (Or.inl rfl)) (pgs_cons (pg_name (i := 5) sc__law_whole.nd rfl (Or.inl rfl)) pgs_nil))) (pss_cons (ps_expr (pe_bm PySem.F.plainAttrs_list PySem.F.slot_list_append PySem.F.type_list_append mt_append (pv 2) (pa_cons (pe_c c__law_moved hr (by first | decide | omega) rfl (pa_cons (pv 5) (pa_cons (pe_lc (own := [("_law_person", 6)]) (te := tTup (tCons (tC (.str "bid")) (tCons (tOp (rI0 fun i j => V.int (i + j)) (tVar 3) (tVar 6)) tNil))) (by rfl) sc__law_whole.nd (pi_range1 (by rfl) T_range (pa_cons (pv 4) pa_nil)) (blkOk_by (own := [("_law_person", 6)]) (N := ["_law_term_here", "_law_inners_here", "_law_places", "_law_first", "_law_many", "_law_inner", "_law_person"]) (sc := defScope s__law_whole) (by decide +kernel)) (fun _ _ _ _ _ => (pg_name (i := 6) sc__law_whole.nd rfl (Or.inl rfl))) (fun _ _ _ _ _ => pts_nil) (fun _ _ _ _ _ => (pe_tup (pa_cons pe_str (pa_cons (pe_op op_add (pv 3) (pv 6)) pa_nil))))) pa_nil))) pa_nil)))
    (pss_one (ps_set (i := 3) sc__law_whole.nd rfl (Or.inr rfl) (pe_op op_add (pv 3) (pv 4))))))
    (pss_one (ps_ret (pe_tup (pa_cons (pv 3) (pa_cons (pe_c c__law_moved hr (by first | decide | omega) rfl (pa_cons (pv 0) (pa_cons (pv 2) pa_nil))) pa_nil)))))))), ?_⟩
    have ql : qs.length = gs.length := by rw [hq2.length, List.length_map]
    refine ⟨Nat.zero_le _, fun R hR => ⟨_, rfl, L, rfl, ⟨_, (same_new hR).seq (SqL.of hq1)⟩, ?_⟩⟩
    refine for_list (a := L) (xs := qs) (fun i σ H' => ∃ (ps : List V) (x4 x5 x6 : Option V), σ = [some v, some (.ref L), some (.ref R), some (.int ((((nsOf gs).take i).sum : Nat) : Int)), x4, x5, x6] ∧ H' R = some (.lst ps) ∧ RTs K H' ps ((ownT gs).take i) ∧ Same H H')
      ⟨[], none, none, none, rfl, upd_same, .nil, same_new hR⟩ (fun i σ H' _ ⟨_, _, _, _, _, _, _, s5⟩ => s5.seq (SqL.of hq1)) ?_ ?_
    · rintro i x σ H' hxi ⟨ps, _, _, x6, rfl, g1, g2, g3⟩
      have il := (List.getElem?_eq_some_iff.mp hxi).1
      obtain ⟨⟨n, u⟩, hgi⟩ : ∃ g, gs[i]? = some g := ⟨_, List.getElem?_eq_getElem (by omega)⟩
      obtain ⟨d, hd, rd⟩ := RpAll.getV hq2 hxi
      rw [List.getElem?_map, hgi] at hd
      have ed := Option.some.inj hd
      subst ed
      obtain ⟨p0, n0, y, rfl, hp0, r1, r2⟩ := rp2 rd
      have eu := r1.intI
      subst eu
      have g := hgs _ (List.mem_of_getElem? hgi)
      have gd : u.dep ≤ 3 := g.dep
      have gn := nsOf_get hgi
      have ts := sum_take_succ gn
      have tl := sum_take_le (nsOf gs) (i + 1)
      have n6 : n ≤ 6 := g.six
      have pl : ps.length ≤ 6 := by rw [RTs.length g2, List.length_take]; omega
      refine ⟨p0, _, rfl, (Same.kt g3).sq hp0, rfl, _, _, rfl, _, _, rfl, rfl, ?_⟩
      refine ⟨_, rfl, .inl ⟨rfl, _, SqL.of g1⟩, _, rfl, _, rfl, _, rfl, (by show -2 ^ 62 ≤ (n : Int); omega), (by show (n : Int) < 2 ^ 62; omega), fun D hD => ?_⟩
      refine lc_range (lo := 0) (n := ((n : Nat) : Int).toNat) (fun j H2 => ∃ zs : List V, H2 D = some (.lst zs) ∧ RTs K H2 zs ((List.range j).map fun p => Tm.bid (((nsOf gs).take i).sum + p)) ∧ Same H' H2)
        ⟨[], upd_same, .nil, same_new hD⟩ ?_ ?_
      · rintro j H2 hj ⟨zs, b1, b2, b3⟩
        rw [show (0 : Int) + ((j : Nat) : Int) = ((j : Nat) : Int) from Int.zero_add _]
        have zl : zs.length ≤ 6 := by rw [RTs.length b2, List.length_map, List.length_range]; omega
        refine ⟨rfl, _, rfl, _, rfl, _, _, rfl, rfl, (by show 2 ≤ sizeLine; decide), fun p hp => ?_⟩
        have sp := same_new (o := .tup [.str "bid", .int ((((nsOf gs).take i).sum : Int) + (j : Int))]) hp
        have b1' := sp _ _ b1
        refine ⟨zs, b1', small1000 (by omega), zs ++ [.ref p], upd_same, ?_, Same.mut (b3.trans sp) hD⟩
        rw [List.range_succ, List.map_append]
        refine RpAll.mono (KT.updl b1') (RTs.snoc (RpAll.mono (Same.kt sp) b2) (.tup (SqT.of upd_same) (.cons (.str _) (.cons ?_ .nil))))
        rw [show ((((nsOf gs).take i).sum : Nat) : Int) + (j : Int) = (((((nsOf gs).take i).sum + j : Nat)) : Int) by omega]
        exact .int _
      rintro H2 ⟨zs, b1, b2, b3⟩
      rw [Int.toNat_natCast] at b2
      have s2 := g3.trans b3
      refine ⟨y, D, 20, u, (List.range n).map fun p => Tm.bid (((nsOf gs).take i).sum + p), zs, rfl, r2.mono (Same.kt s2), by rw [List.length_map, List.length_range]; exact g.ok, by omega, b1, b2, fun v2 H3 s3 rv => ?_⟩
      have g1' := s3 _ _ (b3 _ _ g1)
      refine ⟨R, ps, v2, rfl, rfl, g1', small1000 (by omega), ?_⟩
      have sH : Same H (upd H3 R (.lst (ps ++ [v2]))) := Same.mut (s2.trans s3) hR
      refine ⟨_, rfl, _, rfl, _, _, rfl, rfl, ps ++ [v2], some (.int ((n : Nat) : Int)), some y, x6, ?_, upd_same, ?_, sH⟩
      · rw [ts]
        show [_, _, _, some (V.int ((((nsOf gs).take i).sum : Int) + (n : Int))), _, _, _] = _
        rw [show ((((nsOf gs).take i).sum : Nat) : Int) + (n : Int) = (((((nsOf gs).take i).sum + n : Nat)) : Int) by omega]
      · have og := ownT_get hgi (cuts_get (l := List.range (nsOf gs).sum) (nsOf_get hgi))
        have ol : (((List.range (nsOf gs).sum).drop ((nsOf gs).take i).sum).take n).length = n := by rw [List.length_take, List.length_drop, List.length_range]; omega
        rw [ren_sub (s := 20) (by rw [ol]; exact g.ok), bids_range (by omega)] at og
        rw [take_succ' og]
        exact RpAll.mono (KT.updl g1') (RTs.snoc (RpAll.mono (Same.kt (b3.trans s3)) g2) rv)
    · rintro σ H' ⟨ps, _, _, _, rfl, g1, g2, g3⟩
      rw [List.take_of_length_le (by rw [ownT_len]; omega)] at g2
      refine ⟨_, rfl, _, rfl, _, rfl, v, R, 20, t, ownT gs, ps, rfl, rt.mono (Same.kt g3), by rw [ownT_len]; exact ho, hdep, g1, g2, fun v2 H2 s2 r2 => ⟨(by show 2 ≤ sizeLine; decide), fun p hp => ?_⟩⟩
      have sp := same_new (o := .tup [.int ((((nsOf gs).take qs.length).sum : Nat) : Int), v2]) hp
      rw [ql, List.take_of_length_le (by rw [nsOf_len]; omega)] at sp ⊢
      exact k _ _ ((g3.trans s2).trans sp) (.tup (SqT.of upd_same) (.cons (.int _) (.cons (r2.mono (Same.kt sp)) .nil)))
end
end CB

set_option Elab.async false
set_option linter.all false
set_option maxRecDepth 100000
set_option maxHeartbeats 4000000
namespace CB
open PySem PySem.Spec PyProof.Rows L2
open C8 (Cal Met Mak pe_c pe_mk pe_mt pe_mt0 pe_gc CalAt)
section
variable {P : Program} {w : World} {K : PySem.W.Frag} {mg : Str → Option Value} {base : Heap}
mutual
theorem okw {n a b : Nat} (h : a ≤ b) : ∀ {t : Tm}, t.Ok n a → t.Ok n b
  | .bid p, ho => ho
  | .fixed q, ho => NumOk.mono ho h
  | .mean ws ts, ho => ⟨ho.1, ho.2.1, ho.2.2.1, ho.2.2.2.1, okws h (ts := ts) ho.2.2.2.2⟩
  | .least ts, ho => ⟨ho.1, ho.2.1, okws h (ts := ts) ho.2.2⟩
  | .greatest ts, ho => ⟨ho.1, ho.2.1, okws h (ts := ts) ho.2.2⟩
  | .ranked k ts, ho => ⟨ho.1, ho.2.1, ho.2.2.1, okws h (ts := ts) ho.2.2.2⟩
  | .between lo hi t, ho => ⟨NumOk.mono ho.1 h, NumOk.mono ho.2.1 h, ho.2.2.1, okw h (t := t) ho.2.2.2⟩
theorem okws {n a b : Nat} (h : a ≤ b) : ∀ {ts : List Tm}, Tm.Oks n a ts → Tm.Oks n b ts
  | [], _ => trivial
  | t :: ts, ho => ⟨okw h (t := t) ho.1, okws h (ts := ts) ho.2⟩
end
theorem mk_rule {C : Addr} {v : V} {n : Nat} {t : Tm} {H : Hp} {R : Hp → Prop} {E : XK} {r dx : Addr} (nx : H r = none) (ndx : H dx = none) (nex : dx ≠ r) (hv : Rp K H v t.data) (ho : t.Ok n 20) (hd : t.dep ≤ 8) (hc : t.cnt ≤ 60) (h1 : 1 ≤ n) (h6 : n ≤ 6) (k : ∀ H', Same H H' → RuleAt K C H' r n t → R H') :
    sp_Rule K C (.ref r :: ([.int (n : Int), v] ++ [])) (upd (upd H dx (.own r)) r (.ins C dx [])) (fun x H2 => x = .non ∧ R H2) E := by
  have s4 : Same H (upd (upd H dx (.own r)) r (.ins C dx [])) := (same_new ndx).trans (same_new (by rw [upd_ne (Ne.symm nex)]; exact nx))
  refine ⟨r, dx, v, n, 20, t, rfl, upd_same, hv.mono (Same.kt s4), ho, by decide, hd, hc, h1, h6, fun H6 k6 hR6 => ⟨rfl, ?_⟩⟩
  have s6 : Same H H6 := fun b o e => k6 b o (ne_of_none e nx) (s4 b o e)
  exact k H6 s6 ⟨dx, v, hR6, hv.mono (Same.kt s6)⟩
/-- what the groups tell, each for itself -/
def valsN (gs : List (Nat × Tm)) (ws : List Rat) : List Rat := List.zipWith (fun (g : Nat × Tm) (c : List Rat) => g.2.val c) gs (cuts (nsOf gs) ws)
theorem valsN_len (gs : List (Nat × Tm)) (ws : List Rat) : (valsN gs ws).length = gs.length := by unfold valsN; rw [List.length_zipWith, cuts_len, nsOf_len, Nat.min_self]
theorem valsN_get {gs : List (Nat × Tm)} {ws : List Rat} {i n : Nat} {t : Tm} {c : List Rat} (h : gs[i]? = some (n, t)) (g : (cuts (nsOf gs) ws)[i]? = some c) : (valsN gs ws)[i]? = some (t.val c) := by
  unfold valsN
  rw [List.getElem?_zipWith, h, g]
theorem range_part {N k n p : Nat} (hn : k + n ≤ N) (hp : p < n) : (((List.range N).drop k).take n).getD p 0 = k + p := by
  rw [List.getD_eq_getElem?_getD, List.getElem?_take, if_pos hp, List.getElem?_drop, List.getElem?_range (by omega)]
  rfl
theorem part_get {ws : List Rat} {k n p : Nat} (hp : p < n) : ((ws.drop k).take n).getD p 0 = ws.getD (k + p) 0 := by
  rw [List.getD_eq_getElem?_getD, List.getElem?_take, if_pos hp, List.getElem?_drop, List.getD_eq_getElem?_getD]
theorem own_tells {m : Bool} {gs : List (Nat × Tm)} {ws : List Rat} (hg : ∀ g ∈ gs, GrD m g) : (ownT gs).map (Tm.val ws) = valsN gs ws := by
  refine List.ext_getElem (by rw [List.length_map, ownT_len, valsN_len]) fun i h1 h2 => ?_
  have hi : i < gs.length := by rw [List.length_map, ownT_len] at h1; exact h1
  obtain ⟨⟨n, t⟩, hgi⟩ : ∃ g, gs[i]? = some g := ⟨_, List.getElem?_eq_getElem hi⟩
  have cg := cuts_get (l := List.range (nsOf gs).sum) (nsOf_get hgi)
  have cw := cuts_get (l := ws) (nsOf_get hgi)
  have e1 := ownT_get hgi cg
  have e2 := valsN_get hgi cw
  rw [List.getElem?_eq_getElem (by rw [ownT_len]; exact hi)] at e1
  rw [List.getElem?_eq_getElem h2] at e2
  rw [List.getElem_map, Option.some.inj e1, Option.some.inj e2]
  have g := hg _ (List.mem_of_getElem? hgi)
  have a1 := sum_take_succ (nsOf_get hgi)
  have a2 := sum_take_le (nsOf gs) (i + 1)
  refine ren_val (n := n) (s := 20) (fun p hp => ?_) g.ok
  rw [range_part (by omega) hp, part_get hp]
theorem own_facts {gs : List (Nat × Tm)} {m : Bool} (hg : ∀ g ∈ gs, GrD m g) : (∀ o ∈ ownT gs, o.Ok (nsOf gs).sum 20 ∧ o.dep ≤ 3 ∧ (∀ s, o.wt s ≤ 9 * s + 144) ∧ (m = false → o.nomean = true)) := fun o ho => by
  obtain ⟨i, hi, rfl⟩ := List.getElem_of_mem ho
  rw [ownT_len] at hi
  obtain ⟨⟨n, t⟩, hgi⟩ : ∃ g, gs[i]? = some g := ⟨_, List.getElem?_eq_getElem hi⟩
  have cg := cuts_get (l := List.range (nsOf gs).sum) (nsOf_get hgi)
  have e := ownT_get hgi cg
  rw [List.getElem?_eq_getElem (by rw [ownT_len]; exact hi)] at e
  rw [Option.some.inj e]
  have g := hg _ (List.mem_of_getElem? hgi)
  have a1 := sum_take_succ (nsOf_get hgi)
  have a2 := sum_take_le (nsOf gs) (i + 1)
  have ol : (((List.range (nsOf gs).sum).drop ((nsOf gs).take i).sum).take n).length = n := by rw [List.length_take, List.length_drop, List.length_range]; omega
  have go : t.Ok (((List.range (nsOf gs).sum).drop ((nsOf gs).take i).sum).take n).length 20 := by rw [ol]; exact g.ok
  refine ⟨?_, by rw [ren_dep]; exact g.dep, fun s => by rw [ren_wt]; exact g.wt s, fun em => ?_⟩
  · rw [ren_sub go]
    refine sub_ok (fun o ho => ?_) (by rw [List.length_map]; exact go)
    obtain ⟨p, hp, rfl⟩ := List.mem_map.mp ho
    exact List.mem_range.mp (List.mem_of_mem_drop (List.mem_of_mem_take hp))
  · rw [ren_sub go]
    exact sub_nomean (fun o ho => by obtain ⟨p, hp, rfl⟩ := List.mem_map.mp ho; rfl) (s := 20) (by rw [List.length_map]; exact go) (g.nm em)
theorem grok {m : Bool} {gs : List (Nat × Tm)} (h : ∀ g ∈ gs, GrD m g) : ∀ g ∈ gs, GrOk 324 g := fun g hg => by
  have a := h g hg
  exact ⟨a.ok, a.one, by have := a.dep; omega, a.wt 20⟩
theorem tells_ok {m : Bool} {gs : List (Nat × Tm)} {ws : List Rat} (hg : ∀ g ∈ gs, GrD m g) (hl : ws.length = (nsOf gs).sum) (hz : ∀ q ∈ ws, NumOk 20 q) : ∀ q ∈ valsN gs ws, NumOk 324 q := fun q hq => by
  obtain ⟨i, hi, rfl⟩ := List.getElem_of_mem hq
  rw [valsN_len] at hi
  obtain ⟨⟨n, t⟩, hgi⟩ : ∃ g, gs[i]? = some g := ⟨_, List.getElem?_eq_getElem hi⟩
  have cg := cuts_get (l := ws) (nsOf_get hgi)
  have e := valsN_get hgi cg
  rw [List.getElem?_eq_getElem (by rw [valsN_len]; exact hi)] at e
  rw [Option.some.inj e]
  have g := hg _ (List.mem_of_getElem? hgi)
  have a1 := sum_take_succ (nsOf_get hgi)
  have a2 := sum_take_le (nsOf gs) (i + 1)
  have cl : ((ws.drop ((nsOf gs).take i).sum).take n).length = n := by rw [List.length_take, List.length_drop]; omega
  have cz : ∀ q ∈ (ws.drop ((nsOf gs).take i).sum).take n, NumOk 20 q := fun q h => hz q (List.mem_of_mem_drop (List.mem_of_mem_take h))
  have v := val_01 cl (fun q h => ⟨(cz q h).1, (cz q h).2.1⟩) t g.ok
  exact ⟨v.1, v.2, (val_sz (fun q h => (cz q h).2.2) cl g.ok).mono (g.wt 20)⟩
theorem Bids.wide {H : Hp} {a : Addr} {n z z' : Nat} {ws : List Rat} (h : Bids K H a n z ws) (l : z ≤ z') : Bids K H a n z' ws := by
  obtain ⟨us, h1, h2, h3, h4⟩ := h
  exact ⟨us, h1, h2, h3, fun q hq => (h4 q hq).mono l⟩
theorem neSame {H : Hp} {x y : V} {q : Rat} {Q : VK} (h1 : RF K H x q) (h2 : RF K H y q) (k : Q (.bl false) H) : rNeD K x y H Q := by
  refine ⟨qd q, qd q, h1.rp.dp, h2.rp.dp, qd_shaped _, qd_shaped _, ?_⟩
  rw [SeqAt.eqv_refl _ (qd_lay _)]
  exact k
theorem corner_le {t : Tm} {n z : Nat} {l m : List Nat} (ho : t.Ok n z) (h : ∀ p ∈ l, p ∈ m) : t.val (end01 n l) ≤ t.val (end01 n m) := by
  refine (val_nr (s := 1) (by grind) (nrL_of (by rw [end01_len, end01_len]) fun i x y hx hy => ?_) t ho).1
  have il := (List.getElem?_eq_some_iff.mp hx).1
  rw [end01_len] at il
  rw [end01_get il] at hx hy
  have e1 := Option.some.inj hx
  have e2 := Option.some.inj hy
  subst e1 e2
  by_cases c : i ∈ l
  · rw [if_pos c, if_pos (h i c)]; constructor <;> grind
  · rw [if_neg c]; split <;> constructor <;> grind
/-- who wishes x or more -/
def thrS (x : Rat) (n : Nat) (ws : List Rat) : List Nat := (List.range n).filter fun p => decide (x ≤ ws.getD p 0)
theorem thrS_mem {x : Rat} {n p : Nat} {ws : List Rat} : p ∈ thrS x n ws ↔ p < n ∧ x ≤ ws.getD p 0 := by
  unfold thrS
  rw [List.mem_filter, List.mem_range]
  exact ⟨fun h => ⟨h.1, of_decide_eq_true h.2⟩, fun h => ⟨h.1, decide_eq_true h.2⟩⟩
theorem outc_thr {t : Tm} {n z : Nat} {ws : List Rat} {x : Rat} (ho : t.Ok n z) (hw : ws.length = n) : x ≤ outc t n ws ↔ x ≤ t.val (end01 n (thrS x n ws)) := by
  constructor
  · intro h
    obtain ⟨S, h1, h2, h3, _⟩ := outc_at (t := t) hw
    have a := corner_le (l := S) (m := thrS x n ws) ho fun p hp => thrS_mem.mpr ⟨h1 p hp, by have := h3 p hp; grind⟩
    grind
  · intro h
    exact outc_ge ho hw (S := thrS x n ws) (fun p hp => (thrS_mem.mp hp).1) h fun p hp => (thrS_mem.mp hp).2
theorem thr_congr {x : Rat} {n : Nat} {ws vs : List Rat} (h : ∀ p, p < n → (x ≤ ws.getD p 0 ↔ x ≤ vs.getD p 0)) : thrS x n ws = thrS x n vs := by
  unfold thrS
  refine List.filter_congr fun p hp => ?_
  have := h p (List.mem_range.mp hp)
  by_cases c : x ≤ ws.getD p 0
  · rw [decide_eq_true c, decide_eq_true (this.mp c)]
  · rw [decide_eq_false c, decide_eq_false fun d => c (this.mpr d)]
theorem end_thr {x : Rat} {N p : Nat} {ws : List Rat} (h0 : 0 < x) (h1 : x ≤ 1) (hp : p < N) : x ≤ (end01 N (thrS x N ws)).getD p 0 ↔ x ≤ ws.getD p 0 := by
  rw [end01_getD hp]
  by_cases c : x ≤ ws.getD p 0
  · rw [if_pos (thrS_mem.mpr ⟨hp, c⟩)]
    exact ⟨fun _ => c, fun _ => h1⟩
  · rw [if_neg fun m => c (thrS_mem.mp m).2]
    exact ⟨fun h => absurd h (by grind), fun h => absurd h c⟩
theorem nest_thr {m : Bool} {gs : List (Nat × Tm)} {ws vs : List Rat} {x : Rat} (hg : ∀ g ∈ gs, GrD m g) (hl : ws.length = (nsOf gs).sum) (hl2 : vs.length = (nsOf gs).sum) (h : ∀ p, p < (nsOf gs).sum → (x ≤ ws.getD p 0 ↔ x ≤ vs.getD p 0)) :
    ∀ i, i < gs.length → (x ≤ (nestN gs ws).getD i 0 ↔ x ≤ (nestN gs vs).getD i 0) := fun i hi => by
  obtain ⟨⟨n, u⟩, hgi⟩ : ∃ g, gs[i]? = some g := ⟨_, List.getElem?_eq_getElem hi⟩
  have g := hg _ (List.mem_of_getElem? hgi)
  have a1 := sum_take_succ (nsOf_get hgi)
  have a2 := sum_take_le (nsOf gs) (i + 1)
  have c1 : ((ws.drop ((nsOf gs).take i).sum).take n).length = n := by rw [List.length_take, List.length_drop]; omega
  have c2 : ((vs.drop ((nsOf gs).take i).sum).take n).length = n := by rw [List.length_take, List.length_drop]; omega
  rw [List.getD_eq_getElem?_getD, List.getD_eq_getElem?_getD, nestN_get hgi (cuts_get (nsOf_get hgi)), nestN_get hgi (cuts_get (nsOf_get hgi))]
  show x ≤ outc u n _ ↔ x ≤ outc u n _
  have go : u.Ok n 20 := g.ok
  rw [outc_thr go c1, outc_thr go c2, thr_congr (vs := (vs.drop ((nsOf gs).take i).sum).take n) fun p hp => by rw [part_get hp, part_get hp]; exact h _ (by omega)]
theorem part_end {N k n : Nat} {l : List Nat} (hn : k + n ≤ N) : ((end01 N l).drop k).take n = end01 n ((List.range n).filter fun p => decide (k + p ∈ l)) := by
  refine List.ext_getElem (by rw [List.length_take, List.length_drop, end01_len, end01_len]; omega) fun p h1 h2 => ?_
  have hp : p < n := by rw [end01_len] at h2; exact h2
  have a : (((end01 N l).drop k).take n).getD p 0 = (end01 n ((List.range n).filter fun p => decide (k + p ∈ l))).getD p 0 := by
    rw [part_get hp, end01_getD (show k + p < N by omega), end01_getD hp]
    by_cases c : k + p ∈ l
    · rw [if_pos c, if_pos (List.mem_filter.mpr ⟨List.mem_range.mpr hp, decide_eq_true c⟩)]
    · have nm : ¬ p ∈ (List.range n).filter (fun p => decide (k + p ∈ l)) := fun d => c (by simpa using (List.mem_filter.mp d).2)
      rw [if_neg c, if_neg nm]
  rw [List.getD_eq_getElem?_getD, List.getD_eq_getElem?_getD, List.getElem?_eq_getElem h1, List.getElem?_eq_getElem h2] at a
  exact a
/-- at the ends every group comes to what it tells -/
theorem nest_end {m : Bool} {gs : List (Nat × Tm)} {l : List Nat} (hg : ∀ g ∈ gs, GrD m g) : nestN gs (end01 (nsOf gs).sum l) = valsN gs (end01 (nsOf gs).sum l) := by
  refine List.ext_getElem (by rw [nestN_len, valsN_len]) fun i h1 h2 => ?_
  have hi : i < gs.length := by rw [nestN_len] at h1; exact h1
  obtain ⟨⟨n, u⟩, hgi⟩ : ∃ g, gs[i]? = some g := ⟨_, List.getElem?_eq_getElem hi⟩
  have g := hg _ (List.mem_of_getElem? hgi)
  have a1 := sum_take_succ (nsOf_get hgi)
  have a2 := sum_take_le (nsOf gs) (i + 1)
  have cg := cuts_get (l := end01 (nsOf gs).sum l) (nsOf_get hgi)
  have e1 := nestN_get hgi cg
  have e2 := valsN_get hgi cg
  rw [List.getElem?_eq_getElem h1] at e1
  rw [List.getElem?_eq_getElem h2] at e2
  rw [Option.some.inj e1, Option.some.inj e2, part_end (by omega)]
  exact outc_end01 g.ok (fun p hp => List.mem_range.mp (List.mem_filter.mp hp).1) fun E => ⟨(val_01 (end01_len _ _) (end01_01 n E) u g.ok).1, (val_01 (end01_len _ _) (end01_01 n E) u g.ok).2⟩
def partGB (t : Tm) (gs : List (Nat × Tm)) (l : List Nat) : Bool := !decide (outc t gs.length (valsN gs (end01 (nsOf gs).sum l)) = t.val (valsN gs (end01 (nsOf gs).sum l)))
def partG (t : Tm) (gs : List (Nat × Tm)) : Option (List Nat) := (lotsI (nsOf gs).sum).find? (partGB t gs)
/-- whom no lot parts, nothing parts -/
theorem never_parts {m m2 : Bool} {t : Tm} {gs : List (Nat × Tm)} {ws : List Rat} (gt : GrD m2 (gs.length, t)) (hg : ∀ g ∈ gs, GrD m g) (h6 : (nsOf gs).sum ≤ 6) (hl : ws.length = (nsOf gs).sum) (h01 : ∀ q ∈ ws, In01 q) (hn : partG t gs = none) :
    outc t gs.length (nestN gs ws) = outc (t.sub (ownT gs)) (nsOf gs).sum ws := by
  have own := own_facts hg
  have pok : t.Ok (ownT gs).length 20 := by rw [ownT_len]; exact gt.ok
  have sok : (t.sub (ownT gs)).Ok (nsOf gs).sum 20 := sub_ok (fun o ho => (own o ho).1) pok
  have tells : ∀ ws, (t.sub (ownT gs)).val ws = t.val (valsN gs ws) := fun ws => by rw [sub_val pok, own_tells hg]
  have n01 : ∀ q ∈ nestN gs ws, In01 q := fun q hq => by
    obtain ⟨i, hi, rfl⟩ := List.getElem_of_mem hq
    have hi' : i < gs.length := by rw [nestN_len] at hi; exact hi
    obtain ⟨⟨n, u⟩, hgi⟩ : ∃ g, gs[i]? = some g := ⟨_, List.getElem?_eq_getElem hi'⟩
    have g := hg _ (List.mem_of_getElem? hgi)
    have a1 := sum_take_succ (nsOf_get hgi)
    have a2 := sum_take_le (nsOf gs) (i + 1)
    have e := nestN_get hgi (cuts_get (l := ws) (nsOf_get hgi))
    rw [List.getElem?_eq_getElem hi] at e
    rw [Option.some.inj e]
    exact outc_01 g.ok (by rw [List.length_take, List.length_drop]; omega) fun q hq => h01 q (List.mem_of_mem_drop (List.mem_of_mem_take hq))
  have F01 := outc_01 (ws := nestN gs ws) gt.ok (nestN_len _ _) n01
  have G01 := outc_01 (ws := ws) sok hl h01
  have key : ∀ x : Rat, 0 < x → x ≤ 1 → (x ≤ outc t gs.length (nestN gs ws) ↔ x ≤ outc (t.sub (ownT gs)) (nsOf gs).sum ws) := fun x x0 x1 => by
    have go : t.Ok gs.length 20 := gt.ok
    rw [outc_thr sok hl, outc_thr go (nestN_len _ _), tells]
    have th := thr_congr (n := gs.length) (nest_thr (x := x) hg hl (end01_len _ (thrS x (nsOf gs).sum ws)) fun p hp => (end_thr x0 x1 hp).symm)
    rw [th, ← outc_thr go (nestN_len _ _), nest_end hg]
    have sl : thrS x (nsOf gs).sum ws ∈ lotsI (nsOf gs).sum := (lotsI_perm h6).mem_iff.mpr (subs_filter _ _)
    have np := List.find?_eq_none.mp hn _ sl
    have eq : outc t gs.length (valsN gs (end01 (nsOf gs).sum (thrS x (nsOf gs).sum ws))) = t.val (valsN gs (end01 (nsOf gs).sum (thrS x (nsOf gs).sum ws))) := by
      unfold partGB at np
      by_cases c : outc t gs.length (valsN gs (end01 (nsOf gs).sum (thrS x (nsOf gs).sum ws))) = t.val (valsN gs (end01 (nsOf gs).sum (thrS x (nsOf gs).sum ws)))
      · exact c
      · rw [decide_eq_false c] at np
        exact absurd rfl np
    rw [eq]
  generalize outc t gs.length (nestN gs ws) = F at *
  generalize outc (t.sub (ownT gs)) (nsOf gs).sum ws = G at *
  have f1 : F ≤ G := by
    by_cases c : 0 < F
    · exact (key F c F01.2).mp Rat.le_refl
    · have := G01.1; grind
  have f2 : G ≤ F := by
    by_cases c : 0 < G
    · exact (key G c G01.2).mpr Rat.le_refl
    · have := F01.1; grind
  grind
/-- a parting lot parts -/
theorem does_part {m m2 : Bool} {t : Tm} {gs : List (Nat × Tm)} {l : List Nat} (gt : GrD m2 (gs.length, t)) (hg : ∀ g ∈ gs, GrD m g) (h6 : (nsOf gs).sum ≤ 6) (hn : partG t gs = some l) :
    outc t gs.length (nestN gs (end01 (nsOf gs).sum l)) ≠ outc (t.sub (ownT gs)) (nsOf gs).sum (end01 (nsOf gs).sum l) := by
  have own := own_facts hg
  have pok : t.Ok (ownT gs).length 20 := by rw [ownT_len]; exact gt.ok
  have sok : (t.sub (ownT gs)).Ok (nsOf gs).sum 20 := sub_ok (fun o ho => (own o ho).1) pok
  have np := List.find?_some hn
  have lm := List.mem_of_find?_eq_some hn
  have lt := subs_lt ((lotsI_perm h6).mem_iff.mp lm)
  rw [nest_end hg, outc_end01 sok lt fun E => ⟨(val_01 (end01_len _ _) (end01_01 _ E) _ sok).1, (val_01 (end01_len _ _) (end01_01 _ E) _ sok).2⟩, sub_val pok, own_tells hg]
  unfold partGB at np
  intro e
  rw [decide_eq_true e] at np
  exact absurd np (by decide)
abbrev n_groups_parting : List Str := ["outer", "inners", "people", "lot", "row", "numbers", "inner", "part"]
theorem sc_groups_parting : FnScope ["outer", "inners", "people", "lot", "row", "numbers", "inner", "part"] ["outer", "inners"] (defScope s_groups_parting) := ⟨rfl, rfl, rfl, by decide +kernel, rfl, by decide +kernel, by decide +kernel⟩
def sp_groups_parting (K : PySem.W.Frag) (C : Addr) : Sp := fun vs H Q _ => ∃ (r a : Addr) (t : Tm) (gs : List (Nat × Tm)) (m m2 : Bool), vs = [.ref r, .ref a] ∧ RuleAt K C H r gs.length t ∧ GrD m2 (gs.length, t) ∧ Inn K C H a gs ∧ gs.length ≤ 6 ∧ 1 ≤ (nsOf gs).sum ∧ (nsOf gs).sum ≤ 6 ∧ (∀ g ∈ gs, GrD m g) ∧
  ∀ x H', Same H H' → OptLot K H' x (partG t gs) → Q x H'
theorem ok_groups_parting {C aZ aO : Addr} (F : FnD K mg "groups_parting" s_groups_parting) (hc : Cls K C) (n2 : NoAttr K C "term") (c_need_few : Cal P w K mg base 1 "need_few" (sp_need_few K C) []) (c_all_lots : Cal P w K mg base 2 "all_lots" (sp_all_lots K) []) (c_replaced : Cal P w K mg base 1 "replaced" (sp_replaced K) []) (c_parted : Cal P w K mg base 1 "parted" (sp_parted K C) []) (c_told_by : Cal P w K mg base 67 "told_by" (sp_told_by K) []) (c_outcome_of : Cal P w K mg base 17 "outcome_of" (sp_outcome_of K C) []) (T_zip : mg "zip" = none) (T_tuple : mg "tuple" = none)
    (g_ZERO : ∃ u, mg "ZERO" = some u ∧ RelV (.ref aZ) u) (z0 : ∀ H, SqT K H aZ [.int 0, .int 1]) (g_ONE : ∃ u, mg "ONE" = some u ∧ RelV (.ref aO) u) (z1 : ∀ H, SqT K H aO [.int 1, .int 1]) : Cal P w K mg base 68 "groups_parting" (sp_groups_parting K C) [] := by
  refine calOf F sc_groups_parting (fun _ _ _ _ _ _ us hl => match us, hl with | [_, _], _ => rfl) (fun vs H Q E h => ?_) (fun cdv f A outer s H vs Q E hr h => ?_)
  · obtain ⟨_, _, _, _, _, _, rfl, _⟩ := h
    rfl
  · obtain ⟨r, a, t, gs, m, m2, rfl, hR, gt, hI, hg6, hs1, hs6, hgs, k⟩ := h
    have rz : ∀ H, RF K H (.ref aZ) 0 := fun H => zero_rf (z0 H)
    have ro : ∀ H, RF K H (.ref aO) 1 := fun H => ⟨aO, rfl, z1 H⟩
    obtain ⟨dxr, wr, hrr, rtr⟩ := id hR
    have gd : t.dep ≤ 3 := gt.dep
    have gw : t.wt 324 ≤ 9 * 324 + 144 := gt.wt 324
    have gw2 : t.wt 20 ≤ 9 * 20 + 144 := gt.wt 20
    have g1 : 1 ≤ gs.length := gt.one
    refine ⟨_, (pss_cons (ps_set (i := 2) sc_groups_parting.nd rfl (Or.inl rfl) (pe_c c_need_few hr (by first | decide | omega) rfl (pa_cons (pv 1) pa_nil)))
    (pss_cons (ps_for PassesOwn.never rfl (pi_list (pe_c c_all_lots hr (by first | decide | omega) rfl (pa_cons (pv 2) pa_nil))) (pg_name (i := 3) sc_groups_parting.nd rfl (Or.inl rfl)) (pss_cons (ps_set (i := 4) sc_groups_parting.nd rfl (Or.inl rfl) (pe_c c_replaced hr (by first | decide | omega) rfl (pa_cons (pe_op op_repN (pe_tup (pa_cons (pe_gc rfl g_ZERO) pa_nil)) (pv 2)) (pa_cons (pv 3) (pa_cons (pe_gc rfl g_ONE) pa_nil)))))
    (pss_cons (ps_set (i := 5) sc_groups_parting.nd rfl (Or.inl rfl) (pe_callTy call_tuple_of (by rfl) T_tuple (by decide +kernel) (pa_cons (pe_lc (own := [("inner", 6), ("part", 7)]) (g := (gTup K 2 (gCons (gName 6) (gCons (gName 7) gNil)))) (te := tCall (sp_told_by K) [] C8.E0 (tCons (tFld K (tVar 6) "term") (tCons (tVar 7) tNil))) (by rfl) sc_groups_parting.nd (ZiM.pi_zipM (by rfl) T_zip (pa_cons (pv 1) (pa_cons (pe_c c_parted hr (by first | decide | omega) rfl (pa_cons (pv 1) (pa_cons (pv 4) pa_nil))) pa_nil))) (blkOk_by (own := [("inner", 6), ("part", 7)]) (N := ["outer", "inners", "people", "lot", "row", "numbers", "inner", "part"]) (sc := defScope s_groups_parting) (by decide +kernel)) (fun _ _ _ _ _ => (pg_tup rfl (pgs_cons (pg_name (i := 6) sc_groups_parting.nd rfl (Or.inl rfl)) (pgs_cons (pg_name (i := 7) sc_groups_parting.nd rfl (Or.inl rfl)) pgs_nil)))) (fun _ _ _ _ _ => pts_nil) (fun _ _ _ _ _ => (pe_c c_told_by hr (by first | decide | omega) rfl (pa_cons (pe_fld (pv 6) rfl) (pa_cons (pv 7) pa_nil))))) pa_nil)))
    (pss_one (ps_if (pt_cmpR (op_neD hr.units) (pe_c c_outcome_of hr (by first | decide | omega) rfl (pa_cons (pv 0) (pa_cons (pv 5) pa_nil))) (pe_c c_told_by hr (by first | decide | omega) rfl (pa_cons (pe_fld (pv 0) rfl) (pa_cons (pv 5) pa_nil))) (nomark _)) (pss_one (ps_ret (pv 3))) pss_nil)))))
    (pss_one (ps_ret pe_non)))), ?_⟩
    refine ⟨_, rfl, a, gs, rfl, hI, hg6, hs6, fun H1 s1 => ?_⟩
    refine ⟨_, rfl, (nsOf gs).sum, rfl, hs6, fun p ys H2 s2 hp hy lots => ⟨p, rfl, ⟨_, SqL.of hy⟩, ?_⟩⟩
    have s02 := s1.trans s2
    refine for_list (K := K) (a := p) (xs := ys) (fun i σ H' => ∃ x3 x4 x5 x6 x7 : Option V, σ = [some (.ref r), some (.ref a), some (.int (((nsOf gs).sum : Nat) : Int)), x3, x4, x5, x6, x7] ∧ Same H2 H' ∧ ((lotsI (nsOf gs).sum).take i).find? (partGB t gs) = none)
      ⟨none, none, none, none, none, rfl, Same.refl _, by rw [List.take_zero]; rfl⟩ (fun i σ H' _ ⟨_, _, _, _, _, _, e, _⟩ => e.seq (SqL.of hy)) ?_ ?_
    · rintro i x σ H' hx ⟨_, x4, x5, x6, x7, rfl, e, hf⟩
      obtain ⟨l, hl, tl⟩ := (lots.mono (Same.kt e)).getV hx
      obtain ⟨tp, rfl, tl'⟩ := id tl
      have tl2 : SqT K H' tp (pV l) := tl'
      have s0 := s02.trans e
      refine ⟨(by show 1 ≤ sizeLine; decide), fun p1 hp1 => ?_⟩
      have s3 := same_new (o := .tup [.ref aZ]) hp1
      refine ⟨_, rfl, repZ_ok (SqT.of upd_same) hs1 hs6 fun p2 H3 s4 q2 => ?_⟩
      have s34 := s3.trans s4
      refine ⟨_, rfl, p2, tp, .ref aO, _, List.replicate (nsOf gs).sum 0, l, 1, rfl, q2, rq_repl (rz _) _, by rw [List.length_replicate]; omega, .inr ((Same.kt s34).sq tl2), ro _, fun pr zs H4 s5 h3 r3 => ?_⟩
      have s35 := s34.trans s5
      have s05 := s0.trans s35
      have r3' : RQ K H4 zs (end01 (nsOf gs).sum l) := r3
      have zl0 : zs.length = (nsOf gs).sum := by rw [RQ.length r3', end01_len]
      have en : ∀ q ∈ end01 (nsOf gs).sum l, NumOk 20 q := fun q hq => by
        rcases put_mem (show q ∈ put l 1 (List.replicate (nsOf gs).sum 0) from hq) with e | e
        · rw [e]; exact nok_one (by decide)
        · rw [(List.mem_replicate.mp e).2]; exact nok_zero (by decide)
      refine ⟨_, rfl, _, rfl, _, rfl, a, pr, gs, zs, rfl, hI.same s05, hg6, h3, zl0, by omega, fun R ps H5 s6 hRR hps => ?_⟩
      have s06 := s05.trans s6
      obtain ⟨rs, hrs, hRs⟩ := hI.same s06
      have rlen := hRs.length
      have plen : ps.length = gs.length := by rw [hps.length, cuts_len, nsOf_len]
      have hq3 := RpAll.mono (Same.kt s6) r3'
      refine ⟨a, R, rs, ps, rfl, hrs, SqL.of hRR, fun D hD => ?_⟩
      refine lc_it (n := gs.length) (walk_zipM (by omega)) (fun i H' => ∃ zs, H' D = some (.lst zs) ∧ RQ K H' zs ((valsN gs (end01 (nsOf gs).sum l)).take i) ∧ Same H5 H')
        ⟨[], upd_same, by rw [List.take_zero]; exact .nil, same_new hD⟩ (fun i H' _ ⟨_, _, _, e⟩ => ⟨(Same.kt e).sq hrs, e.seq (SqL.of hRR)⟩) ?_ ?_
      · rintro j x H6 H7 hj ⟨ys2, q1, q3, q4⟩ ⟨T, y1, y2, rfl, hT, rfl, hx2, hy2⟩
        dsimp only at hx2 hy2
        have sT := same_new (o := .tup [y1, y2]) hT
        obtain ⟨ri, n, u, rfl, hgi, hRi⟩ := hRs.getV hx2
        obtain ⟨pc, c, rfl, hci, hpc⟩ := hps.getV hy2
        rw [cuts_get (nsOf_get hgi)] at hci
        have ec := Option.some.inj hci
        subst ec
        have g := hgs _ (List.mem_of_getElem? hgi)
        have a1 := sum_take_succ (nsOf_get hgi)
        have a2 := sum_take_le (nsOf gs) (j + 1)
        have yl : ys2.length ≤ 6 := by rw [RQ.length q3, List.length_take]; omega
        have kk := Same.kt (q4.trans sT)
        have pb := part_bids (kk.sq hpc) (RpAll.mono kk hq3) (z := 20) (by rw [end01_len]; omega) en
        have ud : u.dep ≤ 3 := g.dep
        have uw : u.wt 20 ≤ 9 * 20 + 144 := g.wt 20
        obtain ⟨dx, vu, hr1, rt⟩ := hRi.same (q4.trans sT)
        refine ⟨T, _, rfl, SqT.of upd_same, rfl, _, _, rfl, _, _, rfl, rfl, rfl, ?_⟩
        refine ⟨_, rfl, ri, C, dx, _, _, rfl, hr1, hc, n2, ruleF_term n vu, _, rfl, vu, pc, n, 20, _, u, rfl, rt, g.ok, by decide, by omega, by omega, pb, fun y H8 s8 ry => ?_⟩
        have q1' := s8 _ _ (sT _ _ q1)
        refine ⟨ys2, q1', small1000 (by omega), ys2 ++ [y], upd_same, ?_, Same.mut ((q4.trans sT).trans s8) hD⟩
        rw [take_succ' (valsN_get hgi (cuts_get (nsOf_get hgi)))]
        exact RpAll.mono (KT.updl q1') (RQ.snoc (RpAll.mono (Same.kt (sT.trans s8)) q3) ry)
      rintro H6 ⟨ys2, q1, q3, q4⟩
      rw [List.take_of_length_le (by rw [valsN_len]; exact Nat.le_refl _)] at q3
      refine ⟨D, ys2, rfl, .inl ⟨SqL.of q1, fun pn hpn => ?_⟩⟩
      have sp := same_new (o := .tup ys2) hpn
      have s36 := ((s35.trans s6).trans q4).trans sp
      have s07 := s0.trans s36
      have vo := tells_ok hgs (end01_len _ l) en
      have BN : Bids K (upd H6 pn (.tup ys2)) pn gs.length 324 (valsN gs (end01 (nsOf gs).sum l)) := ⟨ys2, SqT.of upd_same, RpAll.mono (Same.kt sp) q3, valsN_len _ _, vo⟩
      refine ⟨_, rfl, _, rfl, r, pn, gs.length, 20, 324, t, _, rfl, hR.same s07, gt.ok, by decide, by decide, by omega, by omega, g1, hg6, by decide, BN, fun v1 H7 s7 r1 => ?_⟩
      have s08 := s07.trans s7
      refine ⟨_, rfl, r, C, dxr, _, _, rfl, s08 _ _ hrr, hc, n2, ruleF_term gs.length wr, _, rfl, wr, pn, gs.length, 324, _, t, rfl, rtr.mono (Same.kt s08), okw (by decide) gt.ok, by decide, by omega, by omega, BN.mono (Same.kt s7), fun v2 H8 s8 r2 => ?_⟩
      refine ne_qd (r1.mono (Same.kt s8)) r2 ⟨_, rfl, ?_⟩
      obtain ⟨f1, f2⟩ := find_none_take hl hf
      have s38 := (s36.trans s7).trans s8
      cases cc : partGB t gs l with
      | true =>
        unfold partGB at cc
        rw [cc]
        refine iteT ⟨_, rfl, k _ H8 (s0.trans s38) ?_⟩
        have e2 : partG t gs = some l := f1 cc
        rw [e2]
        exact tupI_mono (Same.kt s38) tl
      | false =>
        have f3 := f2 cc
        unfold partGB at cc
        rw [cc]
        exact iteF ⟨_, _, _, _, _, rfl, e.trans s38, f3⟩
    · rintro σ H' ⟨_, _, _, _, _, rfl, e, hf⟩
      rw [lots.length, List.take_length] at hf
      refine k _ H' (s02.trans e) ?_
      have e2 : partG t gs = none := hf
      rw [e2]
      rfl
abbrev n__law_due : List Str := ["_law_term_here", "_law_inners_here", "_law_many", "_law_whole_here", "_law_lot"]
theorem sc__law_due : FnScope ["_law_term_here", "_law_inners_here", "_law_many", "_law_whole_here", "_law_lot"] ["_law_term_here", "_law_inners_here"] (defScope s__law_due) := ⟨rfl, rfl, rfl, by decide +kernel, rfl, by decide +kernel, by decide +kernel⟩
def sp__law_due (K : PySem.W.Frag) : Sp := fun vs H Q _ => ∃ (v : V) (L : Addr) (t : Tm) (gs : List (Nat × Tm)) (m m2 : Bool), vs = [v, .ref L] ∧ Rp K H v t.data ∧ GrD m2 (gs.length, t) ∧ InL K H L gs ∧ gs.length ≤ 6 ∧ (nsOf gs).sum ≤ 6 ∧ (∀ g ∈ gs, GrD m g) ∧
  ∀ x H', Same H H' → OptLot K H' x (partG t gs) → Q x H'
theorem ok__law_due (F : FnD K mg "_law_due" s__law_due) (c__law_whole : Cal P w K mg base 14 "_law_whole" (sp__law_whole K) []) (c__law_lots : Cal P w K mg base 2 "_law_lots" (sp__law_lots K) []) (c__law_nested : Cal P w K mg base 16 "_law_nested" (sp__law_nested K) []) (c__law_at_ends : Cal P w K mg base 1 "_law_at_ends" (sp__law_at_ends K) []) (c__law_corner : Cal P w K mg base 14 "_law_corner" (sp__law_corner K) []) : Cal P w K mg base 17 "_law_due" (sp__law_due K) [] := by
  refine calOf F sc__law_due (fun _ _ _ _ _ _ us hl => match us, hl with | [_, _], _ => rfl) (fun vs H Q E h => ?_) (fun cdv f A outer s H vs Q E hr h => ?_)
  · obtain ⟨_, _, _, _, _, _, rfl, _⟩ := h
    rfl
  · obtain ⟨v, L, t, gs, m, m2, rfl, rt, gt, hI, hg6, hs6, hgs, k⟩ := h
    have gd : t.dep ≤ 3 := gt.dep
    have gw2 : t.wt 20 ≤ 9 * 20 + 144 := gt.wt 20
    have own := own_facts hgs
    have pok : t.Ok (ownT gs).length 20 := by rw [ownT_len]; exact gt.ok
    have sok : (t.sub (ownT gs)).Ok (nsOf gs).sum 20 := sub_ok (fun o ho => (own o ho).1) pok
    have sdep : (t.sub (ownT gs)).dep ≤ 6 := by have := sub_dep (D := 3) (fun o ho => (own o ho).2.1) pok; omega
    have swt : (t.sub (ownT gs)).wt 20 + 20 ≤ 9000 := by
      have a1 := sub_wt (s := 20) (S := 324) (by decide) (fun o ho => (own o ho).2.2.1 20) pok
      have a2 : t.wt 324 ≤ 9 * 324 + 144 := gt.wt 324
      omega
    have tells : ∀ ws, (t.sub (ownT gs)).val ws = t.val (valsN gs ws) := fun ws => by rw [sub_val pok, own_tells hgs]
    refine ⟨_, (pss_cons (ps_asg (pe_c c__law_whole hr (by first | decide | omega) rfl (pa_cons (pv 0) (pa_cons (pv 1) pa_nil))) (pg_tup rfl (pgs_cons (pg_name (i := 2) sc__law_due.nd rfl (Or.inl rfl)) (pgs_cons (pg_name (i := 3) sc__law_due.nd rfl (Or.inl rfl)) pgs_nil))))
    (pss_cons (ps_for PassesOwn.never rfl (pi_list (pe_c c__law_lots hr (by first | decide | omega) rfl (pa_cons (pv 2) pa_nil))) (pg_name (i := 4) sc__law_due.nd rfl (Or.inl rfl)) (pss_one (ps_if (pt_cmpR (op_neD hr.units) (pe_c c__law_nested hr (by first | decide | omega) rfl (pa_cons (pv 0) (pa_cons (pv 1) (pa_cons (pe_c c__law_at_ends hr (by first | decide | omega) rfl (pa_cons (pv 2) (pa_cons (pv 4) pa_nil))) pa_nil)))) (pe_c c__law_corner hr (by first | decide | omega) rfl (pa_cons (pv 2) (pa_cons (pv 3) (pa_cons (pv 4) pa_nil)))) (nomark _)) (pss_one (ps_ret (pv 4))) pss_nil)))
    (pss_one (ps_ret pe_non)))), ?_⟩
    refine ⟨_, rfl, _, rfl, v, L, t, gs, m, rfl, rt, gt.ok, by omega, hI, hg6, hs6, hgs, fun v3 H1 s1 rv => ?_⟩
    obtain ⟨ap, xN, vd, rfl, hap, k1, k2⟩ := rp2 rv
    have ex := k1.intI
    subst ex
    refine ⟨ap, _, rfl, hap, rfl, _, _, rfl, _, _, rfl, rfl, ?_⟩
    refine ⟨_, rfl, (nsOf gs).sum, rfl, hs6, fun pl ys Ls H2 s2 nE hpl lots per by_ => ?_⟩
    have eL := lots_unique hs6 per by_
    subst eL
    have s02 := s1.trans s2
    refine ⟨pl, rfl, ⟨_, SqL.of hpl⟩, ?_⟩
    refine for_list (K := K) (a := pl) (xs := ys) (fun i σ H' => ∃ x4 : Option V, σ = [some v, some (.ref L), some (.int (((nsOf gs).sum : Nat) : Int)), some vd, x4] ∧ Same H2 H' ∧ ((lotsI (nsOf gs).sum).take i).find? (partGB t gs) = none)
      ⟨none, rfl, Same.refl _, by rw [List.take_zero]; rfl⟩ (fun i σ H' _ ⟨_, _, e, _⟩ => e.seq (SqL.of hpl)) ?_ ?_
    · rintro i x σ H' hx ⟨_, rfl, e, hf⟩
      obtain ⟨l, hl, tl⟩ := (lots.mono (Same.kt e)).getV hx
      obtain ⟨tp, rfl, tl'⟩ := id tl
      have tl2 : SqT K H' tp (pV l) := tl'
      have s0 := s02.trans e
      refine ⟨_, rfl, _, rfl, _, rfl, _, rfl, tp, (nsOf gs).sum, l, rfl, hs6, tl2, fun pe H3 s3 hB => ?_⟩
      have s03 := s0.trans s3
      refine ⟨v, L, pe, t, 324, gs, end01 (nsOf gs).sum l, rfl, rt.mono (Same.kt s03), gt.ok, by omega, by omega, hI.same s03, hg6, hs6, grok hgs, by decide, Bids.wide (show Bids K H3 pe (nsOf gs).sum 1 (end01 (nsOf gs).sum l) from hB) (by decide), fun v1 H4 s4 r1 => ?_⟩
      rw [nest_end hgs] at r1
      have s14 := (s2.trans e).trans (s3.trans s4)
      refine ⟨_, rfl, _, rfl, _, rfl, vd, tp, (nsOf gs).sum, 20, t.sub (ownT gs), l, rfl, hs6, (Same.kt (s3.trans s4)).sq tl2, k2.mono (Same.kt s14), sok, by decide, by decide, by omega, swt, fun v2 H5 s5 r2 z2 => ?_⟩
      have r2' : RF K H5 v2 (t.val (valsN gs (end01 (nsOf gs).sum l))) := by rw [← tells]; exact r2
      refine ne_qd (r1.mono (Same.kt s5)) r2' ⟨_, rfl, ?_⟩
      obtain ⟨f1, f2⟩ := find_none_take hl hf
      have s35 := (s3.trans s4).trans s5
      cases cc : partGB t gs l with
      | true =>
        unfold partGB at cc
        rw [cc]
        refine iteT ⟨_, rfl, k _ H5 (s0.trans s35) ?_⟩
        have e2 : partG t gs = some l := f1 cc
        rw [e2]
        exact tupI_mono (Same.kt s35) tl
      | false =>
        have f3 := f2 cc
        unfold partGB at cc
        rw [cc]
        exact iteF ⟨_, rfl, e.trans s35, f3⟩
    · rintro σ H' ⟨_, rfl, e, hf⟩
      rw [lots.length, List.take_length] at hf
      refine k _ H' (s02.trans e) ?_
      have e2 : partG t gs = none := hf
      rw [e2]
      rfl
end
end CB

set_option Elab.async false
set_option linter.all false
set_option maxRecDepth 100000
set_option maxHeartbeats 4000000
namespace CB
open PySem PySem.Spec PyProof.Rows L2
open C8 (Cal Met Mak pe_c pe_mk pe_mt pe_mt0 pe_gc CalAt)
section
variable {P : Program} {w : World} {K : PySem.W.Frag} {mg : Str → Option Value} {base : Heap}
theorem RulesAt.kd {C : Addr} {H H' : Hp} {da : Addr × Addr} (d : Dice H da) (e : KD da.1 H H') : ∀ {rs : List V} {gs : List (Nat × Tm)}, RulesAt K C H rs gs → RulesAt K C H' rs gs
  | _, _, .nil => .nil
  | _, _, .cons h t => .cons (h.kd d e) (RulesAt.kd d e t)
theorem Inn.kd {C : Addr} {H H' : Hp} {a : Addr} {gs : List (Nat × Tm)} {da : Addr × Addr} (h : Inn K C H a gs) (d : Dice H da) (e : KD da.1 H H') : Inn K C H' a gs := by
  obtain ⟨rs, h1, h2⟩ := h
  exact ⟨rs, (d.kt e).sq h1, h2.kd d e⟩
theorem lot_rpG {H : Hp} {x : V} {l : List Nat} (h : TupI K H x (pI l)) : Rp K H x (lotD l) := by
  obtain ⟨a, rfl, ha⟩ := h
  exact lot_rp ha
def optDG : Option (List Nat) → PyData
  | none => .none
  | some l => lotD l
theorem opt_rpG {H : Hp} {x : V} {o : Option (List Nat)} (h : OptLot K H x o) : Rp K H x (optDG o) := by
  cases o with
  | none => have e : x = .non := h; subst e; exact .non
  | some l => exact lot_rpG h
theorem neOpt {H : Hp} {x y : V} {o : Option (List Nat)} {Q : VK} (h1 : OptLot K H x o) (h2 : OptLot K H y o) (k : Q (.bl false) H) : rNeD K x y H Q := by
  have lay : (optDG o).canLay0 = true ∧ (optDG o).depth ≤ 20 := by
    cases o with
    | none => exact ⟨rfl, by decide⟩
    | some l => exact ⟨lotD_lay l, Nat.le_trans (lotD_depth l) (by decide)⟩
  refine ⟨optDG o, optDG o, (opt_rpG h1).dp, (opt_rpG h2).dp, shaped_of lay.1 lay.2, shaped_of lay.1 lay.2, ?_⟩
  rw [SeqAt.eqv_refl _ lay.1]
  exact k
theorem neBool {H : Hp} {b : Bool} {Q : VK} (k : Q (.bl false) H) : rNeD K (.bl b) (.bl b) H Q := by
  refine ⟨.bool b, .bool b, (Rp.bl b).dp, (Rp.bl b).dp, rfl, rfl, ?_⟩
  rw [SeqAt.eqv_refl _ rfl]
  exact k
abbrev n_law : List Str := ["_law_script", "_law_dice_here", "_law_turn", "_law_outer", "_law_term_here", "_law_inners_here", "_law_more", "_law_rule", "_law_rules", "_law_due_here", "_law_told", "_law_whole_here", "_law_wishes", "_law_step", "_law_person", "_law_k", "_law_many", "_law_inner"]
theorem sc_law : FnScope ["_law_script", "_law_dice_here", "_law_turn", "_law_outer", "_law_term_here", "_law_inners_here", "_law_more", "_law_rule", "_law_rules", "_law_due_here", "_law_told", "_law_whole_here", "_law_wishes", "_law_step", "_law_person", "_law_k", "_law_many", "_law_inner"] ["_law_script"] (defScope s_law) := ⟨rfl, rfl, rfl, by decide +kernel, rfl, by decide +kernel, by decide +kernel⟩
theorem ok_law {C fa : Addr} {fd : FuncData} (F : FunD K "law" "law" (defArgs s_law) (defBody s_law) (defScope s_law) [] [] fa fd) (hc : Cls K C) (n1 : NoAttr K C "people") (c__law_dice : Cal P w K mg base 1 "_law_dice" (sp__law_dice K) []) (c__law_draw : Cal P w K mg base 1 "_law_draw" sp__law_draw []) (c_Rule : Mak P w K mg base 6 "Rule" C (sp_Rule K C) []) (c__law_term_n_t : Cal P w K mg base 8 "_law_term" (spTE K 4) []) (c__law_inners : Cal P w K mg base 9 "_law_inners" (sp__law_inners K) []) (c__law_due : Cal P w K mg base 17 "_law_due" (sp__law_due K) []) (c_groups_parting : Cal P w K mg base 68 "groups_parting" (sp_groups_parting K C) []) (c_composed : Cal P w K mg base 64 "composed" (sp_composed K C) []) (c__law_at_ends : Cal P w K mg base 1 "_law_at_ends" (sp__law_at_ends K) []) (c__law_numbers : Cal P w K mg base 3 "_law_numbers" (sp__law_numbers K) [])
    (c_groups_first : Cal P w K mg base 18 "groups_first" (sp_groups_first K C) []) (c_outcome : Cal P w K mg base 18 "outcome" (sp_outcome_of K C) []) (T_range : mg "range" = none) (T_int : mg "int" = none) (T_tuple : mg "tuple" = none) (T_isinstance : mg "isinstance" = none) : FnOk P w K mg base C8.CX0 72 fa fd ["_law_script"] (sp_law K) := by
  refine fnOkOf F sc_law (fun vs H Q E h => ?_) (fun cdv f A outer s H vs Q E hr h => ?_)
  · obtain ⟨_, _, rfl, _⟩ := h
    rfl
  · obtain ⟨a0, ns, rfl, hS, k⟩ := h
    have c__law_term := c__law_term_n_t
    refine ⟨_, (pss_cons (ps_set (i := 1) sc_law.nd rfl (Or.inr rfl) (pe_c c__law_dice hr (by first | decide | omega) rfl (pa_cons (pv 0) pa_nil)))
    (pss_cons (ps_for PassesOwn.never rfl (pi_range1 (by rfl) T_range (pa_cons pe_int pa_nil)) (pg_name (i := 2) sc_law.nd rfl (Or.inl rfl)) (pss_cons (ps_set (i := 3) sc_law.nd rfl (Or.inl rfl) (pe_op op_add pe_int (pe_c c__law_draw hr (by first | decide | omega) rfl (pa_cons (pv 1) (pa_cons pe_int pa_nil)))))
    (pss_cons (ps_set (i := 4) sc_law.nd rfl (Or.inl rfl) (pe_c c__law_term hr (by first | decide | omega) rfl (pa_cons (pv 1) (pa_cons (pv 3) (pa_cons (pe_op op_add pe_int (pe_c c__law_draw hr (by first | decide | omega) rfl (pa_cons (pv 1) (pa_cons pe_int pa_nil)))) (pa_cons pe_bl pa_nil))))))
    (pss_cons (ps_if (pt_cmpR op_eq (pe_c c__law_draw hr (by first | decide | omega) rfl (pa_cons (pv 1) (pa_cons pe_int pa_nil))) pe_int (nomark _)) (pss_one (ps_set (i := 4) sc_law.nd rfl (Or.inl rfl) (pe_tup (pa_cons pe_str (pa_cons (pe_callTy call_tuple_of (by rfl) T_tuple (by decide +kernel) (pa_cons (pe_lc (own := [("_law_person", 14)]) (by rfl) sc_law.nd (pi_range1 (by rfl) T_range (pa_cons (pv 3) pa_nil)) (blkOk_by (own := [("_law_person", 14)]) (N := ["_law_script", "_law_dice_here", "_law_turn", "_law_outer", "_law_term_here", "_law_inners_here", "_law_more", "_law_rule", "_law_rules", "_law_due_here", "_law_told", "_law_whole_here", "_law_wishes", "_law_step", "_law_person", "_law_k", "_law_many", "_law_inner"]) (sc := defScope s_law) (by decide +kernel)) (fun _ _ _ _ _ => (pg_name (i := 14) sc_law.nd rfl (Or.inl rfl))) (fun _ _ _ _ _ => pts_nil) (fun _ _ _ _ _ => (pe_tup (pa_cons (pe_op op_add pe_int (pe_c c__law_draw hr (by first | decide | omega) rfl (pa_cons (pv 1) (pa_cons pe_int pa_nil)))) (pa_cons (pe_tup (pa_cons pe_str (pa_cons (pv 14) pa_nil))) pa_nil))))) pa_nil)) pa_nil))))) pss_nil)
    (pss_cons (ps_set (i := 5) sc_law.nd rfl (Or.inl rfl) (pe_c c__law_inners hr (by first | decide | omega) rfl (pa_cons (pv 1) (pa_cons (pv 3) (pa_cons (pe_op op_add pe_int (pe_c c__law_draw hr (by first | decide | omega) rfl (pa_cons (pv 1) (pa_cons pe_int pa_nil)))) pa_nil)))))
    (pss_cons (ps_if (pt_cmpR op_eq (pe_c c__law_draw hr (by first | decide | omega) rfl (pa_cons (pv 1) (pa_cons pe_int pa_nil))) pe_int (nomark _)) (pss_cons (ps_setLc (i := 5) (own := [("_law_k", 15)]) (by rfl) sc_law.nd rfl rfl (sw_true rfl rfl rfl (by decide +kernel)) (pi_range1 (by rfl) T_range (pa_cons (pv 3) pa_nil)) (blkOk_by (own := [("_law_k", 15)]) (N := ["_law_script", "_law_dice_here", "_law_turn", "_law_outer", "_law_term_here", "_law_inners_here", "_law_more", "_law_rule", "_law_rules", "_law_due_here", "_law_told", "_law_whole_here", "_law_wishes", "_law_step", "_law_person", "_law_k", "_law_many", "_law_inner"]) (sc := defScope s_law) (by decide +kernel)) (fun _ _ _ _ _ => (pg_name (i := 15) sc_law.nd rfl (Or.inl rfl))) (fun _ _ _ _ _ => pts_nil) (fun _ _ _ _ _ => (pe_tup (pa_cons (pe_op op_add pe_int (pe_callTy call_int1 (by rfl) T_int (by decide +kernel) (pa_cons (pe_cmpR op_eq (pv 15) pe_int (nomark _)) pa_nil))) (pa_cons (pe_c c__law_term hr (by first | decide | omega) rfl (pa_cons (pv 1) (pa_cons (pe_op op_add pe_int (pe_callTy call_int1 (by rfl) T_int (by decide +kernel) (pa_cons (pe_cmpR op_eq (pv 15) pe_int (nomark _)) pa_nil))) (pa_cons pe_int (pa_cons pe_bl pa_nil))))) pa_nil)))))
    (pss_cons (ps_set (i := 6) sc_law.nd rfl (Or.inl rfl) (pe_op op_add (pe_op op_sub pe_int (pv 3)) (pe_c c__law_draw hr (by first | decide | omega) rfl (pa_cons (pv 1) (pa_cons pe_int pa_nil)))))
    (pss_one (ps_asg (pe_tup (pa_cons (pe_op op_add pe_int (pv 6)) (pa_cons (pe_c c__law_term hr (by first | decide | omega) rfl (pa_cons (pv 1) (pa_cons (pe_op op_add pe_int (pv 6)) (pa_cons pe_int (pa_cons pe_bl pa_nil))))) pa_nil))) (pg_sub (pv 5) pe_int set_list))))) pss_nil)
    (pss_cons (ps_set (i := 7) sc_law.nd rfl (Or.inl rfl) (pe_mk c_Rule hr (by first | decide | omega) rfl (pa_cons (pv 3) (pa_cons (pv 4) pa_nil))))
    (pss_cons (ps_set (i := 8) sc_law.nd rfl (Or.inl rfl) (pe_callTy call_tuple_of (by rfl) T_tuple (by decide +kernel) (pa_cons (pe_lc (own := [("_law_many", 16), ("_law_inner", 17)]) (g := (gTup K 2 (gCons (gName 16) (gCons (gName 17) gNil)))) (te := tMake C (sp_Rule K C) [] C8.E0 (tCons (tVar 16) (tCons (tVar 17) tNil))) (by rfl) sc_law.nd (pi_list (pv 5)) (blkOk_by (own := [("_law_many", 16), ("_law_inner", 17)]) (N := ["_law_script", "_law_dice_here", "_law_turn", "_law_outer", "_law_term_here", "_law_inners_here", "_law_more", "_law_rule", "_law_rules", "_law_due_here", "_law_told", "_law_whole_here", "_law_wishes", "_law_step", "_law_person", "_law_k", "_law_many", "_law_inner"]) (sc := defScope s_law) (by decide +kernel)) (fun _ _ _ _ _ => (pg_tup rfl (pgs_cons (pg_name (i := 16) sc_law.nd rfl (Or.inl rfl)) (pgs_cons (pg_name (i := 17) sc_law.nd rfl (Or.inl rfl)) pgs_nil)))) (fun _ _ _ _ _ => pts_nil) (fun _ _ _ _ _ => (pe_mk c_Rule hr (by first | decide | omega) rfl (pa_cons (pv 16) (pa_cons (pv 17) pa_nil))))) pa_nil)))
    (pss_cons (ps_set (i := 9) sc_law.nd rfl (Or.inl rfl) (pe_c c__law_due hr (by first | decide | omega) rfl (pa_cons (pv 4) (pa_cons (pv 5) pa_nil))))
    (pss_cons (ps_set (i := 10) sc_law.nd rfl (Or.inl rfl) (pe_c c_groups_parting hr (by first | decide | omega) rfl (pa_cons (pv 7) (pa_cons (pv 8) pa_nil))))
    (pss_cons (ps_if (PW.pt (pw_or (pt_cmpR (op_neD hr.units) (pv 10) (pv 9) (nomark _)) (pw_or1 (pt_cmpR (op_neD hr.units) (pe_callB call_isi (by rfl) T_isinstance (by decide +kernel) (pa_cons (pv 10) (pa_cons (pe_ty (n := "tuple") (by rfl) T_tuple (by decide +kernel)) pa_nil))) (pe_callB call_isi (by rfl) T_isinstance (by decide +kernel) (pa_cons (pv 9) (pa_cons (pe_ty (n := "tuple") (by rfl) T_tuple (by decide +kernel)) pa_nil))) (nomark _))))) (pss_one (ps_ret pe_bl)) pss_nil)
    (pss_cons (ps_set (i := 11) sc_law.nd rfl (Or.inl rfl) (pe_c c_composed hr (by first | decide | omega) rfl (pa_cons (pv 7) (pa_cons (pv 8) pa_nil))))
    (pss_one (ps_if (pt_cmpR op_notN (pv 9) pe_non (nomark _)) (pss_cons (ps_set (i := 12) sc_law.nd rfl (Or.inl rfl) (pe_c c__law_at_ends hr (by first | decide | omega) rfl (pa_cons (pe_fld (pv 11) rfl) (pa_cons (pv 9) pa_nil))))
    (pss_one (ps_if (pt_cmpR (op_eqD hr.units) (pe_c c_groups_first hr (by first | decide | omega) rfl (pa_cons (pv 7) (pa_cons (pv 8) (pa_cons (pv 12) pa_nil)))) (pe_c c_outcome hr (by first | decide | omega) rfl (pa_cons (pv 11) (pa_cons (pv 12) pa_nil))) (nomark _)) (pss_one (ps_ret pe_bl)) pss_nil))) (pss_one (ps_for PassesOwn.never rfl (pi_range1 (by rfl) T_range (pa_cons pe_int pa_nil)) (pg_name (i := 13) sc_law.nd rfl (Or.inl rfl)) (pss_cons (ps_set (i := 12) sc_law.nd rfl (Or.inl rfl) (pe_c c__law_numbers hr (by first | decide | omega) rfl (pa_cons (pv 1) (pa_cons (pe_fld (pv 11) rfl) pa_nil))))
    (pss_one (ps_if (pt_cmpR (op_neD hr.units) (pe_c c_groups_first hr (by first | decide | omega) rfl (pa_cons (pv 7) (pa_cons (pv 8) (pa_cons (pv 12) pa_nil)))) (pe_c c_outcome hr (by first | decide | omega) rfl (pa_cons (pv 11) (pa_cons (pv 12) pa_nil))) (nomark _)) (pss_one (ps_ret pe_bl)) pss_nil)))))))))))))))))))
    (pss_one (ps_ret pe_bl)))), ?_⟩
    refine ⟨_, rfl, a0, ns, rfl, hS, fun da H1 _ s1 d1 => ?_⟩
    refine ⟨2, rfl, by decide, by decide, ?_⟩
    refine for_range (lo := 0) (n := (2 : Int).toNat) (fun i σ H' => ∃ x2 x3 x4 x5 x6 x7 x8 x9 xa xb xc xd xe xf xg xh : Option V, σ = [some (.ref a0), some (.ref da.1), x2, x3, x4, x5, x6, x7, x8, x9, xa, xb, xc, xd, xe, xf, xg, xh] ∧ Dice H' da)
      ⟨none, none, none, none, none, none, none, none, none, none, none, none, none, none, none, none, rfl, d1⟩ ?_ ?_
    · rintro i σ H2 hi ⟨y2, y3, y4, y5, y6, y7, y8, y9, ya, yb, yc, yd, ye, yf, yg, yh, rfl, d2⟩
      refine ⟨_, rfl, da, 3, rfl, d2, by decide, by decide, fun r H3 r0 r1 d3 e3 => ⟨_, _, rfl, rfl, ?_⟩⟩
      obtain ⟨o, ho, o1, o3⟩ : ∃ o : Nat, 1 + r = (o : Int) ∧ 1 ≤ o ∧ o ≤ 3 := ⟨(1 + r).toNat, by omega, by omega, by omega⟩
      change gName 3 (.int (1 + r)) _ _ _
      rw [ho]
      refine ⟨_, rfl, _, rfl, _, rfl, da, 3, rfl, d3, by decide, by decide, fun z H4 z0 z1 d4 e4 => ⟨_, _, rfl, rfl, ?_⟩⟩
      obtain ⟨y, hy⟩ : ∃ y : Nat, z = (y : Int) := ⟨z.toNat, (Int.toNat_of_nonneg z0).symm⟩
      subst hy
      have eZ : (1 : Int) + (y : Int) = (y : Int) + 1 := by omega
      have tq : ∀ {Q : VK}, (∀ v t H', Rp K H' v t.data → GrD true (o, t) → Dice H' da → KD da.1 H4 H' → Q v H') → spTE K 4 [.ref da.1, .int (o : Int), .int (1 + (y : Int)), .bl true] H4 Q C8.E0 := fun h => by
        rw [eZ]
        exact term_dr d4 (by omega) (by omega) (by omega) h
      refine tq fun v t H5 rt gt d5 e5 => ?_
      refine ⟨_, rfl, da, 2, rfl, d5, by decide, by decide, fun u H6 u0 u1 d6 e6 => ⟨rfl, _, rfl, ?_⟩⟩
      have rt5 := rt.mono (d5.kt e6)
      clear d2 d3 d4 d5 e3 e4 e5 e6 rt tq s1 d1 hS
      refine (?f1 : (∀ (v : V) (t : Tm) H', Rp K H' v t.data → GrD true (o, t) → Dice H' da → (?R1 : V → Tm → Hp → Prop) v t H') → _) ?rest1
      case f1 =>
        intro rest
        refine ite2 (fun _ => ?m1) (fun _ => ?m2)
        case m1 =>
          refine ⟨_, rfl, _, rfl, by omega, by omega, fun D hD => ?_⟩
          have nD := d6.ne hD
          refine lc_range (lo := 0) (n := ((o : Nat) : Int).toNat) (fun i H' => ∃ (ys : List V) (ws : List Int), H' D = some (.lst ys) ∧ ws.length = i ∧ RpAll K H' ys (meanD ws (Tm.datas (bidsOf i))) ∧ (∀ w ∈ ws, 1 ≤ w ∧ w ≤ 3) ∧ Dice H' da)
            ⟨[], [], upd_same, rfl, .nil, by simp, d6.same (same_new hD)⟩ ?_ ?_
          · rintro i H' hi ⟨ys, ws, h1, h2, h3, h4, h5⟩
            refine ⟨rfl, _, rfl, da, 3, rfl, h5, by decide, by decide, fun z H5 z0 z1 d5 e5 => ⟨_, _, rfl, rfl, _, rfl, (by show 2 ≤ sizeLine; decide), fun p hp => ⟨(by show 2 ≤ sizeLine; decide), fun q hq => ?_⟩⟩⟩
            have ez : (0 : Int) + ((i : Nat) : Int) = ((i : Nat) : Int) := Int.zero_add _
            have s6 := same_new (o := .tup [.str "bid", .int (0 + ((i : Nat) : Int))]) hp
            have s7 := same_new (o := .tup [.int (1 + z), .ref p]) hq
            have hD5 := e5 D _ nD.1 h1
            have hD7 := (s6.trans s7) _ _ hD5
            have yl : ys.length ≤ 6 := by
              rw [h3.length]
              unfold meanD
              rw [List.length_zipWith, h2]
              omega
            refine ⟨ys, hD7, small1000 (by omega), ys ++ [.ref q], ws ++ [1 + z], upd_same, by simp [h2], ?_, ?_, (d5.same (s6.trans s7)).upd nD⟩
            · refine RpAll.mono (KT.updl hD7) ?_
              have eb : bidsOf (i + 1) = bidsOf i ++ [.bid i] := by simp [bidsOf, List.range_succ]
              have em : meanD (ws ++ [1 + z]) (Tm.datas (bidsOf (i + 1))) = meanD ws (Tm.datas (bidsOf i)) ++ [.tuple [.int (1 + z), (Tm.bid i).data]] := by
                rw [eb, datas_map, datas_map, List.map_append]
                unfold meanD
                rw [List.zipWith_append]
                · rfl
                · rw [List.length_map, bidsOf_length, h2]
              rw [em]
              refine RpAll.append (RpAll.mono ((h5.kt e5).trans (Same.kt (s6.trans s7))) h3) (.cons (.tup (SqT.of upd_same) (.cons (.int _) (.cons ?_ .nil))) .nil)
              rw [ez] at s7 ⊢
              exact .tup (SqT.of (by rw [upd_ne (ne_of_none upd_same hq)]; exact upd_same)) (.cons (.str _) (.cons (.int _) .nil))
            · intro w hw
              rcases List.mem_append.mp hw with h | h
              · exact h4 w h
              · rw [List.mem_singleton.mp h]
                omega
          · rintro H5 ⟨ys, ws, h1, h2, h3, h4, d5⟩
            rw [Int.toNat_natCast] at h2 h3
            refine ⟨D, ys, rfl, .inl ⟨SqL.of h1, fun l hl => ⟨(by show 2 ≤ sizeLine; decide), fun p2 hp2 => ?_⟩⟩⟩
            have s6 := same_new (o := .tup ys) hl
            have s8 := same_new (o := .tup [.str "mean", .ref l]) hp2
            have cs : ∃ tm : Tm, Rp K (upd (upd H5 l (.tup ys)) p2 (.tup [.str "mean", .ref l])) (.ref p2) tm.data ∧ GrD true (o, tm) ∧ Dice (upd (upd H5 l (.tup ys)) p2 (.tup [.str "mean", .ref l])) da := by
              have bd := bids_dep o
              have bc := bids_cnt o
              have si := sum_bd h4
              refine ⟨.mean ws (bidsOf o), .tup (SqT.of upd_same) (.cons (.str _) (.cons (.tup ((Same.kt s8).sq (SqT.of upd_same)) (RpAll.mono (Same.kt (s6.trans s8)) h3)) .nil)), ⟨⟨by rw [h2, bidsOf_length], (by intro e; have := bidsOf_length o; rw [e] at this; simp at this; omega), by rw [bidsOf_length]; omega, fun w h => ⟨(h4 w h).1, by have := (h4 w h).2; omega⟩, oks_bids (Nat.le_refl o)⟩, o1, by show o ≤ 6; omega, by show Tm.deps (bidsOf o) + 1 ≤ 3; omega, by show Tm.cnts (bidsOf o) + 1 ≤ 13; omega, fun s => ?_, ⟨(sum_dvd (by omega) (by omega)).1, (sum_dvd (by omega) (by omega)).2, (dvs_iff _ _ _).mpr fun u hu => by
                obtain ⟨p, hp, rfl⟩ := List.mem_map.mp hu
                exact trivial⟩, fun e => by cases e⟩, d5.same (s6.trans s8)⟩
              have bw := bids_wt o s
              have bw2 : o * (s + 8) ≤ 3 * (s + 8) := Nat.mul_le_mul_right _ o3
              show Tm.wts s (bidsOf o) + 12 ≤ 9 * s + 144
              omega
            revert cs
            generalize upd (upd H5 l (.tup ys)) p2 (.tup [.str "mean", .ref l]) = HZ
            generalize V.ref p2 = vz
            rintro ⟨tm, c1, c2, c3⟩
            exact rest vz tm HZ c1 c2 c3
        case m2 =>
          exact rest v t H6 rt5 gt d6
      case rest1 =>
        clear rt5 gt d6 u0 u1 t
        intro v t H7 rt gt d7
        refine ⟨_, rfl, _, rfl, _, rfl, da, 2, rfl, d7, by decide, by decide, fun z H8 z0 z1 d8 e8 => ⟨_, _, rfl, rfl, ?_⟩⟩
        obtain ⟨c, hc2⟩ : ∃ c : Nat, z = (c : Int) := ⟨z.toNat, (Int.toNat_of_nonneg z0).symm⟩
        subst hc2
        have e3c : (3 : Int) + (c : Int) = ((3 + c : Nat) : Int) := by omega
        refine ⟨da, o, 3 + c, congrArg (fun x => [V.ref da.1, V.int (o : Int), V.int x]) e3c, d8, by omega, by omega, fun L gs H9 gl gsum gg gI nL d9 e9 => ?_⟩
        refine ⟨_, rfl, da, 12, rfl, d9, by decide, by decide, fun u HA u0 u1 dA eA => ⟨rfl, _, rfl, ?_⟩⟩
        have rA := rt.mono ((d7.kt e8).trans ((d8.kt e9).trans (d9.kt eA)))
        have IA := gI.kd d9 eA nL
        have gs6 : (nsOf gs).sum ≤ 6 := by omega
        clear d7 d8 d9 e8 e9 eA rt gI gsum z1 e3c z0
        refine (?f2 : (∀ (L : Addr) (gs : List (Nat × Tm)) (x6 : Option V) H', gs.length = o → (nsOf gs).sum ≤ 6 → (∀ g ∈ gs, GrD true g) → InL K H' L gs → Rp K H' v t.data → Dice H' da → (?R2 : Addr → List (Nat × Tm) → Option V → Hp → Prop) L gs x6 H') → _) ?rest2
        case f2 =>
          intro rest
          refine ite2 (fun _ => ?m1) (fun _ => ?m2)
          case m1 =>
            refine ⟨_, rfl, _, rfl, by omega, by omega, fun D hD => ?_⟩
            have nD := dA.ne hD
            refine lc_range (lo := 0) (n := ((o : Nat) : Int).toNat) (fun i H' => ∃ (gs : List (Nat × Tm)), InL K H' D gs ∧ gs.length = i ∧ (nsOf gs.tail).sum ≤ i - 1 ∧ (∀ g ∈ gs, GrD true g) ∧ Dice H' da ∧ KD da.1 HA H')
              ⟨[], ⟨[], upd_same, .nil⟩, rfl, Nat.le_refl _, by simp, dA.same (same_new hD), Same.kd (same_new hD)⟩ ?_ ?_
            · rintro i H' hi ⟨gs, h1, h2, h3, h4, h5, h6⟩
              obtain ⟨nk, hk, nk1, nk6, nk0⟩ : ∃ nk : Nat, (1 : Int) + (if decide (V.int (0 + ((i : Nat) : Int)) = V.int 0) = true then 1 else 0) = (nk : Int) ∧ 1 ≤ nk ∧ nk ≤ 6 ∧ (i ≠ 0 → nk = 1) := by
                by_cases c : i = 0
                · refine ⟨2, ?_, by decide, by decide, fun h => absurd c h⟩
                  rw [decide_eq_true (by rw [c]; rfl)]
                  rfl
                · refine ⟨1, ?_, by decide, by decide, fun _ => rfl⟩
                  rw [decide_eq_false (fun e => by injection e with e; omega)]
                  rfl
              have tq2 : ∀ {Q : VK}, (∀ v t H3, Rp K H3 v t.data → GrD true (nk, t) → Dice H3 da → KD da.1 H' H3 → Q v H3) → spTE K 4 [.ref da.1, .int (1 + (if decide (V.int (0 + ((i : Nat) : Int)) = V.int 0) = true then 1 else 0)), .int 2, .bl true] H' Q C8.E0 := fun h => by
                rw [hk]
                exact term_dr (n := nk) (d := 1) (m := true) h5 nk1 nk6 (by decide) h
              refine ⟨rfl, _, rfl, rfl, .inr ⟨_, rfl, _, _, rfl, rfl, _, rfl, _, rfl, rfl, .inr ⟨_, rfl, _, _, rfl, rfl, tq2 fun x t3 H3 rt3 gt3 d3 e3 => ⟨(by show 2 ≤ sizeLine; decide), fun p hp => ?_⟩⟩⟩⟩
              obtain ⟨ps, p1, p2⟩ := h1
              have sp := same_new (o := .tup [.int (1 + (if decide (V.int (0 + ((i : Nat) : Int)) = V.int 0) = true then 1 else 0)), x]) hp
              have hD4 := sp _ _ (e3 _ _ nD.1 p1)
              refine ⟨ps, hD4, small1000 (by rw [p2.length, List.length_map]; omega), gs ++ [(nk, t3)], ⟨_, upd_same, ?_⟩, by simp [h2], ?_, ?_, (d3.same sp).upd nD, ((h6.trans e3).trans (Same.kd sp)).mut hD⟩
              · rw [List.map_append]
                refine RpAll.mono (KT.updl hD4) (RpAll.append (RpAll.mono ((h5.kt e3).trans (Same.kt sp)) p2) (.cons (.tup (SqT.of upd_same) (.cons ?_ (.cons (rt3.mono (Same.kt sp)) .nil))) .nil))
                rw [hk]
                exact .int _
              · cases gs with
                | nil => exact Nat.zero_le _
                | cons g gs =>
                  have i0 : i ≠ 0 := by rw [List.length_cons] at h2; omega
                  rw [nk0 i0]
                  show (nsOf (gs ++ [(1, t3)])).sum ≤ _
                  have h3' : (nsOf gs).sum ≤ i - 1 := h3
                  unfold nsOf at h3' ⊢
                  rw [List.map_append, List.sum_append]
                  show (gs.map Prod.fst).sum + (1 + 0) ≤ _
                  omega
              · intro g hg
                rcases List.mem_append.mp hg with h | h
                · exact h4 g h
                · rw [List.mem_singleton.mp h]; exact gt3
            · rintro HB ⟨gs, h1, h2, h3, h4, dB, eB⟩
              rw [Int.toNat_natCast] at h2 h3
              refine ⟨_, rfl, _, _, rfl, rfl, _, rfl, da, 2, rfl, dB, by decide, by decide, fun z HC z0 z1 dC eC => ⟨_, _, rfl, rfl, ?_⟩⟩
              obtain ⟨m, hm, m4, mo⟩ : ∃ m : Nat, 4 - (o : Int) + z = (m : Int) ∧ m ≤ 4 ∧ m + o ≤ 5 := ⟨(4 - (o : Int) + z).toNat, by omega, by omega, by omega⟩
              change gName 6 (.int (4 - (o : Int) + z)) _ _ _
              rw [hm]
              have e2m : (2 : Int) + (m : Int) = ((2 + m : Nat) : Int) := by omega
              have tq3 : ∀ {Q : VK}, (∀ v t H3, Rp K H3 v t.data → GrD true (2 + m, t) → Dice H3 da → KD da.1 HC H3 → Q v H3) → spTE K 4 [.ref da.1, .int (2 + (m : Int)), .int 2, .bl true] HC Q C8.E0 := fun h => by
                rw [e2m]
                exact term_dr (n := 2 + m) (d := 1) (m := true) dC (by omega) (by omega) (by decide) h
              refine ⟨_, rfl, _, _, rfl, rfl, _, rfl, _, rfl, _, _, rfl, rfl, tq3 fun x t3 H3 rt3 gt3 d3 e3 => ⟨(by show 2 ≤ sizeLine; decide), fun p hp => ?_⟩⟩
              obtain ⟨ps, p1, p2⟩ := h1
              have sp := same_new (o := .tup [.int (2 + (m : Int)), x]) hp
              have hD4 := sp _ _ ((eC.trans e3) _ _ nD.1 p1)
              have kB3 := (dB.kt eC).trans ((dC.kt e3).trans (Same.kt sp))
              cases gs with
              | nil => exact absurd h2 (by show ¬ 0 = o; omega)
              | cons g0 gr =>
              rw [List.map_cons] at p2
              cases p2 with
              | @cons x0 xs _ _ q0 qr =>
              refine ⟨_, rfl, D, x0 :: xs, 0, 0, rfl, rfl, hD4, (by unfold ixN; rw [if_pos (by decide), if_pos (by rw [List.length_cons]; omega)]; rfl), ?_⟩
              have cs : ∃ gz : List (Nat × Tm), gz.length = o ∧ (nsOf gz).sum ≤ 6 ∧ (∀ g ∈ gz, GrD true g) ∧ InL K (upd (upd H3 p (.tup [.int (2 + (m : Int)), x])) D (.lst ((x0 :: xs).set 0 (.ref p)))) D gz ∧ Rp K (upd (upd H3 p (.tup [.int (2 + (m : Int)), x])) D (.lst ((x0 :: xs).set 0 (.ref p)))) v t.data ∧ Dice (upd (upd H3 p (.tup [.int (2 + (m : Int)), x])) D (.lst ((x0 :: xs).set 0 (.ref p)))) da := by
                refine ⟨(2 + m, t3) :: gr, h2, ?_, ?_, ⟨_, upd_same, ?_⟩, ?_, (d3.same sp).upd nD⟩
                · have h3' : (nsOf gr).sum ≤ o - 1 := h3
                  show 2 + m + (nsOf gr).sum ≤ 6
                  omega
                · intro g hg
                  rcases List.mem_cons.mp hg with h | h
                  · rw [h]; exact gt3
                  · exact h4 g (List.mem_cons_of_mem _ h)
                · refine .cons (.tup ((KT.updl hD4).sq (SqT.of upd_same)) (.cons ?_ (.cons (rt3.mono ((Same.kt sp).trans (KT.updl hD4))) .nil))) (RpAll.mono (kB3.trans (KT.updl hD4)) qr)
                  rw [e2m]
                  exact .int _
                · exact rA.mono ((dA.kt eB).trans (kB3.trans (KT.updl hD4)))
              revert cs
              generalize upd (upd H3 p (.tup [.int (2 + (m : Int)), x])) D (.lst ((x0 :: xs).set 0 (.ref p))) = HZ
              generalize some (V.int (m : Int)) = x6
              rintro ⟨gz, c1, c2, c3, c4, c5, c6⟩
              exact rest D gz x6 HZ c1 c2 c3 c4 c5 c6
          case m2 =>
            exact rest L gs y6 HA gl gs6 gg IA rA dA
        case rest2 =>
          clear IA rA dA gs6 gg gl u0 u1
          intro L gs x6 H6 gl gsum gg gI r6 d6
          subst gl
          have gd : t.dep ≤ 3 := gt.dep
          have gc : t.cnt ≤ 13 := gt.cnt
          have o6 : gs.length ≤ 6 := by omega
          refine ⟨_, rfl, _, rfl, fun rr dx nx ndx nex => mk_rule (n := gs.length) (t := t) nx ndx nex r6 gt.ok (by omega) (by omega) o1 o6 fun H7 s7 R7 => ?_⟩
          obtain ⟨ps, hp1, hp2⟩ := gI.same s7
          have I7 := gI.same s7
          have r7 := r6.mono (Same.kt s7)
          have d7 := d6.same s7
          have pl : ps.length = gs.length := by rw [hp2.length, List.length_map]
          refine ⟨_, rfl, L, rfl, ⟨_, SqL.of hp1⟩, fun D hD => ?_⟩
          refine it_list (K := K) (a := L) (xs := ps) (fun i H' => ∃ zs : List V, H' D = some (.lst zs) ∧ RulesAt K C H' zs (gs.take i) ∧ Same H7 H')
            ⟨[], upd_same, by rw [List.take_zero]; exact .nil, same_new hD⟩ (fun i H' ⟨_, _, _, s5⟩ => s5.seq (SqL.of hp1)) ?_ ?_
          · rintro j x H1 hx ⟨zs, g1, g2, g3⟩
            have il := (List.getElem?_eq_some_iff.mp hx).1
            obtain ⟨⟨n, u⟩, hgi⟩ : ∃ g, gs[j]? = some g := ⟨_, List.getElem?_eq_getElem (by omega)⟩
            obtain ⟨d, hd, rd⟩ := RpAll.getV hp2 hx
            rw [List.getElem?_map, hgi] at hd
            have ed := Option.some.inj hd
            subst ed
            obtain ⟨p, u0, y, rfl, hp, r1, r2⟩ := rp2 rd
            have eu := r1.intI
            subst eu
            have g := gg _ (List.mem_of_getElem? hgi)
            have zl : zs.length ≤ 6 := by rw [g2.length, List.length_take]; omega
            have gc : u.cnt ≤ 13 := g.cnt
            have gd : u.dep ≤ 3 := g.dep
            refine ⟨p, _, rfl, (Same.kt g3).sq hp, rfl, _, _, rfl, _, _, rfl, rfl, rfl, ?_⟩
            refine ⟨_, rfl, _, rfl, fun rr dx nx ndx nex => mk_rule (n := n) (t := u) nx ndx nex (r2.mono (Same.kt g3)) g.ok (by omega) (by omega) g.one g.six fun H6 s6 R6 => ?_⟩
            have g1' := s6 _ _ g1
            refine ⟨zs, g1', small1000 (by omega), zs ++ [.ref rr], upd_same, ?_, Same.mut (g3.trans s6) hD⟩
            rw [take_succ' hgi]
            exact RulesAt.updl g1' (RulesAt.snoc (g2.same s6) R6)
          rintro H8 ⟨zs, g1, g2, g3⟩
          rw [pl, List.take_length] at g2
          refine ⟨D, zs, rfl, .inl ⟨SqL.of g1, fun a ha => ?_⟩⟩
          have sa := same_new (o := .tup zs) ha
          have s8 := g3.trans sa
          have In9 : Inn K C (upd H8 a (.tup zs)) a gs := ⟨zs, SqT.of upd_same, g2.same sa⟩
          have R9 := R7.same s8
          have I9 := I7.same s8
          have r9 := r7.mono (Same.kt s8)
          have d9 := d7.same s8
          change gName 8 _ _ (upd H8 a (.tup zs)) _
          generalize upd H8 a (.tup zs) = H9 at In9 R9 I9 r9 d9 ⊢
          clear gI hp1 hp2 g1 g2 g3 sa s8 r6 d6 hD ha R7 I7 r7 d7 s7
          have N1 : 1 ≤ (nsOf gs).sum := by
            obtain ⟨g, hg⟩ := List.exists_mem_of_length_pos (l := gs) (by omega)
            have a1 := (gg g hg).one
            have a2 := le_sum_mem (l := nsOf gs) (List.mem_map.mpr ⟨g, hg, rfl⟩)
            omega
          refine ⟨_, rfl, _, rfl, v, L, t, gs, true, true, rfl, r9, gt, I9, o6, gsum, gg, fun x9 Hb sB OB => ?_⟩
          have RB := R9.same sB
          have InB := In9.same sB
          have dB := d9.same sB
          clear r9 I9 R9 In9 d9 sB
          refine ⟨_, rfl, _, rfl, rr, a, t, gs, true, true, rfl, RB, gt, InB, o6, N1, gsum, gg, fun xA Hc sC OC => ?_⟩
          have OB' := OB.mono (Same.kt sC)
          have RC := RB.same sC
          have InC := InB.same sC
          have dC := dB.same sC
          clear OB RB InB dB sC
          have own := own_facts gg
          have pok : t.Ok (ownT gs).length 20 := by rw [ownT_len]; exact gt.ok
          have sok : (t.sub (ownT gs)).Ok (nsOf gs).sum 20 := sub_ok (fun o ho => (own o ho).1) pok
          have sdep : (t.sub (ownT gs)).dep ≤ 6 := by have := sub_dep (D := 3) (fun o ho => (own o ho).2.1) pok; omega
          have z9 : t.wt 20 + 20 ≤ 9000 := by have : t.wt 20 ≤ 9 * 20 + 144 := gt.wt 20; omega
          have swt : (t.sub (ownT gs)).wt 20 + 20 ≤ 9000 := by
            have a1 := sub_wt (s := 20) (S := 324) (by decide) (fun o ho => (own o ho).2.2.1 20) pok
            have a2 : t.wt 324 ≤ 9 * 324 + 144 := gt.wt 324
            omega
          have gok := grok gg
          refine ⟨_, rfl, _, rfl, neOpt OC OB' ⟨_, rfl, iteF ?_⟩⟩
          cases hpt : partG t gs with
          | none =>
            rw [hpt] at OC OB'
            have ex : x9 = .non := OB'
            have ey : xA = .non := OC
            subst ex ey
            refine ⟨_, rfl, _, _, _, _, false, rfl, .ty _, .base .non, kit_ty (by decide +kernel), _, rfl, _, _, _, _, false, rfl, .ty _, .base .non, kit_ty (by decide +kernel), neBool ⟨_, rfl, iteF ?_⟩⟩
            refine ⟨_, rfl, _, rfl, rr, a, t, 20, gs, rfl, RC, gt.ok, by omega, InC, o1, o6, N1, gsum, fun g hg => ⟨(gg g hg).ok, by decide, by have := (gg g hg).dep; omega⟩, fun r3 Hd sD hn R3 => ?_⟩
            have RD := RC.same sD
            have InD := InC.same sD
            have dD := dC.same sD
            clear RC InC dC sD hn
            refine ⟨_, rfl, rfl, _, rfl, iteF ?_⟩
            refine ⟨4, rfl, by decide, by decide, ?_⟩
            refine for_range (lo := 0) (n := (4 : Int).toNat) (fun j σ H' => ∃ xc xd : Option V, σ = [some (.ref a0), some (.ref da.1), some (.int (0 + (i : Int))), some (.int (gs.length : Int)), some v, some (.ref L), x6, some (.ref rr), some (.ref a), some .non, some .non, some (.ref r3), xc, xd, ye, yf, yg, yh] ∧ Dice H' da ∧ KD da.1 Hd H')
              ⟨_, _, rfl, dD, KD.refl _ _⟩ ?_ ?_
            · rintro j σ HE hj ⟨_, _, rfl, dE, eE⟩
              have R3E := R3.kd dD eE
              have RE := RD.kd dD eE
              have InE := InD.kd dD eE
              obtain ⟨dx3, w3, hr3, rt3⟩ := id R3E
              refine ⟨_, rfl, _, rfl, r3, C, dx3, _, _, rfl, hr3, hc, n1, ruleF_people (nsOf gs).sum w3, da, (nsOf gs).sum, rfl, dE, by omega, fun vb qs HF ql hq rb dF eF => ?_⟩
              obtain ⟨ab, us, rfl, hab, rub⟩ := rb.tupI
              have BF : Bids K HF ab (nsOf gs).sum 20 qs := ⟨us, hab, rub, ql, hq⟩
              have q01 : ∀ q ∈ qs, In01 q := fun q h => ⟨(hq q h).1, (hq q h).2.1⟩
              have RF := RE.kd dE eF
              have R3F := R3E.kd dE eF
              have InF := InE.kd dE eF
              refine ⟨_, rfl, _, rfl, _, rfl, rr, a, ab, t, 20, 324, gs, qs, rfl, RF, gt.ok, by decide, by decide, by omega, z9, InF, o1, o6, gsum, gok, by decide, BF.wide (by decide), fun v1 HG sG rv1 => ?_⟩
              refine ⟨_, rfl, _, rfl, r3, ab, (nsOf gs).sum, 20, 20, t.sub (ownT gs), qs, rfl, R3F.same sG, sok, by decide, by decide, by omega, swt, N1, gsum, by decide, BF.mono (Same.kt sG), fun v2 HH sH rv2 => ?_⟩
              rw [← never_parts gt gg gsum ql q01 hpt] at rv2
              exact neSame (rv1.mono (Same.kt sH)) rv2 ⟨_, rfl, iteF ⟨_, _, rfl, dF.same (sG.trans sH), (eE.trans eF).trans (Same.kd (sG.trans sH))⟩⟩
            rintro σ HE ⟨_, _, rfl, dE, eE⟩
            exact ⟨_, _, _, _, _, _, _, _, _, _, _, _, _, _, _, _, rfl, dE⟩
          | some l =>
            rw [hpt] at OC OB'
            obtain ⟨ax, rfl, sx⟩ := id OC
            obtain ⟨ay, rfl, sy⟩ := id OB'
            have sx' : SqT K Hc ax (pV l) := sx
            have sy' : SqT K Hc ay (pV l) := sy
            refine ⟨_, rfl, _, _, _, _, true, rfl, .ty _, tyT sx', kit_ty (by decide +kernel), _, rfl, _, _, _, _, true, rfl, .ty _, tyT sy', kit_ty (by decide +kernel), neBool ⟨_, rfl, iteF ?_⟩⟩
            refine ⟨_, rfl, _, rfl, rr, a, t, 20, gs, rfl, RC, gt.ok, by omega, InC, o1, o6, N1, gsum, fun g hg => ⟨(gg g hg).ok, by decide, by have := (gg g hg).dep; omega⟩, fun r3 Hd sD hn R3 => ?_⟩
            have RD := RC.same sD
            have InD := InC.same sD
            have dD := dC.same sD
            have syD := (Same.kt sD).sq sy'
            clear RC InC dC sD hn
            refine ⟨_, rfl, rfl, _, rfl, iteT ?_⟩
            obtain ⟨dx3, w3, hr3, rt3⟩ := id R3
            refine ⟨_, rfl, r3, C, dx3, _, _, rfl, hr3, hc, n1, ruleF_people (nsOf gs).sum w3, _, rfl, ay, (nsOf gs).sum, l, rfl, gsum, syD, fun pe He sE hB => ?_⟩
            have BE : Bids K He pe (nsOf gs).sum 20 (end01 (nsOf gs).sum l) := Bids.wide (show Bids K He pe (nsOf gs).sum 1 (end01 (nsOf gs).sum l) from hB) (by decide)
            refine ⟨_, rfl, _, rfl, _, rfl, rr, a, pe, t, 20, 324, gs, _, rfl, RD.same sE, gt.ok, by decide, by decide, by omega, z9, InD.same sE, o1, o6, gsum, gok, by decide, BE.wide (by decide), fun v1 HG sG rv1 => ?_⟩
            refine ⟨_, rfl, _, rfl, r3, pe, (nsOf gs).sum, 20, 20, t.sub (ownT gs), _, rfl, (R3.same sE).same sG, sok, by decide, by decide, by omega, swt, N1, gsum, by decide, BE.mono (Same.kt sG), fun v2 HH sH rv2 => ?_⟩
            refine eq_qd (rv1.mono (Same.kt sH)) rv2 ⟨_, rfl, ?_⟩
            rw [decide_eq_false (does_part gt gg gsum hpt)]
            exact iteF ⟨_, _, _, _, _, _, _, _, _, _, _, _, _, _, _, _, rfl, dD.same (sE.trans (sG.trans sH))⟩
    · rintro σ H2 ⟨_, _, _, _, _, _, _, _, _, _, _, _, _, _, _, _, rfl, d2⟩
      exact k H2
end
end CB

set_option Elab.async false
set_option linter.all false
set_option maxRecDepth 100000
set_option maxHeartbeats 0
namespace CB
open PySem PySem.Spec PyProof.Rows L2
open C8 (Cal Met Mak pe_c pe_mk pe_mt pe_mt0 pe_gc CalAt)
section
variable {P : Program} {w : World} {K : PySem.W.Frag} {mg : Str → Option Value}
theorem all_ok {h : Heap} {f : Addr} (X : K.In h) (G : h.Ns mainGlobals mg) (hfa : mg ("law" : Str) = some (.ref f)) (c : He.SaysX faL fnL [] [] exL w h K) :
    ∃ fd : FuncData, (∀ (s : Shared) (v : Value), BindsTo s fd ⟨[v], []⟩ [("_law_script", v)]) ∧ ∀ base : Heap, K.In base → base.Ns mainGlobals mg → FnOk P w K mg base C8.CX0 72 f fd ["_law_script"] (sp_law K) := by
  have cD : He.SaysD faL fnL K := congrArg (fun z : He.AlT => z.1) c.t
  have cE := c.more
  unfold exL at cE
  obtain ⟨x0, cE⟩ := He.ba cE
  obtain ⟨x1, cE⟩ := He.ba cE
  obtain ⟨x2, cE⟩ := He.ba cE
  obtain ⟨x3, cE⟩ := He.ba cE
  obtain ⟨x4, cE⟩ := He.ba cE
  obtain ⟨x5, cE⟩ := He.ba cE
  obtain ⟨x6, cE⟩ := He.ba cE
  obtain ⟨x7, cE⟩ := He.ba cE
  have F_lowest : FnD K mg "lowest" s_lowest := by
    obtain ⟨fd, F⟩ := cD.def_ 0 (d := d_lowest) rfl
    exact ⟨_, fd, F, He.glo_ok X G (cD.fact 0 (f := .glo "lowest") rfl)⟩
  have F_is_less : FnD K mg "is_less" s_is_less := by
    obtain ⟨fd, F⟩ := cD.def_ 1 (d := d_is_less) rfl
    exact ⟨_, fd, F, He.glo_ok X G (cD.fact 1 (f := .glo "is_less") rfl)⟩
  have F_lesser : FnD K mg "lesser" s_lesser := by
    obtain ⟨fd, F⟩ := cD.def_ 2 (d := d_lesser) rfl
    exact ⟨_, fd, F, He.glo_ok X G (cD.fact 2 (f := .glo "lesser") rfl)⟩
  have F_greater : FnD K mg "greater" s_greater := by
    obtain ⟨fd, F⟩ := cD.def_ 3 (d := d_greater) rfl
    exact ⟨_, fd, F, He.glo_ok X G (cD.fact 3 (f := .glo "greater") rfl)⟩
  have F_mean_of : FnD K mg "mean_of" s_mean_of := by
    obtain ⟨fd, F⟩ := cD.def_ 4 (d := d_mean_of) rfl
    exact ⟨_, fd, F, He.glo_ok X G (cD.fact 4 (f := .glo "mean_of") rfl)⟩
  have F_common_bottom : FnD K mg "common_bottom" s_common_bottom := by
    obtain ⟨fd, F⟩ := cD.def_ 5 (d := d_common_bottom) rfl
    exact ⟨_, fd, F, He.glo_ok X G (cD.fact 5 (f := .glo "common_bottom") rfl)⟩
  have F_scaled : FnD K mg "scaled" s_scaled := by
    obtain ⟨fd, F⟩ := cD.def_ 6 (d := d_scaled) rfl
    exact ⟨_, fd, F, He.glo_ok X G (cD.fact 6 (f := .glo "scaled") rfl)⟩
  have F_is_integer : FnD K mg "is_integer" s_is_integer := by
    obtain ⟨fd, F⟩ := cD.def_ 7 (d := d_is_integer) rfl
    exact ⟨_, fd, F, He.glo_ok X G (cD.fact 7 (f := .glo "is_integer") rfl)⟩
  have F_is_number : FnD K mg "is_number" s_is_number := by
    obtain ⟨fd, F⟩ := cD.def_ 8 (d := d_is_number) rfl
    exact ⟨_, fd, F, He.glo_ok X G (cD.fact 8 (f := .glo "is_number") rfl)⟩
  have F_are_numbers : FnD K mg "are_numbers" s_are_numbers := by
    obtain ⟨fd, F⟩ := cD.def_ 9 (d := d_are_numbers) rfl
    exact ⟨_, fd, F, He.glo_ok X G (cD.fact 9 (f := .glo "are_numbers") rfl)⟩
  have F_are_bounds : FnD K mg "are_bounds" s_are_bounds := by
    obtain ⟨fd, F⟩ := cD.def_ 10 (d := d_are_bounds) rfl
    exact ⟨_, fd, F, He.glo_ok X G (cD.fact 10 (f := .glo "are_bounds") rfl)⟩
  have F_is_people : FnD K mg "is_people" s_is_people := by
    obtain ⟨fd, F⟩ := cD.def_ 11 (d := d_is_people) rfl
    exact ⟨_, fd, F, He.glo_ok X G (cD.fact 11 (f := .glo "is_people") rfl)⟩
  have F_is_person : FnD K mg "is_person" s_is_person := by
    obtain ⟨fd, F⟩ := cD.def_ 12 (d := d_is_person) rfl
    exact ⟨_, fd, F, He.glo_ok X G (cD.fact 12 (f := .glo "is_person") rfl)⟩
  have F_need_wishes : FnD K mg "need_wishes" s_need_wishes := by
    obtain ⟨fd, F⟩ := cD.def_ 13 (d := d_need_wishes) rfl
    exact ⟨_, fd, F, He.glo_ok X G (cD.fact 13 (f := .glo "need_wishes") rfl)⟩
  have F_is_term : FnD K mg "is_term" s_is_term := by
    obtain ⟨fd, F⟩ := cD.def_ 14 (d := d_is_term) rfl
    exact ⟨_, fd, F, He.glo_ok X G (cD.fact 14 (f := .glo "is_term") rfl)⟩
  have F_is_formed : FnD K mg "is_formed" s_is_formed := by
    obtain ⟨fd, F⟩ := cD.def_ 15 (d := d_is_formed) rfl
    exact ⟨_, fd, F, He.glo_ok X G (cD.fact 15 (f := .glo "is_formed") rfl)⟩
  have F_are_some : FnD K mg "are_some" s_are_some := by
    obtain ⟨fd, F⟩ := cD.def_ 16 (d := d_are_some) rfl
    exact ⟨_, fd, F, He.glo_ok X G (cD.fact 16 (f := .glo "are_some") rfl)⟩
  have F_is_weighted : FnD K mg "is_weighted" s_is_weighted := by
    obtain ⟨fd, F⟩ := cD.def_ 17 (d := d_is_weighted) rfl
    exact ⟨_, fd, F, He.glo_ok X G (cD.fact 17 (f := .glo "is_weighted") rfl)⟩
  have F_is_weight : FnD K mg "is_weight" s_is_weight := by
    obtain ⟨fd, F⟩ := cD.def_ 18 (d := d_is_weight) rfl
    exact ⟨_, fd, F, He.glo_ok X G (cD.fact 18 (f := .glo "is_weight") rfl)⟩
  have F_inner_terms : FnD K mg "inner_terms" s_inner_terms := by
    obtain ⟨fd, F⟩ := cD.def_ 19 (d := d_inner_terms) rfl
    exact ⟨_, fd, F, He.glo_ok X G (cD.fact 19 (f := .glo "inner_terms") rfl)⟩
  have F_with_inner : FnD K mg "with_inner" s_with_inner := by
    obtain ⟨fd, F⟩ := cD.def_ 20 (d := d_with_inner) rfl
    exact ⟨_, fd, F, He.glo_ok X G (cD.fact 20 (f := .glo "with_inner") rfl)⟩
  have F_with_terms : FnD K mg "with_terms" s_with_terms := by
    obtain ⟨fd, F⟩ := cD.def_ 21 (d := d_with_terms) rfl
    exact ⟨_, fd, F, He.glo_ok X G (cD.fact 21 (f := .glo "with_terms") rfl)⟩
  have F_worked : FnD K mg "worked" s_worked := by
    obtain ⟨fd, F⟩ := cD.def_ 22 (d := d_worked) rfl
    exact ⟨_, fd, F, He.glo_ok X G (cD.fact 22 (f := .glo "worked") rfl)⟩
  have F_least_of : FnD K mg "least_of" s_least_of := by
    obtain ⟨fd, F⟩ := cD.def_ 23 (d := d_least_of) rfl
    exact ⟨_, fd, F, He.glo_ok X G (cD.fact 23 (f := .glo "least_of") rfl)⟩
  have F_greatest_of : FnD K mg "greatest_of" s_greatest_of := by
    obtain ⟨fd, F⟩ := cD.def_ 24 (d := d_greatest_of) rfl
    exact ⟨_, fd, F, He.glo_ok X G (cD.fact 24 (f := .glo "greatest_of") rfl)⟩
  have F_kth_greatest : FnD K mg "kth_greatest" s_kth_greatest := by
    obtain ⟨fd, F⟩ := cD.def_ 25 (d := d_kth_greatest) rfl
    exact ⟨_, fd, F, He.glo_ok X G (cD.fact 25 (f := .glo "kth_greatest") rfl)⟩
  have F_told_by : FnD K mg "told_by" s_told_by := by
    obtain ⟨fd, F⟩ := cD.def_ 26 (d := d_told_by) rfl
    exact ⟨_, fd, F, He.glo_ok X G (cD.fact 26 (f := .glo "told_by") rfl)⟩
  have F_replaced : FnD K mg "replaced" s_replaced := by
    obtain ⟨fd, F⟩ := cD.def_ 27 (d := d_replaced) rfl
    exact ⟨_, fd, F, He.glo_ok X G (cD.fact 27 (f := .glo "replaced") rfl)⟩
  have F_mixed : FnD K mg "mixed" s_mixed := by
    obtain ⟨fd, F⟩ := cD.def_ 28 (d := d_mixed) rfl
    exact ⟨_, fd, F, He.glo_ok X G (cD.fact 28 (f := .glo "mixed") rfl)⟩
  have F_all_lots : FnD K mg "all_lots" s_all_lots := by
    obtain ⟨fd, F⟩ := cD.def_ 29 (d := d_all_lots) rfl
    exact ⟨_, fd, F, He.glo_ok X G (cD.fact 29 (f := .glo "all_lots") rfl)⟩
  have F_lots_among : FnD K mg "lots_among" s_lots_among := by
    obtain ⟨fd, F⟩ := cD.def_ 30 (d := d_lots_among) rfl
    exact ⟨_, fd, F, He.glo_ok X G (cD.fact 30 (f := .glo "lots_among") rfl)⟩
  have F_outcome : FnD K mg "outcome" s_outcome := by
    obtain ⟨fd, F⟩ := cD.def_ 31 (d := d_outcome) rfl
    exact ⟨_, fd, F, He.glo_ok X G (cD.fact 31 (f := .glo "outcome") rfl)⟩
  have F_outcome_of : FnD K mg "outcome_of" s_outcome_of := by
    obtain ⟨fd, F⟩ := cD.def_ 32 (d := d_outcome_of) rfl
    exact ⟨_, fd, F, He.glo_ok X G (cD.fact 32 (f := .glo "outcome_of") rfl)⟩
  have F_settled_between : FnD K mg "settled_between" s_settled_between := by
    obtain ⟨fd, F⟩ := cD.def_ 33 (d := d_settled_between) rfl
    exact ⟨_, fd, F, He.glo_ok X G (cD.fact 33 (f := .glo "settled_between") rfl)⟩
  have F_settled : FnD K mg "settled" s_settled := by
    obtain ⟨fd, F⟩ := cD.def_ 34 (d := d_settled) rfl
    exact ⟨_, fd, F, He.glo_ok X G (cD.fact 34 (f := .glo "settled") rfl)⟩
  have F_built : FnD K mg "built" s_built := by
    obtain ⟨fd, F⟩ := cD.def_ 35 (d := d_built) rfl
    exact ⟨_, fd, F, He.glo_ok X G (cD.fact 35 (f := .glo "built") rfl)⟩
  have F_renamed_term : FnD K mg "renamed_term" s_renamed_term := by
    obtain ⟨fd, F⟩ := cD.def_ 36 (d := d_renamed_term) rfl
    exact ⟨_, fd, F, He.glo_ok X G (cD.fact 36 (f := .glo "renamed_term") rfl)⟩
  have F_composed : FnD K mg "composed" s_composed := by
    obtain ⟨fd, F⟩ := cD.def_ 37 (d := d_composed) rfl
    exact ⟨_, fd, F, He.glo_ok X G (cD.fact 37 (f := .glo "composed") rfl)⟩
  have F_need_few : FnD K mg "need_few" s_need_few := by
    obtain ⟨fd, F⟩ := cD.def_ 38 (d := d_need_few) rfl
    exact ⟨_, fd, F, He.glo_ok X G (cD.fact 38 (f := .glo "need_few") rfl)⟩
  have F_parted : FnD K mg "parted" s_parted := by
    obtain ⟨fd, F⟩ := cD.def_ 39 (d := d_parted) rfl
    exact ⟨_, fd, F, He.glo_ok X G (cD.fact 39 (f := .glo "parted") rfl)⟩
  have F_groups_first : FnD K mg "groups_first" s_groups_first := by
    obtain ⟨fd, F⟩ := cD.def_ 40 (d := d_groups_first) rfl
    exact ⟨_, fd, F, He.glo_ok X G (cD.fact 40 (f := .glo "groups_first") rfl)⟩
  have F_groups_parting : FnD K mg "groups_parting" s_groups_parting := by
    obtain ⟨fd, F⟩ := cD.def_ 41 (d := d_groups_parting) rfl
    exact ⟨_, fd, F, He.glo_ok X G (cD.fact 41 (f := .glo "groups_parting") rfl)⟩
  have F__law_dice : FnD K mg "_law_dice" s__law_dice := by
    obtain ⟨fd, F⟩ := cD.def_ 42 (d := d__law_dice) rfl
    exact ⟨_, fd, F, He.glo_ok X G (cD.fact 42 (f := .glo "_law_dice") rfl)⟩
  have F__law_draw : FnD K mg "_law_draw" s__law_draw := by
    obtain ⟨fd, F⟩ := cD.def_ 43 (d := d__law_draw) rfl
    exact ⟨_, fd, F, He.glo_ok X G (cD.fact 43 (f := .glo "_law_draw") rfl)⟩
  have F__law_lowest : FnD K mg "_law_lowest" s__law_lowest := by
    obtain ⟨fd, F⟩ := cD.def_ 44 (d := d__law_lowest) rfl
    exact ⟨_, fd, F, He.glo_ok X G (cD.fact 44 (f := .glo "_law_lowest") rfl)⟩
  have F__law_sum : FnD K mg "_law_sum" s__law_sum := by
    obtain ⟨fd, F⟩ := cD.def_ 45 (d := d__law_sum) rfl
    exact ⟨_, fd, F, He.glo_ok X G (cD.fact 45 (f := .glo "_law_sum") rfl)⟩
  have F__law_product : FnD K mg "_law_product" s__law_product := by
    obtain ⟨fd, F⟩ := cD.def_ 46 (d := d__law_product) rfl
    exact ⟨_, fd, F, He.glo_ok X G (cD.fact 46 (f := .glo "_law_product") rfl)⟩
  have F__law_less : FnD K mg "_law_less" s__law_less := by
    obtain ⟨fd, F⟩ := cD.def_ 47 (d := d__law_less) rfl
    exact ⟨_, fd, F, He.glo_ok X G (cD.fact 47 (f := .glo "_law_less") rfl)⟩
  have F__law_sorted : FnD K mg "_law_sorted" s__law_sorted := by
    obtain ⟨fd, F⟩ := cD.def_ 48 (d := d__law_sorted) rfl
    exact ⟨_, fd, F, He.glo_ok X G (cD.fact 48 (f := .glo "_law_sorted") rfl)⟩
  have F__law_number : FnD K mg "_law_number" s__law_number := by
    obtain ⟨fd, F⟩ := cD.def_ 49 (d := d__law_number) rfl
    exact ⟨_, fd, F, He.glo_ok X G (cD.fact 49 (f := .glo "_law_number") rfl)⟩
  have F__law_numbers : FnD K mg "_law_numbers" s__law_numbers := by
    obtain ⟨fd, F⟩ := cD.def_ 50 (d := d__law_numbers) rfl
    exact ⟨_, fd, F, He.glo_ok X G (cD.fact 50 (f := .glo "_law_numbers") rfl)⟩
  have F__law_term : FnD K mg "_law_term" s__law_term := by
    obtain ⟨fd, F⟩ := cD.def_ 51 (d := d__law_term) rfl
    exact ⟨_, fd, F, He.glo_ok X G (cD.fact 51 (f := .glo "_law_term") rfl)⟩
  have F__law_value : FnD K mg "_law_value" s__law_value := by
    obtain ⟨fd, F⟩ := cD.def_ 52 (d := d__law_value) rfl
    exact ⟨_, fd, F, He.glo_ok X G (cD.fact 52 (f := .glo "_law_value") rfl)⟩
  have F__law_lots : FnD K mg "_law_lots" s__law_lots := by
    obtain ⟨fd, F⟩ := cD.def_ 53 (d := d__law_lots) rfl
    exact ⟨_, fd, F, He.glo_ok X G (cD.fact 53 (f := .glo "_law_lots") rfl)⟩
  have F__law_by_size : FnD K mg "_law_by_size" s__law_by_size := by
    obtain ⟨fd, F⟩ := cD.def_ 54 (d := d__law_by_size) rfl
    exact ⟨_, fd, F, He.glo_ok X G (cD.fact 54 (f := .glo "_law_by_size") rfl)⟩
  have F__law_at_ends : FnD K mg "_law_at_ends" s__law_at_ends := by
    obtain ⟨fd, F⟩ := cD.def_ 55 (d := d__law_at_ends) rfl
    exact ⟨_, fd, F, He.glo_ok X G (cD.fact 55 (f := .glo "_law_at_ends") rfl)⟩
  have F__law_corner : FnD K mg "_law_corner" s__law_corner := by
    obtain ⟨fd, F⟩ := cD.def_ 56 (d := d__law_corner) rfl
    exact ⟨_, fd, F, He.glo_ok X G (cD.fact 56 (f := .glo "_law_corner") rfl)⟩
  have F__law_outcome : FnD K mg "_law_outcome" s__law_outcome := by
    obtain ⟨fd, F⟩ := cD.def_ 57 (d := d__law_outcome) rfl
    exact ⟨_, fd, F, He.glo_ok X G (cD.fact 57 (f := .glo "_law_outcome") rfl)⟩
  have F__law_inners : FnD K mg "_law_inners" s__law_inners := by
    obtain ⟨fd, F⟩ := cD.def_ 58 (d := d__law_inners) rfl
    exact ⟨_, fd, F, He.glo_ok X G (cD.fact 58 (f := .glo "_law_inners") rfl)⟩
  have F__law_moved : FnD K mg "_law_moved" s__law_moved := by
    obtain ⟨fd, F⟩ := cD.def_ 59 (d := d__law_moved) rfl
    exact ⟨_, fd, F, He.glo_ok X G (cD.fact 59 (f := .glo "_law_moved") rfl)⟩
  have F__law_pieces : FnD K mg "_law_pieces" s__law_pieces := by
    obtain ⟨fd, F⟩ := cD.def_ 60 (d := d__law_pieces) rfl
    exact ⟨_, fd, F, He.glo_ok X G (cD.fact 60 (f := .glo "_law_pieces") rfl)⟩
  have F__law_nested : FnD K mg "_law_nested" s__law_nested := by
    obtain ⟨fd, F⟩ := cD.def_ 61 (d := d__law_nested) rfl
    exact ⟨_, fd, F, He.glo_ok X G (cD.fact 61 (f := .glo "_law_nested") rfl)⟩
  have F__law_whole : FnD K mg "_law_whole" s__law_whole := by
    obtain ⟨fd, F⟩ := cD.def_ 62 (d := d__law_whole) rfl
    exact ⟨_, fd, F, He.glo_ok X G (cD.fact 62 (f := .glo "_law_whole") rfl)⟩
  have F__law_due : FnD K mg "_law_due" s__law_due := by
    obtain ⟨fd, F⟩ := cD.def_ 63 (d := d__law_due) rfl
    exact ⟨_, fd, F, He.glo_ok X G (cD.fact 63 (f := .glo "_law_due") rfl)⟩
  have F_lesser_amounts : FnA K mg "lesser_amounts" "lesser" s_lesser := by
    obtain ⟨fd, F⟩ := cD.def_ 70 (d := d_lesser_amounts) rfl
    exact ⟨_, fd, F, He.glo_ok X G (cD.fact 65 (f := .glo "lesser_amounts") rfl)⟩
  have F_greater_amounts : FnA K mg "greater_amounts" "greater" s_greater := by
    obtain ⟨fd, F⟩ := cD.def_ 71 (d := d_greater_amounts) rfl
    exact ⟨_, fd, F, He.glo_ok X G (cD.fact 66 (f := .glo "greater_amounts") rfl)⟩
  have g_Rule := He.glo_ok X G (cD.fact 67 (f := .glo "Rule") rfl)
  have cl_Rule : Cls K (He.ga K "Rule") := He.cls_ok (cD.fact 68 (f := .cls "Rule") rfl)
  have g_Numbers := He.glo_ok X G (cD.fact 69 (f := .glo "Numbers") rfl)
  have cl_Numbers : Cls K (He.ga K "Numbers") := He.cls_ok (cD.fact 70 (f := .cls "Numbers") rfl)
  have na_Rule_people : NoAttr K (He.ga K "Rule") "people" := He.noat_ok (cD.fact 71 (f := .noat "Rule" "people") rfl)
  have na_Rule_term : NoAttr K (He.ga K "Rule") "term" := He.noat_ok (cD.fact 72 (f := .noat "Rule" "term") rfl)
  have F_Rule___init__ : MkD K mg "Rule" (He.ga K "Rule") "Rule.__init__" s_Rule___init__ := by
    obtain ⟨fd, F⟩ := cD.def_ 69 (d := d_Rule___init__) rfl
    exact ⟨_, fd, F, g_Rule, He.mkr_ok (cD.fact 73 (f := .mkr "Rule") rfl)⟩
  have F_Numbers_fixed : MtD K (He.ga K "Numbers") "fixed" "Numbers.fixed" s_Numbers_fixed := by
    obtain ⟨fd, F⟩ := cD.def_ 65 (d := d_Numbers_fixed) rfl
    exact ⟨_, fd, F, cl_Numbers, He.meth_ok (cD.fact 74 (f := .meth "Numbers" "fixed") rfl)⟩
  have F_Numbers_mean : MtD K (He.ga K "Numbers") "mean" "Numbers.mean" s_Numbers_mean := by
    obtain ⟨fd, F⟩ := cD.def_ 66 (d := d_Numbers_mean) rfl
    exact ⟨_, fd, F, cl_Numbers, He.meth_ok (cD.fact 75 (f := .meth "Numbers" "mean") rfl)⟩
  have F_Numbers_lesser : MtD K (He.ga K "Numbers") "lesser" "Numbers.lesser" s_Numbers_lesser := by
    obtain ⟨fd, F⟩ := cD.def_ 67 (d := d_Numbers_lesser) rfl
    exact ⟨_, fd, F, cl_Numbers, He.meth_ok (cD.fact 76 (f := .meth "Numbers" "lesser") rfl)⟩
  have F_Numbers_greater : MtD K (He.ga K "Numbers") "greater" "Numbers.greater" s_Numbers_greater := by
    obtain ⟨fd, F⟩ := cD.def_ 68 (d := d_Numbers_greater) rfl
    exact ⟨_, fd, F, cl_Numbers, He.meth_ok (cD.fact 77 (f := .meth "Numbers" "greater") rfl)⟩
  have T_abs := He.free_ok X G (cD.fact 79 (f := .free "abs") rfl)
  have T_int := He.free_ok X G (cD.fact 80 (f := .free "int") rfl)
  have T_len := He.free_ok X G (cD.fact 81 (f := .free "len") rfl)
  have T_isinstance := He.free_ok X G (cD.fact 82 (f := .free "isinstance") rfl)
  have T_bool := He.free_ok X G (cD.fact 83 (f := .free "bool") rfl)
  have T_tuple := He.free_ok X G (cD.fact 84 (f := .free "tuple") rfl)
  have T_str := He.free_ok X G (cD.fact 85 (f := .free "str") rfl)
  have T_all := He.free_ok X G (cD.fact 86 (f := .free "all") rfl)
  have T_range := He.free_ok X G (cD.fact 87 (f := .free "range") rfl)
  have T_min := He.free_ok X G (cD.fact 88 (f := .free "min") rfl)
  have T_sorted := He.free_ok X G (cD.fact 89 (f := .free "sorted") rfl)
  have T_sum := He.free_ok X G (cD.fact 90 (f := .free "sum") rfl)
  have T_list := He.free_ok X G (cD.fact 91 (f := .free "list") rfl)
  have T_enumerate := He.free_ok X G (cD.fact 92 (f := .free "enumerate") rfl)
  have T_zip := He.free_ok X G (cD.fact 93 (f := .free "zip") rfl)
  have g_MOST_PEOPLE : ∃ u, mg "MOST_PEOPLE" = some u ∧ RelV (.int 6) u := by
    obtain ⟨t, e⟩ := He.int_ok X G (cD.fact 94 (f := .int "MOST_PEOPLE" 6) rfl)
    exact ⟨_, e, t, rfl⟩
  have g_MOST_WEIGHT : ∃ u, mg "MOST_WEIGHT" = some u ∧ RelV (.int 99) u := by
    obtain ⟨t, e⟩ := He.int_ok X G (cD.fact 95 (f := .int "MOST_WEIGHT" 99) rfl)
    exact ⟨_, e, t, rfl⟩
  have g_MOST_PARTS : ∃ u, mg "MOST_PARTS" = some u ∧ RelV (.int 8) u := by
    obtain ⟨t, e⟩ := He.int_ok X G (cD.fact 96 (f := .int "MOST_PARTS" 8) rfl)
    exact ⟨_, e, t, rfl⟩
  have g_MOST_DEEP : ∃ u, mg "MOST_DEEP" = some u ∧ RelV (.int 8) u := by
    obtain ⟨t, e⟩ := He.int_ok X G (cD.fact 97 (f := .int "MOST_DEEP" 8) rfl)
    exact ⟨_, e, t, rfl⟩
  have g_MOST_TERMS : ∃ u, mg "MOST_TERMS" = some u ∧ RelV (.int 60) u := by
    obtain ⟨t, e⟩ := He.int_ok X G (cD.fact 98 (f := .int "MOST_TERMS" 60) rfl)
    exact ⟨_, e, t, rfl⟩
  have g_gcd : mg "gcd" = some (.builtin "math.gcd") := PySem.W.mg_of X G (He.eqO_ok x0)
  have g_combinations : mg "combinations" = some (.type "itertools.combinations") := PySem.W.mg_of X G (He.eqO_ok x1)
  have g_lcm : mg "lcm" = some (.builtin "math.lcm") := PySem.W.mg_of X G (He.eqO_ok x2)
  have g_ZERO := He.glo_ok X G (cD.fact 99 (f := .glo "ZERO") rfl)
  have z_ZERO : ∀ H, SqT K H (He.ga K "ZERO") [.int 0, .int 1] := fun H => He.tupB_ok x3 H
  have g_ONE := He.glo_ok X G (cD.fact 100 (f := .glo "ONE") rfl)
  have z_ONE : ∀ H, SqT K H (He.ga K "ONE") [.int 1, .int 1] := fun H => He.tupB_ok x4 H
  have M_Numbers : Mk0 K (He.ga K "Numbers") := ⟨x5, He.eqO_ok x6, of_decide_eq_true x7, cD.fact 78 (f := .keep "Numbers") rfl⟩
  obtain ⟨fdL, FL⟩ := cD.def_ 64 (d := d_law) rfl
  have eL := hfa.symm.trans (He.glo_ok X G (cD.fact 64 (f := .glo "law") rfl))
  cases eL
  have bL := FunD.bindsA (ps := ["_law_script"]) FL fun _ _ _ _ _ _ us hl => match us, hl with | [_], _ => rfl
  refine ⟨fdL, fun s v => bL s [v] rfl, fun base _ _ => ?_⟩
  have c__law_dice := ok__law_dice (P := P) (w := w) (base := base) (mg := mg) F__law_dice T_abs T_int
  have c__law_draw := ok__law_draw (P := P) (w := w) (base := base) (mg := mg) F__law_draw T_len T_int
  have c_is_integer := ok_is_integer (P := P) (w := w) (base := base) (mg := mg) F_is_integer T_isinstance T_int T_bool
  have c_is_people := ok_is_people (P := P) (w := w) (base := base) (mg := mg) F_is_people c_is_integer g_MOST_PEOPLE
  have c_is_number := ok_is_number (P := P) (w := w) (base := base) (mg := mg) F_is_number c_is_integer T_isinstance T_tuple T_len g_gcd
  have c_is_person := ok_is_person (P := P) (w := w) (base := base) (mg := mg) F_is_person c_is_integer
  have c_is_weight := ok_is_weight (P := P) (w := w) (base := base) (mg := mg) F_is_weight c_is_integer g_MOST_WEIGHT
  have c_is_weighted := ok_is_weighted (P := P) (w := w) (base := base) (mg := mg) F_is_weighted c_is_weight T_isinstance T_tuple T_len
  have c_are_some := ok_are_some (P := P) (w := w) (base := base) (mg := mg) F_are_some T_isinstance T_tuple T_len g_MOST_PARTS
  have c_is_less := ok_is_less (P := P) (w := w) (base := base) (mg := mg) F_is_less
  have c_are_bounds := ok_are_bounds (P := P) (w := w) (base := base) (mg := mg) F_are_bounds c_is_number c_is_less
  have c_is_formed := ok_is_formed (P := P) (w := w) (base := base) (mg := mg) F_is_formed c_is_integer c_is_number c_is_person c_is_weighted c_are_some c_are_bounds T_isinstance T_tuple T_str T_len T_all
  have c_inner_terms := ok_inner_terms (P := P) (w := w) (base := base) (mg := mg) F_inner_terms T_tuple
  have c_is_term := ok_is_term (P := P) (w := w) (base := base) (mg := mg) F_is_term c_is_formed c_inner_terms T_len T_all g_MOST_DEEP g_MOST_TERMS
  have k_Rule := ok_Rule (P := P) (w := w) (base := base) (mg := mg) F_Rule___init__ cl_Rule na_Rule_people na_Rule_term c_is_people c_is_term
  have c__law_lowest := ok__law_lowest (P := P) (w := w) (base := base) (mg := mg) F__law_lowest T_abs T_int
  have c_ok__law_number_t := ok__law_number_t (P := P) (w := w) (base := base) (mg := mg) F__law_number c__law_draw c__law_lowest
  have c__law_less := ok__law_less (P := P) (w := w) (base := base) (mg := mg) F__law_less
  have c__law_sorted := ok__law_sorted (P := P) (w := w) (base := base) (mg := mg) F__law_sorted c__law_less T_len
  have c_ok__law_term_n_t := ok__law_term_n_t (P := P) (w := w) (base := base) (mg := mg) F__law_term c__law_draw c_ok__law_number_t c__law_sorted T_len T_range T_tuple
  have c__law_inners := ok__law_inners (P := P) (w := w) (base := base) (mg := mg) F__law_inners c__law_draw (c_ok__law_term_n_t _) T_range T_min
  have c__law_moved := ok__law_moved (P := P) (w := w) (base := base) (mg := mg) F__law_moved T_tuple
  have c__law_whole := ok__law_whole (P := P) (w := w) (base := base) (mg := mg) F__law_whole (c__law_moved _) T_range
  have c__law_by_size := ok__law_by_size (P := P) (w := w) (base := base) (mg := mg) F__law_by_size T_len T_range T_sorted
  have c__law_lots := ok__law_lots (P := P) (w := w) (base := base) (mg := mg) F__law_lots c__law_by_size T_range
  have c__law_pieces := ok__law_pieces (P := P) (w := w) (base := base) (mg := mg) F__law_pieces
  have c__law_sum := ok__law_sum (P := P) (w := w) (base := base) (mg := mg) F__law_sum c__law_lowest
  have c__law_product := ok__law_product (P := P) (w := w) (base := base) (mg := mg) F__law_product c__law_lowest
  have c__law_value := ok__law_value (P := P) (w := w) (base := base) (mg := mg) F__law_value c__law_sum c__law_product c__law_sorted T_len T_sum
  have c__law_at_ends := ok__law_at_ends (P := P) (w := w) (base := base) (mg := mg) F__law_at_ends T_tuple T_range
  have c__law_corner := ok__law_corner (P := P) (w := w) (base := base) (mg := mg) F__law_corner (c__law_value _) c__law_at_ends
  have c__law_outcome := ok__law_outcome (P := P) (w := w) (base := base) (mg := mg) F__law_outcome c__law_lots c__law_corner c__law_sorted
  have c__law_nested := ok__law_nested (P := P) (w := w) (base := base) (mg := mg) F__law_nested c__law_pieces c__law_outcome T_range T_len T_tuple
  have c__law_due := ok__law_due (P := P) (w := w) (base := base) (mg := mg) F__law_due c__law_whole c__law_lots c__law_nested c__law_at_ends c__law_corner
  have c_need_few := ok_need_few (P := P) (w := w) (base := base) (mg := mg) F_need_few cl_Rule na_Rule_people T_sum g_MOST_PEOPLE
  have c_lots_among := ok_lots_among (P := P) (w := w) (base := base) (mg := mg) F_lots_among g_combinations T_list T_range T_len
  have c_all_lots := ok_all_lots (P := P) (w := w) (base := base) (mg := mg) F_all_lots c_lots_among T_list T_range
  have c_replaced := ok_replaced (P := P) (w := w) (base := base) (mg := mg) F_replaced T_tuple T_enumerate
  have c_parted := ok_parted (P := P) (w := w) (base := base) (mg := mg) F_parted cl_Rule na_Rule_people
  have m_Numbers_fixed := ok_fixed (P := P) (w := w) (base := base) (mg := mg) F_Numbers_fixed
  have c_common_bottom := ok_common_bottom (P := P) (w := w) (base := base) (mg := mg) F_common_bottom g_lcm
  have c_scaled := ok_scaled (P := P) (w := w) (base := base) (mg := mg) F_scaled
  have c_lowest := ok_lowest (P := P) (w := w) (base := base) (mg := mg) F_lowest g_gcd
  have c_mean_of := ok_mean_of (P := P) (w := w) (base := base) (mg := mg) F_mean_of c_common_bottom c_scaled c_lowest T_zip T_sum
  have m_Numbers_mean := ok_mean (P := P) (w := w) (base := base) (mg := mg) F_Numbers_mean c_mean_of
  have c_lesser_amounts : Cal P w K mg base 2 "lesser_amounts" (sp_lesser K) [] := ok_lesser (P := P) (w := w) (base := base) (mg := mg) F_lesser_amounts c_is_less
  have m_Numbers_lesser := ok_nlesser (P := P) (w := w) (base := base) (mg := mg) F_Numbers_lesser c_lesser_amounts
  have c_greater_amounts : Cal P w K mg base 2 "greater_amounts" (sp_greater K) [] := ok_greater (P := P) (w := w) (base := base) (mg := mg) F_greater_amounts c_is_less
  have m_Numbers_greater := ok_ngreater (P := P) (w := w) (base := base) (mg := mg) F_Numbers_greater c_greater_amounts
  have c_least_of := ok_least_of (P := P) (w := w) (base := base) (mg := mg) F_least_of m_Numbers_lesser
  have c_greatest_of := ok_greatest_of (P := P) (w := w) (base := base) (mg := mg) F_greatest_of m_Numbers_greater
  have c_kth_greatest := ok_kth_greatest (P := P) (w := w) (base := base) (mg := mg) F_kth_greatest m_Numbers_lesser m_Numbers_greater c_greatest_of T_range
  have c_worked := ok_worked (P := P) (w := w) (base := base) (mg := mg) F_worked c_inner_terms m_Numbers_fixed m_Numbers_mean m_Numbers_lesser m_Numbers_greater c_least_of c_greatest_of c_kth_greatest
  have c_told_by := ok_told_by (P := P) (w := w) (base := base) (mg := mg) F_told_by (c_worked _) M_Numbers g_Numbers
  have c_mixed := ok_mixed (P := P) (w := w) (base := base) (mg := mg) F_mixed T_tuple T_enumerate
  have c_settled := ok_settled (P := P) (w := w) (base := base) (mg := mg) F_settled c_mixed (c_worked _) c_is_less m_Numbers_fixed m_Numbers_lesser m_Numbers_greater
  have c_settled_between := ok_settled_between (P := P) (w := w) (base := base) (mg := mg) F_settled_between cl_Rule na_Rule_people na_Rule_term c_settled M_Numbers g_Numbers T_tuple T_range
  have c_outcome_of := ok_outcome_of (P := P) (w := w) (base := base) (mg := mg) F_outcome_of cl_Rule na_Rule_people c_settled_between ⟨_, g_ZERO, rfl⟩ z_ZERO ⟨_, g_ONE, rfl⟩ z_ONE
  have c_groups_parting := ok_groups_parting (P := P) (w := w) (base := base) (mg := mg) F_groups_parting cl_Rule na_Rule_term c_need_few c_all_lots c_replaced c_parted c_told_by c_outcome_of T_zip T_tuple ⟨_, g_ZERO, rfl⟩ z_ZERO ⟨_, g_ONE, rfl⟩ z_ONE
  have c_with_inner := ok_with_inner (P := P) (w := w) (base := base) (mg := mg) F_with_inner T_tuple T_zip
  have c_renamed_term := ok_renamed_term (P := P) (w := w) (base := base) (mg := mg) F_renamed_term c_inner_terms c_with_inner T_tuple
  have c_with_terms := ok_with_terms (P := P) (w := w) (base := base) (mg := mg) F_with_terms c_inner_terms c_with_inner T_tuple
  have c_built := ok_built (P := P) (w := w) (base := base) (mg := mg) F_built cl_Rule na_Rule_term k_Rule
  have c_composed := ok_composed (P := P) (w := w) (base := base) (mg := mg) F_composed cl_Rule na_Rule_term c_need_few c_parted (c_renamed_term _) (c_with_terms _) c_built T_zip T_tuple T_range
  have c__law_number := ok__law_number (P := P) (w := w) (base := base) (mg := mg) F__law_number c__law_draw c__law_lowest
  have c__law_numbers := ok__law_numbers (P := P) (w := w) (base := base) (mg := mg) F__law_numbers c__law_number T_range T_tuple
  have c_are_numbers := ok_are_numbers (P := P) (w := w) (base := base) (mg := mg) F_are_numbers c_is_number T_isinstance T_tuple T_len T_all
  have c_groups_first := ok_groups_first (P := P) (w := w) (base := base) (mg := mg) F_groups_first c_need_few c_are_numbers c_parted c_outcome_of T_zip T_tuple
  have c_need_wishes := ok_need_wishes (P := P) (w := w) (base := base) (mg := mg) F_need_wishes cl_Rule na_Rule_people c_are_numbers
  have c_outcome := ok_outcome (P := P) (w := w) (base := base) (mg := mg) F_outcome c_need_wishes c_outcome_of
  exact ok_law FL cl_Rule na_Rule_people c__law_dice c__law_draw k_Rule (c_ok__law_term_n_t _) c__law_inners c__law_due c_groups_parting c_composed c__law_at_ends c__law_numbers c_groups_first c_outcome T_range T_int T_tuple T_isinstance
end
end CB
open PySem PySem.W PySem.Calls PyProof.Rows
set_option maxHeartbeats 0 in
theorem PySem.Challenge.cw_cornerbids_k76_whole_where_groups_part_holds : PySem.Challenge.rw_cornerbids_k76_whole_where_groups_part.Holds := by
  w_on; o_law
  refine HandSHeadRun.head_imp (r := CB.Rw) (q := CB.qv) (H := CB.hkL) (ob := CB.obL) (M := 6000) (loose := CB.looseL) (d := HandSHeadRun.topDef CB.Rw.prog 90) (kwd := []) CB.ob_eq
    CB.runL (by kernel_rfl) (by kernel_rfl) (by kernel_rfl) (by rfl) (by first | assumption | decide +kernel) (by decide +kernel) ⟨rfl, rfl, rfl, rfl, rfl, by decide +kernel⟩ ?hw ?hc
  case hw => w_witness2
  case hc =>
    refine L2.walk_ofE (l := PySem.Challenge.rw_cornerbids_k76_whole_where_groups_part) (n := 63) (k := 72) (x := "_law_script") (CX := C8.CX0) rfl (by decide) (by kernel_rfl) ⟨rfl, by decide, by decide⟩ ?F (fun _ _ _ _ z => z)
    intro w mg fa h Y G hmg0
    obtain ⟨K, KX, c⟩ := Y
    have hmg : mg ("law" : PySem.Str) = some (.ref fa) := by
      have e : (HandSHeadRun.topDef CB.Rw.prog 90).name = ("law" : PySem.Str) := by kernel_rfl
      rw [← e]
      exact hmg0
    obtain ⟨fd, hb, hF⟩ := CB.all_ok (P := (PySem.Challenge.rw_cornerbids_k76_whole_where_groups_part).prog) (w := w) KX G hmg c
    exact ⟨K, fd, CB.sp_law K, KX, hb, fun H a ns hl _ hS => ⟨a, ns, rfl, hS, fun _ => rfl⟩, hF⟩

