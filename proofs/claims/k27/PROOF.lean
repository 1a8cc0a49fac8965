import PyProof.Rows.All
import Wide.All
import OpenK.AllK
import Wide.FinOn
import HandS.ForMost
import HandS.Codes
import HandS.Defaults
import HandS.Wide
import HandS.Gcd
import HandS.IsInst
import HandS.More
import HandS.TupAny
import HandS.Conv
import HandS.Zip
import HandS.Head0
import HandS.Head1
import HandS.Head2
import HandS.HeadEnd
import HandS.HeadHook1
import HandS.HeadHook2
import HandS.HeadHook3
import HandS.HeadHook4
import HandS.Walk
import HandS.New0
import HandS.SetFor
import HandS.TupMul
import HandS.Head3
import PySem.Challenge.RW_cornerbids_k27_whole_bids_behind_plays
set_option Elab.async false
set_option linter.all false
set_option maxRecDepth 100000
set_option maxHeartbeats 2000000
namespace CB
open PySem PySem.Spec PyProof.Rows L2
open C8 (Cal Met Mak pe_c pe_mk pe_mt pe_mt0 pe_gc CalAt)

/-! ### heaps: what stays -/
/-- tuples stay -/
structure KT (H H' : Hp) : Prop where
  t : ∀ b xs, H b = some (.tup xs) → H' b = some (.tup xs)
  f : ∀ b o u, H b = some (.frz o u) → H' b = some (.frz o u)
theorem KT.refl (H : Hp) : KT H H := ⟨fun _ _ h => h, fun _ _ _ h => h⟩
theorem KT.trans {H H1 H2 : Hp} (a : KT H H1) (b : KT H1 H2) : KT H H2 := ⟨fun c xs h => b.t c xs (a.t c xs h), fun c o u h => b.f c o u (a.f c o u h)⟩
theorem Same.kt {H H' : Hp} (a : Same H H') : KT H H' := ⟨fun b xs h => a b _ h, fun b o u h => a b _ h⟩
theorem same_new {H : Hp} {p : Addr} {o : HO} (h : H p = none) : Same H (upd H p o) := fun a u e => by
  rw [upd_ne (ne_of_none e h)]
  exact e
/-- all but the object at d stays -/
def KD (d : Addr) (H H' : Hp) : Prop := ∀ b o, b ≠ d → H b = some o → H' b = some o
theorem KD.refl (d : Addr) (H : Hp) : KD d H H := fun _ _ _ h => h
theorem KD.trans {d : Addr} {H H1 H2 : Hp} (a : KD d H H1) (b : KD d H1 H2) : KD d H H2 := fun c o n h => b c o n (a c o n h)
theorem Same.kd {d : Addr} {H H' : Hp} (a : Same H H') : KD d H H' := fun b o _ h => a b o h
theorem KD.kt {d : Addr} {H H' : Hp} (a : KD d H H') {xs : List V} (h : H d = some (.lst xs)) : KT H H' :=
  ⟨fun b ys e => a b _ (ne_of e h (by intro z; cases z)) e, fun b o u e => a b _ (ne_of e h (by intro z; cases z)) e⟩
theorem KD.upd {d : Addr} {H H' : Hp} (a : KD d H H') {o : HO} : KD d H (upd H' d o) := fun b u n e => by
  rw [upd_ne n]
  exact a b u n e
theorem KT.sq {K : PySem.W.Frag} {H H' : Hp} {a : Addr} {xs : List V} (e : KT H H') (h : SqT K H a xs) : SqT K H' a xs := by
  rcases h with (h | ⟨o, h⟩) | h
  · exact .inl (.inl (e.t _ _ h))
  · exact .inl (.inr ⟨o, e.f _ _ _ h⟩)
  · exact .inr h

theorem KT.updl {H : Hp} {D : Addr} {xs : List V} {o : HO} (h : H D = some (.lst xs)) : KT H (upd H D o) :=
  ⟨fun b ys e => by rw [upd_ne (ne_of e h (by intro z; cases z))]; exact e, fun b u v e => by rw [upd_ne (ne_of e h (by intro z; cases z))]; exact e⟩
theorem KD.new {d : Addr} {H H' : Hp} (a : KD d H H') {p : Addr} (hp : H' p = none) {o : HO} : KD d H (L2.upd H' p o) := fun b u n e => by
  have e2 := a b u n e
  rw [upd_ne (ne_of_none e2 hp)]
  exact e2
theorem KD.mut {d : Addr} {H H' : Hp} (a : KD d H H') {p : Addr} (hp : H p = none) {o : HO} : KD d H (L2.upd H' p o) := fun b u n e => by
  rw [upd_ne (ne_of_none e hp)]
  exact a b u n e
theorem Same.mut {H H' : Hp} {p : Addr} {o : HO} (e : Same H H') (h : H p = none) : Same H (upd H' p o) := fun a u ha => by
  rw [upd_ne (ne_of_none ha h)]
  exact e a u ha
theorem KD.seq {K : PySem.W.Frag} {d : Addr} {H H' : Hp} {a : Addr} {xs : List V} (e : KD d H H') (n : a ≠ d) (h : SqL K H a xs) : SqL K H' a xs := by
  rcases h with (h | ⟨o, h⟩) | h
  · exact .inl (.inl (e _ _ n h))
  · exact .inl (.inr ⟨o, e _ _ n h⟩)
  · exact .inr h
/-! ### data without lists, as it stands -/
mutual
inductive Rp (K : PySem.W.Frag) (H : Hp) : V → PyData → Prop
  | non : Rp K H .non .none
  | bl (b : Bool) : Rp K H (.bl b) (.bool b)
  | int (i : Int) : Rp K H (.int i) (.int i)
  | str (x : Str) : Rp K H (.str x) (.str x)
  | tup {a : Addr} {xs : List V} {ds : List PyData} : SqT K H a xs → RpAll K H xs ds → Rp K H (.ref a) (.tuple ds)
inductive RpAll (K : PySem.W.Frag) (H : Hp) : List V → List PyData → Prop
  | nil : RpAll K H [] []
  | cons {v : V} {vs : List V} {d : PyData} {ds : List PyData} : Rp K H v d → RpAll K H vs ds → RpAll K H (v :: vs) (d :: ds)
end
section
variable {K : PySem.W.Frag} {H H' : Hp} {v : V} {d : PyData}
mutual
theorem Rp.mono (e : KT H H') : ∀ {v : V} {d : PyData}, Rp K H v d → Rp K H' v d
  | _, _, .non => .non
  | _, _, .bl b => .bl b
  | _, _, .int i => .int i
  | _, _, .str x => .str x
  | _, _, .tup h1 h2 => .tup (e.sq h1) (RpAll.mono e h2)
theorem RpAll.mono (e : KT H H') : ∀ {vs : List V} {ds : List PyData}, RpAll K H vs ds → RpAll K H' vs ds
  | _, _, .nil => .nil
  | _, _, .cons h1 h2 => .cons (Rp.mono e h1) (RpAll.mono e h2)
end
mutual
theorem Rp.dp : ∀ {v : V} {d : PyData}, Rp K H v d → Dp K H v d
  | _, _, .non => .non
  | _, _, .bl b => .bl b
  | _, _, .int i => .int i
  | _, _, .str x => .str x
  | _, _, .tup h1 h2 => .tup h1 (RpAll.dp h2)
theorem RpAll.dp : ∀ {vs : List V} {ds : List PyData}, RpAll K H vs ds → DpAll K H vs ds
  | _, _, .nil => .nil
  | _, _, .cons h1 h2 => .cons (Rp.dp h1) (RpAll.dp h2)
end
theorem Rp.tupI {ds : List PyData} (h : Rp K H v (.tuple ds)) : ∃ a xs, v = .ref a ∧ SqT K H a xs ∧ RpAll K H xs ds := by
  cases h with
  | tup h1 h2 => exact ⟨_, _, rfl, h1, h2⟩
theorem Rp.intI {i : Int} (h : Rp K H v (.int i)) : v = .int i := by cases h; rfl
theorem Rp.strI {x : Str} (h : Rp K H v (.str x)) : v = .str x := by cases h; rfl
theorem Rp.blI {b : Bool} (h : Rp K H v (.bool b)) : v = .bl b := by cases h; rfl
theorem RpAll.nilI {vs : List V} (h : RpAll K H vs []) : vs = [] := by cases h; rfl
theorem RpAll.consI {vs : List V} {ds : List PyData} (h : RpAll K H vs (d :: ds)) : ∃ w ws, vs = w :: ws ∧ Rp K H w d ∧ RpAll K H ws ds := by
  cases h with
  | cons h1 h2 => exact ⟨_, _, rfl, h1, h2⟩
theorem RpAll.length : ∀ {vs : List V} {ds : List PyData}, RpAll K H vs ds → vs.length = ds.length
  | _, _, .nil => rfl
  | _, _, .cons _ h => by simp [RpAll.length h]
theorem RpAll.get : ∀ {vs : List V} {ds : List PyData} {i : Nat} {d : PyData}, RpAll K H vs ds → ds[i]? = some d → ∃ v, vs[i]? = some v ∧ Rp K H v d
  | _, _, _, _, .nil, e => by simp at e
  | _, _, 0, _, .cons h _, e => by simp at e; subst e; exact ⟨_, rfl, h⟩
  | _, _, i + 1, d, .cons _ h, e => by
    obtain ⟨v, h1, h2⟩ := RpAll.get (i := i) (d := d) h (by simpa using e)
    exact ⟨v, by simpa using h1, h2⟩
theorem RpAll.getV : ∀ {vs : List V} {ds : List PyData} {i : Nat} {v : V}, RpAll K H vs ds → vs[i]? = some v → ∃ d, ds[i]? = some d ∧ Rp K H v d
  | _, _, _, _, .nil, e => by simp at e
  | _, _, 0, _, .cons h _, e => by simp at e; subst e; exact ⟨_, rfl, h⟩
  | _, _, i + 1, v, .cons _ h, e => by
    obtain ⟨d, h1, h2⟩ := RpAll.getV (i := i) (v := v) h (by simpa using e)
    exact ⟨d, by simpa using h1, h2⟩
theorem RpAll.append : ∀ {vs ws : List V} {ds es : List PyData}, RpAll K H vs ds → RpAll K H ws es → RpAll K H (vs ++ ws) (ds ++ es)
  | _, _, _, _, .nil, h => h
  | _, _, _, _, .cons a b, h => .cons a (RpAll.append b h)
end

theorem RpAll.take {K : PySem.W.Frag} {H : Hp} : ∀ {vs : List V} {ds : List PyData} (n : Nat), RpAll K H vs ds → RpAll K H (vs.take n) (ds.take n)
  | _, _, 0, _ => by simp only [List.take_zero]; exact .nil
  | _, _, _ + 1, .nil => by simp only [List.take_nil]; exact .nil
  | _, _, n + 1, .cons h t => .cons h (RpAll.take n t)
theorem RpAll.drop {K : PySem.W.Frag} {H : Hp} : ∀ {vs : List V} {ds : List PyData} (n : Nat), RpAll K H vs ds → RpAll K H (vs.drop n) (ds.drop n)
  | _, _, 0, h => h
  | _, _, _ + 1, .nil => by simp only [List.drop_nil]; exact .nil
  | _, _, n + 1, .cons _ t => RpAll.drop n t
/-! ### fractions -/
/-- the pair of two ints -/
def PF (K : PySem.W.Frag) (H : Hp) (v : V) (a b : Int) : Prop := ∃ p, v = .ref p ∧ SqT K H p [.int a, .int b]
abbrev RF (K : PySem.W.Frag) (H : Hp) (v : V) (q : Rat) : Prop := PF K H v q.num (q.den : Int)
def qd (q : Rat) : PyData := .tuple [.int q.num, .int (q.den : Int)]
theorem PF.mono {K : PySem.W.Frag} {H H' : Hp} {v : V} {a b : Int} (e : KT H H') (h : PF K H v a b) : PF K H' v a b := by
  obtain ⟨p, rfl, h⟩ := h
  exact ⟨p, rfl, e.sq h⟩
theorem PF.rp {K : PySem.W.Frag} {H : Hp} {v : V} {a b : Int} (h : PF K H v a b) : Rp K H v (.tuple [.int a, .int b]) := by
  obtain ⟨p, rfl, h⟩ := h
  exact .tup h (.cons (.int a) (.cons (.int b) .nil))
theorem PF.of {K : PySem.W.Frag} {H : Hp} {v : V} {a b : Int} (h : Rp K H v (.tuple [.int a, .int b])) : PF K H v a b := by
  obtain ⟨p, xs, rfl, h1, h2⟩ := h.tupI
  obtain ⟨w, ws, rfl, h3, h4⟩ := h2.consI
  obtain ⟨w2, ws2, rfl, h5, h6⟩ := h4.consI
  have e1 := h3.intI
  have e2 := h5.intI
  have e3 := h6.nilI
  subst e1 e2 e3
  exact ⟨p, rfl, h1⟩

abbrev RQ (K : PySem.W.Frag) (H : Hp) (vs : List V) (qs : List Rat) : Prop := RpAll K H vs (qs.map qd)
theorem RQ.get {K : PySem.W.Frag} {H : Hp} {vs : List V} {qs : List Rat} {i : Nat} {q : Rat} (h : RQ K H vs qs) (e : qs[i]? = some q) : ∃ v, vs[i]? = some v ∧ RF K H v q := by
  obtain ⟨v, h1, h2⟩ := RpAll.get (d := qd q) h (by rw [List.getElem?_map, e]; rfl)
  exact ⟨v, h1, PF.of h2⟩
theorem RQ.getV {K : PySem.W.Frag} {H : Hp} {vs : List V} {qs : List Rat} {i : Nat} {v : V} (h : RQ K H vs qs) (e : vs[i]? = some v) : ∃ q, qs[i]? = some q ∧ RF K H v q := by
  obtain ⟨d, h1, h2⟩ := RpAll.getV h e
  rw [List.getElem?_map] at h1
  cases c : qs[i]? with
  | none => rw [c] at h1; cases h1
  | some q =>
    rw [c] at h1
    cases h1
    exact ⟨q, rfl, PF.of h2⟩
theorem RQ.length {K : PySem.W.Frag} {H : Hp} {vs : List V} {qs : List Rat} (h : RQ K H vs qs) : vs.length = qs.length := by
  rw [RpAll.length h, List.length_map]
theorem RQ.snoc {K : PySem.W.Frag} {H : Hp} {vs : List V} {qs : List Rat} {v : V} {q : Rat} (h : RQ K H vs qs) (r : RF K H v q) : RQ K H (vs ++ [v]) (qs ++ [q]) := by
  show RpAll K H (vs ++ [v]) ((qs ++ [q]).map qd)
  rw [List.map_append]
  exact RpAll.append h (.cons r.rp .nil)
/-! ### rationals -/
theorem divInt_num {a b : Int} (hb : 0 < b) : (Rat.divInt a b).num = a / ((Nat.gcd a.natAbs b.natAbs : Nat) : Int) := by
  rw [Rat.num_divInt]
  have h : b.sign = 1 := Int.sign_eq_one_of_pos hb
  rw [h, Int.one_mul]
  have : b.gcd a = Nat.gcd a.natAbs b.natAbs := by rw [Int.gcd, Nat.gcd_comm]
  rw [this]
theorem divInt_den {a b : Int} (hb : 0 < b) : ((Rat.divInt a b).den : Int) = b / ((Nat.gcd a.natAbs b.natAbs : Nat) : Int) := by
  rw [Rat.den_divInt, if_neg (by omega)]
  have : b.gcd a = Nat.gcd a.natAbs b.natAbs := by rw [Int.gcd, Nat.gcd_comm]
  rw [this, Int.natCast_ediv, Int.natAbs_of_nonneg (by omega)]
theorem gcd_pos {a b : Int} (hb : 0 < b) : (0 : Int) < ((Nat.gcd a.natAbs b.natAbs : Nat) : Int) := by
  have := Nat.gcd_pos_of_pos_right a.natAbs (show 0 < b.natAbs by omega)
  omega
theorem gcd_le {a b : Int} (hb : 0 < b) : (((Nat.gcd a.natAbs b.natAbs : Nat) : Int)).natAbs ≤ b.natAbs := by
  have := Nat.gcd_le_right a.natAbs (show 0 < b.natAbs by omega)
  omega
/-- its parts have at most so many bits -/
def Sz (k : Nat) (q : Rat) : Prop := q.num.natAbs < 2 ^ k ∧ q.den < 2 ^ k
theorem divInt_sz {a b : Int} {k : Nat} (hb : 0 < b) (h1 : a.natAbs < 2 ^ k) (h2 : b.natAbs < 2 ^ k) : Sz k (Rat.divInt a b) := by
  have g := gcd_pos (a := a) hb
  have e1 := divInt_num (a := a) hb
  have e2 := divInt_den (a := a) hb
  constructor
  · rw [e1]
    exact Nat.lt_of_le_of_lt (Int.natAbs_ediv_le_natAbs _ _) h1
  · have : (Rat.divInt a b).den ≤ b.natAbs := by
      have h3 : b / ((Nat.gcd a.natAbs b.natAbs : Nat) : Int) ≤ b := Int.ediv_le_self _ (by omega)
      omega
    omega
theorem den_pos (q : Rat) : (0 : Int) < (q.den : Int) := by
  have := q.den_pos
  omega
theorem lt_num {a b : Rat} : (a.num * (b.den : Int) < b.num * (a.den : Int)) ↔ a < b := (Rat.lt_iff a b).symm
/-! ### going through a row -/
theorem it_list {K : PySem.W.Frag} {a : Addr} {xs : List V} {H0 : Hp} {Qd : Hp → Prop} {Body : (Hp → Prop) → V → Hp → Prop} (Pv : Nat → Hp → Prop) (h0 : Pv 0 H0) (hl : ∀ i H, Pv i H → SqL K H a xs)
    (hs : ∀ i x H, xs[i]? = some x → Pv i H → Body (Pv (i + 1)) x H) (hd : ∀ H, Pv xs.length H → Qd H) :
    ∃ W : Nat → Nat → Hp → Prop, (∃ m, W 0 m H0) ∧ ∀ i m H, W i m H → ((Itl K a).stop i H ∧ Qd H) ∨
      ((Itl K a).go i H ∧ ∃ N : Hp → Prop, (∀ H', N H' → ∃ m', m' < m ∧ W (i + 1) m' H') ∧ ∀ x H', (Itl K a).yld i H x H' → Body N x H') := by
  refine ⟨fun i m H => i + m = xs.length ∧ Pv i H, ⟨xs.length, Nat.zero_add _, h0⟩, fun i m H h => ?_⟩
  obtain ⟨e, p⟩ := h
  have q := hl i H p
  cases m with
  | zero =>
    have e' : i = xs.length := e
    subst e'
    exact .inl ⟨⟨xs, q, Nat.le_refl _⟩, hd H p⟩
  | succ m =>
    have c : i < xs.length := by omega
    have g : xs[i]? = some xs[i] := List.getElem?_eq_getElem c
    refine .inr ⟨⟨xs, _, q, g⟩, Pv (i + 1), fun H' p' => ⟨m, Nat.lt_succ_self m, by omega, p'⟩, fun x H' y => ?_⟩
    obtain ⟨rfl, y2⟩ := y
    exact hs i x _ (y2 xs q) p
theorem it_tup {K : PySem.W.Frag} {a : Addr} {xs : List V} {H0 : Hp} {Qd : Hp → Prop} {Body : (Hp → Prop) → V → Hp → Prop} (Pv : Nat → Hp → Prop) (h0 : Pv 0 H0) (hl : ∀ i H, Pv i H → SqT K H a xs)
    (hs : ∀ i x H, xs[i]? = some x → Pv i H → Body (Pv (i + 1)) x H) (hd : ∀ H, Pv xs.length H → Qd H) :
    ∃ W : Nat → Nat → Hp → Prop, (∃ m, W 0 m H0) ∧ ∀ i m H, W i m H → ((Itt K a).stop i H ∧ Qd H) ∨
      ((Itt K a).go i H ∧ ∃ N : Hp → Prop, (∀ H', N H' → ∃ m', m' < m ∧ W (i + 1) m' H') ∧ ∀ x H', (Itt K a).yld i H x H' → Body N x H') := by
  refine ⟨fun i m H => i + m = xs.length ∧ Pv i H, ⟨xs.length, Nat.zero_add _, h0⟩, fun i m H h => ?_⟩
  obtain ⟨e, p⟩ := h
  have q := hl i H p
  cases m with
  | zero =>
    have e' : i = xs.length := e
    subst e'
    exact .inl ⟨⟨xs, q, Nat.le_refl _⟩, hd H p⟩
  | succ m =>
    have c : i < xs.length := by omega
    have g : xs[i]? = some xs[i] := List.getElem?_eq_getElem c
    refine .inr ⟨⟨xs, _, q, g⟩, Pv (i + 1), fun H' p' => ⟨m, Nat.lt_succ_self m, by omega, p'⟩, fun x H' y => ?_⟩
    obtain ⟨rfl, y2⟩ := y
    exact hs i x _ (y2 xs q) p
theorem tyT {K : PySem.W.Frag} {H : Hp} {a : Addr} {xs : List V} (h : SqT K H a xs) : TyX K H (.ref a) (.type "tuple") := by
  rcases h with (h | ⟨o, h⟩) | ⟨o, _, _, h, c, _⟩
  · exact .base (.tup h)
  · exact .fTuple h
  · exact .kTuple h c
theorem pe_ty {X : Cx} {x : Str} {n : String} {pos : Pos} (hg : Gl X x) (hm : X.mg x = none) (hv : bootBuiltins x = some (.type n)) (hn : x ≠ "__name__" := by decide) (hd : (x == ("__debug__" : Str)) = false := by decide) : PE X (.Name x pos) (tC (.ty n)) :=
  pe_bltn hg hm hv (show RelV (.ty n) (.type n) from rfl) hn hd
/-! ### a def of the text -/
/-- the def nm that the module's name x stands for -/
structure FnA (K : PySem.W.Frag) (mg : Str → Option Value) (x nm : Str) (st : Stmt) : Prop where
  ex : ∃ f fd, FunD K nm nm (defArgs st) (defBody st) (defScope st) [] [] f fd ∧ mg x = some (.ref f)
abbrev FnD (K : PySem.W.Frag) (mg : Str → Option Value) (x : Str) (st : Stmt) : Prop := FnA K mg x x st
/-- the class x at C and its __init__ -/
structure MkD (K : PySem.W.Frag) (mg : Str → Option Value) (x : Str) (C : Addr) (qual : Str) (st : Stmt) : Prop where
  ex : ∃ f fd, FunD K "__init__" qual (defArgs st) (defBody st) (defScope st) [] [] f fd ∧ mg x = some (.ref C) ∧ Mk K C f
/-- a method of the class at C -/
structure MtD (K : PySem.W.Frag) (C : Addr) (m qual : Str) (st : Stmt) : Prop where
  ex : ∃ f fd, FunD K m qual (defArgs st) (defBody st) (defScope st) [] [] f fd ∧ Cls K C ∧ Meth K C m f
section
variable {P : Program} {w : World} {K : PySem.W.Frag} {mg : Str → Option Value} {base : Heap}
abbrev HBinds (x qual : Str) (st : Stmt) (ps : List Str) : Prop := ∀ (kV doc pm : Value) (an : Option Addr) (cdv ct : Value) (us : List Value), us.length = ps.length → bindArgs (PySem.W.fnOf x qual (defArgs st) (defBody st) (defScope st) .none kV doc pm an cdv ct) ⟨us, []⟩ = pure (ps.zip us)
abbrev HBody (P : Program) (w : World) (K : PySem.W.Frag) (mg : Str → Option Value) (base : Heap) (k : Nat) (qual : Str) (st : Stmt) (N : List Str) (sp : Sp) : Prop :=
  ∀ (cdv : Value) (f : Addr) (A : Around) (outer : List Env) (s : Shared) (H : Hp) (vs : List V) (Q : VK) (E : XK), Room k (A.deeper (envOfC qual (defScope st) s.heap.objs.size f cdv)) → sp vs H Q E →
      ∃ t, PSs (cxOf CX0 P w K mg base N qual (defScope st) f cdv A outer s H E).nox (defBody st) t ∧ t { nx := fun _ H' => Q .non H', rt := Q } (start N vs) H
theorem fnOkOf {x qual : Str} {st : Stmt} {N ps : List Str} {k : Nat} {sp : Sp} {f : Addr} {fd : FuncData} (F : FunD K x qual (defArgs st) (defBody st) (defScope st) [] [] f fd) (S : FnScope N ps (defScope st))
    (len : ∀ vs H Q E, sp vs H Q E → vs.length = ps.length) (hbody : HBody P w K mg base k qual st N sp) : FnOk P w K mg base CX0 (k + 1) f fd ps sp :=
  F.ok S len fun cdv A outer s H vs Q E hr h => (by
    obtain ⟨t, h1, h2⟩ := hbody cdv f A outer s H vs Q E hr h
    exact ⟨t, h1.nox, h2⟩)
theorem calOf {x nm : Str} {st : Stmt} {N ps : List Str} {k : Nat} {sp : Sp} (F : FnA K mg x nm st) (S : FnScope N ps (defScope st)) (hb : HBinds nm nm st ps) (len : ∀ vs H Q E, sp vs H Q E → vs.length = ps.length)
    (hbody : HBody P w K mg base k nm st N sp) : Cal P w K mg base (k + 1) x sp [] := by
  obtain ⟨f, fd, F, hm⟩ := F.ex
  exact ⟨f, fd, ps, [], fnOkOf F S len hbody, hm, F.kp, F.bindsN hb, .nil⟩
theorem makOf {x qual : Str} {C : Addr} {st : Stmt} {N ps : List Str} {k : Nat} {sp : Sp} (F : MkD K mg x C qual st) (S : FnScope N ps (defScope st)) (hb : HBinds "__init__" qual st ps) (len : ∀ vs H Q E, sp vs H Q E → vs.length = ps.length)
    (hbody : HBody P w K mg base k qual st N sp) : Mak P w K mg base (k + 1) x C sp [] := by
  obtain ⟨f, fd, F, hm, hk⟩ := F.ex
  exact ⟨f, fd, ps, [], hk, fnOkOf F S len hbody, hm, F.bindsN hb, .nil⟩
theorem metOf {m qual : Str} {C : Addr} {st : Stmt} {N ps : List Str} {k : Nat} {sp : Sp} (F : MtD K C m qual st) (S : FnScope N ps (defScope st)) (hb : HBinds m qual st ps) (len : ∀ vs H Q E, sp vs H Q E → vs.length = ps.length)
    (hbody : HBody P w K mg base k qual st N sp) : Met P w K mg base (k + 1) C m sp [] := by
  obtain ⟨f, fd, F, hc, hm⟩ := F.ex
  exact ⟨f, fd, ps, [], hc, hm, fnOkOf F S len hbody, F.bindsN hb, .nil⟩
end
theorem wm {i j : Int} {a b : Nat} (ha : i.natAbs < 2 ^ a) (hb : j.natAbs < 2 ^ b) (h : a + b ≤ 900000) : CMulW i j :=
  wide_mul (a := a + 1) (b := b + 1) (Nat.lt_trans ha (by rw [Nat.pow_succ]; have := Nat.two_pow_pos a; omega)) (Nat.lt_trans hb (by rw [Nat.pow_succ]; have := Nat.two_pow_pos b; omega)) (by omega) (by omega) (by omega)
theorem Sz.d {k : Nat} {q : Rat} (h : Sz k q) : ((q.den : Int)).natAbs < 2 ^ k := by
  have := h.2
  omega
theorem Sz.mono {j k : Nat} {q : Rat} (h : Sz j q) (l : j ≤ k) : Sz k q :=
  ⟨Nat.lt_of_lt_of_le h.1 (Nat.pow_le_pow_right (by omega) l), Nat.lt_of_lt_of_le h.2 (Nat.pow_le_pow_right (by omega) l)⟩
theorem sz_add {a b c d : Int} {m n : Nat} (hb : 0 < b) (hd : 0 < d) (h1 : a.natAbs < 2 ^ m) (h2 : b.natAbs < 2 ^ m) (h3 : c.natAbs < 2 ^ n) (h4 : d.natAbs < 2 ^ n) : Sz (m + n + 1) (Rat.divInt a b + Rat.divInt c d) := by
  rw [Rat.divInt_add_divInt _ _ (by omega) (by omega)]
  have e : (2 : Nat) ^ (m + n + 1) = 2 ^ (m + n) + 2 ^ (m + n) := by rw [Nat.pow_succ]; omega
  refine divInt_sz (Int.mul_pos hb hd) ?_ ?_
  · have z1 := wide_lt h1 h4
    have z2 := wide_lt h3 h2
    rw [Nat.add_comm n m] at z2
    have := Int.natAbs_add_le (a * d) (c * b)
    omega
  · have z1 := wide_lt h2 h4
    omega
theorem ne_zero_divInt {c d : Int} (hc : 0 < c) (hd : 0 < d) : Rat.divInt c d ≠ 0 := by
  intro h
  have z : (0 : Rat) = Rat.divInt 0 1 := by rw [Rat.zero_divInt]
  rw [z, Rat.divInt_eq_divInt_iff (by omega) (by omega)] at h
  omega
theorem divInt_div {a b c d : Int} (hc : 0 < c) (hd : 0 < d) (hb : 0 < b) : Rat.divInt (a * d) (b * c) = Rat.divInt a b / Rat.divInt c d := by
  have h := ne_zero_divInt hc hd
  have e : Rat.divInt (a * d) (b * c) * Rat.divInt c d = Rat.divInt a b := by
    rw [Rat.divInt_mul_divInt, Rat.divInt_eq_divInt_iff (by have := Int.mul_pos (Int.mul_pos hb hc) hd; omega) (by omega)]
    grind
  rw [← e, Rat.mul_div_cancel h]
theorem int_rat (x : Int) : ((x : Int) : Rat) = Rat.divInt x 1 := by
  rw [Rat.divInt_eq_div]
  grind
theorem mul_divInt (x : Int) (q : Rat) : ((x : Int) : Rat) * q = Rat.divInt (x * q.num) (q.den : Int) := by
  have h : q = Rat.divInt q.num (q.den : Int) := (Rat.num_divInt_den q).symm
  conv => lhs; rw [h]
  rw [int_rat, Rat.divInt_mul_divInt, Int.one_mul]
def NumOk (k : Nat) (q : Rat) : Prop := 0 ≤ q ∧ q ≤ 1 ∧ Sz k q
theorem NumOk.mono {j k : Nat} {q : Rat} (h : NumOk j q) (l : j ≤ k) : NumOk k q := ⟨h.1, h.2.1, h.2.2.mono l⟩
theorem numOk_divInt {a b : Int} {k : Nat} (ha : 0 ≤ a) (hab : a ≤ b) (hb : 0 < b) (hk : b.natAbs < 2 ^ k) : NumOk k (Rat.divInt a b) := by
  refine ⟨Rat.divInt_nonneg ha (by omega), ?_, divInt_sz hb (by omega) hk⟩
  have e : (1 : Rat) = Rat.divInt b b := by
    rw [show (1 : Rat) = Rat.divInt 1 1 from rfl, Rat.divInt_eq_divInt_iff (by omega) (by omega)]
    omega
  have h := Rat.divInt_nonneg (a := b - a) (b := b) (by omega) (by omega)
  have h2 : Rat.divInt (b - a) b = 1 - Rat.divInt a b := by
    rw [e, Rat.divInt_sub_divInt _ _ (by omega) (by omega), Rat.divInt_eq_divInt_iff (by omega) (by have := Int.mul_pos hb hb; omega)]
    grind
  rw [h2] at h
  grind
/-- the lesser, the greater one -/
def rmin (a b : Rat) : Rat := if b < a then b else a
def rmax (a b : Rat) : Rat := if a < b then b else a
theorem divInt_self' (q : Rat) : Rat.divInt q.num (q.den : Int) = q := Rat.num_divInt_den q
end CB

set_option Elab.async false
set_option linter.all false
set_option maxRecDepth 100000
set_option maxHeartbeats 4000000
namespace CB
open PySem PySem.Spec PyProof.Rows L2
open C8 (Cal Met Mak pe_c pe_mk pe_mt pe_mt0 pe_gc CalAt)
def top (i : Nat) : Stmt := PySem.Challenge.pw_cornerbids_k27_whole_bids_behind_plays.main.body.getD i (.Pass ⟨0, 0, 0, 0⟩)
set_option maxHeartbeats 0
abbrev s_is_less : Stmt := top 3
abbrev s__law_draw : Stmt := top 41
abbrev s__law_dice : Stmt := top 40
abbrev s__law_lowest : Stmt := top 42
abbrev s__law_less : Stmt := top 43
abbrev s__law_number : Stmt := top 45
abbrev s__law_numbers : Stmt := top 46
abbrev s__law_sorted : Stmt := top 44
abbrev s__law_term : Stmt := top 47
abbrev s__law_rule_parts : Stmt := top 48
abbrev s_is_integer : Stmt := top 12
abbrev s_is_number : Stmt := top 13
abbrev s_is_person : Stmt := top 17
abbrev s_is_weight : Stmt := top 32
abbrev s_is_weighted : Stmt := top 31
abbrev s_are_some : Stmt := top 30
abbrev s_are_bounds : Stmt := top 15
abbrev s_inner_terms : Stmt := top 33
abbrev s_is_formed : Stmt := top 29
abbrev s_is_term : Stmt := top 28
abbrev s_is_people : Stmt := top 16
abbrev s_Rule___init__ : Stmt := inClass (top 38) 0
abbrev s_are_numbers : Stmt := top 14
abbrev s_are_persons : Stmt := top 18
abbrev s_is_schedule : Stmt := top 19
abbrev s_is_play : Stmt := top 20
abbrev s_need_schedule : Stmt := top 21
abbrev s_need_play : Stmt := top 22
abbrev s_latest_bids : Stmt := top 36
abbrev s_bids_behind : Stmt := top 35
abbrev s__law_bids : Stmt := top 50
abbrev s__law_schedule : Stmt := top 49
abbrev s_law : Stmt := top 51
/-! ### the head -/
def d_is_less : He.DefD := ⟨("is_less", none), "is_less", "is_less", defArgs s_is_less, defBody s_is_less, defScope s_is_less, [], []⟩
def d_is_integer : He.DefD := ⟨("is_integer", none), "is_integer", "is_integer", defArgs s_is_integer, defBody s_is_integer, defScope s_is_integer, [], []⟩
def d_is_number : He.DefD := ⟨("is_number", none), "is_number", "is_number", defArgs s_is_number, defBody s_is_number, defScope s_is_number, [], []⟩
def d_are_numbers : He.DefD := ⟨("are_numbers", none), "are_numbers", "are_numbers", defArgs s_are_numbers, defBody s_are_numbers, defScope s_are_numbers, [], []⟩
def d_are_bounds : He.DefD := ⟨("are_bounds", none), "are_bounds", "are_bounds", defArgs s_are_bounds, defBody s_are_bounds, defScope s_are_bounds, [], []⟩
def d_is_people : He.DefD := ⟨("is_people", none), "is_people", "is_people", defArgs s_is_people, defBody s_is_people, defScope s_is_people, [], []⟩
def d_is_person : He.DefD := ⟨("is_person", none), "is_person", "is_person", defArgs s_is_person, defBody s_is_person, defScope s_is_person, [], []⟩
def d_are_persons : He.DefD := ⟨("are_persons", none), "are_persons", "are_persons", defArgs s_are_persons, defBody s_are_persons, defScope s_are_persons, [], []⟩
def d_is_schedule : He.DefD := ⟨("is_schedule", none), "is_schedule", "is_schedule", defArgs s_is_schedule, defBody s_is_schedule, defScope s_is_schedule, [], []⟩
def d_is_play : He.DefD := ⟨("is_play", none), "is_play", "is_play", defArgs s_is_play, defBody s_is_play, defScope s_is_play, [], []⟩
def d_need_schedule : He.DefD := ⟨("need_schedule", none), "need_schedule", "need_schedule", defArgs s_need_schedule, defBody s_need_schedule, defScope s_need_schedule, [], []⟩
def d_need_play : He.DefD := ⟨("need_play", none), "need_play", "need_play", defArgs s_need_play, defBody s_need_play, defScope s_need_play, [], []⟩
def d_is_term : He.DefD := ⟨("is_term", none), "is_term", "is_term", defArgs s_is_term, defBody s_is_term, defScope s_is_term, [], []⟩
def d_is_formed : He.DefD := ⟨("is_formed", none), "is_formed", "is_formed", defArgs s_is_formed, defBody s_is_formed, defScope s_is_formed, [], []⟩
def d_are_some : He.DefD := ⟨("are_some", none), "are_some", "are_some", defArgs s_are_some, defBody s_are_some, defScope s_are_some, [], []⟩
def d_is_weighted : He.DefD := ⟨("is_weighted", none), "is_weighted", "is_weighted", defArgs s_is_weighted, defBody s_is_weighted, defScope s_is_weighted, [], []⟩
def d_is_weight : He.DefD := ⟨("is_weight", none), "is_weight", "is_weight", defArgs s_is_weight, defBody s_is_weight, defScope s_is_weight, [], []⟩
def d_inner_terms : He.DefD := ⟨("inner_terms", none), "inner_terms", "inner_terms", defArgs s_inner_terms, defBody s_inner_terms, defScope s_inner_terms, [], []⟩
def d_bids_behind : He.DefD := ⟨("bids_behind", none), "bids_behind", "bids_behind", defArgs s_bids_behind, defBody s_bids_behind, defScope s_bids_behind, [], []⟩
def d_latest_bids : He.DefD := ⟨("latest_bids", none), "latest_bids", "latest_bids", defArgs s_latest_bids, defBody s_latest_bids, defScope s_latest_bids, [], []⟩
def d__law_dice : He.DefD := ⟨("_law_dice", none), "_law_dice", "_law_dice", defArgs s__law_dice, defBody s__law_dice, defScope s__law_dice, [], []⟩
def d__law_draw : He.DefD := ⟨("_law_draw", none), "_law_draw", "_law_draw", defArgs s__law_draw, defBody s__law_draw, defScope s__law_draw, [], []⟩
def d__law_lowest : He.DefD := ⟨("_law_lowest", none), "_law_lowest", "_law_lowest", defArgs s__law_lowest, defBody s__law_lowest, defScope s__law_lowest, [], []⟩
def d__law_less : He.DefD := ⟨("_law_less", none), "_law_less", "_law_less", defArgs s__law_less, defBody s__law_less, defScope s__law_less, [], []⟩
def d__law_sorted : He.DefD := ⟨("_law_sorted", none), "_law_sorted", "_law_sorted", defArgs s__law_sorted, defBody s__law_sorted, defScope s__law_sorted, [], []⟩
def d__law_number : He.DefD := ⟨("_law_number", none), "_law_number", "_law_number", defArgs s__law_number, defBody s__law_number, defScope s__law_number, [], []⟩
def d__law_numbers : He.DefD := ⟨("_law_numbers", none), "_law_numbers", "_law_numbers", defArgs s__law_numbers, defBody s__law_numbers, defScope s__law_numbers, [], []⟩
def d__law_term : He.DefD := ⟨("_law_term", none), "_law_term", "_law_term", defArgs s__law_term, defBody s__law_term, defScope s__law_term, [], []⟩
def d__law_rule_parts : He.DefD := ⟨("_law_rule_parts", none), "_law_rule_parts", "_law_rule_parts", defArgs s__law_rule_parts, defBody s__law_rule_parts, defScope s__law_rule_parts, [], []⟩
def d__law_schedule : He.DefD := ⟨("_law_schedule", none), "_law_schedule", "_law_schedule", defArgs s__law_schedule, defBody s__law_schedule, defScope s__law_schedule, [], []⟩
def d__law_bids : He.DefD := ⟨("_law_bids", none), "_law_bids", "_law_bids", defArgs s__law_bids, defBody s__law_bids, defScope s__law_bids, [], []⟩
def d_law : He.DefD := ⟨("law", none), "law", "law", defArgs s_law, defBody s_law, defScope s_law, [], []⟩
def d_Rule___init__ : He.DefD := ⟨("Rule", some "__init__"), "__init__", "Rule.__init__", defArgs s_Rule___init__, defBody s_Rule___init__, defScope s_Rule___init__, [], []⟩
def fnL0 : List He.DefD := [d_is_less, d_is_integer, d_is_number, d_are_numbers, d_are_bounds, d_is_people, d_is_person, d_are_persons, d_is_schedule, d_is_play, d_need_schedule, d_need_play, d_is_term, d_is_formed, d_are_some, d_is_weighted, d_is_weight, d_inner_terms, d_bids_behind, d_latest_bids, d__law_dice, d__law_draw, d__law_lowest, d__law_less, d__law_sorted, d__law_number, d__law_numbers, d__law_term, d__law_rule_parts, d__law_schedule]
def fnL1 : List He.DefD := [d__law_bids, d_law, d_Rule___init__]
def fnL : List He.DefD := fnL0 ++ fnL1
def faL0 : List He.Fa := [.glo "is_less", .glo "is_integer", .glo "is_number", .glo "are_numbers", .glo "are_bounds", .glo "is_people", .glo "is_person", .glo "are_persons", .glo "is_schedule", .glo "is_play", .glo "need_schedule", .glo "need_play", .glo "is_term", .glo "is_formed", .glo "are_some", .glo "is_weighted", .glo "is_weight", .glo "inner_terms", .glo "bids_behind", .glo "latest_bids", .glo "_law_dice", .glo "_law_draw", .glo "_law_lowest", .glo "_law_less", .glo "_law_sorted", .glo "_law_number", .glo "_law_numbers", .glo "_law_term", .glo "_law_rule_parts", .glo "_law_schedule"]
def faL1 : List He.Fa := [.glo "_law_bids", .glo "law", .glo "Rule", .cls "Rule", .noat "Rule" "people", .noat "Rule" "term", .mkr "Rule", .free "abs", .free "int", .free "len", .free "range", .free "tuple", .free "isinstance", .free "bool", .free "str", .free "all", .free "min", .free "set", .free "zip", .int "MOST_PEOPLE" 6, .int "MOST_WEIGHT" 99, .int "MOST_PARTS" 8, .int "MOST_DEEP" 8, .int "MOST_TERMS" 60, .int "MOST_TURNS" 12]
def faZ : List He.Fa := [.glo "ZERO"]
def faL : List He.Fa := faL0 ++ faL1 ++ faZ
def looseL0 : List PySem.Str := ["ZERO", "is_less", "BidError", "BadRule", "NoSchedule", "NoPlay", "MOST_PEOPLE", "MOST_TURNS", "is_integer", "is_number", "are_numbers", "are_bounds", "is_people", "is_person", "are_persons", "is_schedule", "is_play", "need_schedule", "need_play", "MOST_PARTS", "MOST_WEIGHT", "MOST_DEEP", "MOST_TERMS", "is_term", "is_formed", "are_some", "is_weighted", "is_weight", "inner_terms", "bids_behind"]
def looseL1 : List PySem.Str := ["latest_bids", "Rule", "_law_dice", "_law_draw", "_law_lowest", "_law_less", "_law_sorted", "_law_number", "_law_numbers", "_law_term", "_law_rule_parts", "_law_schedule", "_law_bids"]
def looseL : List PySem.Str := looseL0 ++ looseL1
def exL (K : PySem.W.Frag) : Bool := (He.eqO (PySem.W.nsIn K mainGlobals "gcd") (some (some (.builtin "math.gcd"))) && (He.tupB K "ZERO" [.int 0, .int 1] && true))
abbrev Rw : PySem.W.OpenRow := PySem.W.OpenLaw.row PySem.Challenge.rw_cornerbids_k27_whole_bids_behind_plays
abbrev qv : Program := PySem.W.view Rw.prog [0, 51]
abbrev hkL : PySem.W.Hook := He.hookX 5 faL fnL [] [] exL
def obL (s : PySem.W.SharedT) : He.AlX := He.obsX 5 faL fnL [] [] exL (HandSHeadRun.getT s)
theorem ob_eq (s : PySem.W.SharedT) : obL s = hkL.obs s.abs := He.obsX_eq (HandSHeadRun.getT_eq s)
theorem map_both {α β γ δ : Type} {o : Option α} {f : α → β} {g : α → γ} {h : α → δ} {b : β} {c : γ} {d : δ} (e1 : o.map (fun x => (f x, g x)) = some (b, c)) (e2 : o.map h = some d) : o.map (fun x => (f x, g x, h x)) = some (b, c, d) := by
  cases o with
  | none => cases e2
  | some x =>
    obtain ⟨a1, a2⟩ := Prod.mk.inj (Option.some.inj e1)
    exact congrArg some (Prod.ext a1 (Prod.ext a2 (Option.some.inj e2)))
noncomputable abbrev whL (w : World) := HandSHeadRun.wholeF (fun p => HandSHeadRun.stepQ (HandSHeadRun.denQ HandSHeadRun.tabQ) p w) HandSHeadRun.fenceQ 6000 Rw.prog
theorem run1 (w : World) : Option.map (fun x => (HandSHeadRun.looksF Rw.prog x.fst.heap x.snd.abs, HandSHeadRun.seenQ qv looseL (PySem.importedModules Rw.prog.main.body) (fun s => PySem.W.xlAt qv [] s && PySem.W.recOk Rw.records s) x.snd.abs)) (whL w) = Option.some (Bool.true, PySem.W.openGood qv looseL) := by
  kernel_rfl
theorem run2 (w : World) : Option.map (fun x => obL x.snd) (whL w) = Option.some (hkL.val w) := by
  kernel_rfl
theorem runL (w : World) : HandSHeadRun.RunEqI Rw qv hkL obL 6000 looseL w :=
  map_both (o := whL w) (f := fun x => HandSHeadRun.looksF Rw.prog x.fst.heap x.snd.abs) (g := fun x => HandSHeadRun.seenQ qv looseL (PySem.importedModules Rw.prog.main.body) (fun s => PySem.W.xlAt qv [] s && PySem.W.recOk Rw.records s) x.snd.abs) (h := fun x => obL x.snd) (run1 w) (run2 w)
set_option maxHeartbeats 4000000
section
variable {P : Program} {w : World} {K : PySem.W.Frag} {mg : Str → Option Value} {base : Heap}
def sp_lowest (K : PySem.W.Frag) : Sp := fun vs H Q _ => ∃ a b : Int, vs = [.int a, .int b] ∧ 0 < b ∧ b.natAbs < 2 ^ 9000 ∧ ∀ v H', Same H H' → RF K H' v (Rat.divInt a b) → Q v H'
/-- of raw pairs -/
def sp_plus (K : PySem.W.Frag) : Sp := fun vs H Q _ => ∃ (v1 v2 : V) (a b c d : Int) (m n : Nat), vs = [v1, v2] ∧ PF K H v1 a b ∧ PF K H v2 c d ∧ 0 < b ∧ 0 < d ∧ 
  a.natAbs < 2 ^ m ∧ b.natAbs < 2 ^ m ∧ c.natAbs < 2 ^ n ∧ d.natAbs < 2 ^ n ∧ m + n ≤ 9000 ∧ ∀ v H', Same H H' → RF K H' v (Rat.divInt a b + Rat.divInt c d) → Q v H'
end
end CB

set_option Elab.async false
set_option linter.all false
set_option maxRecDepth 100000
set_option maxHeartbeats 4000000
namespace CB
open PySem PySem.Spec PyProof.Rows L2
open C8 (Cal Met Mak pe_c pe_mk pe_mt pe_mt0 pe_gc CalAt)
section
variable {P : Program} {w : World} {K : PySem.W.Frag} {mg : Str → Option Value} {base : Heap}
/-- of raw pairs, the second above 0 -/
def sp_over (K : PySem.W.Frag) : Sp := fun vs H Q _ => ∃ (v1 v2 : V) (a b c d : Int) (m n : Nat), vs = [v1, v2] ∧ PF K H v1 a b ∧ PF K H v2 c d ∧ 0 < b ∧ 0 < c ∧ 0 < d ∧ 
  a.natAbs < 2 ^ m ∧ b.natAbs < 2 ^ m ∧ c.natAbs < 2 ^ n ∧ d.natAbs < 2 ^ n ∧ m + n ≤ 9000 ∧ ∀ v H', Same H H' → RF K H' v (Rat.divInt a b / Rat.divInt c d) → Q v H'
abbrev n_is_less : List Str := ["one", "other"]
theorem sc_is_less : FnScope ["one", "other"] ["one", "other"] (defScope s_is_less) := ⟨rfl, rfl, rfl, by decide +kernel, rfl, by decide +kernel, by decide +kernel⟩
def sp_is_less (K : PySem.W.Frag) : Sp := fun vs H Q _ => ∃ (v1 v2 : V) (a b : Rat) (m n : Nat), vs = [v1, v2] ∧ RF K H v1 a ∧ RF K H v2 b ∧ Sz m a ∧ Sz n b ∧ m + n ≤ 900000 ∧ Q (.bl (decide (a < b))) H
theorem ok_is_less (F : FnD K mg "is_less" s_is_less) : Cal P w K mg base 1 "is_less" (sp_is_less K) [] := by
  refine calOf F sc_is_less (fun _ _ _ _ _ _ us hl => match us, hl with | [_, _], _ => rfl) (fun vs H Q E h => ?_) (fun cdv f A outer s H vs Q E hr h => ?_)
  · obtain ⟨_, _, _, _, _, _, rfl, _⟩ := h
    rfl
  · obtain ⟨v1, v2, a, b, m, n, rfl, ⟨p1, rfl, h1⟩, ⟨p2, rfl, h2⟩, sa, sb, hmn, k⟩ := h
    refine ⟨_, (pss_one (ps_ret (pe_cmpR op_lt (pe_op op_mulW (pe_ix ix_tup (pv 0) pe_int (fun _ _ => rfl)) (pe_ix ix_tup (pv 1) pe_int (fun _ _ => rfl))) (pe_op op_mulW (pe_ix ix_tup (pv 1) pe_int (fun _ _ => rfl)) (pe_ix ix_tup (pv 0) pe_int (fun _ _ => rfl))) (nomark _)))), ?_⟩
    refine ⟨_, rfl, _, _, _, _, rfl, rfl, h1, rfl, _, rfl, _, _, _, _, rfl, rfl, h2, rfl, _, _, rfl, rfl, wm sa.1 sb.d (by omega), ?_⟩
    refine ⟨_, rfl, _, _, _, _, rfl, rfl, h2, rfl, _, rfl, _, _, _, _, rfl, rfl, h1, rfl, _, _, rfl, rfl, wm sb.1 sa.d (by omega), ?_⟩
    refine ⟨_, _, rfl, rfl, ?_⟩
    show Q (V.bl (decide (a.num * (b.den : Int) < b.num * (a.den : Int)))) H
    rw [show decide (a.num * (b.den : Int) < b.num * (a.den : Int)) = decide (a < b) from decide_eq_decide.mpr lt_num]
    exact k
def sp_lesser (K : PySem.W.Frag) : Sp := fun vs H Q _ => ∃ (v1 v2 : V) (a b : Rat) (m n : Nat), vs = [v1, v2] ∧ RF K H v1 a ∧ RF K H v2 b ∧ Sz m a ∧ Sz n b ∧ m + n ≤ 900000 ∧ ∀ v, RF K H v (rmin a b) → Q v H
def sp_greater (K : PySem.W.Frag) : Sp := fun vs H Q _ => ∃ (v1 v2 : V) (a b : Rat) (m n : Nat), vs = [v1, v2] ∧ RF K H v1 a ∧ RF K H v2 b ∧ Sz m a ∧ Sz n b ∧ m + n ≤ 900000 ∧ ∀ v, RF K H v (rmax a b) → Q v H
/-- the parts of a mean: a weight, its number, a bound of its size -/
abbrev MPart := Int × Rat × Nat
def wsum (L : List MPart) : Rat := (L.map fun x => ((x.1 : Int) : Rat) * x.2.1).sum
def wtot (L : List MPart) : Int := (L.map fun x => x.1).sum
def wsz (L : List MPart) : Nat := (L.map fun x => x.2.2 + 8).sum
def MOk (x : MPart) : Prop := 1 ≤ x.1 ∧ x.1 ≤ 99 ∧ Sz x.2.2 x.2.1
def sp_mean_of (K : PySem.W.Frag) : Sp := fun vs H Q _ => ∃ (a1 a2 : Addr) (us : List V) (L : List MPart), vs = [.ref a1, .ref a2] ∧ SqL K H a1 (L.map fun x => V.int x.1) ∧ SqL K H a2 us ∧ RpAll K H us (L.map fun x => qd x.2.1) ∧
  L ≠ [] ∧ (∀ x ∈ L, MOk x) ∧ L.length ≤ 8 ∧ wsz L + 20 ≤ 9000 ∧ ∀ v H', Same H H' → RF K H' v (wsum L / ((wtot L : Int) : Rat)) → Sz (wsz L + 12) (wsum L / ((wtot L : Int) : Rat)) → Q v H'
theorem take_succ' {α : Type} {l : List α} {i : Nat} {x : α} (h : l[i]? = some x) : l.take (i + 1) = l.take i ++ [x] := by
  rw [List.take_succ, h]
  rfl
theorem wtot_bound : ∀ {L : List MPart}, (∀ x ∈ L, MOk x) → (L.length : Int) ≤ wtot L ∧ wtot L ≤ 99 * (L.length : Int)
  | [], _ => by simp [wtot]
  | x :: L, h => by
    have ih := wtot_bound (L := L) fun y hy => h y (List.mem_cons_of_mem _ hy)
    have hx := h x List.mem_cons_self
    have e : wtot (x :: L) = x.1 + wtot L := by simp [wtot]
    rw [e, List.length_cons]
    have := hx.1
    have := hx.2.1
    push_cast
    omega
theorem wsz_take_le {L : List MPart} {i : Nat} : wsz (L.take i) ≤ wsz L := by
  have e : wsz L = wsz (L.take i) + wsz (L.drop i) := by
    unfold wsz
    rw [← List.sum_append, ← List.map_append, List.take_append_drop]
  omega
theorem zero_rf {K : PySem.W.Frag} {H : Hp} {a : Addr} (h : SqT K H a [.int 0, .int 1]) : RF K H (.ref a) 0 := ⟨a, rfl, h⟩
theorem sz_zero : Sz 1 0 := by
  constructor <;> decide
theorem le_sum_mem : ∀ {l : List Nat} {x : Nat}, x ∈ l → x ≤ l.sum
  | y :: l, x, h => by
    rw [List.sum_cons]
    rcases List.mem_cons.mp h with e | e
    · omega
    · have := le_sum_mem e; omega
theorem mul_den_num (q : Rat) : q * ((q.den : Int) : Rat) = ((q.num : Int) : Rat) := by
  have h := Rat.num_divInt_den q
  rw [Rat.divInt_eq_div] at h
  have hd : ((q.den : Int) : Rat) ≠ 0 := by
    intro h
    have e : ((q.den : Nat) : Int) = 0 := Rat.intCast_inj.mp h
    have := q.den_pos
    omega
  have e : q * ((q.den : Int) : Rat) = ((q.num : Int) : Rat) / ((q.den : Int) : Rat) * ((q.den : Int) : Rat) := by rw [h]
  rw [e, Rat.div_mul_cancel hd]
/-! ### math.lcm -/
def rLcm : List V → Hp → VK → Prop := fun vs H Q => ∃ a b : Int, vs = [.int a, .int b] ∧ a.natAbs < 2 ^ 9100 ∧ b.natAbs < 2 ^ 9100 ∧ Q (.int ((Nat.lcm a.natAbs b.natAbs : Nat) : Int)) H
theorem lcm_le' (a b : Nat) : Nat.lcm a b ≤ a * b := Nat.div_le_self _ _
theorem cr_lcm {X : Cx} : CallR X (.builtin "math.lcm") rLcm := by
  intro pins s σ H vs us Q I r h
  obtain ⟨a, b, rfl, ha, hb, q⟩ := h
  obtain ⟨t, u, rfl⟩ := Vals.int2 r
  have p1 := Nat.one_le_two_pow (n := 9100)
  have h1 : (max 1 a.natAbs).log2 ≤ 9100 := PySem.W.mg_log (k := 9100) (by rw [Nat.pow_succ]; omega)
  have h2 : (max a.natAbs b.natAbs).log2 ≤ 9100 := PySem.W.mg_log (k := 9100) (by rw [Nat.pow_succ]; omega)
  have g := PySem.W.mg_run_lcm a t b u (by omega) (by omega) (by
    rw [Nat.lcm_one_left]
    have l := lcm_le' a.natAbs b.natAbs
    have m : a.natAbs * b.natAbs < 2 ^ (9100 + 9100) := by rw [Nat.pow_add]; exact Nat.mul_lt_mul'' ha hb
    have h3 : (((a.natAbs.lcm b.natAbs : Nat) : Int)).natAbs.log2 ≤ 18200 := PySem.W.mg_log (k := 18200) (by rw [Int.natAbs_natCast, Nat.pow_succ]; omega)
    exact Nat.lt_of_le_of_lt h3 (by decide))
  rw [Nat.lcm_one_left] at g
  exact call_function_meets PySem.W.MGF.kind_lcm PySem.W.MGF.plain_lcm PySem.W.MGF.entry_lcm (PySem.W.MGF.args_lcm _ _) g.meets ⟨.int _, H, I.tok _, ⟨_, rfl⟩, q⟩
/-! ### the bottom that numbers have in common -/
def cbot (L : List MPart) : Nat := L.foldl (fun b x => Nat.lcm b x.2.1.den) 1
theorem cbot_snoc (L : List MPart) (x : MPart) : cbot (L ++ [x]) = Nat.lcm (cbot L) x.2.1.den := by
  unfold cbot
  rw [List.foldl_append]
  rfl
theorem foldl_lcm_dvd : ∀ (L : List MPart) (b : Nat), b ∣ L.foldl (fun b x => Nat.lcm b x.2.1.den) b ∧ ∀ x ∈ L, x.2.1.den ∣ L.foldl (fun b x => Nat.lcm b x.2.1.den) b
  | [], b => ⟨Nat.dvd_refl _, fun x h => by cases h⟩
  | y :: L, b => by
    obtain ⟨h1, h2⟩ := foldl_lcm_dvd L (Nat.lcm b y.2.1.den)
    refine ⟨Nat.dvd_trans (Nat.dvd_lcm_left _ _) h1, fun x h => ?_⟩
    rcases List.mem_cons.mp h with e | e
    · rw [e]
      exact Nat.dvd_trans (Nat.dvd_lcm_right _ _) h1
    · exact h2 x e
theorem cbot_dvd {L : List MPart} {x : MPart} (h : x ∈ L) : x.2.1.den ∣ cbot L := (foldl_lcm_dvd L 1).2 x h
theorem foldl_lcm_pos : ∀ (L : List MPart) (b : Nat), 0 < b → 0 < L.foldl (fun b x => Nat.lcm b x.2.1.den) b
  | [], _, h => h
  | y :: L, b, h => foldl_lcm_pos L _ (Nat.lcm_pos h y.2.1.den_pos)
theorem cbot_pos (L : List MPart) : 0 < cbot L := foldl_lcm_pos L 1 (by decide)
theorem foldl_lcm_lt : ∀ (L : List MPart) (b k : Nat), (∀ x ∈ L, MOk x) → b < 2 ^ k → L.foldl (fun b x => Nat.lcm b x.2.1.den) b < 2 ^ (k + wsz L)
  | [], _, _, _, h => h
  | y :: L, b, k, ok, h => by
    have hy := (ok y List.mem_cons_self).2.2.2
    have l := lcm_le' b y.2.1.den
    have m : b * y.2.1.den < 2 ^ (k + y.2.2) := by rw [Nat.pow_add]; exact Nat.mul_lt_mul'' h hy
    have ih := foldl_lcm_lt L (Nat.lcm b y.2.1.den) (k + y.2.2) (fun x hx => ok x (List.mem_cons_of_mem _ hx)) (Nat.lt_of_le_of_lt l m)
    refine Nat.lt_of_lt_of_le ih (Nat.pow_le_pow_right (by omega) ?_)
    simp [wsz]
    omega
theorem cbot_lt {L : List MPart} (ok : ∀ x ∈ L, MOk x) : cbot L < 2 ^ (wsz L + 1) := by
  have h := foldl_lcm_lt L 1 1 ok (by decide)
  rw [Nat.add_comm] at h
  exact h
def sp_common_bottom (K : PySem.W.Frag) : Sp := fun vs H Q _ => ∃ (a : Addr) (us : List V) (L : List MPart), vs = [.ref a] ∧ SqL K H a us ∧ RpAll K H us (L.map fun x => qd x.2.1) ∧ (∀ x ∈ L, MOk x) ∧ wsz L + 20 ≤ 9000 ∧ Q (.int ((cbot L : Nat) : Int)) H
def sp_scaled (K : PySem.W.Frag) : Sp := fun vs H Q _ => ∃ (v : V) (a b c : Int) (m n : Nat), vs = [v, .int c] ∧ PF K H v a b ∧ 0 < b ∧ a.natAbs < 2 ^ m ∧ b.natAbs < 2 ^ m ∧ 0 ≤ c ∧ c.natAbs < 2 ^ n ∧ m ≤ 9000 ∧ n ≤ 9000 ∧ Q (.int (a * (c / b))) H
/-! ### the mean -/
def scp (B : Int) (x : MPart) : Int := x.1 * (x.2.1.num * (B / (x.2.1.den : Int)))
theorem scp_rat {B : Nat} {x : MPart} (h : x.2.1.den ∣ B) : ((scp (B : Int) x : Int) : Rat) = ((x.1 : Int) : Rat) * x.2.1 * ((B : Int) : Rat) := by
  obtain ⟨c, rfl⟩ := h
  have hd : ((x.2.1.den : Nat) : Int) ≠ 0 := by have := den_pos x.2.1; omega
  have e : ((x.2.1.den * c : Nat) : Int) / (x.2.1.den : Int) = (c : Int) := by
    rw [Int.natCast_mul, Int.mul_ediv_cancel_left _ hd]
  have q : x.2.1 * ((x.2.1.den : Int) : Rat) = ((x.2.1.num : Int) : Rat) := mul_den_num _
  unfold scp
  rw [e, Int.natCast_mul, Rat.intCast_mul, Rat.intCast_mul, Rat.intCast_mul, ← q]
  grind
theorem scp_sum {B : Nat} : ∀ {L : List MPart}, (∀ x ∈ L, x.2.1.den ∣ B) → (((L.map (scp (B : Int))).sum : Int) : Rat) = wsum L * ((B : Int) : Rat)
  | [], _ => by
    show ((0 : Int) : Rat) = 0 * _
    rw [Rat.zero_mul]
    rfl
  | x :: L, h => by
    have ih := scp_sum (L := L) fun y hy => h y (List.mem_cons_of_mem _ hy)
    have hx := scp_rat (h x List.mem_cons_self)
    have e : wsum (x :: L) = ((x.1 : Int) : Rat) * x.2.1 + wsum L := by simp [wsum]
    rw [List.map_cons, List.sum_cons, Rat.intCast_add, ih, hx, e]
    grind
theorem scp_mean {L : List MPart} {B : Nat} (hB : 0 < B) (hd : ∀ x ∈ L, x.2.1.den ∣ B) (hw : 0 < wtot L) : Rat.divInt (L.map (scp ((B : Nat) : Int))).sum (((B : Nat) : Int) * wtot L) = wsum L / ((wtot L : Int) : Rat) := by
  have hb : (((B : Nat) : Int) : Rat) ≠ 0 := by
    intro h
    have : ((B : Nat) : Int) = 0 := Rat.intCast_inj.mp h
    omega
  have ht : ((wtot L : Int) : Rat) ≠ 0 := by
    intro h
    have : wtot L = 0 := Rat.intCast_inj.mp h
    omega
  rw [Rat.divInt_eq_div, scp_sum hd, Rat.intCast_mul]
  grind
theorem wsum_cons (x : MPart) (L : List MPart) : wsum (x :: L) = ((x.1 : Int) : Rat) * x.2.1 + wsum L := by simp [wsum]
theorem wsum_sz : ∀ {L : List MPart}, (∀ x ∈ L, MOk x) → Sz (wsz L + 1) (wsum L)
  | [], _ => by
    show Sz 1 0
    exact sz_zero
  | x :: L, h => by
    have ih := wsum_sz (L := L) fun y hy => h y (List.mem_cons_of_mem _ hy)
    have hx := h x List.mem_cons_self
    have hw : x.1.natAbs < 2 ^ 7 := by have := hx.1; have := hx.2.1; omega
    have z := sz_add (den_pos x.2.1) (den_pos (wsum L)) (wide_lt hw hx.2.2.1) (Nat.lt_of_lt_of_le hx.2.2.d (Nat.pow_le_pow_right (by omega) (show x.2.2 ≤ 7 + x.2.2 by omega))) ih.1 ih.d
    rw [← mul_divInt, divInt_self', ← wsum_cons] at z
    refine z.mono ?_
    simp [wsz]
    omega
theorem wmean_sz {L : List MPart} (h : ∀ x ∈ L, MOk x) (hne : L ≠ []) (hl : L.length ≤ 8) : Sz (wsz L + 12) (wsum L / ((wtot L : Int) : Rat)) := by
  have wb := wtot_bound h
  have hl1 := List.length_pos_iff.mpr hne
  have hs := wsum_sz h
  have hb : (wtot L).natAbs < 2 ^ 10 := by omega
  have z : wsum L / ((wtot L : Int) : Rat) = Rat.divInt ((wsum L).num * 1) (((wsum L).den : Int) * wtot L) := by
    rw [divInt_div (by omega) (by omega) (den_pos _), divInt_self', ← int_rat]
  rw [z]
  refine divInt_sz (Int.mul_pos (den_pos _) (by omega)) ?_ ?_
  · rw [Int.mul_one]
    exact Nat.lt_of_lt_of_le hs.1 (Nat.pow_le_pow_right (by omega) (by omega))
  · exact Nat.lt_of_lt_of_le (wide_lt hs.d hb) (Nat.pow_le_pow_right (by omega) (by omega))
end
end CB

set_option Elab.async false
set_option linter.all false
set_option maxRecDepth 100000
set_option maxHeartbeats 4000000
namespace CB
open PySem PySem.Spec PyProof.Rows L2
open C8 (Cal Met Mak pe_c pe_mk pe_mt pe_mt0 pe_gc CalAt)
section
variable {P : Program} {w : World} {K : PySem.W.Frag} {mg : Str → Option Value} {base : Heap}
/-- the dice, a list at d.1: its cells, a list at d.2, and the state -/
def Dice (H : Hp) (d : Addr × Addr) : Prop := ∃ (p h s c : Int) (ns : List Int), H d.1 = some (.lst [.ref d.2, .int p, .int h, .int s, .int c]) ∧ H d.2 = some (.lst (ns.map V.int)) ∧ d.2 ≠ d.1 ∧ 0 ≤ p ∧ (∀ n ∈ ns, 0 ≤ n) ∧ 0 ≤ h ∧ 0 ≤ s ∧ s < 2147483647
theorem Dice.lst {H : Hp} {d : Addr × Addr} (h : Dice H d) : ∃ xs, H d.1 = some (.lst xs) := by
  obtain ⟨_, _, _, _, _, h, _⟩ := h
  exact ⟨_, h⟩
theorem Dice.kt {H H' : Hp} {d : Addr × Addr} (h : Dice H d) (e : KD d.1 H H') : KT H H' := by
  obtain ⟨xs, h⟩ := h.lst
  exact e.kt h
theorem Dice.same {H H' : Hp} {d : Addr × Addr} (h : Dice H d) (e : Same H H') : Dice H' d := by
  obtain ⟨p, h, s, c, ns, h1, h2, h3⟩ := h
  exact ⟨p, h, s, c, ns, e _ _ h1, e _ _ h2, h3⟩
theorem Dice.ne {H : Hp} {d : Addr × Addr} (h : Dice H d) {D : Addr} (n : H D = none) : D ≠ d.1 ∧ D ≠ d.2 := by
  obtain ⟨p, h, s, c, ns, h1, h2, h3⟩ := h
  exact ⟨(ne_of_none h1 n).symm, (ne_of_none h2 n).symm⟩
theorem Dice.upd {H : Hp} {d : Addr × Addr} (h : Dice H d) {D : Addr} {o : HO} (n : D ≠ d.1 ∧ D ≠ d.2) : Dice (L2.upd H D o) d := by
  obtain ⟨p, h, s, c, ns, h1, h2, h3⟩ := h
  exact ⟨p, h, s, c, ns, by rw [upd_ne n.1.symm]; exact h1, by rw [upd_ne n.2.symm]; exact h2, h3⟩
abbrev n__law_draw : List Str := ["_law_dice_here", "_law_sides", "_law_cell", "_law_digit", "_law_mixed"]
theorem sc__law_draw : FnScope ["_law_dice_here", "_law_sides", "_law_cell", "_law_digit", "_law_mixed"] ["_law_dice_here", "_law_sides"] (defScope s__law_draw) := ⟨rfl, rfl, rfl, by decide +kernel, rfl, by decide +kernel, by decide +kernel⟩
def sp__law_draw : Sp := fun vs H Q _ => ∃ (d : Addr × Addr) (n : Int), vs = [.ref d.1, .int n] ∧ Dice H d ∧ 1 ≤ n ∧ n < 1099511627776 ∧ ∀ (r : Int) (H' : Hp), 0 ≤ r → r < n → Dice H' d → KD d.1 H H' → Q (.int r) H'
theorem ok__law_draw (F : FnD K mg "_law_draw" s__law_draw) (T_len : mg "len" = none) (T_int : mg "int" = none) : Cal P w K mg base 1 "_law_draw" sp__law_draw [] := by
  refine calOf F sc__law_draw (fun _ _ _ _ _ _ us hl => match us, hl with | [_, _], _ => rfl) (fun vs H Q E h => ?_) (fun cdv f A outer s H vs Q E hr h => ?_)
  · obtain ⟨_, _, rfl, _⟩ := h
    rfl
  · obtain ⟨⟨da, cl⟩, n, rfl, ⟨p, hg, st, c, ns, h1, h2, hne, hp, hns, hg0, hs0, hs1⟩, hn1, hn2, k⟩ := h
    refine ⟨_, (C8.pss_cut (ps_if (PW.pt (pw_and (pt_cmpR op_eq (pe_ix ix_list (pv 0) pe_int (fun _ _ => rfl)) pe_int (nomark _)) (pw_and1 (pt_cmpR op_lt (pe_ix ix_list (pv 0) pe_int (fun _ _ => rfl)) (pe_callB call_len_seq (by rfl) T_len PySem.boot_len (pa_cons (pe_ix ix_list (pv 0) pe_int (fun _ _ => rfl)) pa_nil)) (nomark _))))) (pss_cons (ps_set (i := 2) sc__law_draw.nd rfl (Or.inl rfl) (pe_ix ix_list (pe_ix ix_list (pv 0) pe_int (fun _ _ => rfl)) (pe_ix ix_list (pv 0) pe_int (fun _ _ => rfl)) (fun _ _ => rfl)))
    (pss_cons (ps_asg (pe_op op_add (pe_ix ix_list (pv 0) pe_int (fun _ _ => rfl)) pe_int) (pg_sub (pv 0) pe_int set_list))
    (pss_one (ps_if (pt_cmpR op_ge (pv 2) (pe_op op_pow pe_int pe_int) (nomark _)) (pss_one (ps_asg (pv 2) (pg_sub (pv 0) pe_int set_list))) (pss_one (ps_asg (pe_op op_mod (pe_callTy call_int1 (by rfl) T_int (by decide +kernel) (pa_cons (pe_op op_add (pe_op op_add (pe_op op_mul (pe_ix ix_list (pv 0) pe_int (fun _ _ => rfl)) pe_int) (pe_op op_mul (pv 2) pe_int)) (pe_ix ix_list (pv 0) pe_int (fun _ _ => rfl))) pa_nil)) pe_int) (pg_sub (pv 0) pe_int set_list))))))) pss_nil)
    (C8.pss_cut (ps_if (pt_cmpR op_gt (pe_ix ix_list (pv 0) pe_int (fun _ _ => rfl)) pe_int (nomark _)) (pss_cons (ps_set (i := 3) sc__law_draw.nd rfl (Or.inl rfl) (pe_op op_mod (pe_callTy call_int1 (by rfl) T_int (by decide +kernel) (pa_cons (pe_ix ix_list (pv 0) pe_int (fun _ _ => rfl)) pa_nil)) (pv 1)))
    (pss_cons (ps_asg (pe_op op_fdivW (pe_callTy call_int1 (by rfl) T_int (by decide +kernel) (pa_cons (pe_ix ix_list (pv 0) pe_int (fun _ _ => rfl)) pa_nil)) (pv 1)) (pg_sub (pv 0) pe_int set_list))
    (pss_one (ps_ret (pv 3))))) pss_nil)
    (pss_cons (ps_asg (pe_op op_add (pe_ix ix_list (pv 0) pe_int (fun _ _ => rfl)) pe_int) (pg_sub (pv 0) pe_int set_list))
    (pss_cons (ps_asg (pe_op op_mod (pe_callTy call_int1 (by rfl) T_int (by decide +kernel) (pa_cons (pe_op op_add (pe_op op_add (pe_op op_mul (pe_ix ix_list (pv 0) pe_int (fun _ _ => rfl)) pe_int) (pe_op op_mul (pe_ix ix_list (pv 0) pe_int (fun _ _ => rfl)) pe_int)) pe_int) pa_nil)) pe_int) (pg_sub (pv 0) pe_int set_list))
    (pss_cons (ps_set (i := 4) sc__law_draw.nd rfl (Or.inl rfl) (pe_op op_mod (pe_callTy call_int1 (by rfl) T_int (by decide +kernel) (pa_cons (pe_op op_mul (pe_ix ix_list (pv 0) pe_int (fun _ _ => rfl)) (pe_op op_add (pe_op op_fdivW (pe_ix ix_list (pv 0) pe_int (fun _ _ => rfl)) pe_int) pe_int)) pa_nil)) pe_int))
    (pss_cons (ps_set (i := 4) sc__law_draw.nd rfl (Or.inl rfl) (pe_op op_mod (pe_callTy call_int1 (by rfl) T_int (by decide +kernel) (pa_cons (pe_op op_mul (pv 4) (pe_op op_add (pe_op op_fdivW (pv 4) pe_int) pe_int)) pa_nil)) pe_int))
    (pss_one (ps_ret (pe_op op_mod (pe_callTy call_int1 (by rfl) T_int (by decide +kernel) (pa_cons (pe_op op_fdivW (pv 4) pe_int) pa_nil)) (pv 1)))))))))), ?_⟩
    have h1 : H da = some (HO.lst [V.ref cl, V.int p, V.int hg, V.int st, V.int c]) := h1
    have h2 : H cl = some (HO.lst (ns.map V.int)) := h2
    have hne : cl ≠ da := hne
    have cm : ∀ x y : Int, (-(2 ^ 64) < y ∧ y < 2 ^ 64) → CMul x y := fun x y h => .inr h
    have dv : ∀ x y : Int, 0 < y → y < 1099511627776 → CDivW x y := fun x y h1 h2 => wide_div (b := 40) h1 (by omega) (by omega) (by omega)
    have dmk : ∀ {H' : Hp} {p hg st c : Int}, H' da = some (.lst [.ref cl, .int p, .int hg, .int st, .int c]) → KD da H H' → 0 ≤ p → 0 ≤ hg → 0 ≤ st → st < 2147483647 → Dice H' (da, cl) := fun a b c d e g => ⟨_, _, _, _, ns, a, b _ _ hne h2, hne, c, hns, d, e, g⟩
    refine ⟨fun σ H' => ∃ (x : Option V) (p hg st : Int), σ = [some (.ref da), some (.int n), x, none, none] ∧ H' da = some (.lst [.ref cl, .int p, .int hg, .int st, .int c]) ∧ KD da H H' ∧ 0 ≤ p ∧ 0 ≤ hg ∧ 0 ≤ st ∧ st < 2147483647, ?_, ?_⟩
    · refine ⟨_, rfl, _, _, _, _, rfl, rfl, SqL.of h1, rfl, rfl, _, rfl, ?_⟩
      refine ite2 (fun _ => ?_) (fun _ => ⟨none, p, hg, st, rfl, h1, KD.refl _ _, hp, hg0, hs0, hs1⟩)
      refine ⟨_, rfl, _, _, _, _, rfl, rfl, SqL.of h1, rfl, _, rfl, _, _, _, _, rfl, rfl, SqL.of h1, rfl, _, _, rfl, .inl (SqL.of h2), _, _, rfl, rfl, _, rfl, ?_⟩
      refine ite2 (fun hlt => ?_) (fun _ => ⟨none, p, hg, st, rfl, h1, KD.refl _ _, hp, hg0, hs0, hs1⟩)
      have hlt' : p < ((ns.map V.int).length : Int) := of_decide_eq_true hlt
      rw [List.length_map] at hlt'
      obtain ⟨z, hz⟩ : ∃ z, ns[p.toNat]? = some z := ⟨ns[p.toNat]'(by omega), List.getElem?_eq_getElem (by omega)⟩
      have hz' : (ns.map V.int)[p.toNat]? = some (.int z) := by rw [List.getElem?_map, hz]; rfl
      have z0 := hns z (List.mem_of_getElem? hz)
      refine ⟨_, rfl, _, _, _, _, rfl, rfl, SqL.of h1, rfl, _, rfl, _, _, _, _, rfl, rfl, SqL.of h1, rfl, _, _, _, _, rfl, rfl, SqL.of h2, at_of (j := p.toNat) (by omega) hz', ?_⟩
      refine ⟨_, rfl, _, _, _, _, rfl, rfl, SqL.of h1, rfl, _, _, rfl, rfl, _, rfl, _, _, _, _, rfl, rfl, h1, rfl, ?_⟩
      refine ⟨_, rfl, _, _, rfl, rfl, ⟨by decide, by decide, by decide⟩, _, _, rfl, rfl, _, rfl, ?_⟩
      refine ite2 (fun _ => ?_) (fun _ => ?_)
      · refine ⟨_, rfl, _, rfl, _, _, _, _, rfl, rfl, upd_same, rfl, ?_⟩
        exact ⟨_, p + 1, z, st, rfl, upd_same, (KD.refl _ _).upd.upd, by omega, z0, hs0, hs1⟩
      · refine ⟨_, rfl, _, _, _, _, rfl, rfl, SqL.of upd_same, rfl, _, _, rfl, rfl, cm _ _ (by decide), _, rfl, _, _, rfl, rfl, cm _ _ (by decide), _, _, rfl, rfl, ?_⟩
        refine ⟨_, rfl, _, _, _, _, rfl, rfl, SqL.of upd_same, rfl, _, _, rfl, rfl, .inl ⟨_, rfl, ?_⟩⟩
        refine ⟨_, _, rfl, rfl, (by show (0 : Int) < 2147483647; decide), _, rfl, _, _, _, _, rfl, rfl, upd_same, rfl, ?_⟩
        exact ⟨_, p + 1, hg, _, rfl, upd_same, (KD.refl _ _).upd.upd, by omega, hg0, Int.emod_nonneg _ (by decide), Int.emod_lt_of_pos _ (by decide)⟩
    · rintro σ H1 ⟨x, p1, hg1, st1, rfl, q1, kd1, b1, b2, b3, b4⟩
      refine ⟨fun σ H' => σ = [some (.ref da), some (.int n), x, none, none] ∧ H' = H1, ?_, ?_⟩
      · refine ⟨_, rfl, _, _, _, _, rfl, rfl, SqL.of q1, rfl, _, _, rfl, rfl, _, rfl, ?_⟩
        refine ite2 (fun _ => ?_) (fun _ => ⟨rfl, rfl⟩)
        refine ⟨_, rfl, _, _, _, _, rfl, rfl, SqL.of q1, rfl, .inl ⟨_, rfl, _, rfl, _, _, rfl, rfl, (by omega), ?_⟩⟩
        refine ⟨_, rfl, _, _, _, _, rfl, rfl, SqL.of q1, rfl, .inl ⟨_, rfl, _, rfl, _, _, rfl, rfl, dv _ _ (by omega) hn2, _, rfl, _, _, _, _, rfl, rfl, q1, rfl, ?_⟩⟩
        refine ⟨_, rfl, k _ _ (Int.emod_nonneg _ (by omega)) (Int.emod_lt_of_pos _ (by omega)) (dmk upd_same kd1.upd b1 (Int.ediv_nonneg b2 (by omega)) b3 b4) kd1.upd⟩
      · rintro σ H2 ⟨rfl, rfl⟩
        refine ⟨_, rfl, _, _, _, _, rfl, rfl, SqL.of q1, rfl, _, _, rfl, rfl, _, rfl, _, _, _, _, rfl, rfl, q1, rfl, ?_⟩
        refine ⟨_, rfl, _, _, _, _, rfl, rfl, SqL.of upd_same, rfl, _, _, rfl, rfl, cm _ _ (by decide), _, rfl, _, _, _, _, rfl, rfl, SqL.of upd_same, rfl, _, _, rfl, rfl, cm _ _ (by decide), _, _, rfl, rfl, _, _, rfl, rfl, .inl ⟨_, rfl, ?_⟩⟩
        refine ⟨_, _, rfl, rfl, (by show (0 : Int) < 2147483647; decide), _, rfl, _, _, _, _, rfl, rfl, upd_same, rfl, ?_⟩
        have m0 : ∀ x : Int, 0 ≤ x % 2147483647 := fun x => Int.emod_nonneg _ (by decide)
        have m1 : ∀ x : Int, x % 2147483647 < 2147483647 := fun x => Int.emod_lt_of_pos _ (by decide)
        have sm : ∀ x y : Int, 0 ≤ x → x < 2147483648 → CMul x y := fun x y h1 h2 => .inl ⟨by omega, by omega⟩
        refine ⟨_, rfl, _, _, _, _, rfl, rfl, SqL.of upd_same, rfl, _, rfl, _, _, _, _, rfl, rfl, SqL.of upd_same, rfl, _, _, rfl, rfl, dv _ _ (by decide) (by decide), _, _, rfl, rfl, _, _, rfl, rfl, sm _ _ (m0 _) (by have := m1 (st1 * 48271 + c * 7919 + 1); omega), .inl ⟨_, rfl, ?_⟩⟩
        refine ⟨_, _, rfl, rfl, (by show (0 : Int) < 2147483399; decide), ?_⟩
        refine ⟨_, rfl, _, rfl, _, _, rfl, rfl, dv _ _ (by decide) (by decide), _, _, rfl, rfl, _, _, rfl, rfl, sm _ _ (Int.emod_nonneg _ (by decide)) (by have := Int.emod_lt_of_pos ((st1 * 48271 + c * 7919 + 1) % 2147483647 * ((st1 * 48271 + c * 7919 + 1) % 2147483647 / 1009 + 69623)) (show (0 : Int) < 2147483399 by decide); omega), .inl ⟨_, rfl, ?_⟩⟩
        refine ⟨_, _, rfl, rfl, (by show (0 : Int) < 2147483563; decide), ?_⟩
        refine ⟨_, rfl, _, _, rfl, rfl, dv _ _ (by decide) (by decide), .inl ⟨_, rfl, _, rfl, _, _, rfl, rfl, (by omega), ?_⟩⟩
        exact k _ _ (Int.emod_nonneg _ (by omega)) (Int.emod_lt_of_pos _ (by omega)) (dmk upd_same kd1.upd.upd b1 b2 (m0 _) (m1 _)) kd1.upd.upd
end
end CB

set_option Elab.async false
set_option linter.all false
set_option maxRecDepth 100000
set_option maxHeartbeats 4000000
namespace CB
open PySem PySem.Spec PyProof.Rows L2
open C8 (Cal Met Mak pe_c pe_mk pe_mt pe_mt0 pe_gc CalAt)
section
variable {P : Program} {w : World} {K : PySem.W.Frag} {mg : Str → Option Value} {base : Heap}
abbrev n__law_dice : List Str := ["_law_script", "_law_cell"]
theorem sc__law_dice : FnScope ["_law_script", "_law_cell"] ["_law_script"] (defScope s__law_dice) := ⟨rfl, rfl, rfl, by decide +kernel, rfl, by decide +kernel, by decide +kernel⟩
def sp__law_dice (K : PySem.W.Frag) : Sp := fun vs H Q _ => ∃ (a : Addr) (ns : List Int), vs = [.ref a] ∧ SqL K H a (ns.map V.int) ∧ ∀ (d : Addr × Addr) (H' : Hp), H d.1 = none → Same H H' → Dice H' d → Q (.ref d.1) H'
theorem abs_nonneg (z : Int) : 0 ≤ (if z < 0 then -z else z) := by split <;> omega
theorem ok__law_dice (F : FnD K mg "_law_dice" s__law_dice) (T_abs : mg "abs" = none) (T_int : mg "int" = none) : Cal P w K mg base 1 "_law_dice" (sp__law_dice K) [] := by
  refine calOf F sc__law_dice (fun _ _ _ _ _ _ us hl => match us, hl with | [_], _ => rfl) (fun vs H Q E h => ?_) (fun cdv f A outer s H vs Q E hr h => ?_)
  · obtain ⟨_, _, rfl, _⟩ := h
    rfl
  · obtain ⟨a, ns, rfl, hS, k⟩ := h
    refine ⟨_, (pss_one (ps_ret (pe_lst (pa_cons (pe_lc (own := [("_law_cell", 1)]) (by rfl) sc__law_dice.nd (pi_list (pe_slice sl_list (pv 0) po_none (po_some pe_int))) (blkOk_by (own := [("_law_cell", 1)]) (N := ["_law_script", "_law_cell"]) (sc := defScope s__law_dice) (by decide +kernel)) (fun _ _ _ _ _ => (pg_name (i := 1) sc__law_dice.nd rfl (Or.inl rfl))) (fun _ _ _ _ _ => pts_nil) (fun _ _ _ _ _ => (pe_callB call_abs (by rfl) T_abs (by decide +kernel) (pa_cons (pe_callTy call_int1 (by rfl) T_int (by decide +kernel) (pa_cons (pv 1) pa_nil)) pa_nil)))) (pa_cons pe_int (pa_cons pe_int (pa_cons pe_int (pa_cons pe_int pa_nil)))))))), ?_⟩
    refine ⟨_, rfl, _, rfl, a, _, rfl, hS, fun p hp => ?_⟩
    have e2 : cutV (ns.map V.int) none (some 63) = (ns.take 63).map V.int := by
      show ((ns.map V.int).drop 0).take (HT.sIx (ns.map V.int).length (ns.map V.int).length (some ((63 : Nat) : Int)) - 0) = _
      rw [HT.sIx_nat, List.drop_zero, List.length_map, Nat.sub_zero, ← List.map_take]
      congr 1
      by_cases c : 63 ≤ ns.length
      · rw [Nat.min_eq_left c]
      · rw [Nat.min_eq_right (by omega), List.take_of_length_le (Nat.le_refl _), List.take_of_length_le (by omega)]
    rw [e2]
    have s1 := same_new (o := .lst ((ns.take 63).map V.int)) hp
    refine ⟨p, rfl, ⟨_, SqL.of upd_same⟩, fun D hD => ?_⟩
    have hDH : H D = none := Same.free s1 hD
    have s2 : Same H (upd (upd H p (.lst ((ns.take 63).map V.int))) D (.lst [])) := s1.trans (same_new hD)
    refine lc_list (K := K) (a := p) (xs := (ns.take 63).map V.int) (fun i H' => ∃ ms : List Int, p ≠ D ∧ H' D = some (.lst (ms.map V.int)) ∧ ms.length = i ∧ (∀ m ∈ ms, 0 ≤ m) ∧ Same H H' ∧ H' p = some (.lst ((ns.take 63).map V.int)))
      ⟨[], ne_of_none upd_same hD, upd_same, rfl, by simp, s2, by rw [upd_ne (ne_of_none upd_same hD)]; exact upd_same⟩ (fun i H' _ ⟨_, _, _, _, _, _, h⟩ => SqL.of h) ?_ ?_
    · rintro i x H' hx ⟨ms, npd, h1, h2, h3, h4, h5⟩
      rw [List.getElem?_map] at hx
      cases e : (ns.take 63)[i]? with
      | none => rw [e] at hx; cases hx
      | some z =>
        rw [e] at hx
        cases hx
        have hi : i < (ns.take 63).length := (List.getElem?_eq_some_iff.mp e).1
        have hl : (ns.take 63).length ≤ 63 := by rw [List.length_take]; omega
        refine ⟨rfl, _, rfl, .inl ⟨_, rfl, _, rfl, _, h1, by rw [List.length_map, h2]; exact small1000 (by omega), ?_⟩⟩
        refine ⟨ms ++ [if z < 0 then -z else z], npd, by rw [List.map_append]; exact upd_same, by simp [h2], ?_, Same.mut h4 hDH, ?_⟩
        · intro m hm
          rcases List.mem_append.mp hm with h | h
          · exact h3 m h
          · rw [List.mem_singleton.mp h]
            exact abs_nonneg z
        · rw [upd_ne npd]
          exact h5
    · rintro H' ⟨ms, npd, h1, h2, h3, h4, h5⟩
      refine ⟨(by show 5 ≤ sizeLine; decide), fun da hda => ?_⟩
      have nd : D ≠ da := ne_of_none h1 hda
      refine k (da, D) _ (Same.free h4 hda) (h4.trans (same_new hda)) ⟨0, 0, 1, 0, ms, upd_same, by rw [upd_ne nd]; exact h1, nd, by omega, h3, by omega, by omega, by omega⟩
end
end CB

set_option Elab.async false
set_option linter.all false
set_option maxRecDepth 100000
set_option maxHeartbeats 4000000
namespace CB
open PySem PySem.Spec PyProof.Rows L2
open C8 (Cal Met Mak pe_c pe_mk pe_mt pe_mt0 pe_gc CalAt)
section
variable {P : Program} {w : World} {K : PySem.W.Frag} {mg : Str → Option Value} {base : Heap}
abbrev n__law_lowest : List Str := ["_law_top", "_law_bottom", "_law_one", "_law_other"]
theorem sc__law_lowest : FnScope ["_law_top", "_law_bottom", "_law_one", "_law_other"] ["_law_top", "_law_bottom"] (defScope s__law_lowest) := ⟨rfl, rfl, rfl, by decide +kernel, rfl, by decide +kernel, by decide +kernel⟩
theorem ok__law_lowest (F : FnD K mg "_law_lowest" s__law_lowest) (T_abs : mg "abs" = none) (T_int : mg "int" = none) : Cal P w K mg base 1 "_law_lowest" (sp_lowest K) [] := by
  refine calOf F sc__law_lowest (fun _ _ _ _ _ _ us hl => match us, hl with | [_, _], _ => rfl) (fun vs H Q E h => ?_) (fun cdv f A outer s H vs Q E hr h => ?_)
  · obtain ⟨_, _, rfl, _⟩ := h
    rfl
  · obtain ⟨a, b, rfl, hb, hz, k⟩ := h
    have g := gcd_pos (a := a) hb
    have gl : (((Nat.gcd a.natAbs b.natAbs : Nat) : Int)).natAbs < 2 ^ 9000 := Nat.lt_of_le_of_lt (gcd_le hb) hz
    have cd : ∀ x : Int, CDivW x ((Nat.gcd a.natAbs b.natAbs : Nat) : Int) := fun x => wide_div g gl (by omega) (by omega)
    refine ⟨_, (pss_cons (ps_par (i := 2) (j := 3) (by rfl) sc__law_lowest.nd rfl rfl (by decide) rfl rfl (pa_cons (pe_callB call_abs (by rfl) T_abs (by decide +kernel) (pa_cons (pv 0) pa_nil)) (pa_cons (pv 1) pa_nil)) (by rfl))
    (pss_cons (ps_while PassesOwn.never (pt_cmpR op_gt (pv 3) pe_int (nomark _)) (pss_one (ps_par (i := 2) (j := 3) (by rfl) sc__law_lowest.nd rfl rfl (by decide) rfl rfl (pa_cons (pv 3) (pa_cons (pe_op op_mod (pe_callTy call_int1 (by rfl) T_int (by decide +kernel) (pa_cons (pv 2) pa_nil)) (pv 3)) pa_nil)) (by rfl))))
    (pss_one (ps_ret (pe_tup (pa_cons (pe_op op_fdivW (pv 0) (pv 2)) (pa_cons (pe_op op_fdivW (pv 1) (pv 2)) pa_nil))))))), ?_⟩
    refine ⟨_, rfl, _, rfl, _, rfl, _, _, rfl, ?_⟩
    refine ⟨fun m σ H' => ∃ x y : Int, σ = [some (.int a), some (.int b), some (.int x), some (.int y)] ∧ H' = H ∧ 0 ≤ x ∧ 0 ≤ y ∧ Nat.gcd x.toNat y.toNat = Nat.gcd a.natAbs b.natAbs ∧ m = y.toNat, ⟨_, _, _, rfl, rfl, abs_nonneg a, by omega, ?_, rfl⟩, ?_⟩
    · congr 1
      · split <;> omega
      · omega
    · rintro m σ H1 ⟨x, y, rfl, eH, hx, hy, hg, rfl⟩
      subst eH
      refine ⟨_, rfl, _, _, rfl, rfl, _, rfl, ?_⟩
      refine ite2 (fun c => ?_) (fun c => ?_)
      · have c' : 0 < y := of_decide_eq_true c
        refine ⟨fun σ' H' => ∃ x' y' : Int, σ' = [some (.int a), some (.int b), some (.int x'), some (.int y')] ∧ H' = H1 ∧ 0 ≤ x' ∧ 0 ≤ y' ∧ Nat.gcd x'.toNat y'.toNat = Nat.gcd a.natAbs b.natAbs ∧ y' < y, fun σ' H' ⟨x', y', e1, e2, h1, h2, h3, h4⟩ => ⟨y'.toNat, by omega, x', y', e1, e2, h1, h2, h3, rfl⟩, ?_⟩
        refine ⟨_, rfl, _, rfl, .inl ⟨_, rfl, _, rfl, _, _, rfl, rfl, c', _, _, rfl, ?_⟩⟩
        refine ⟨y, x % y, rfl, rfl, hy, Int.emod_nonneg _ (by omega), ?_, Int.emod_lt_of_pos _ c'⟩
        rw [← hg, Nat.gcd_comm x.toNat, Nat.gcd_comm y.toNat (x % y).toNat, Int.toNat_emod hx hy, ← Nat.gcd_rec]
      · have c' : ¬ 0 < y := fun z => c (decide_eq_true z)
        have y0 : y = 0 := by omega
        subst y0
        have ex : x = ((Nat.gcd a.natAbs b.natAbs : Nat) : Int) := by
          rw [← hg]
          simp
          omega
        subst ex
        refine ⟨_, rfl, _, rfl, _, _, rfl, rfl, cd _, _, rfl, _, rfl, _, _, rfl, rfl, cd _, (by show 2 ≤ sizeLine; decide), fun p hp => ?_⟩
        refine k _ _ (same_new hp) ⟨p, rfl, SqT.of ?_⟩
        rw [upd_same, divInt_num hb, divInt_den hb]
/-- of raw pairs, the sign 1 or -1 -/
def sp__law_sum (K : PySem.W.Frag) : Sp := fun vs H Q _ => ∃ (v1 v2 : V) (a b c d g : Int) (m n : Nat), vs = [v1, v2, .int g] ∧ PF K H v1 a b ∧ PF K H v2 c d ∧ 0 < b ∧ 0 < d ∧ (g = 1 ∨ g = -1) ∧
  a.natAbs < 2 ^ m ∧ b.natAbs < 2 ^ m ∧ c.natAbs < 2 ^ n ∧ d.natAbs < 2 ^ n ∧ m + n ≤ 9000 ∧ ∀ v H', Same H H' → RF K H' v (Rat.divInt a b + (g : Rat) * Rat.divInt c d) → Q v H'
def sp__law_product (K : PySem.W.Frag) : Sp := fun vs H Q _ => ∃ (v1 v2 : V) (a b c d : Int) (m n : Nat), vs = [v1, v2] ∧ PF K H v1 a b ∧ PF K H v2 c d ∧ 0 < b ∧ 0 < d ∧
  a.natAbs < 2 ^ m ∧ b.natAbs < 2 ^ m ∧ c.natAbs < 2 ^ n ∧ d.natAbs < 2 ^ n ∧ m + n ≤ 9000 ∧ ∀ v H', Same H H' → RF K H' v (Rat.divInt a b * Rat.divInt c d) → Q v H'
abbrev n__law_less : List Str := ["_law_one", "_law_other"]
theorem sc__law_less : FnScope ["_law_one", "_law_other"] ["_law_one", "_law_other"] (defScope s__law_less) := ⟨rfl, rfl, rfl, by decide +kernel, rfl, by decide +kernel, by decide +kernel⟩
theorem ok__law_less (F : FnD K mg "_law_less" s__law_less) : Cal P w K mg base 1 "_law_less" (sp_is_less K) [] := by
  refine calOf F sc__law_less (fun _ _ _ _ _ _ us hl => match us, hl with | [_, _], _ => rfl) (fun vs H Q E h => ?_) (fun cdv f A outer s H vs Q E hr h => ?_)
  · obtain ⟨_, _, _, _, _, _, rfl, _⟩ := h
    rfl
  · obtain ⟨v1, v2, a, b, m, n, rfl, ⟨p1, rfl, h1⟩, ⟨p2, rfl, h2⟩, sa, sb, hmn, k⟩ := h
    refine ⟨_, (pss_one (ps_ret (pe_cmpR op_lt (pe_op op_mulW (pe_ix ix_tup (pv 0) pe_int (fun _ _ => rfl)) (pe_ix ix_tup (pv 1) pe_int (fun _ _ => rfl))) (pe_op op_mulW (pe_ix ix_tup (pv 1) pe_int (fun _ _ => rfl)) (pe_ix ix_tup (pv 0) pe_int (fun _ _ => rfl))) (nomark _)))), ?_⟩
    refine ⟨_, rfl, _, _, _, _, rfl, rfl, h1, rfl, _, rfl, _, _, _, _, rfl, rfl, h2, rfl, _, _, rfl, rfl, wm sa.1 sb.d (by omega), ?_⟩
    refine ⟨_, rfl, _, _, _, _, rfl, rfl, h2, rfl, _, rfl, _, _, _, _, rfl, rfl, h1, rfl, _, _, rfl, rfl, wm sb.1 sa.d (by omega), ?_⟩
    refine ⟨_, _, rfl, rfl, ?_⟩
    show Q (V.bl (decide (a.num * (b.den : Int) < b.num * (a.den : Int)))) H
    rw [show decide (a.num * (b.den : Int) < b.num * (a.den : Int)) = decide (a < b) from decide_eq_decide.mpr lt_num]
    exact k
abbrev n__law_number : List Str := ["_law_dice_here", "_law_bottom"]
theorem sc__law_number : FnScope ["_law_dice_here", "_law_bottom"] ["_law_dice_here"] (defScope s__law_number) := ⟨rfl, rfl, rfl, by decide +kernel, rfl, by decide +kernel, by decide +kernel⟩
def sp__law_number (K : PySem.W.Frag) : Sp := fun vs H Q _ => ∃ d : Addr × Addr, vs = [.ref d.1] ∧ Dice H d ∧ ∀ v q H', NumOk 20 q → RF K H' v q → Dice H' d → KD d.1 H H' → Q v H'
def bottoms : List Int := [1, 2, 3, 4, 5, 6, 8, 10, 12, 60, 999983]
theorem bottoms_ok : ∀ z ∈ bottoms, 1 ≤ z ∧ z ≤ 999983 := by decide
theorem ok__law_number (F : FnD K mg "_law_number" s__law_number) (c__law_draw : Cal P w K mg base 1 "_law_draw" sp__law_draw []) (c__law_lowest : Cal P w K mg base 1 "_law_lowest" (sp_lowest K) []) : Cal P w K mg base 2 "_law_number" (sp__law_number K) [] := by
  refine calOf F sc__law_number (fun _ _ _ _ _ _ us hl => match us, hl with | [_], _ => rfl) (fun vs H Q E h => ?_) (fun cdv f A outer s H vs Q E hr h => ?_)
  · obtain ⟨_, rfl, _⟩ := h
    rfl
  · obtain ⟨da, rfl, hd, k⟩ := h
    refine ⟨_, (pss_cons (ps_set (i := 1) sc__law_number.nd rfl (Or.inl rfl) (pe_ix ix_list (pe_lst (pa_cons pe_int (pa_cons pe_int (pa_cons pe_int (pa_cons pe_int (pa_cons pe_int (pa_cons pe_int (pa_cons pe_int (pa_cons pe_int (pa_cons pe_int (pa_cons pe_int (pa_cons pe_int pa_nil)))))))))))) (pe_c c__law_draw hr (by first | decide | omega) rfl (pa_cons (pv 0) (pa_cons pe_int pa_nil))) (fun _ _ => rfl)))
    (pss_one (ps_ret (pe_c c__law_lowest hr (by first | decide | omega) rfl (pa_cons (pe_c c__law_draw hr (by first | decide | omega) rfl (pa_cons (pv 0) (pa_cons (pe_op op_add (pv 1) pe_int) pa_nil))) (pa_cons (pv 1) pa_nil)))))), ?_⟩
    refine ⟨(by show 11 ≤ sizeLine; decide), fun p hp => ?_⟩
    have npd := (hd.ne hp).1
    refine ⟨_, rfl, da, 11, rfl, hd.same (same_new hp), by decide, by decide, fun r H1 r0 r1 d1 k1 => ?_⟩
    have hl : H1 p = some (.lst (bottoms.map V.int)) := k1 p _ npd upd_same
    obtain ⟨z, hz⟩ : ∃ z, bottoms[r.toNat]? = some z := ⟨bottoms[r.toNat]'(by show r.toNat < 11; omega), List.getElem?_eq_getElem _⟩
    have zb := bottoms_ok z (List.mem_of_getElem? hz)
    have hz' : (bottoms.map V.int)[r.toNat]? = some (.int z) := by rw [List.getElem?_map, hz]; rfl
    refine ⟨p, _, r, _, rfl, rfl, SqL.of hl, at_of (j := r.toNat) (by omega) hz', ?_⟩
    refine ⟨_, rfl, _, rfl, _, _, rfl, rfl, da, z + 1, rfl, d1, by omega, by omega, fun r2 H2 g0 g1 d2 k2 => ?_⟩
    refine ⟨_, rfl, r2, z, rfl, by omega, Nat.lt_of_lt_of_le (show z.natAbs < 2 ^ 20 by omega) (Nat.pow_le_pow_right (by omega) (by omega)), fun v H3 e3 r3 => ?_⟩
    exact k v _ H3 (numOk_divInt g0 (by omega) (by omega) (by omega)) r3 (d2.same e3) ((((Same.kd (same_new hp)).trans k1).trans k2).trans (Same.kd e3))
abbrev n__law_numbers : List Str := ["_law_dice_here", "_law_many", "_law_k"]
theorem sc__law_numbers : FnScope ["_law_dice_here", "_law_many", "_law_k"] ["_law_dice_here", "_law_many"] (defScope s__law_numbers) := ⟨rfl, rfl, rfl, by decide +kernel, rfl, by decide +kernel, by decide +kernel⟩
def sp__law_numbers (K : PySem.W.Frag) : Sp := fun vs H Q _ => ∃ (d : Addr × Addr) (n : Nat), vs = [.ref d.1, .int (n : Int)] ∧ Dice H d ∧ n ≤ 1000 ∧ ∀ (v : V) (qs : List Rat) (H' : Hp), qs.length = n → (∀ q ∈ qs, NumOk 20 q) → Rp K H' v (.tuple (qs.map qd)) → Dice H' d → KD d.1 H H' → Q v H'
theorem ok__law_numbers (F : FnD K mg "_law_numbers" s__law_numbers) (c__law_number : Cal P w K mg base 2 "_law_number" (sp__law_number K) []) (T_range : mg "range" = none) (T_tuple : mg "tuple" = none) : Cal P w K mg base 3 "_law_numbers" (sp__law_numbers K) [] := by
  refine calOf F sc__law_numbers (fun _ _ _ _ _ _ us hl => match us, hl with | [_, _], _ => rfl) (fun vs H Q E h => ?_) (fun cdv f A outer s H vs Q E hr h => ?_)
  · obtain ⟨_, _, rfl, _⟩ := h
    rfl
  · obtain ⟨da, n, rfl, hd, hn, k⟩ := h
    refine ⟨_, (pss_one (ps_ret (pe_callTy call_tuple_of (by rfl) T_tuple (by decide +kernel) (pa_cons (pe_lc (own := [("_law_k", 2)]) (by rfl) sc__law_numbers.nd (pi_range1 (by rfl) T_range (pa_cons (pv 1) pa_nil)) (blkOk_by (own := [("_law_k", 2)]) (N := ["_law_dice_here", "_law_many", "_law_k"]) (sc := defScope s__law_numbers) (by decide +kernel)) (fun _ _ _ _ _ => (pg_name (i := 2) sc__law_numbers.nd rfl (Or.inl rfl))) (fun _ _ _ _ _ => pts_nil) (fun _ _ _ _ _ => (pe_c c__law_number hr (by first | decide | omega) rfl (pa_cons (pv 0) pa_nil)))) pa_nil)))), ?_⟩
    refine ⟨_, rfl, _, rfl, by omega, by omega, fun D hD => ?_⟩
    have ndd := hd.ne hD
    refine lc_range (lo := 0) (n := (n : Int).toNat) (fun i H' => ∃ (ys : List V) (qs : List Rat), H' D = some (.lst ys) ∧ qs.length = i ∧ RQ K H' ys qs ∧ (∀ q ∈ qs, NumOk 20 q) ∧ Dice H' da ∧ KD da.1 H H')
      ⟨[], [], upd_same, rfl, .nil, by simp, hd.same (same_new hD), Same.kd (same_new hD)⟩ ?_ ?_
    · rintro i H' hi ⟨ys, qs, h1, h2, h3, h4, h5, h6⟩
      refine ⟨rfl, _, rfl, da, rfl, h5, fun v q H2 nq rq d2 k2 => ?_⟩
      have hD2 := k2 D _ ndd.1 h1
      have h3' := h3.mono (h5.kt k2)
      refine ⟨ys, hD2, small1000 (by rw [h3.length, h2]; omega), ys ++ [v], qs ++ [q], upd_same, by simp [h2], RpAll.mono (KT.updl hD2) (RQ.snoc h3' rq), ?_, ?_, ?_⟩
      · intro x hx
        rcases List.mem_append.mp hx with h | h
        · exact h4 x h
        · rw [List.mem_singleton.mp h]
          exact nq
      · exact d2.upd ndd
      · exact (h6.trans k2).mut hD
    · rintro H' ⟨ys, qs, h1, h2, h3, h4, h5, h6⟩
      refine ⟨D, ys, rfl, .inl ⟨SqL.of h1, fun p hp => ?_⟩⟩
      exact k _ qs _ (by rw [h2]; omega) h4 (.tup (SqT.of upd_same) (h3.mono (Same.kt (same_new hp)))) (h5.same (same_new hp)) (h6.new hp)
end
end CB

set_option Elab.async false
set_option linter.all false
set_option maxRecDepth 100000
set_option maxHeartbeats 2000000
namespace CB
open PySem PySem.Spec PyProof.Rows L2
/-! ### sorted rows -/
def cntLe (q : Rat) (l : List Rat) : Nat := (l.filter fun x => !decide (q < x)).length
def insq (l : List Rat) (q : Rat) : List Rat := l.take (cntLe q l) ++ [q] ++ l.drop (cntLe q l)
def isort (l : List Rat) : List Rat := l.foldl insq []
abbrev Srt (l : List Rat) : Prop := l.Pairwise fun a b => a ≤ b
theorem cntLe_le (q : Rat) (l : List Rat) : cntLe q l ≤ l.length := List.length_filter_le _ _
theorem insq_perm (l : List Rat) (q : Rat) : (insq l q).Perm (q :: l) := by
  unfold insq
  have h1 : (l.take (cntLe q l) ++ [q] ++ l.drop (cntLe q l)).Perm ([q] ++ l.take (cntLe q l) ++ l.drop (cntLe q l)) := (List.perm_append_comm).append_right _
  refine h1.trans ?_
  rw [List.append_assoc, List.take_append_drop]
  exact List.Perm.refl _
theorem cntLe_cons_le {q x : Rat} {l : List Rat} (h : ¬ q < x) : cntLe q (x :: l) = cntLe q l + 1 := by
  unfold cntLe
  rw [List.filter_cons_of_pos (by simp [h])]
  rfl
theorem cntLe_zero {q : Rat} : ∀ {l : List Rat}, (∀ x ∈ l, q < x) → cntLe q l = 0
  | [], _ => rfl
  | x :: l, h => by
    unfold cntLe
    rw [List.filter_cons_of_neg (by simp [h x List.mem_cons_self])]
    exact cntLe_zero fun y hy => h y (List.mem_cons_of_mem _ hy)
theorem insq_srt : ∀ {l : List Rat} (q : Rat), Srt l → Srt (insq l q)
  | [], q, _ => by simp [insq, cntLe, Srt]
  | x :: l, q, h => by
    have hx := (List.pairwise_cons.mp h).1
    have hl := (List.pairwise_cons.mp h).2
    by_cases c : q < x
    · have z : cntLe q (x :: l) = 0 := cntLe_zero fun y hy => by
        rcases List.mem_cons.mp hy with e | e
        · rw [e]; exact c
        · have := hx y e; grind
      unfold insq
      rw [z, List.take_zero, List.drop_zero]
      refine List.pairwise_cons.mpr ⟨fun y hy => ?_, h⟩
      rcases List.mem_cons.mp hy with e | e
      · rw [e]; grind
      · have := hx y e; grind
    · have ih := insq_srt q hl
      have z : insq (x :: l) q = x :: insq l q := by
        unfold insq
        rw [cntLe_cons_le c]
        rfl
      rw [z]
      refine List.pairwise_cons.mpr ⟨fun y hy => ?_, ih⟩
      rcases List.mem_cons.mp ((insq_perm l q).mem_iff.mp hy) with e | e
      · rw [e]; grind
      · exact hx y e
theorem isort_aux : ∀ (l acc : List Rat), Srt acc → Srt (l.foldl insq acc) ∧ (l.foldl insq acc).Perm (acc ++ l)
  | [], acc, h => ⟨h, by simp⟩
  | q :: l, acc, h => by
    obtain ⟨h1, h2⟩ := isort_aux l (insq acc q) (insq_srt q h)
    refine ⟨h1, h2.trans ?_⟩
    refine ((insq_perm acc q).append_right l).trans ?_
    exact List.perm_middle.symm
theorem isort_srt (l : List Rat) : Srt (isort l) := (isort_aux l [] .nil).1
theorem isort_perm (l : List Rat) : (isort l).Perm l := by
  have h := (isort_aux l [] .nil).2
  rw [List.nil_append] at h
  exact h
theorem isort_length (l : List Rat) : (isort l).length = l.length := (isort_perm l).length_eq
theorem srt_unique : ∀ {l m : List Rat}, Srt l → Srt m → l.Perm m → l = m
  | [], m, _, _, p => (List.nil_perm.mp p).symm
  | a :: l, [], _, _, p => absurd p.symm.nil_eq (by simp)
  | a :: l, b :: m, hl, hm, p => by
    have h1 := (List.pairwise_cons.mp hl).1
    have h2 := (List.pairwise_cons.mp hm).1
    have e : a = b := by
      have ha : a ∈ b :: m := p.mem_iff.mp List.mem_cons_self
      have hb : b ∈ a :: l := p.mem_iff.mpr List.mem_cons_self
      rcases List.mem_cons.mp ha with e | e
      · exact e
      · rcases List.mem_cons.mp hb with e' | e'
        · exact e'.symm
        · have := h1 b e'
          have := h2 a e
          grind
    subst e
    rw [srt_unique (List.pairwise_cons.mp hl).2 (List.pairwise_cons.mp hm).2 (List.Perm.cons_inv p)]
theorem isort_of {l m : List Rat} (h : Srt m) (p : m.Perm l) : isort l = m := srt_unique (isort_srt l) h ((isort_perm l).trans p.symm)

/-! ### the least, the greatest, the k-th greatest -/
def minL (l : List Rat) : Rat := match l with
  | [] => 0
  | x :: l => l.foldl rmin x
def maxL (l : List Rat) : Rat := match l with
  | [] => 0
  | x :: l => l.foldl rmax x
def bub : Rat → List Rat → List Rat × Rat
  | t, [] => ([], t)
  | t, x :: l => (rmin t x :: (bub (rmax t x) l).1, (bub (rmax t x) l).2)
def bubL (l : List Rat) : List Rat := match l with
  | [] => []
  | x :: l => (bub x l).1
def kthG : Nat → List Rat → Rat
  | 0, l => maxL l
  | k + 1, l => kthG k (bubL l)
theorem foldl_rmin : ∀ (l : List Rat) (x : Rat), (l.foldl rmin x = x ∨ l.foldl rmin x ∈ l) ∧ l.foldl rmin x ≤ x ∧ ∀ y ∈ l, l.foldl rmin x ≤ y
  | [], x => ⟨.inl rfl, by show x ≤ x; grind, by simp⟩
  | z :: l, x => by
    obtain ⟨h1, h2, h3⟩ := foldl_rmin l (rmin x z)
    have m : rmin x z ≤ x ∧ rmin x z ≤ z ∧ (rmin x z = x ∨ rmin x z = z) := by unfold rmin; split <;> grind
    refine ⟨?_, ?_, ?_⟩
    · show List.foldl rmin (rmin x z) l = x ∨ List.foldl rmin (rmin x z) l ∈ z :: l
      rcases h1 with h | h
      · rw [h]
        rcases m.2.2 with e | e
        · exact .inl e
        · rw [e]; exact .inr List.mem_cons_self
      · exact .inr (List.mem_cons_of_mem _ h)
    · show List.foldl rmin (rmin x z) l ≤ x
      grind
    · intro y hy
      show List.foldl rmin (rmin x z) l ≤ y
      rcases List.mem_cons.mp hy with e | e
      · rw [e]; grind
      · exact h3 y e
theorem foldl_rmax : ∀ (l : List Rat) (x : Rat), (l.foldl rmax x = x ∨ l.foldl rmax x ∈ l) ∧ x ≤ l.foldl rmax x ∧ ∀ y ∈ l, y ≤ l.foldl rmax x
  | [], x => ⟨.inl rfl, by show x ≤ x; grind, by simp⟩
  | z :: l, x => by
    obtain ⟨h1, h2, h3⟩ := foldl_rmax l (rmax x z)
    have m : x ≤ rmax x z ∧ z ≤ rmax x z ∧ (rmax x z = x ∨ rmax x z = z) := by unfold rmax; split <;> grind
    refine ⟨?_, ?_, ?_⟩
    · show List.foldl rmax (rmax x z) l = x ∨ List.foldl rmax (rmax x z) l ∈ z :: l
      rcases h1 with h | h
      · rw [h]
        rcases m.2.2 with e | e
        · exact .inl e
        · rw [e]; exact .inr List.mem_cons_self
      · exact .inr (List.mem_cons_of_mem _ h)
    · show x ≤ List.foldl rmax (rmax x z) l
      grind
    · intro y hy
      show y ≤ List.foldl rmax (rmax x z) l
      rcases List.mem_cons.mp hy with e | e
      · rw [e]; grind
      · exact h3 y e
theorem minL_mem {l : List Rat} (h : l ≠ []) : minL l ∈ l ∧ ∀ y ∈ l, minL l ≤ y := by
  cases l with
  | nil => exact absurd rfl h
  | cons x l =>
    obtain ⟨h1, h2, h3⟩ := foldl_rmin l x
    show List.foldl rmin x l ∈ x :: l ∧ ∀ y ∈ x :: l, List.foldl rmin x l ≤ y
    refine ⟨?_, fun y hy => ?_⟩
    · rcases h1 with e | e
      · rw [e]; exact List.mem_cons_self
      · exact List.mem_cons_of_mem _ e
    · rcases List.mem_cons.mp hy with e | e
      · rw [e]; exact h2
      · exact h3 y e
theorem maxL_mem {l : List Rat} (h : l ≠ []) : maxL l ∈ l ∧ ∀ y ∈ l, y ≤ maxL l := by
  cases l with
  | nil => exact absurd rfl h
  | cons x l =>
    obtain ⟨h1, h2, h3⟩ := foldl_rmax l x
    show List.foldl rmax x l ∈ x :: l ∧ ∀ y ∈ x :: l, y ≤ List.foldl rmax x l
    refine ⟨?_, fun y hy => ?_⟩
    · rcases h1 with e | e
      · rw [e]; exact List.mem_cons_self
      · exact List.mem_cons_of_mem _ e
    · rcases List.mem_cons.mp hy with e | e
      · rw [e]; exact h2
      · exact h3 y e
theorem srt_get_le {l : List Rat} (h : Srt l) {i j : Nat} {x y : Rat} (hi : l[i]? = some x) (hj : l[j]? = some y) (hij : i ≤ j) : x ≤ y := by
  by_cases e : i = j
  · subst e
    rw [hi] at hj
    cases hj
    grind
  · obtain ⟨h1, e1⟩ := List.getElem?_eq_some_iff.mp hi
    obtain ⟨h2, e2⟩ := List.getElem?_eq_some_iff.mp hj
    have := List.pairwise_iff_getElem.mp h i j h1 h2 (by omega)
    rw [e1, e2] at this
    exact this
theorem isort_first {l : List Rat} (h : l ≠ []) : (isort l)[0]? = some (minL l) := by
  obtain ⟨h1, h2⟩ := minL_mem h
  have hl : 0 < (isort l).length := by rw [isort_length]; exact List.length_pos_iff.mpr h
  have e : (isort l)[0]? = some (isort l)[0] := List.getElem?_eq_getElem hl
  rw [e]
  congr 1
  have a : minL l ≤ (isort l)[0] := h2 _ ((isort_perm l).mem_iff.mp (List.getElem_mem hl))
  obtain ⟨j, hj⟩ := List.mem_iff_getElem?.mp ((isort_perm l).mem_iff.mpr h1)
  have b := srt_get_le (isort_srt l) e hj (Nat.zero_le _)
  grind
theorem isort_last {l : List Rat} (h : l ≠ []) : (isort l)[l.length - 1]? = some (maxL l) := by
  obtain ⟨h1, h2⟩ := maxL_mem h
  have hp := List.length_pos_iff.mpr h
  have hl : l.length - 1 < (isort l).length := by rw [isort_length]; omega
  have e : (isort l)[l.length - 1]? = some (isort l)[l.length - 1] := List.getElem?_eq_getElem hl
  rw [e]
  congr 1
  have a : (isort l)[l.length - 1] ≤ maxL l := h2 _ ((isort_perm l).mem_iff.mp (List.getElem_mem hl))
  obtain ⟨j, hj⟩ := List.mem_iff_getElem?.mp ((isort_perm l).mem_iff.mpr h1)
  have hj2 := (List.getElem?_eq_some_iff.mp hj).1
  rw [isort_length] at hj2
  have b := srt_get_le (isort_srt l) hj e (by omega)
  grind
theorem bub_perm : ∀ (l : List Rat) (t : Rat), ((bub t l).1 ++ [(bub t l).2]).Perm (t :: l)
  | [], t => List.Perm.refl _
  | x :: l, t => by
    have ih := bub_perm l (rmax t x)
    show (rmin t x :: (bub (rmax t x) l).1 ++ [(bub (rmax t x) l).2]).Perm (t :: x :: l)
    refine (List.Perm.cons _ ih).trans ?_
    unfold rmin rmax
    by_cases c : x < t
    · rw [if_pos c, if_neg (by grind)]
      exact List.Perm.swap _ _ _
    · by_cases c2 : t < x
      · rw [if_neg c, if_pos c2]
      · rw [if_neg c, if_neg c2]
        have : t = x := by grind
        rw [this]
theorem bub_max : ∀ (l : List Rat) (t : Rat), (bub t l).2 = l.foldl rmax t
  | [], t => rfl
  | x :: l, t => bub_max l (rmax t x)
theorem bub_length : ∀ (l : List Rat) (t : Rat), (bub t l).1.length = l.length
  | [], t => rfl
  | x :: l, t => by show ((bub (rmax t x) l).1.length + 1) = _; rw [bub_length l]; rfl
theorem isort_bubL {l : List Rat} (h : l ≠ []) : isort l = isort (bubL l) ++ [maxL l] := by
  cases l with
  | nil => exact absurd rfl h
  | cons x l =>
    refine isort_of ?_ ?_
    · refine List.pairwise_append.mpr ⟨isort_srt _, by simp, fun a ha b hb => ?_⟩
      rw [List.mem_singleton.mp hb]
      refine (maxL_mem h).2 a ?_
      have : a ∈ (bub x l).1 := (isort_perm _).mem_iff.mp ha
      exact (bub_perm l x).mem_iff.mp (List.mem_append_left _ this)
    · refine ((isort_perm _).append_right _).trans ?_
      have e : maxL (x :: l) = (bub x l).2 := (bub_max l x).symm
      rw [e]
      exact bub_perm l x
theorem bubL_length (l : List Rat) : (bubL l).length = l.length - 1 := by
  cases l with
  | nil => rfl
  | cons x l => exact bub_length l x
theorem kthG_isort : ∀ (k : Nat) (l : List Rat), k < l.length → (isort l)[l.length - 1 - k]? = some (kthG k l)
  | 0, l, h => isort_last (by intro e; subst e; cases h)
  | k + 1, l, h => by
    have hne : l ≠ [] := by intro e; subst e; cases h
    have ih := kthG_isort k (bubL l) (by rw [bubL_length]; omega)
    rw [bubL_length] at ih
    rw [isort_bubL hne]
    have z : l.length - 1 - (k + 1) < (isort (bubL l)).length := by rw [isort_length, bubL_length]; omega
    rw [List.getElem?_append_left z]
    have e : l.length - 1 - (k + 1) = l.length - 1 - 1 - k := by omega
    rw [e]
    exact ih
theorem isort_mid {lo hi x : Rat} (h : lo ≤ hi) : (isort [lo, hi, x])[1]? = some (rmax lo (rmin hi x)) := by
  unfold rmin rmax
  by_cases c1 : x < hi
  · by_cases c2 : lo < x
    · have e : isort [lo, hi, x] = [lo, x, hi] := isort_of (by simp [Srt]; grind) (List.Perm.cons _ (List.Perm.swap _ _ _))
      rw [e, if_pos c1, if_pos c2]
      rfl
    · have e : isort [lo, hi, x] = [x, lo, hi] := isort_of (by simp [Srt]; grind) ((List.Perm.swap _ _ _).trans (List.Perm.cons _ (List.Perm.swap _ _ _)))
      rw [e, if_pos c1, if_neg c2]
      rfl
  · have e : isort [lo, hi, x] = [lo, hi, x] := isort_of (by simp [Srt]; grind) (List.Perm.refl _)
    rw [e, if_neg c1]
    by_cases c2 : lo < hi
    · rw [if_pos c2]; rfl
    · rw [if_neg c2]
      have : lo = hi := by grind
      rw [this]; rfl

/-! ### terms -/
inductive Tm where
  | bid (p : Nat)
  | fixed (q : Rat)
  | mean (ws : List Int) (ts : List Tm)
  | least (ts : List Tm)
  | greatest (ts : List Tm)
  | ranked (k : Nat) (ts : List Tm)
  | between (lo hi : Rat) (t : Tm)
def meanD (ws : List Int) (ds : List PyData) : List PyData := List.zipWith (fun w d => .tuple [.int w, d]) ws ds
mutual
def Tm.data : Tm → PyData
  | .bid p => .tuple [.str "bid", .int (p : Int)]
  | .fixed q => .tuple [.str "fixed", qd q]
  | .mean ws ts => .tuple [.str "mean", .tuple (meanD ws (Tm.datas ts))]
  | .least ts => .tuple [.str "least", .tuple (Tm.datas ts)]
  | .greatest ts => .tuple [.str "greatest", .tuple (Tm.datas ts)]
  | .ranked k ts => .tuple [.str "ranked", .int (k : Int), .tuple (Tm.datas ts)]
  | .between lo hi t => .tuple [.str "between", qd lo, qd hi, t.data]
def Tm.datas : List Tm → List PyData
  | [] => []
  | t :: ts => t.data :: Tm.datas ts
end
theorem datas_map : ∀ ts : List Tm, Tm.datas ts = ts.map Tm.data
  | [] => rfl
  | t :: ts => by rw [Tm.datas, datas_map ts]; rfl
/-- the weighted sum -/
def wavg (ws : List Int) (qs : List Rat) : Rat := (List.zipWith (fun (w : Int) (q : Rat) => (w : Rat) * q) ws qs).sum / ((ws.sum : Int) : Rat)
mutual
def Tm.val (b : List Rat) : Tm → Rat
  | .bid p => b.getD p 0
  | .fixed q => q
  | .mean ws ts => wavg ws (Tm.vals b ts)
  | .least ts => minL (Tm.vals b ts)
  | .greatest ts => maxL (Tm.vals b ts)
  | .ranked k ts => kthG (k - 1) (Tm.vals b ts)
  | .between lo hi t => rmax lo (rmin hi (t.val b))
def Tm.vals (b : List Rat) : List Tm → List Rat
  | [] => []
  | t :: ts => t.val b :: Tm.vals b ts
end
theorem vals_map (b : List Rat) : ∀ ts : List Tm, Tm.vals b ts = ts.map (Tm.val b)
  | [] => rfl
  | t :: ts => by rw [Tm.vals, vals_map b ts]; rfl
/-! s: a bound of the bits of a bid and of a fixed number -/
mutual
def Tm.wt (s : Nat) : Tm → Nat
  | .bid _ => s
  | .fixed _ => s
  | .mean _ ts => Tm.wts s ts + 12
  | .least ts => Tm.wts s ts
  | .greatest ts => Tm.wts s ts
  | .ranked _ ts => Tm.wts s ts
  | .between _ _ t => t.wt s + s + s
def Tm.wts (s : Nat) : List Tm → Nat
  | [] => 0
  | t :: ts => t.wt s + 8 + Tm.wts s ts
end
mutual
def Tm.dep : Tm → Nat
  | .bid _ => 1
  | .fixed _ => 1
  | .mean _ ts => Tm.deps ts + 1
  | .least ts => Tm.deps ts + 1
  | .greatest ts => Tm.deps ts + 1
  | .ranked _ ts => Tm.deps ts + 1
  | .between _ _ t => t.dep + 1
def Tm.deps : List Tm → Nat
  | [] => 0
  | t :: ts => max t.dep (Tm.deps ts)
end
mutual
def Tm.cnt : Tm → Nat
  | .bid _ => 1
  | .fixed _ => 1
  | .mean _ ts => Tm.cnts ts + 1
  | .least ts => Tm.cnts ts + 1
  | .greatest ts => Tm.cnts ts + 1
  | .ranked _ ts => Tm.cnts ts + 1
  | .between _ _ t => t.cnt + 1
def Tm.cnts : List Tm → Nat
  | [] => 0
  | t :: ts => t.cnt + Tm.cnts ts
end
/-! right terms for n people, of any size; their numbers have at most s bits -/
mutual
def Tm.Ok (n s : Nat) : Tm → Prop
  | .bid p => p < n
  | .fixed q => NumOk s q
  | .mean ws ts => ws.length = ts.length ∧ ts ≠ [] ∧ ts.length ≤ 8 ∧ (∀ w ∈ ws, 1 ≤ w ∧ w ≤ 99) ∧ Tm.Oks n s ts
  | .least ts => ts ≠ [] ∧ ts.length ≤ 8 ∧ Tm.Oks n s ts
  | .greatest ts => ts ≠ [] ∧ ts.length ≤ 8 ∧ Tm.Oks n s ts
  | .ranked k ts => 1 ≤ k ∧ k ≤ ts.length ∧ ts.length ≤ 8 ∧ Tm.Oks n s ts
  | .between lo hi t => NumOk s lo ∧ NumOk s hi ∧ lo ≤ hi ∧ t.Ok n s
def Tm.Oks (n s : Nat) : List Tm → Prop
  | [] => True
  | t :: ts => t.Ok n s ∧ Tm.Oks n s ts
end
theorem oks_iff (n s : Nat) : ∀ ts : List Tm, Tm.Oks n s ts ↔ ∀ t ∈ ts, t.Ok n s
  | [] => by simp [Tm.Oks]
  | t :: ts => by rw [Tm.Oks, oks_iff n s ts]; simp
theorem wts_mem {s : Nat} : ∀ {ts : List Tm} {t : Tm}, t ∈ ts → t.wt s + 8 ≤ Tm.wts s ts
  | [], _, h => by cases h
  | u :: ts, t, h => by
    rw [Tm.wts]
    rcases List.mem_cons.mp h with e | e
    · subst e; omega
    · have := wts_mem (s := s) e; omega
theorem deps_mem : ∀ {ts : List Tm} {t : Tm}, t ∈ ts → t.dep ≤ Tm.deps ts
  | [], _, h => by cases h
  | u :: ts, t, h => by
    rw [Tm.deps]
    rcases List.mem_cons.mp h with e | e
    · subst e; omega
    · have := deps_mem e; omega
theorem deps_le {d : Nat} : ∀ {ts : List Tm}, (∀ t ∈ ts, t.dep ≤ d) → Tm.deps ts ≤ d
  | [], _ => by simp [Tm.deps]
  | u :: ts, h => by
    rw [Tm.deps]
    have a := h u List.mem_cons_self
    have b := deps_le (ts := ts) fun t ht => h t (List.mem_cons_of_mem _ ht)
    omega
theorem cnts_le {c : Nat} : ∀ {ts : List Tm}, (∀ t ∈ ts, t.cnt ≤ c) → Tm.cnts ts ≤ ts.length * c
  | [], _ => by simp [Tm.cnts]
  | u :: ts, h => by
    rw [Tm.cnts, List.length_cons, Nat.succ_mul]
    have a := h u List.mem_cons_self
    have b := cnts_le (ts := ts) fun t ht => h t (List.mem_cons_of_mem _ ht)
    omega
theorem wts_le {s c : Nat} : ∀ {ts : List Tm}, (∀ t ∈ ts, t.wt s ≤ c) → Tm.wts s ts ≤ ts.length * (c + 8)
  | [], _ => by simp [Tm.wts]
  | u :: ts, h => by
    rw [Tm.wts, List.length_cons, Nat.succ_mul]
    have a := h u List.mem_cons_self
    have b := wts_le (ts := ts) fun t ht => h t (List.mem_cons_of_mem _ ht)
    omega
end CB

set_option Elab.async false
set_option linter.all false
set_option maxRecDepth 100000
set_option maxHeartbeats 4000000
namespace CB
open PySem PySem.Spec PyProof.Rows L2
open C8 (Cal Met Mak pe_c pe_mk pe_mt pe_mt0 pe_gc CalAt)
section
variable {P : Program} {w : World} {K : PySem.W.Frag} {mg : Str → Option Value} {base : Heap}
abbrev n__law_sorted : List Str := ["_law_numbers_here", "_law_found", "_law_number_here", "_law_at", "_law_other"]
theorem sc__law_sorted : FnScope ["_law_numbers_here", "_law_found", "_law_number_here", "_law_at", "_law_other"] ["_law_numbers_here"] (defScope s__law_sorted) := ⟨rfl, rfl, rfl, by decide +kernel, rfl, by decide +kernel, by decide +kernel⟩
def sp__law_sorted (K : PySem.W.Frag) : Sp := fun vs H Q _ => ∃ (a : Addr) (us : List V) (qs : List Rat), vs = [.ref a] ∧ SqL K H a us ∧ RQ K H us qs ∧ (∀ q ∈ qs, Sz 9000 q) ∧ qs.length ≤ 100 ∧
  ∀ (p : Addr) (ys : List V) (H' : Hp), H p = none → Same H H' → H' p = some (.lst ys) → RQ K H' ys (isort qs) → Q (.ref p) H'
theorem insq_mem {l : List Rat} {q x : Rat} (h : x ∈ insq l q) : x = q ∨ x ∈ l := List.mem_cons.mp ((insq_perm l q).mem_iff.mp h)
theorem foldl_insq_mem {l : List Rat} {x : Rat} (h : x ∈ l.foldl insq []) : x ∈ l := (isort_perm l).mem_iff.mp h
theorem ok__law_sorted (F : FnD K mg "_law_sorted" s__law_sorted) (c__law_less : Cal P w K mg base 1 "_law_less" (sp_is_less K) []) (T_len : mg "len" = none) : Cal P w K mg base 2 "_law_sorted" (sp__law_sorted K) [] := by
  refine calOf F sc__law_sorted (fun _ _ _ _ _ _ us hl => match us, hl with | [_], _ => rfl) (fun vs H Q E h => ?_) (fun cdv f A outer s H vs Q E hr h => ?_)
  · obtain ⟨_, _, _, rfl, _⟩ := h
    rfl
  · obtain ⟨a, us, qs, rfl, hS, hu, hz, hn, k⟩ := h
    refine ⟨_, (pss_cons (ps_set (i := 1) sc__law_sorted.nd rfl (Or.inl rfl) (pe_lst pa_nil))
    (pss_cons (ps_for PassesOwn.never rfl (pi_list (pv 0)) (pg_name (i := 2) sc__law_sorted.nd rfl (Or.inr rfl)) (pss_cons (ps_set (i := 3) sc__law_sorted.nd rfl (Or.inl rfl) (pe_callB call_len_seq (by rfl) T_len PySem.boot_len (pa_cons (pe_lc (own := [("_law_other", 4)]) (by rfl) sc__law_sorted.nd (pi_list (pv 1)) (blkOk_by (own := [("_law_other", 4)]) (N := ["_law_numbers_here", "_law_found", "_law_number_here", "_law_at", "_law_other"]) (sc := defScope s__law_sorted) (by decide +kernel)) (fun _ _ _ _ _ => (pg_name (i := 4) sc__law_sorted.nd rfl (Or.inl rfl))) (fun _ _ _ _ _ => (pts_one (pt_not (pt_val (pe_c c__law_less hr (by first | decide | omega) rfl (pa_cons (pv 2) (pa_cons (pv 4) pa_nil))))))) (fun _ _ _ _ _ => (pv 4))) pa_nil)))
    (pss_one (ps_expr (pe_bm PySem.F.plainAttrs_list PySem.F.slot_list_insert PySem.F.type_list_insert mt_insert (pv 1) (pa_cons (pv 3) (pa_cons (pv 2) pa_nil)))))))
    (pss_one (ps_ret (pv 1))))), ?_⟩
    refine ⟨Nat.zero_le _, fun l hl => ?_⟩
    have s0 := same_new (o := .lst []) hl
    refine ⟨_, rfl, a, rfl, ⟨_, s0.seq hS⟩, for_list (K := K) (a := a) (xs := us) (fun i σ H' => ∃ (x y : Option V) (ys : List V), σ = [some (.ref a), some (.ref l), x, y, none] ∧ H' l = some (.lst ys) ∧ RQ K H' ys ((qs.take i).foldl insq []) ∧ Same H H')
      ⟨none, none, [], rfl, upd_same, .nil, s0⟩ (fun i σ H' _ ⟨_, _, _, _, _, _, s5⟩ => s5.seq hS) ?_ ?_⟩
    · rintro i v σ H' hi ⟨_, _, ys, rfl, h1, h2, s5⟩
      obtain ⟨q, hq, rq⟩ := hu.getV hi
      have rq' := rq.mono (Same.kt s5)
      have zq := hz q (List.mem_of_getElem? hq)
      have hlen : ((qs.take i).foldl insq []).length ≤ 100 := by
        have : (isort (qs.take i)).length = (qs.take i).length := isort_length _
        have e : ((qs.take i).foldl insq []).length = (qs.take i).length := this
        rw [e, List.length_take]
        omega
      have hyl : ys.length ≤ 100 := by rw [h2.length]; exact hlen
      refine ⟨_, rfl, l, rfl, ⟨_, SqL.of h1⟩, fun D hD => ?_⟩
      refine lc_list (K := K) (a := l) (xs := ys) (fun j H'' => ∃ zs : List V, H'' D = some (.lst zs) ∧ zs.length = ((((qs.take i).foldl insq []).take j).filter fun x => !decide (q < x)).length ∧ Same H' H'')
        ⟨[], upd_same, by simp, same_new hD⟩ (fun j H'' _ ⟨_, _, _, s6⟩ => s6.seq (SqL.of h1)) ?_ ?_
      · rintro j y H'' hj ⟨zs, g1, g2, g3⟩
        obtain ⟨x, hx, rx⟩ := h2.getV hj
        have xm : x ∈ qs := List.mem_of_mem_take (foldl_insq_mem (List.mem_of_getElem? hx))
        have tk : (((qs.take i).foldl insq []).take (j + 1)) = (((qs.take i).foldl insq []).take j) ++ [x] := take_succ' hx
        refine ⟨rfl, _, rfl, _, rfl, _, _, _, _, _, _, rfl, rq'.mono (Same.kt g3), rx.mono (Same.kt g3), zq, hz x xm, by omega, _, rfl, ?_⟩
        by_cases c : q < x
        · rw [decide_eq_true c]
          refine ⟨zs, g1, ?_, g3⟩
          rw [tk, List.filter_append, List.filter_cons_of_neg (by simp [c]), g2]
          simp
        · rw [decide_eq_false c]
          have zl : zs.length ≤ 100 := by
            rw [g2]
            refine Nat.le_trans (List.length_filter_le _ _) ?_
            rw [List.length_take]
            omega
          refine ⟨_, rfl, zs, g1, small1000 (by omega), zs ++ [y], upd_same, ?_, Same.mut g3 hD⟩
          rw [tk, List.filter_append, List.filter_cons_of_pos (by simp [c]), List.length_append, List.length_append, g2]
          rfl
      · rintro H'' ⟨zs, g1, g2, g3⟩
        rw [h2.length, List.take_length] at g2
        have cle := cntLe_le q ((qs.take i).foldl insq [])
        have ec : zs.length = cntLe q ((qs.take i).foldl insq []) := g2
        refine ⟨_, _, rfl, .inl (SqL.of g1), ?_⟩
        have hl2 := g3 _ _ h1
        refine ⟨_, rfl, .inl ⟨rfl, _, SqL.of hl2⟩, _, rfl, _, rfl, l, ys, _, v, rfl, rfl, hl2, small1000 (by omega), by omega, by omega, ?_⟩
        refine ⟨_, _, _, rfl, upd_same, ?_, Same.mut (s5.trans g3) hl⟩
        have e1 : (qs.take (i + 1)).foldl insq [] = insq ((qs.take i).foldl insq []) q := by
          rw [take_succ' hq, List.foldl_append]
          rfl
        rw [e1]
        have h2' : RQ K H'' ys ((qs.take i).foldl insq []) := RpAll.mono (Same.kt g3) h2
        have rq2 := rq'.mono (Same.kt g3)
        refine RpAll.mono (KT.updl hl2) ?_
        show RpAll K H'' _ ((insq _ q).map qd)
        unfold insq
        rw [Int.toNat_natCast, ec, List.map_append, List.map_append, List.map_take, List.map_drop]
        exact RpAll.append (RpAll.append (RpAll.take _ h2') (.cons rq2.rp .nil)) (RpAll.drop _ h2')
    · rintro σ H' ⟨_, _, ys, rfl, h1, h2, s5⟩
      have e : us.length = qs.length := hu.length
      rw [e, List.take_length] at h2
      exact ⟨_, rfl, k l ys H' hl s5 h1 h2⟩
end
end CB

set_option Elab.async false
set_option linter.all false
set_option maxRecDepth 100000
set_option maxHeartbeats 4000000
namespace CB
open PySem PySem.Spec PyProof.Rows L2
open C8 (Cal Met Mak pe_c pe_mk pe_mt pe_mt0 pe_gc CalAt)
section
variable {P : Program} {w : World} {K : PySem.W.Frag} {mg : Str → Option Value} {base : Heap}
/-- how many terms, how many bits a drawn term has at most -/
def cB : Nat → Nat
  | 0 => 1
  | d + 1 => 1 + 3 * cB d
def wB (s : Nat) : Nat → Nat
  | 0 => s
  | d + 1 => 3 * (wB s d + 8) + 12 + 2 * s
theorem cB_pos (d : Nat) : 1 ≤ cB d := by cases d <;> simp [cB]
theorem wB_ge (s d : Nat) : s ≤ wB s d := by cases d <;> simp [wB] <;> omega
/-- a drawn term, nested at most d + 1 deep -/
structure Drawn (n d : Nat) (t : Tm) : Prop where
  ok : t.Ok n 20
  dep : t.dep ≤ d + 1
  cnt : t.cnt ≤ cB d
  wt : ∀ s, t.wt s ≤ wB s d
abbrev n__law_term : List Str := ["_law_dice_here", "_law_people", "_law_deep", "_law_means", "_law_kind", "_law_parts", "_law_ends", "_law_k", "_law_part"]
theorem sc__law_term : FnScope ["_law_dice_here", "_law_people", "_law_deep", "_law_means", "_law_kind", "_law_parts", "_law_ends", "_law_k", "_law_part"] ["_law_dice_here", "_law_people", "_law_deep", "_law_means"] (defScope s__law_term) := ⟨rfl, rfl, rfl, by decide +kernel, rfl, by decide +kernel, by decide +kernel⟩
def sp__law_term (K : PySem.W.Frag) (d : Nat) : Sp := fun vs H Q _ => ∃ (da : Addr × Addr) (n : Nat) (m : Bool), vs = [.ref da.1, .int (n : Int), .int ((d : Int) + 1), .bl m] ∧ Dice H da ∧ 1 ≤ n ∧ n ≤ 6 ∧
  ∀ (v : V) (t : Tm) (H' : Hp), Rp K H' v t.data → Drawn n d t → Dice H' da → KD da.1 H H' → Q v H'
abbrev RTs (K : PySem.W.Frag) (H : Hp) (vs : List V) (ts : List Tm) : Prop := RpAll K H vs (Tm.datas ts)
theorem RTs.snoc {K : PySem.W.Frag} {H : Hp} {vs : List V} {ts : List Tm} {v : V} {t : Tm} (h : RTs K H vs ts) (r : Rp K H v t.data) : RTs K H (vs ++ [v]) (ts ++ [t]) := by
  show RpAll K H (vs ++ [v]) (Tm.datas (ts ++ [t]))
  have h' : RpAll K H vs (Tm.datas ts) := h
  rw [datas_map] at h' ⊢
  rw [List.map_append]
  exact RpAll.append h' (.cons r .nil)
theorem RTs.length {K : PySem.W.Frag} {H : Hp} {vs : List V} {ts : List Tm} (h : RTs K H vs ts) : vs.length = ts.length := by
  have h' : RpAll K H vs (Tm.datas ts) := h
  rw [h'.length, datas_map, List.length_map]
theorem RTs.get {K : PySem.W.Frag} {H : Hp} {vs : List V} {ts : List Tm} {i : Nat} {t : Tm} (h : RTs K H vs ts) (e : ts[i]? = some t) : ∃ v, vs[i]? = some v ∧ Rp K H v t.data := by
  have h' : RpAll K H vs (Tm.datas ts) := h
  rw [datas_map] at h'
  exact RpAll.get h' (by rw [List.getElem?_map, e]; rfl)
theorem RTs.getV {K : PySem.W.Frag} {H : Hp} {vs : List V} {ts : List Tm} {i : Nat} {v : V} (h : RTs K H vs ts) (e : vs[i]? = some v) : ∃ t, ts[i]? = some t ∧ Rp K H v t.data := by
  have h' : RpAll K H vs (Tm.datas ts) := h
  rw [datas_map] at h'
  obtain ⟨d, h1, h2⟩ := RpAll.getV h' e
  rw [List.getElem?_map] at h1
  cases c : ts[i]? with
  | none => rw [c] at h1; cases h1
  | some t =>
    rw [c] at h1
    cases h1
    exact ⟨t, rfl, h2⟩
theorem parts_ok {n d : Nat} {ts : List Tm} (h : ∀ t ∈ ts, Drawn n d t) (h1 : 1 ≤ ts.length) (h3 : ts.length ≤ 3) :
    Tm.Oks n 20 ts ∧ ts ≠ [] ∧ Tm.deps ts ≤ d + 1 ∧ Tm.cnts ts ≤ 3 * cB d ∧ ∀ s, Tm.wts s ts ≤ 3 * (wB s d + 8) := by
  refine ⟨(oks_iff _ _ _).mpr fun t ht => (h t ht).ok, (by intro e; subst e; simp at h1), deps_le fun t ht => (h t ht).dep, ?_, fun s => ?_⟩
  · exact Nat.le_trans (cnts_le fun t ht => (h t ht).cnt) (Nat.mul_le_mul_right _ h3)
  · exact Nat.le_trans (wts_le fun t ht => (h t ht).wt s) (Nat.mul_le_mul_right _ h3)
theorem meanD_length (ws : List Int) (ds : List PyData) (h : ws.length = ds.length) : (meanD ws ds).length = ds.length := by
  unfold meanD
  rw [List.length_zipWith, h, Nat.min_self]
/-- the promise of a call that goes less than D + 1 deep -/
def spT (K : PySem.W.Frag) (D : Nat) : Sp := fun vs H Q E => ∃ d, d < D ∧ sp__law_term K d vs H Q E
theorem ok__law_term (F : FnD K mg "_law_term" s__law_term) (c__law_draw : Cal P w K mg base 1 "_law_draw" sp__law_draw []) (c__law_number : Cal P w K mg base 2 "_law_number" (sp__law_number K) [])
    (c__law_sorted : Cal P w K mg base 2 "_law_sorted" (sp__law_sorted K) []) (T_len : mg "len" = none) (T_range : mg "range" = none) (T_tuple : mg "tuple" = none) : ∀ D : Nat, Cal P w K mg base (D + 4) "_law_term" (spT K D) [] := by
  intro D
  induction D with
  | zero => exact calOf (k := 3) F sc__law_term (fun _ _ _ _ _ _ us hl => match us, hl with | [_, _, _, _], _ => rfl) (fun vs H Q E h => by obtain ⟨d, h, _⟩ := h; cases h) (fun cdv f A outer s H vs Q E hr h => by obtain ⟨d, h, _⟩ := h; cases h)
  | succ D ih =>
    have c__law_term := ih
    refine calOf (k := D + 4) F sc__law_term (fun _ _ _ _ _ _ us hl => match us, hl with | [_, _, _, _], _ => rfl) (fun vs H Q E h => ?_) (fun cdv f A outer s H vs Q E hr h => ?_)
    · obtain ⟨_, _, _, _, _, rfl, _⟩ := h
      rfl
    · obtain ⟨d, hdD, da, n, m, rfl, hd, hn1, hn6, k⟩ := h
      refine ⟨_, (pss_cons (ps_set (i := 4) sc__law_term.nd rfl (Or.inl rfl) (pe_c c__law_draw hr (by first | decide | omega) rfl (pa_cons (pv 0) (pa_cons pe_int pa_nil))))
    (C8.pss_cut (ps_if (PW.pt (pw_or (pt_cmpR op_eq (pv 2) pe_int (nomark _)) (pw_or1 (pt_cmpR op_eq (pv 4) pe_int (nomark _))))) (pss_cons (ps_if (pt_cmpR op_eq (pe_c c__law_draw hr (by first | decide | omega) rfl (pa_cons (pv 0) (pa_cons pe_int pa_nil))) pe_int (nomark _)) (pss_one (ps_ret (pe_tup (pa_cons pe_str (pa_cons (pe_c c__law_number hr (by first | decide | omega) rfl (pa_cons (pv 0) pa_nil)) pa_nil))))) pss_nil)
    (pss_one (ps_ret (pe_tup (pa_cons pe_str (pa_cons (pe_c c__law_draw hr (by first | decide | omega) rfl (pa_cons (pv 0) (pa_cons (pv 1) pa_nil))) pa_nil)))))) pss_nil)
    (pss_cons (ps_setLc (i := 5) (own := [("_law_k", 7)]) (by rfl) sc__law_term.nd rfl rfl (sw_true rfl rfl rfl (by decide +kernel)) (pi_range1 (by rfl) T_range (pa_cons (pe_op op_add pe_int (pe_c c__law_draw hr (by first | decide | omega) rfl (pa_cons (pv 0) (pa_cons pe_int pa_nil)))) pa_nil)) (blkOk_by (own := [("_law_k", 7)]) (N := ["_law_dice_here", "_law_people", "_law_deep", "_law_means", "_law_kind", "_law_parts", "_law_ends", "_law_k", "_law_part"]) (sc := defScope s__law_term) (by decide +kernel)) (fun _ _ _ _ _ => (pg_name (i := 7) sc__law_term.nd rfl (Or.inl rfl))) (fun _ _ _ _ _ => pts_nil) (fun _ _ _ _ _ => (pe_c c__law_term hr (by first | decide | omega) rfl (pa_cons (pv 0) (pa_cons (pv 1) (pa_cons (pe_op op_sub (pv 2) pe_int) (pa_cons (pv 3) pa_nil)))))))
    (pss_cons (ps_if (pt_cmpR op_eq (pv 4) pe_int (nomark _)) (pss_cons (ps_set (i := 6) sc__law_term.nd rfl (Or.inl rfl) (pe_c c__law_sorted hr (by first | decide | omega) rfl (pa_cons (pe_lst (pa_cons (pe_c c__law_number hr (by first | decide | omega) rfl (pa_cons (pv 0) pa_nil)) (pa_cons (pe_c c__law_number hr (by first | decide | omega) rfl (pa_cons (pv 0) pa_nil)) pa_nil))) pa_nil)))
    (pss_one (ps_ret (pe_tup (pa_cons pe_str (pa_cons (pe_ix ix_list (pv 6) pe_int (fun _ _ => rfl)) (pa_cons (pe_ix ix_list (pv 6) pe_int (fun _ _ => rfl)) (pa_cons (pe_ix ix_list (pv 5) pe_int (fun _ _ => rfl)) pa_nil)))))))) pss_nil)
    (pss_cons (ps_if (pt_cmpR op_eq (pv 4) pe_int (nomark _)) (pss_one (ps_ret (pe_tup (pa_cons pe_str (pa_cons (pe_callTy call_tuple_of (by rfl) T_tuple (by decide +kernel) (pa_cons (pv 5) pa_nil)) pa_nil))))) pss_nil)
    (pss_cons (ps_if (pt_cmpR op_eq (pv 4) pe_int (nomark _)) (pss_one (ps_ret (pe_tup (pa_cons pe_str (pa_cons (pe_callTy call_tuple_of (by rfl) T_tuple (by decide +kernel) (pa_cons (pv 5) pa_nil)) pa_nil))))) pss_nil)
    (pss_cons (ps_if (PW.pt (pw_or (pt_cmpR op_eq (pv 4) pe_int (nomark _)) (pw_or1 (pt_not (pt_val (pv 3)))))) (pss_one (ps_ret (pe_tup (pa_cons pe_str (pa_cons (pe_op op_add pe_int (pe_c c__law_draw hr (by first | decide | omega) rfl (pa_cons (pv 0) (pa_cons (pe_callB call_len_seq (by rfl) T_len PySem.boot_len (pa_cons (pv 5) pa_nil)) pa_nil)))) (pa_cons (pe_callTy call_tuple_of (by rfl) T_tuple (by decide +kernel) (pa_cons (pv 5) pa_nil)) pa_nil)))))) pss_nil)
    (pss_one (ps_ret (pe_tup (pa_cons pe_str (pa_cons (pe_callTy call_tuple_of (by rfl) T_tuple (by decide +kernel) (pa_cons (pe_lc (own := [("_law_part", 8)]) (by rfl) sc__law_term.nd (pi_list (pv 5)) (blkOk_by (own := [("_law_part", 8)]) (N := ["_law_dice_here", "_law_people", "_law_deep", "_law_means", "_law_kind", "_law_parts", "_law_ends", "_law_k", "_law_part"]) (sc := defScope s__law_term) (by decide +kernel)) (fun _ _ _ _ _ => (pg_name (i := 8) sc__law_term.nd rfl (Or.inl rfl))) (fun _ _ _ _ _ => pts_nil) (fun _ _ _ _ _ => (pe_tup (pa_cons (pe_op op_add pe_int (pe_c c__law_draw hr (by first | decide | omega) rfl (pa_cons (pv 0) (pa_cons pe_int pa_nil)))) (pa_cons (pv 8) pa_nil))))) pa_nil)) pa_nil)))))))))))), ?_⟩
      refine ⟨_, rfl, da, 8, rfl, hd, by decide, by decide, fun kind H1 kd0 kd1 d1 e1 => ?_⟩
      have fin : ∀ (v : V) (t : Tm) (H' : Hp), Rp K H' v t.data → Drawn n d t → Dice H' da → KD da.1 H1 H' → Q v H' := fun v t H' a b c e => k v t H' a b c (e1.trans e)
      clear k hd e1
      have nd : ∀ {D : Addr} {H' : Hp}, Dice H' da → H' D = none → D ≠ da.1 ∧ D ≠ da.2 := fun a b => a.ne b
      refine ⟨fun σ H' => σ = [some (.ref da.1), some (.int (n : Int)), some (.int ((d : Int) + 1)), some (.bl m), some (.int kind), none, none, none, none] ∧ H' = H1 ∧ d ≠ 0, ?_, ?_⟩
      · -- a bid or a fixed number
        refine ⟨_, rfl, rfl, _, rfl, ?_⟩
        refine (fun leaf => ite2 (fun _ => leaf) (fun c1 => ⟨_, rfl, rfl, _, rfl, ite2 (fun _ => leaf) (fun c2 => ⟨rfl, rfl, fun z => c1 (decide_eq_true (by rw [z]; rfl))⟩)⟩)) ?_
        refine ⟨_, rfl, da, 5, rfl, d1, by decide, by decide, fun r H2 _ _ d2 e2 => ⟨rfl, _, rfl, ite2 (fun _ => ?_) (fun _ => ?_)⟩⟩
        · refine ⟨_, rfl, da, rfl, d2, fun v q H3 nq rq d3 e3 => ⟨(by show 2 ≤ sizeLine; decide), fun p hp => ?_⟩⟩
          refine fin _ (.fixed q) _ (.tup (SqT.of upd_same) (.cons (.str _) (.cons (rq.mono (Same.kt (same_new hp))).rp .nil))) ⟨nq, by show 1 ≤ d + 1; omega, cB_pos d, fun s => wB_ge s d⟩ (d3.same (same_new hp)) ((e2.trans e3).new hp)
        · refine ⟨_, rfl, _, rfl, da, (n : Int), rfl, d2, by omega, by omega, fun r3 H3 g0 g1 d3 e3 => ⟨(by show 2 ≤ sizeLine; decide), fun p hp => ?_⟩⟩
          have er : ((r3.toNat : Nat) : Int) = r3 := Int.toNat_of_nonneg g0
          refine fin _ (.bid r3.toNat) _ (.tup (SqT.of upd_same) (.cons (.str _) (.cons (by rw [er]; exact .int _) .nil))) ⟨(by show r3.toNat < n; omega), by show 1 ≤ d + 1; omega, cB_pos d, fun s => wB_ge s d⟩ (d3.same (same_new hp)) ((e2.trans e3).new hp)
      · rintro σ H' ⟨rfl, rfl, hd0⟩
        obtain ⟨d', rfl⟩ : ∃ d', d = d' + 1 := ⟨d - 1, by omega⟩
        refine ⟨_, rfl, da, 3, rfl, d1, by decide, by decide, fun r H2 r0 r1 d2 e2 => ⟨_, _, rfl, rfl, _, rfl, by omega, by omega, fun D hD => ?_⟩⟩
        have nD := nd d2 hD
        refine lc_range (lo := 0) (n := (1 + r).toNat) (fun i H' => ∃ (ys : List V) (ts : List Tm), H' D = some (.lst ys) ∧ ts.length = i ∧ RTs K H' ys ts ∧ (∀ t ∈ ts, Drawn n d' t) ∧ Dice H' da ∧ KD da.1 H2 H')
          ⟨[], [], upd_same, rfl, .nil, by simp, d2.same (same_new hD), Same.kd (same_new hD)⟩ ?_ ?_
        · rintro i H' hi ⟨ys, ts, h1, h2, h3, h4, h5, h6⟩
          have ea : ((d' + 1 : Nat) : Int) + 1 - 1 = (d' : Int) + 1 := by omega
          refine ⟨rfl, _, rfl, _, rfl, _, rfl, _, _, rfl, rfl, _, rfl, d', by omega, da, n, m, congrArg (fun z => [V.ref da.1, V.int (n : Int), V.int z, V.bl m]) ea, h5, hn1, hn6, fun v t H3 rt dt d3 e3 => ?_⟩
          have hD3 := e3 D _ nD.1 h1
          refine ⟨ys, hD3, small1000 (by rw [h3.length, h2]; omega), ys ++ [v], ts ++ [t], upd_same, by simp [h2], RpAll.mono (KT.updl hD3) (RTs.snoc (RpAll.mono (h5.kt e3) h3) rt), ?_, d3.upd nD, (h6.trans e3).mut hD⟩
          intro x hx
          rcases List.mem_append.mp hx with h | h
          · exact h4 x h
          · rw [List.mem_singleton.mp h]
            exact dt
        · rintro H3 ⟨ys, ts, h1, h2, h3, h4, d3, e3⟩
          have e13 := e2.trans e3
          obtain ⟨po, pne, pdep, pcnt, pwt⟩ := parts_ok h4 (by omega) (by omega)
          have tl : ts.length ≤ 3 := by omega
          have hyl := h3.length
          have tup : ∀ (p : Addr) (H' : Hp), KT H3 H' → H' p = some (.tup ys) → Rp K H' (.ref p) (.tuple (Tm.datas ts)) := fun p H' e hp => .tup (SqT.of hp) (RpAll.mono e h3)
          have drawn : ∀ t : Tm, t.Ok n 20 → t.dep ≤ d' + 1 + 1 → t.cnt ≤ 3 * cB d' + 1 → (∀ s, t.wt s ≤ 3 * (wB s d' + 8) + 12 + 2 * s) → Drawn n (d' + 1) t := fun t a b c e => ⟨a, b, by show _ ≤ 1 + 3 * cB d'; omega, e⟩
          -- between
          refine ⟨_, rfl, rfl, _, rfl, ite2 (fun _ => ?_) (fun _ => ?_)⟩
          · refine ⟨_, rfl, da, rfl, d3, fun v1 q1 H4 nq1 rq1 d4 e4 => ⟨_, rfl, da, rfl, d4, fun v2 q2 H5 nq2 rq2 d5 e5 => ⟨(by show 2 ≤ sizeLine; decide), fun p hp => ?_⟩⟩⟩
            have s6 := same_new (o := .lst [v1, v2]) hp
            have rq1' := (rq1.mono (d4.kt e5)).mono (Same.kt s6)
            have rq2' := rq2.mono (Same.kt s6)
            refine ⟨p, [v1, v2], [q1, q2], rfl, SqL.of upd_same, .cons rq1'.rp (.cons rq2'.rp .nil), ?_, by show 2 ≤ 100; decide, fun pl zs H6 hpl s7 hz rz => ?_⟩
            · intro q hq
              rcases List.mem_cons.mp hq with h | h
              · rw [h]; exact nq1.2.2.mono (by omega)
              · rw [List.mem_singleton.mp h]; exact nq2.2.2.mono (by omega)
            have all : ∀ q ∈ isort [q1, q2], NumOk 20 q := by
              intro q hq
              rcases List.mem_cons.mp ((isort_perm [q1, q2]).mem_iff.mp hq) with h | h
              · rw [h]; exact nq1
              · rw [List.mem_singleton.mp h]; exact nq2
            have hlen : (isort [q1, q2]).length = 2 := isort_length _
            obtain ⟨lo, hlo⟩ : ∃ lo, (isort [q1, q2])[0]? = some lo := ⟨_, List.getElem?_eq_getElem (by omega)⟩
            obtain ⟨hi, hhi⟩ : ∃ hi, (isort [q1, q2])[1]? = some hi := ⟨_, List.getElem?_eq_getElem (by omega)⟩
            obtain ⟨u0, z0, ru0⟩ := RQ.get rz hlo
            obtain ⟨u1, z1, ru1⟩ := RQ.get rz hhi
            obtain ⟨t0, ht0⟩ : ∃ t0, ts[0]? = some t0 := ⟨_, List.getElem?_eq_getElem (by omega)⟩
            have e35 : KD da.1 H3 H5 := e4.trans e5
            have kt35 : KT H3 H6 := ((d3.kt e4).trans (d4.kt e5)).trans (Same.kt (s6.trans s7))
            have hD6 : H6 D = some (.lst ys) := (s6.trans s7) D _ (e35 D _ nD.1 h1)
            obtain ⟨w0, y0, rw0⟩ := h3.get ht0
            refine ⟨_, rfl, _, _, _, _, rfl, rfl, SqL.of hz, at_of (j := 0) rfl z0, _, rfl, _, _, _, _, rfl, rfl, SqL.of hz, at_of (j := 1) rfl z1, _, rfl, _, _, _, _, rfl, rfl, SqL.of hD6, at_of (j := 0) rfl y0, (by show 4 ≤ sizeLine; decide), fun p4 hp4 => ?_⟩
            have s8 := same_new (o := .tup [.str "between", u0, u1, w0]) hp4
            have mt0 := List.mem_of_getElem? ht0
            have g0 := h4 t0 mt0
            refine fin _ (.between lo hi t0) _ (.tup (SqT.of upd_same) (.cons (.str _) (.cons (ru0.mono (Same.kt s8)).rp (.cons (ru1.mono (Same.kt s8)).rp (.cons ((rw0.mono kt35).mono (Same.kt s8)) .nil))))) ?_ (((d5.same s6).same s7).same s8) ((((e13.trans e35).trans (Same.kd (s6.trans s7))).new hp4))
            refine drawn _ ⟨all lo (List.mem_of_getElem? hlo), all hi (List.mem_of_getElem? hhi), srt_get_le (isort_srt _) hlo hhi (by omega), g0.ok⟩ ?_ ?_ ?_
            · show t0.dep + 1 ≤ _
              have := g0.dep
              omega
            · show t0.cnt + 1 ≤ _
              have := g0.cnt
              have := cB_pos d'
              omega
            · intro s
              show t0.wt s + s + s ≤ _
              have := g0.wt s
              omega
          -- least
          refine ⟨_, rfl, rfl, _, rfl, ite2 (fun _ => ?_) (fun _ => ?_)⟩
          · refine ⟨_, rfl, D, ys, rfl, .inl ⟨SqL.of h1, fun l hl => ⟨(by show 2 ≤ sizeLine; decide), fun p hp => ?_⟩⟩⟩
            have s4 := same_new (o := .tup ys) hl
            have s5 := same_new (o := .tup [.str "least", .ref l]) hp
            refine fin _ (.least ts) _ (.tup (SqT.of upd_same) (.cons (.str _) (.cons (tup l _ (Same.kt (s4.trans s5)) (s5 _ _ upd_same)) .nil))) ?_ (d3.same (s4.trans s5)) (e13.trans (Same.kd (s4.trans s5)))
            exact drawn _ ⟨pne, by omega, po⟩ (by show Tm.deps ts + 1 ≤ _; omega) (by show Tm.cnts ts + 1 ≤ _; omega) (fun s => by show Tm.wts s ts ≤ _; have := pwt s; omega)
          refine ⟨_, rfl, rfl, _, rfl, ite2 (fun _ => ?_) (fun _ => ?_)⟩
          · refine ⟨_, rfl, D, ys, rfl, .inl ⟨SqL.of h1, fun l hl => ⟨(by show 2 ≤ sizeLine; decide), fun p hp => ?_⟩⟩⟩
            have s4 := same_new (o := .tup ys) hl
            have s5 := same_new (o := .tup [.str "greatest", .ref l]) hp
            refine fin _ (.greatest ts) _ (.tup (SqT.of upd_same) (.cons (.str _) (.cons (tup l _ (Same.kt (s4.trans s5)) (s5 _ _ upd_same)) .nil))) ?_ (d3.same (s4.trans s5)) (e13.trans (Same.kd (s4.trans s5)))
            exact drawn _ ⟨pne, by omega, po⟩ (by show Tm.deps ts + 1 ≤ _; omega) (by show Tm.cnts ts + 1 ≤ _; omega) (fun s => by show Tm.wts s ts ≤ _; have := pwt s; omega)
          -- ranked
          refine ⟨_, rfl, rfl, _, rfl, ?_⟩
          refine (fun rank => ite2 (fun _ => rank) (fun _ => ⟨_, rfl, _, rfl, ite2 (fun _ => rank) (fun _ => ?mean)⟩)) ?rank
          case mean =>
            -- mean
            refine ⟨_, rfl, D, rfl, ⟨_, SqL.of h1⟩, fun D2 hD2 => ?_⟩
            have nD2 := nd d3 hD2
            have nDD : D ≠ D2 := ne_of_none h1 hD2
            refine lc_list (K := K) (a := D) (xs := ys) (fun i H' => ∃ (zs : List V) (ws : List Int), H' D2 = some (.lst zs) ∧ ws.length = i ∧ RpAll K H' zs (meanD ws (Tm.datas (ts.take i))) ∧ (∀ w ∈ ws, 1 ≤ w ∧ w ≤ 99) ∧ Dice H' da ∧ KD da.1 H3 H' ∧ H' D = some (.lst ys))
              ⟨[], [], upd_same, rfl, .nil, by simp, d3.same (same_new hD2), Same.kd (same_new hD2), by rw [upd_ne nDD]; exact h1⟩ (fun i H' _ ⟨_, _, _, _, _, _, _, _, g⟩ => SqL.of g) ?_ ?_
            · rintro i y H' hi ⟨zs, ws, g1, g2, g3, g4, g5, g6, g7⟩
              obtain ⟨t, ht, rt⟩ := h3.getV hi
              refine ⟨rfl, _, rfl, da, 5, rfl, g5, by decide, by decide, fun x H5 x0 x1 d5 e5 => ⟨_, _, rfl, rfl, _, rfl, (by show 2 ≤ sizeLine; decide), fun p hp => ?_⟩⟩
              have s6 := same_new (o := .tup [.int (1 + x), y]) hp
              have hD5 := e5 D2 _ nD2.1 g1
              have hD6 := s6 _ _ hD5
              have kt36 : KT H3 H5 := (d3.kt g6).trans (g5.kt e5)
              have zl : zs.length ≤ 3 := by
                rw [g3.length]
                unfold meanD
                rw [List.length_zipWith, g2]
                have := (List.getElem?_eq_some_iff.mp hi).1
                omega
              have nDp : D ≠ p := ne_of_none (e5 D _ nD.1 g7) hp
              refine ⟨zs, hD6, small1000 (by omega), zs ++ [.ref p], ws ++ [1 + x], upd_same, by simp [g2], ?_, ?_, (d5.same s6).upd nD2, ((g6.trans e5).trans (Same.kd s6)).mut hD2, ?_⟩
              · refine RpAll.mono (KT.updl hD6) ?_
                have e1 : ts.take (i + 1) = ts.take i ++ [t] := take_succ' ht
                have e2 : meanD (ws ++ [1 + x]) (Tm.datas (ts.take (i + 1))) = meanD ws (Tm.datas (ts.take i)) ++ [.tuple [.int (1 + x), t.data]] := by
                  rw [e1, datas_map, datas_map, List.map_append]
                  unfold meanD
                  rw [List.zipWith_append]
                  · rfl
                  · rw [List.length_map, List.length_take, g2]
                    have := (List.getElem?_eq_some_iff.mp ht).1
                    omega
                rw [e2]
                exact RpAll.append (RpAll.mono ((g5.kt e5).trans (Same.kt s6)) g3) (.cons (.tup (SqT.of upd_same) (.cons (.int _) (.cons ((rt.mono kt36).mono (Same.kt s6)) .nil))) .nil)
              · intro w hw
                rcases List.mem_append.mp hw with h | h
                · exact g4 w h
                · rw [List.mem_singleton.mp h]
                  omega
              · rw [upd_ne nDD]
                exact s6 _ _ (e5 D _ nD.1 g7)
            · rintro H4 ⟨zs, ws, g1, g2, g3, g4, d4, e4, g7⟩
              rw [hyl, List.take_length] at g3
              refine ⟨D2, zs, rfl, .inl ⟨SqL.of g1, fun l hl => ⟨(by show 2 ≤ sizeLine; decide), fun p hp => ?_⟩⟩⟩
              have s4 := same_new (o := .tup zs) hl
              have s5 := same_new (o := .tup [.str "mean", .ref l]) hp
              refine fin _ (.mean ws ts) _ (.tup (SqT.of upd_same) (.cons (.str _) (.cons (.tup (SqT.of (s5 _ _ upd_same)) (RpAll.mono (Same.kt (s4.trans s5)) g3)) .nil))) ?_ (d4.same (s4.trans s5)) ((e13.trans e4).trans (Same.kd (s4.trans s5)))
              exact drawn _ ⟨by rw [g2, hyl], pne, by omega, g4, po⟩ (by show Tm.deps ts + 1 ≤ _; omega) (by show Tm.cnts ts + 1 ≤ _; omega) (fun s => by show Tm.wts s ts + 12 ≤ _; have := pwt s; omega)
          case rank =>
            refine ⟨_, rfl, _, rfl, D, ys, rfl, .inl (SqL.of h1), da, (ys.length : Int), rfl, d3, by omega, by omega, fun x H4 x0 x1 d4 e4 => ⟨_, _, rfl, rfl, _, rfl, D, ys, rfl, .inl ⟨SqL.of (e4 D _ nD.1 h1), fun l hl => ⟨(by show 3 ≤ sizeLine; decide), fun p hp => ?_⟩⟩⟩⟩
            have s4 := same_new (o := .tup ys) hl
            have s5 := same_new (o := .tup [.str "ranked", .int (1 + x), .ref l]) hp
            have er : (((1 + x).toNat : Nat) : Int) = 1 + x := Int.toNat_of_nonneg (by omega)
            refine fin _ (.ranked (1 + x).toNat ts) _ (.tup (SqT.of upd_same) (.cons (.str _) (.cons (by rw [er]; exact .int _) (.cons (tup l _ ((d3.kt e4).trans (Same.kt (s4.trans s5))) (s5 _ _ upd_same)) .nil)))) ?_ (d4.same (s4.trans s5)) ((e13.trans e4).trans (Same.kd (s4.trans s5)))
            exact drawn _ ⟨by omega, by omega, by omega, po⟩ (by show Tm.deps ts + 1 ≤ _; omega) (by show Tm.cnts ts + 1 ≤ _; omega) (fun s => by show Tm.wts s ts ≤ _; have := pwt s; omega)
end
end CB

set_option Elab.async false
set_option linter.all false
set_option maxRecDepth 100000
set_option maxHeartbeats 4000000
namespace CB
open PySem PySem.Spec PyProof.Rows L2
open C8 (Cal Met Mak pe_c pe_mk pe_mt pe_mt0 pe_gc CalAt)
section
variable {P : Program} {w : World} {K : PySem.W.Frag} {mg : Str → Option Value} {base : Heap}
abbrev n__law_rule_parts : List Str := ["_law_dice_here", "_law_most", "_law_people", "_law_term_here", "_law_bids_here", "_law_person"]
theorem sc__law_rule_parts : FnScope ["_law_dice_here", "_law_most", "_law_people", "_law_term_here", "_law_bids_here", "_law_person"] ["_law_dice_here", "_law_most"] (defScope s__law_rule_parts) := ⟨rfl, rfl, rfl, by decide +kernel, rfl, by decide +kernel, by decide +kernel⟩
/-- a drawn rule's term: small enough to be constructed -/
structure RuleTm (n : Nat) (t : Tm) : Prop where
  ok : t.Ok n 20
  dep : t.dep ≤ 8
  cnt : t.cnt ≤ 60
  wt : ∀ s, t.wt s ≤ 59 * s + 556
def sp__law_rule_parts (K : PySem.W.Frag) : Sp := fun vs H Q _ => ∃ (da : Addr × Addr) (most : Nat), vs = [.ref da.1, .int (most : Int)] ∧ Dice H da ∧ 1 ≤ most ∧ most ≤ 6 ∧
  ∀ (v : V) (n : Nat) (t : Tm) (H' : Hp), 1 ≤ n → n ≤ most → Rp K H' v (.tuple [.int (n : Int), t.data]) → RuleTm n t → Dice H' da → KD da.1 H H' → Q v H'
def bidsOf (n : Nat) : List Tm := (List.range n).map Tm.bid
theorem oks_bids {n m s : Nat} (h : m ≤ n) : Tm.Oks n s (bidsOf m) := (oks_iff _ _ _).mpr fun t ht => by
  obtain ⟨p, hp, rfl⟩ := List.mem_map.mp ht
  have := List.mem_range.mp hp
  show p < n
  omega
theorem bidsOf_length (n : Nat) : (bidsOf n).length = n := by simp [bidsOf]
theorem bids_dep (n : Nat) : Tm.deps (bidsOf n) ≤ 1 := deps_le fun t ht => by
  obtain ⟨p, hp, rfl⟩ := List.mem_map.mp ht
  exact Nat.le_refl _
theorem bids_cnt (n : Nat) : Tm.cnts (bidsOf n) ≤ n := by
  have := cnts_le (c := 1) (ts := bidsOf n) fun t ht => by
    obtain ⟨p, hp, rfl⟩ := List.mem_map.mp ht
    exact Nat.le_refl _
  rw [bidsOf_length] at this
  omega
theorem bids_wt (n s : Nat) : Tm.wts s (bidsOf n) ≤ n * (s + 8) := by
  have := wts_le (s := s) (c := s) (ts := bidsOf n) fun t ht => by
    obtain ⟨p, hp, rfl⟩ := List.mem_map.mp ht
    exact Nat.le_refl _
  rw [bidsOf_length] at this
  exact this
theorem ok__law_rule_parts (F : FnD K mg "_law_rule_parts" s__law_rule_parts) (c__law_draw : Cal P w K mg base 1 "_law_draw" sp__law_draw []) (c__law_term : Cal P w K mg base 8 "_law_term" (spT K 4) [])
    (T_range : mg "range" = none) (T_tuple : mg "tuple" = none) : Cal P w K mg base 9 "_law_rule_parts" (sp__law_rule_parts K) [] := by
  refine calOf F sc__law_rule_parts (fun _ _ _ _ _ _ us hl => match us, hl with | [_, _], _ => rfl) (fun vs H Q E h => ?_) (fun cdv f A outer s H vs Q E hr h => ?_)
  · obtain ⟨_, _, rfl, _⟩ := h
    rfl
  · obtain ⟨da, most, rfl, hd, hm1, hm6, k⟩ := h
    refine ⟨_, (pss_cons (ps_set (i := 2) sc__law_rule_parts.nd rfl (Or.inl rfl) (pe_op op_add pe_int (pe_c c__law_draw hr (by first | decide | omega) rfl (pa_cons (pv 0) (pa_cons (pv 1) pa_nil)))))
    (pss_cons (ps_set (i := 3) sc__law_rule_parts.nd rfl (Or.inl rfl) (pe_c c__law_term hr (by first | decide | omega) rfl (pa_cons (pv 0) (pa_cons (pv 2) (pa_cons (pe_op op_add pe_int (pe_c c__law_draw hr (by first | decide | omega) rfl (pa_cons (pv 0) (pa_cons pe_int pa_nil)))) (pa_cons pe_bl pa_nil))))))
    (pss_cons (ps_if (pt_cmpR op_eq (pe_c c__law_draw hr (by first | decide | omega) rfl (pa_cons (pv 0) (pa_cons pe_int pa_nil))) pe_int (nomark _)) (pss_cons (ps_set (i := 4) sc__law_rule_parts.nd rfl (Or.inl rfl) (pe_callTy call_tuple_of (by rfl) T_tuple (by decide +kernel) (pa_cons (pe_lc (own := [("_law_person", 5)]) (by rfl) sc__law_rule_parts.nd (pi_range1 (by rfl) T_range (pa_cons (pv 2) pa_nil)) (blkOk_by (own := [("_law_person", 5)]) (N := ["_law_dice_here", "_law_most", "_law_people", "_law_term_here", "_law_bids_here", "_law_person"]) (sc := defScope s__law_rule_parts) (by decide +kernel)) (fun _ _ _ _ _ => (pg_name (i := 5) sc__law_rule_parts.nd rfl (Or.inl rfl))) (fun _ _ _ _ _ => pts_nil) (fun _ _ _ _ _ => (pe_tup (pa_cons (pe_op op_add pe_int (pe_c c__law_draw hr (by first | decide | omega) rfl (pa_cons (pv 0) (pa_cons pe_int pa_nil)))) (pa_cons (pe_tup (pa_cons pe_str (pa_cons (pv 5) pa_nil))) pa_nil))))) pa_nil)))
    (pss_one (ps_set (i := 3) sc__law_rule_parts.nd rfl (Or.inl rfl) (pe_tup (pa_cons pe_str (pa_cons (pe_tup (pa_cons (pe_tup (pa_cons (pe_op op_add pe_int (pe_c c__law_draw hr (by first | decide | omega) rfl (pa_cons (pv 0) (pa_cons pe_int pa_nil)))) (pa_cons (pv 3) pa_nil))) (pa_cons (pe_tup (pa_cons (pe_op op_add pe_int (pe_c c__law_draw hr (by first | decide | omega) rfl (pa_cons (pv 0) (pa_cons pe_int pa_nil)))) (pa_cons (pe_tup (pa_cons pe_str (pa_cons (pv 4) pa_nil))) pa_nil))) pa_nil))) pa_nil)))))) pss_nil)
    (pss_one (ps_ret (pe_tup (pa_cons (pv 2) (pa_cons (pv 3) pa_nil)))))))), ?_⟩
    refine ⟨_, rfl, _, rfl, da, (most : Int), rfl, hd, by omega, by omega, fun r H1 r0 r1 d1 e1 => ⟨_, _, rfl, rfl, ?_⟩⟩
    obtain ⟨n, hn⟩ : ∃ n : Nat, 1 + r = (n : Int) := ⟨(1 + r).toNat, (Int.toNat_of_nonneg (by omega)).symm⟩
    simp only [hn]
    have n1 : 1 ≤ n := by omega
    have n6 : n ≤ most := by omega
    refine ⟨_, rfl, _, rfl, _, rfl, da, 4, rfl, d1, by decide, by decide, fun x H2 x0 x1 d2 e2 => ⟨_, _, rfl, rfl, ?_⟩⟩
    obtain ⟨d, hx⟩ : ∃ d : Nat, x = (d : Int) := ⟨x.toNat, (Int.toNat_of_nonneg (by omega)).symm⟩
    have ed : (1 : Int) + x = (d : Int) + 1 := by omega
    refine ⟨d, by omega, da, n, true, congrArg (fun z => [V.ref da.1, V.int (n : Int), V.int z, V.bl true]) ed, d2, n1, by omega, fun v t H3 rt dt d3 e3 => ?_⟩
    have b3 : cB 3 = 40 := by decide
    have mono : ∀ j, j ≤ 3 → cB j ≤ 40 := by decide
    have mc := mono d (by omega)
    have mw : ∀ s, wB s d ≤ 53 * s + 468 := fun s => by
      have : d = 0 ∨ d = 1 ∨ d = 2 ∨ d = 3 := by omega
      rcases this with h | h | h | h <;> (rw [h]; simp only [wB]; omega)
    have tw : ∀ s, t.wt s ≤ 53 * s + 468 := fun s => Nat.le_trans (dt.wt s) (mw s)
    have tc := dt.cnt
    have tdp := dt.dep
    refine ⟨_, rfl, da, 2, rfl, d3, by decide, by decide, fun y H4 y0 y1 d4 e4 => ⟨rfl, _, rfl, ?_⟩⟩
    refine ite2 (fun _ => ?_) (fun _ => ?_)
    · refine ⟨_, rfl, _, rfl, by omega, by omega, fun D hD => ?_⟩
      have nD := d4.ne hD
      refine lc_range (lo := 0) (n := ((n : Nat) : Int).toNat) (fun i H' => ∃ (ys : List V) (ws : List Int), H' D = some (.lst ys) ∧ ws.length = i ∧ RpAll K H' ys (meanD ws (Tm.datas (bidsOf i))) ∧ (∀ w ∈ ws, 1 ≤ w ∧ w ≤ 99) ∧ Dice H' da ∧ KD da.1 H4 H')
        ⟨[], [], upd_same, rfl, .nil, by simp, d4.same (same_new hD), Same.kd (same_new hD)⟩ ?_ ?_
      · rintro i H' hi ⟨ys, ws, h1, h2, h3, h4, h5, h6⟩
        refine ⟨rfl, _, rfl, da, 3, rfl, h5, by decide, by decide, fun z H5 z0 z1 d5 e5 => ⟨_, _, rfl, rfl, _, rfl, (by show 2 ≤ sizeLine; decide), fun p hp => ⟨(by show 2 ≤ sizeLine; decide), fun q hq => ?_⟩⟩⟩
        have ez : (0 : Int) + ((i : Nat) : Int) = ((i : Nat) : Int) := Int.zero_add _
        have s6 := same_new (o := .tup [.str "bid", .int (0 + ((i : Nat) : Int))]) hp
        have s7 := same_new (o := .tup [.int (1 + z), .ref p]) hq
        have hD5 := e5 D _ nD.1 h1
        have hD7 := (s6.trans s7) _ _ hD5
        have yl : ys.length ≤ 6 := by
          rw [h3.length]
          unfold meanD
          rw [List.length_zipWith, h2]
          omega
        refine ⟨ys, hD7, small1000 (by omega), ys ++ [.ref q], ws ++ [1 + z], upd_same, by simp [h2], ?_, ?_, (d5.same (s6.trans s7)).upd nD, ((h6.trans e5).trans (Same.kd (s6.trans s7))).mut hD⟩
        · refine RpAll.mono (KT.updl hD7) ?_
          have eb : bidsOf (i + 1) = bidsOf i ++ [.bid i] := by simp [bidsOf, List.range_succ]
          have em : meanD (ws ++ [1 + z]) (Tm.datas (bidsOf (i + 1))) = meanD ws (Tm.datas (bidsOf i)) ++ [.tuple [.int (1 + z), (Tm.bid i).data]] := by
            rw [eb, datas_map, datas_map, List.map_append]
            unfold meanD
            rw [List.zipWith_append]
            · rfl
            · rw [List.length_map, bidsOf_length, h2]
          rw [em]
          refine RpAll.append (RpAll.mono ((h5.kt e5).trans (Same.kt (s6.trans s7))) h3) (.cons (.tup (SqT.of upd_same) (.cons (.int _) (.cons ?_ .nil))) .nil)
          rw [ez] at s7 ⊢
          exact .tup (SqT.of (by rw [upd_ne (ne_of_none upd_same hq)]; exact upd_same)) (.cons (.str _) (.cons (.int _) .nil))
        · intro w hw
          rcases List.mem_append.mp hw with h | h
          · exact h4 w h
          · rw [List.mem_singleton.mp h]
            omega
      · rintro H5 ⟨ys, ws, h1, h2, h3, h4, d5, e5⟩
        rw [Int.toNat_natCast] at h2 h3
        refine ⟨D, ys, rfl, .inl ⟨SqL.of h1, fun l hl => ?_⟩⟩
        have s6 := same_new (o := .tup ys) hl
        refine ⟨_, rfl, da, 3, rfl, d5.same s6, by decide, by decide, fun a H6 a0 a1 d6 e6 => ⟨_, _, rfl, rfl, _, rfl, (by show 2 ≤ sizeLine; decide), fun p1 hp1 => ?_⟩⟩
        have s7 := same_new (o := .tup [.int (1 + a), v]) hp1
        refine ⟨_, rfl, da, 3, rfl, d6.same s7, by decide, by decide, fun b H7 b0 b1 d7 e7 => ⟨_, _, rfl, rfl, _, rfl, (by show 2 ≤ sizeLine; decide), fun p2 hp2 => ⟨(by show 2 ≤ sizeLine; decide), fun p3 hp3 => ⟨(by show 2 ≤ sizeLine; decide), fun p4 hp4 => ⟨(by show 2 ≤ sizeLine; decide), fun p5 hp5 => ?_⟩⟩⟩⟩⟩
        have s8 := same_new (o := .tup [.str "mean", .ref l]) hp2
        have s9 := same_new (o := .tup [.int (1 + b), .ref p2]) hp3
        have s10 := same_new (o := .tup [.ref p1, .ref p3]) hp4
        have s11 := same_new (o := .tup [.str "mean", .ref p4]) hp5
        refine ⟨_, rfl, _, rfl, (by show 2 ≤ sizeLine; decide), fun p6 hp6 => ?_⟩
        have s12 := same_new (o := .tup [.int (n : Int), .ref p5]) hp6
        -- where all stands at the end
        have k34 : KT H3 H4 := d3.kt e4
        have k45 : KT H4 H5 := d4.kt e5
        have k57 := (Same.kt s6).trans (((d5.same s6).kt e6).trans ((Same.kt s7).trans ((d6.same s7).kt e7)))
        have k7e := Same.kt (((s8.trans s9).trans (s10.trans s11)).trans s12)
        have kl : KT _ _ := (((d5.same s6).kt e6).trans ((Same.kt s7).trans ((d6.same s7).kt e7))).trans k7e
        have kp1 : KT _ _ := ((d6.same s7).kt e7).trans k7e
        have r_t := rt.mono (k34.trans (k45.trans (k57.trans k7e)))
        have r_l : Rp K _ (.ref l) (.tuple (meanD ws (Tm.datas (bidsOf n)))) := .tup (kl.sq (SqT.of upd_same)) (RpAll.mono (k57.trans k7e) h3)
        have r_p2 : Rp K _ (.ref p2) (Tm.mean ws (bidsOf n)).data := .tup ((Same.kt ((s9.trans (s10.trans s11)).trans s12)).sq (SqT.of upd_same)) (.cons (.str _) (.cons r_l .nil))
        have r_p1 : Rp K _ (.ref p1) (.tuple [.int (1 + a), t.data]) := .tup (kp1.sq (SqT.of upd_same)) (.cons (.int _) (.cons r_t .nil))
        have r_p3 : Rp K _ (.ref p3) (.tuple [.int (1 + b), (Tm.mean ws (bidsOf n)).data]) := .tup ((Same.kt ((s10.trans s11).trans s12)).sq (SqT.of upd_same)) (.cons (.int _) (.cons r_p2 .nil))
        have r_p4 : Rp K _ (.ref p4) (.tuple (meanD [1 + a, 1 + b] (Tm.datas [t, Tm.mean ws (bidsOf n)]))) := .tup ((Same.kt (s11.trans s12)).sq (SqT.of upd_same)) (.cons r_p1 (.cons r_p3 .nil))
        have r_p5 : Rp K _ (.ref p5) (Tm.mean [1 + a, 1 + b] [t, Tm.mean ws (bidsOf n)]).data := .tup ((Same.kt s12).sq (SqT.of upd_same)) (.cons (.str _) (.cons r_p4 .nil))
        have dE : Dice _ da := d7.same (((s8.trans s9).trans (s10.trans s11)).trans s12)
        have eE : KD da.1 H _ := ((((((((e1.trans e2).trans e3).trans e4).trans e5).trans (Same.kd s6)).trans e6).trans (Same.kd s7)).trans e7).trans (Same.kd (((s8.trans s9).trans (s10.trans s11)).trans s12))
        refine k _ n (Tm.mean [1 + a, 1 + b] [t, Tm.mean ws (bidsOf n)]) _ n1 n6 (.tup (SqT.of upd_same) (.cons (.int _) (.cons r_p5 .nil))) ?_ dE eE
        have bd := bids_dep n
        have bc := bids_cnt n
        have inner : (Tm.mean ws (bidsOf n)).Ok n 20 := ⟨by rw [h2, bidsOf_length], (by intro e; have := bidsOf_length n; rw [e] at this; simp at this; omega), by rw [bidsOf_length]; omega, h4, oks_bids (Nat.le_refl n)⟩
        refine ⟨⟨rfl, by simp, by show 2 ≤ 8; decide, ?_, dt.ok, inner, trivial⟩, ?_, ?_, ?_⟩
        · intro w hw
          rcases List.mem_cons.mp hw with h | h
          · rw [h]; omega
          · rw [List.mem_singleton.mp h]; omega
        · show max t.dep (max (Tm.deps (bidsOf n) + 1) 0) + 1 ≤ 8
          omega
        · show t.cnt + ((Tm.cnts (bidsOf n) + 1) + 0) + 1 ≤ 60
          omega
        · intro s
          have bw := bids_wt n s
          have bw2 : n * (s + 8) ≤ 6 * (s + 8) := Nat.mul_le_mul_right _ (by omega)
          have tws := tw s
          show (t.wt s + 8 + ((Tm.wts s (bidsOf n) + 12) + 8 + 0)) + 12 ≤ _
          omega
    · refine ⟨_, rfl, _, rfl, (by show 2 ≤ sizeLine; decide), fun p hp => ?_⟩
      have s5 := same_new (o := .tup [.int (n : Int), v]) hp
      exact k _ n t _ n1 n6 (.tup (SqT.of upd_same) (.cons (.int _) (.cons ((rt.mono (d3.kt e4)).mono (Same.kt s5)) .nil))) ⟨dt.ok, by omega, by omega, fun s => by have := tw s; omega⟩ (d4.same s5) ((((e1.trans e2).trans e3).trans e4).trans (Same.kd s5))
end
end CB

set_option Elab.async false
set_option linter.all false
set_option maxRecDepth 100000
set_option maxHeartbeats 4000000
namespace CB
open PySem PySem.Spec PyProof.Rows L2
open C8 (Cal Met Mak pe_c pe_mk pe_mt pe_mt0 pe_gc CalAt)
section
variable {P : Program} {w : World} {K : PySem.W.Frag} {mg : Str → Option Value} {base : Heap}
abbrev n_is_integer : List Str := ["thing"]
theorem sc_is_integer : FnScope ["thing"] ["thing"] (defScope s_is_integer) := ⟨rfl, rfl, rfl, by decide +kernel, rfl, by decide +kernel, by decide +kernel⟩
def sp_is_integer : Sp := fun vs H Q _ => ∃ i : Int, vs = [.int i] ∧ Q (.bl true) H
theorem ok_is_integer (F : FnD K mg "is_integer" s_is_integer) (T_isinstance : mg "isinstance" = none) (T_int : mg "int" = none) (T_bool : mg "bool" = none) : Cal P w K mg base 1 "is_integer" sp_is_integer [] := by
  refine calOf F sc_is_integer (fun _ _ _ _ _ _ us hl => match us, hl with | [_], _ => rfl) (fun vs H Q E h => ?_) (fun cdv f A outer s H vs Q E hr h => ?_)
  · obtain ⟨_, rfl, _⟩ := h
    rfl
  · obtain ⟨i, rfl, k⟩ := h
    refine ⟨_, (pss_one (ps_ret (pe_and (pe_callB call_isi (by rfl) T_isinstance (by decide +kernel) (pa_cons (pv 0) (pa_cons (pe_ty (n := "int") (by rfl) T_int (by decide +kernel)) pa_nil))) (pe_one (pe_not (pe_callB call_isi (by rfl) T_isinstance (by decide +kernel) (pa_cons (pv 0) (pa_cons (pe_ty (n := "bool") (by rfl) T_bool (by decide +kernel)) pa_nil)))))))), ?_⟩
    exact ⟨_, rfl, _, _, _, _, true, rfl, .ty _, .base (.int i), kit_ty (by decide +kernel), _, rfl, _, rfl, _, _, _, _, false, rfl, .ty _, .base (.int i), kit_ty (by decide +kernel), _, rfl, k⟩
abbrev n_is_number : List Str := ["thing", "top", "bottom"]
theorem sc_is_number : FnScope ["thing", "top", "bottom"] ["thing"] (defScope s_is_number) := ⟨rfl, rfl, rfl, by decide +kernel, rfl, by decide +kernel, by decide +kernel⟩
def sp_is_number (K : PySem.W.Frag) : Sp := fun vs H Q _ => ∃ (v : V) (q : Rat), vs = [v] ∧ RF K H v q ∧ 0 ≤ q ∧ q ≤ 1 ∧ Q (.bl true) H
theorem num_facts {q : Rat} (h0 : 0 ≤ q) (h1 : q ≤ 1) : 0 ≤ q.num ∧ q.num ≤ (q.den : Int) := by
  have a := (Rat.le_iff 0 q).mp h0
  have b := (Rat.le_iff q 1).mp h1
  have ea : (0 : Rat).num = 0 := rfl
  have eb : (0 : Rat).den = 1 := rfl
  have ec : (1 : Rat).num = 1 := rfl
  have ed : (1 : Rat).den = 1 := rfl
  rw [ea, eb] at a
  rw [ec, ed] at b
  omega
theorem ok_is_number (F : FnD K mg "is_number" s_is_number) (c_is_integer : Cal P w K mg base 1 "is_integer" sp_is_integer []) (T_isinstance : mg "isinstance" = none) (T_tuple : mg "tuple" = none) (T_len : mg "len" = none) (g_gcd : mg "gcd" = some (.builtin "math.gcd")) : Cal P w K mg base 2 "is_number" (sp_is_number K) [] := by
  refine calOf F sc_is_number (fun _ _ _ _ _ _ us hl => match us, hl with | [_], _ => rfl) (fun vs H Q E h => ?_) (fun cdv f A outer s H vs Q E hr h => ?_)
  · obtain ⟨_, _, rfl, _⟩ := h
    rfl
  · obtain ⟨v, q, rfl, ⟨p, rfl, hp⟩, h0, h1, k⟩ := h
    obtain ⟨n0, n1⟩ := num_facts h0 h1
    have dp := den_pos q
    have red : Nat.gcd q.num.natAbs ((q.den : Int)).natAbs = 1 := q.reduced
    refine ⟨_, (pss_cons (ps_if (pt_not (PW.pt (pw_and (pt_val (pe_callB call_isi (by rfl) T_isinstance (by decide +kernel) (pa_cons (pv 0) (pa_cons (pe_ty (n := "tuple") (by rfl) T_tuple (by decide +kernel)) pa_nil)))) (pw_and1 (pt_cmpR op_eq (pe_callB call_len_seq (by rfl) T_len PySem.boot_len (pa_cons (pv 0) pa_nil)) pe_int (nomark _)))))) (pss_one (ps_ret pe_bl)) pss_nil)
    (pss_cons (ps_asg (pv 0) (pg_tup rfl (pgs_cons (pg_name (i := 1) sc_is_number.nd rfl (Or.inl rfl)) (pgs_cons (pg_name (i := 2) sc_is_number.nd rfl (Or.inl rfl)) pgs_nil))))
    (pss_cons (ps_if (pt_not (PW.pt (pw_and (pt_val (pe_c c_is_integer hr (by first | decide | omega) rfl (pa_cons (pv 1) pa_nil))) (pw_and1 (pt_val (pe_c c_is_integer hr (by first | decide | omega) rfl (pa_cons (pv 2) pa_nil))))))) (pss_one (ps_ret pe_bl)) pss_nil)
    (pss_one (ps_ret (pe_and (pe_cmpR op_ge (pv 2) pe_int (nomark _)) (pe_and (pe_chain op_le op_le pe_int (pv 1) (pv 2)) (pe_one (pe_cmpR op_eq (pe_callBfun cr_gcd (by rfl) g_gcd (pa_cons (pv 1) (pa_cons (pv 2) pa_nil))) pe_int (nomark _)))))))))), ?_⟩
    refine ⟨_, rfl, _, _, _, _, true, rfl, .ty _, tyT hp, kit_ty (by decide +kernel), _, rfl, _, rfl, p, _, rfl, .inr hp, rfl, _, rfl, ?_⟩
    refine ⟨_, rfl, p, _, rfl, hp, rfl, _, _, rfl, _, _, rfl, rfl, ?_⟩
    refine ⟨_, rfl, _, rfl, _, rfl, _, rfl, _, rfl, _, rfl, ?_⟩
    refine ⟨_, rfl, _, _, rfl, rfl, _, rfl, ite2 (fun _ => ?_) (fun c => absurd (decide_eq_true (show (1 : Int) ≤ (q.den : Int) by omega)) c)⟩
    refine ⟨_, rfl, _, _, rfl, rfl, _, rfl, ite2 (fun _ => ?_) (fun c => absurd (decide_eq_true n0) c)⟩
    refine ⟨_, rfl, _, _, rfl, rfl, _, rfl, ite2 (fun _ => ?_) (fun c => absurd (decide_eq_true n1) c)⟩
    refine ⟨_, rfl, _, rfl, _, _, rfl, rfl, ?_⟩
    rw [red]
    exact k
abbrev n_is_person : List Str := ["thing", "people"]
theorem sc_is_person : FnScope ["thing", "people"] ["thing", "people"] (defScope s_is_person) := ⟨rfl, rfl, rfl, by decide +kernel, rfl, by decide +kernel, by decide +kernel⟩
def sp_is_person : Sp := fun vs H Q _ => ∃ p n : Int, vs = [.int p, .int n] ∧ 0 ≤ p ∧ p < n ∧ Q (.bl true) H
theorem ok_is_person (F : FnD K mg "is_person" s_is_person) (c_is_integer : Cal P w K mg base 1 "is_integer" sp_is_integer []) : Cal P w K mg base 2 "is_person" sp_is_person [] := by
  refine calOf F sc_is_person (fun _ _ _ _ _ _ us hl => match us, hl with | [_, _], _ => rfl) (fun vs H Q E h => ?_) (fun cdv f A outer s H vs Q E hr h => ?_)
  · obtain ⟨_, _, rfl, _⟩ := h
    rfl
  · obtain ⟨p, n, rfl, h0, h1, k⟩ := h
    refine ⟨_, (pss_one (ps_ret (pe_and (pe_c c_is_integer hr (by first | decide | omega) rfl (pa_cons (pv 0) pa_nil)) (pe_one (pe_chain op_le op_lt pe_int (pv 0) (pv 1)))))), ?_⟩
    refine ⟨_, rfl, _, rfl, _, rfl, _, rfl, _, _, rfl, rfl, _, rfl, ite2 (fun _ => ?_) (fun c => absurd (decide_eq_true h0) c)⟩
    refine ⟨_, rfl, _, _, rfl, rfl, ?_⟩
    show Q (V.bl (decide (p < n))) H
    rw [decide_eq_true h1]
    exact k
abbrev n_is_weight : List Str := ["thing"]
theorem sc_is_weight : FnScope ["thing"] ["thing"] (defScope s_is_weight) := ⟨rfl, rfl, rfl, by decide +kernel, rfl, by decide +kernel, by decide +kernel⟩
def sp_is_weight : Sp := fun vs H Q _ => ∃ p : Int, vs = [.int p] ∧ 1 ≤ p ∧ p ≤ 99 ∧ Q (.bl true) H
theorem ok_is_weight (F : FnD K mg "is_weight" s_is_weight) (c_is_integer : Cal P w K mg base 1 "is_integer" sp_is_integer []) (g_MOST_WEIGHT : ∃ u, mg "MOST_WEIGHT" = some u ∧ RelV (.int 99) u) : Cal P w K mg base 2 "is_weight" sp_is_weight [] := by
  refine calOf F sc_is_weight (fun _ _ _ _ _ _ us hl => match us, hl with | [_], _ => rfl) (fun vs H Q E h => ?_) (fun cdv f A outer s H vs Q E hr h => ?_)
  · obtain ⟨_, rfl, _⟩ := h
    rfl
  · obtain ⟨p, rfl, h0, h1, k⟩ := h
    refine ⟨_, (pss_one (ps_ret (pe_and (pe_c c_is_integer hr (by first | decide | omega) rfl (pa_cons (pv 0) pa_nil)) (pe_one (pe_chain op_le op_le pe_int (pv 0) (pe_gc rfl g_MOST_WEIGHT)))))), ?_⟩
    refine ⟨_, rfl, _, rfl, _, rfl, _, rfl, _, _, rfl, rfl, _, rfl, ite2 (fun _ => ?_) (fun c => absurd (decide_eq_true h0) c)⟩
    refine ⟨_, _, rfl, rfl, ?_⟩
    show Q (V.bl (decide (p ≤ 99))) H
    rw [decide_eq_true h1]
    exact k
abbrev n_is_weighted : List Str := ["thing"]
theorem sc_is_weighted : FnScope ["thing"] ["thing"] (defScope s_is_weighted) := ⟨rfl, rfl, rfl, by decide +kernel, rfl, by decide +kernel, by decide +kernel⟩
def sp_is_weighted (K : PySem.W.Frag) : Sp := fun vs H Q _ => ∃ (a : Addr) (p : Int) (x : V), vs = [.ref a] ∧ SqT K H a [.int p, x] ∧ 1 ≤ p ∧ p ≤ 99 ∧ Q (.bl true) H
theorem ok_is_weighted (F : FnD K mg "is_weighted" s_is_weighted) (c_is_weight : Cal P w K mg base 2 "is_weight" sp_is_weight []) (T_isinstance : mg "isinstance" = none) (T_tuple : mg "tuple" = none) (T_len : mg "len" = none) : Cal P w K mg base 3 "is_weighted" (sp_is_weighted K) [] := by
  refine calOf F sc_is_weighted (fun _ _ _ _ _ _ us hl => match us, hl with | [_], _ => rfl) (fun vs H Q E h => ?_) (fun cdv f A outer s H vs Q E hr h => ?_)
  · obtain ⟨_, _, _, rfl, _⟩ := h
    rfl
  · obtain ⟨a, p, x, rfl, ha, h0, h1, k⟩ := h
    refine ⟨_, (pss_one (ps_ret (pe_and (pe_callB call_isi (by rfl) T_isinstance (by decide +kernel) (pa_cons (pv 0) (pa_cons (pe_ty (n := "tuple") (by rfl) T_tuple (by decide +kernel)) pa_nil))) (pe_and (pe_cmpR op_eq (pe_callB call_len_seq (by rfl) T_len PySem.boot_len (pa_cons (pv 0) pa_nil)) pe_int (nomark _)) (pe_one (pe_c c_is_weight hr (by first | decide | omega) rfl (pa_cons (pe_ix ix_tup (pv 0) pe_int (fun _ _ => rfl)) pa_nil))))))), ?_⟩
    exact ⟨_, rfl, _, _, _, _, true, rfl, .ty _, tyT ha, kit_ty (by decide +kernel), _, rfl, _, rfl, a, _, rfl, .inr ha, rfl, _, rfl, _, rfl, _, _, _, _, rfl, rfl, ha, rfl, p, rfl, h0, h1, k⟩
abbrev n_are_some : List Str := ["thing"]
theorem sc_are_some : FnScope ["thing"] ["thing"] (defScope s_are_some) := ⟨rfl, rfl, rfl, by decide +kernel, rfl, by decide +kernel, by decide +kernel⟩
def sp_are_some (K : PySem.W.Frag) : Sp := fun vs H Q _ => ∃ (a : Addr) (xs : List V), vs = [.ref a] ∧ SqT K H a xs ∧ 1 ≤ xs.length ∧ xs.length ≤ 8 ∧ Q (.bl true) H
theorem ok_are_some (F : FnD K mg "are_some" s_are_some) (T_isinstance : mg "isinstance" = none) (T_tuple : mg "tuple" = none) (T_len : mg "len" = none) (g_MOST_PARTS : ∃ u, mg "MOST_PARTS" = some u ∧ RelV (.int 8) u) : Cal P w K mg base 1 "are_some" (sp_are_some K) [] := by
  refine calOf F sc_are_some (fun _ _ _ _ _ _ us hl => match us, hl with | [_], _ => rfl) (fun vs H Q E h => ?_) (fun cdv f A outer s H vs Q E hr h => ?_)
  · obtain ⟨_, _, rfl, _⟩ := h
    rfl
  · obtain ⟨a, xs, rfl, ha, h0, h1, k⟩ := h
    refine ⟨_, (pss_one (ps_ret (pe_and (pe_callB call_isi (by rfl) T_isinstance (by decide +kernel) (pa_cons (pv 0) (pa_cons (pe_ty (n := "tuple") (by rfl) T_tuple (by decide +kernel)) pa_nil))) (pe_one (pe_chain op_le op_le pe_int (pe_callB call_len_seq (by rfl) T_len PySem.boot_len (pa_cons (pv 0) pa_nil)) (pe_gc rfl g_MOST_PARTS)))))), ?_⟩
    refine ⟨_, rfl, _, _, _, _, true, rfl, .ty _, tyT ha, kit_ty (by decide +kernel), _, rfl, _, rfl, a, _, rfl, .inr ha, _, _, rfl, rfl, _, rfl, ite2 (fun _ => ?_) (fun c => absurd (decide_eq_true (show (1 : Int) ≤ (xs.length : Int) by omega)) c)⟩
    refine ⟨_, _, rfl, rfl, ?_⟩
    show Q (V.bl (decide ((xs.length : Int) ≤ 8))) H
    rw [decide_eq_true (show (xs.length : Int) ≤ 8 by omega)]
    exact k
abbrev n_are_bounds : List Str := ["low", "high"]
theorem sc_are_bounds : FnScope ["low", "high"] ["low", "high"] (defScope s_are_bounds) := ⟨rfl, rfl, rfl, by decide +kernel, rfl, by decide +kernel, by decide +kernel⟩
def sp_are_bounds (K : PySem.W.Frag) : Sp := fun vs H Q _ => ∃ (v1 v2 : V) (a b : Rat) (s : Nat), vs = [v1, v2] ∧ RF K H v1 a ∧ RF K H v2 b ∧ NumOk s a ∧ NumOk s b ∧ a ≤ b ∧ s ≤ 9000 ∧ Q (.bl true) H
theorem ok_are_bounds (F : FnD K mg "are_bounds" s_are_bounds) (c_is_number : Cal P w K mg base 2 "is_number" (sp_is_number K) []) (c_is_less : Cal P w K mg base 1 "is_less" (sp_is_less K) []) : Cal P w K mg base 3 "are_bounds" (sp_are_bounds K) [] := by
  refine calOf F sc_are_bounds (fun _ _ _ _ _ _ us hl => match us, hl with | [_, _], _ => rfl) (fun vs H Q E h => ?_) (fun cdv f A outer s H vs Q E hr h => ?_)
  · obtain ⟨_, _, _, _, _, rfl, _⟩ := h
    rfl
  · obtain ⟨v1, v2, a, b, sz, rfl, r1, r2, na, nb, hab, hs, k⟩ := h
    refine ⟨_, (pss_one (ps_ret (pe_and (pe_c c_is_number hr (by first | decide | omega) rfl (pa_cons (pv 0) pa_nil)) (pe_and (pe_c c_is_number hr (by first | decide | omega) rfl (pa_cons (pv 1) pa_nil)) (pe_one (pe_not (pe_c c_is_less hr (by first | decide | omega) rfl (pa_cons (pv 1) (pa_cons (pv 0) pa_nil))))))))), ?_⟩
    refine ⟨_, rfl, v1, a, rfl, r1, na.1, na.2.1, _, rfl, _, rfl, v2, b, rfl, r2, nb.1, nb.2.1, _, rfl, _, rfl, _, rfl, v2, v1, b, a, sz, sz, rfl, r2, r1, nb.2.2, na.2.2, by omega, _, rfl, ?_⟩
    rw [decide_eq_false (by grind)]
    exact k
end
end CB

set_option Elab.async false
set_option linter.all false
set_option maxRecDepth 100000
set_option maxHeartbeats 4000000
namespace CB
open PySem PySem.Spec PyProof.Rows L2
open C8 (Cal Met Mak pe_c pe_mk pe_mt pe_mt0 pe_gc CalAt)
section
variable {P : Program} {w : World} {K : PySem.W.Frag} {mg : Str → Option Value} {base : Heap}
/-! ### how terms stand -/
theorem rp1 {H : Hp} {v : V} {d1 : PyData} (h : Rp K H v (.tuple [d1])) : ∃ a x, v = .ref a ∧ SqT K H a [x] ∧ Rp K H x d1 := by
  obtain ⟨a, xs, rfl, h1, h2⟩ := h.tupI
  obtain ⟨x, r, rfl, h3, h4⟩ := h2.consI
  have e := h4.nilI
  subst e
  exact ⟨a, x, rfl, h1, h3⟩
theorem rp2 {H : Hp} {v : V} {d1 d2 : PyData} (h : Rp K H v (.tuple [d1, d2])) : ∃ a x y, v = .ref a ∧ SqT K H a [x, y] ∧ Rp K H x d1 ∧ Rp K H y d2 := by
  obtain ⟨a, xs, rfl, h1, h2⟩ := h.tupI
  obtain ⟨x, r, rfl, h3, h4⟩ := h2.consI
  obtain ⟨y, r2, rfl, h5, h6⟩ := h4.consI
  have e := h6.nilI
  subst e
  exact ⟨a, x, y, rfl, h1, h3, h5⟩
theorem rp3 {H : Hp} {v : V} {d1 d2 d3 : PyData} (h : Rp K H v (.tuple [d1, d2, d3])) : ∃ a x y z, v = .ref a ∧ SqT K H a [x, y, z] ∧ Rp K H x d1 ∧ Rp K H y d2 ∧ Rp K H z d3 := by
  obtain ⟨a, xs, rfl, h1, h2⟩ := h.tupI
  obtain ⟨x, r, rfl, h3, h4⟩ := h2.consI
  obtain ⟨y, r2, rfl, h5, h6⟩ := h4.consI
  obtain ⟨z, r3, rfl, h7, h8⟩ := h6.consI
  have e := h8.nilI
  subst e
  exact ⟨a, x, y, z, rfl, h1, h3, h5, h7⟩
theorem rp4 {H : Hp} {v : V} {d1 d2 d3 d4 : PyData} (h : Rp K H v (.tuple [d1, d2, d3, d4])) : ∃ a x y z u, v = .ref a ∧ SqT K H a [x, y, z, u] ∧ Rp K H x d1 ∧ Rp K H y d2 ∧ Rp K H z d3 ∧ Rp K H u d4 := by
  obtain ⟨a, xs, rfl, h1, h2⟩ := h.tupI
  obtain ⟨x, r, rfl, h3, h4⟩ := h2.consI
  obtain ⟨y, r2, rfl, h5, h6⟩ := h4.consI
  obtain ⟨z, r3, rfl, h7, h8⟩ := h6.consI
  obtain ⟨u, r4, rfl, h9, h10⟩ := h8.consI
  have e := h10.nilI
  subst e
  exact ⟨a, x, y, z, u, rfl, h1, h3, h5, h7, h9⟩
theorem t_bid {H : Hp} {v : V} {p : Nat} (h : Rp K H v (Tm.bid p).data) : ∃ a, v = .ref a ∧ SqT K H a [.str "bid", .int (p : Int)] := by
  obtain ⟨a, x, y, rfl, h1, h2, h3⟩ := rp2 h
  have e1 := h2.strI; have e2 := h3.intI
  subst e1 e2
  exact ⟨a, rfl, h1⟩
theorem t_fixed {H : Hp} {v : V} {q : Rat} (h : Rp K H v (Tm.fixed q).data) : ∃ a x, v = .ref a ∧ SqT K H a [.str "fixed", x] ∧ RF K H x q := by
  obtain ⟨a, x, y, rfl, h1, h2, h3⟩ := rp2 h
  have e1 := h2.strI
  subst e1
  exact ⟨a, y, rfl, h1, PF.of h3⟩
theorem t_mean {H : Hp} {v : V} {ws : List Int} {ts : List Tm} (h : Rp K H v (Tm.mean ws ts).data) : ∃ a b us, v = .ref a ∧ SqT K H a [.str "mean", .ref b] ∧ SqT K H b us ∧ RpAll K H us (meanD ws (Tm.datas ts)) := by
  obtain ⟨a, x, y, rfl, h1, h2, h3⟩ := rp2 h
  have e1 := h2.strI
  subst e1
  obtain ⟨b, us, rfl, h4, h5⟩ := h3.tupI
  exact ⟨a, b, us, rfl, h1, h4, h5⟩
theorem t_least {H : Hp} {v : V} {ts : List Tm} (h : Rp K H v (Tm.least ts).data) : ∃ a b us, v = .ref a ∧ SqT K H a [.str "least", .ref b] ∧ SqT K H b us ∧ RTs K H us ts := by
  obtain ⟨a, x, y, rfl, h1, h2, h3⟩ := rp2 h
  have e1 := h2.strI
  subst e1
  obtain ⟨b, us, rfl, h4, h5⟩ := h3.tupI
  exact ⟨a, b, us, rfl, h1, h4, h5⟩
theorem t_greatest {H : Hp} {v : V} {ts : List Tm} (h : Rp K H v (Tm.greatest ts).data) : ∃ a b us, v = .ref a ∧ SqT K H a [.str "greatest", .ref b] ∧ SqT K H b us ∧ RTs K H us ts := by
  obtain ⟨a, x, y, rfl, h1, h2, h3⟩ := rp2 h
  have e1 := h2.strI
  subst e1
  obtain ⟨b, us, rfl, h4, h5⟩ := h3.tupI
  exact ⟨a, b, us, rfl, h1, h4, h5⟩
theorem t_ranked {H : Hp} {v : V} {k : Nat} {ts : List Tm} (h : Rp K H v (Tm.ranked k ts).data) : ∃ a b us, v = .ref a ∧ SqT K H a [.str "ranked", .int (k : Int), .ref b] ∧ SqT K H b us ∧ RTs K H us ts := by
  obtain ⟨a, x, y, z, rfl, h1, h2, h3, h4⟩ := rp3 h
  have e1 := h2.strI; have e2 := h3.intI
  subst e1 e2
  obtain ⟨b, us, rfl, h4, h5⟩ := h4.tupI
  exact ⟨a, b, us, rfl, h1, h4, h5⟩
theorem t_between {H : Hp} {v : V} {lo hi : Rat} {t : Tm} (h : Rp K H v (Tm.between lo hi t).data) : ∃ a x y z, v = .ref a ∧ SqT K H a [.str "between", x, y, z] ∧ RF K H x lo ∧ RF K H y hi ∧ Rp K H z t.data := by
  obtain ⟨a, x, y, z, u, rfl, h1, h2, h3, h4, h5⟩ := rp4 h
  have e1 := h2.strI
  subst e1
  exact ⟨a, y, z, u, rfl, h1, PF.of h3, PF.of h4, h5⟩
/-- the i-th part of a mean -/
theorem meanD_get {ws : List Int} {ts : List Tm} {i : Nat} {d : PyData} (h : (meanD ws (Tm.datas ts))[i]? = some d) : ∃ z t, ws[i]? = some z ∧ ts[i]? = some t ∧ d = .tuple [.int z, t.data] := by
  unfold meanD at h
  rw [datas_map, List.getElem?_zipWith] at h
  cases e1 : ws[i]? with
  | none => rw [e1] at h; simp at h
  | some z =>
    cases e2 : ts[i]? with
    | none => rw [e1, List.getElem?_map, e2] at h; simp at h
    | some t =>
      rw [e1, List.getElem?_map, e2] at h
      simp at h
      exact ⟨z, t, rfl, rfl, h.symm⟩
theorem mean_part {H : Hp} {us : List V} {ws : List Int} {ts : List Tm} {i : Nat} {v : V} (h : RpAll K H us (meanD ws (Tm.datas ts))) (e : us[i]? = some v) :
    ∃ a z t x, v = .ref a ∧ ws[i]? = some z ∧ ts[i]? = some t ∧ SqT K H a [.int z, x] ∧ Rp K H x t.data := by
  obtain ⟨d, h1, h2⟩ := RpAll.getV h e
  obtain ⟨z, t, e1, e2, rfl⟩ := meanD_get h1
  obtain ⟨a, x, y, rfl, g1, g2, g3⟩ := rp2 h2
  have e3 := g2.intI
  subst e3
  exact ⟨a, z, t, y, rfl, e1, e2, g1, g3⟩
def Tm.children : Tm → List Tm
  | .bid _ => []
  | .fixed _ => []
  | .mean _ ts => ts
  | .least ts => ts
  | .greatest ts => ts
  | .ranked _ ts => ts
  | .between _ _ t => [t]
abbrev n_inner_terms : List Str := ["term", "word", "_", "inner"]
theorem sc_inner_terms : FnScope ["term", "word", "_", "inner"] ["term"] (defScope s_inner_terms) := ⟨rfl, rfl, rfl, by decide +kernel, rfl, by decide +kernel, by decide +kernel⟩
def sp_inner_terms (K : PySem.W.Frag) : Sp := fun vs H Q _ => ∃ (v : V) (t : Tm), vs = [v] ∧ Rp K H v t.data ∧ (∀ ws ts, t = .mean ws ts → ws.length = ts.length ∧ ts.length ≤ 8) ∧
  ∀ (p : Addr) (us : List V) (H' : Hp), Same H H' → SqT K H' p us → RTs K H' us t.children → Q (.ref p) H'
theorem ok_inner_terms (F : FnD K mg "inner_terms" s_inner_terms) (T_tuple : mg "tuple" = none) : Cal P w K mg base 1 "inner_terms" (sp_inner_terms K) [] := by
  refine calOf F sc_inner_terms (fun _ _ _ _ _ _ us hl => match us, hl with | [_], _ => rfl) (fun vs H Q E h => ?_) (fun cdv f A outer s H vs Q E hr h => ?_)
  · obtain ⟨_, _, rfl, _⟩ := h
    rfl
  · obtain ⟨v, t, rfl, rt, hm, k⟩ := h
    refine ⟨_, (pss_cons (ps_set (i := 1) sc_inner_terms.nd rfl (Or.inl rfl) (pe_ix ix_tup (pv 0) pe_int (fun _ _ => rfl)))
    (pss_cons (ps_if (pt_cmpR op_in_seq (pv 1) (pe_tup (pa_cons pe_str (pa_cons pe_str pa_nil))) rfl) (pss_one (ps_ret (pe_tup pa_nil))) pss_nil)
    (pss_cons (ps_if (pt_cmpR op_eq (pv 1) pe_str (nomark _)) (pss_one (ps_ret (pe_callTy call_tuple_of (by rfl) T_tuple (by decide +kernel) (pa_cons (pe_lc (own := [("_", 2), ("inner", 3)]) (g := (gTup K 2 (gCons (gName 2) (gCons (gName 3) gNil)))) (by rfl) sc_inner_terms.nd (pi_tup (pe_ix ix_tup (pv 0) pe_int (fun _ _ => rfl))) (blkOk_by (own := [("_", 2), ("inner", 3)]) (N := ["term", "word", "_", "inner"]) (sc := defScope s_inner_terms) (by decide +kernel)) (fun _ _ _ _ _ => (pg_tup rfl (pgs_cons (pg_name (i := 2) sc_inner_terms.nd rfl (Or.inl rfl)) (pgs_cons (pg_name (i := 3) sc_inner_terms.nd rfl (Or.inl rfl)) pgs_nil)))) (fun _ _ _ _ _ => pts_nil) (fun _ _ _ _ _ => (pv 3))) pa_nil)))) pss_nil)
    (pss_cons (ps_if (pt_cmpR op_eq (pv 1) pe_str (nomark _)) (pss_one (ps_ret (pe_tup (pa_cons (pe_ix ix_tup (pv 0) pe_int (fun _ _ => rfl)) pa_nil)))) pss_nil)
    (pss_one (ps_ret (pe_ix ix_tup (pv 0) (pe_un un_neg pe_int) (fun _ _ => rfl)))))))), ?_⟩
    cases t with
    | bid p =>
      obtain ⟨a, rfl, ha⟩ := t_bid rt
      refine ⟨_, rfl, _, _, _, _, rfl, rfl, ha, rfl, _, rfl, (by show 2 ≤ sizeLine; decide), fun q hq => ⟨q, _, rfl, .inr (SqT.of upd_same), rfl, rfl, _, rfl, ?_⟩⟩
      refine ite2 (fun _ => ⟨Nat.zero_le _, fun r hr2 => k r [] _ ((same_new hq).trans (same_new hr2)) (SqT.of upd_same) .nil⟩) (fun c => absurd (by decide +kernel) c)
    | fixed q =>
      obtain ⟨a, x, rfl, ha, _⟩ := t_fixed rt
      refine ⟨_, rfl, _, _, _, _, rfl, rfl, ha, rfl, _, rfl, (by show 2 ≤ sizeLine; decide), fun q hq => ⟨q, _, rfl, .inr (SqT.of upd_same), rfl, rfl, _, rfl, ?_⟩⟩
      refine ite2 (fun _ => ⟨Nat.zero_le _, fun r hr2 => k r [] _ ((same_new hq).trans (same_new hr2)) (SqT.of upd_same) .nil⟩) (fun c => absurd (by decide +kernel) c)
    | mean ws ts =>
      obtain ⟨a, b, us, rfl, ha, hb, hu⟩ := t_mean rt
      obtain ⟨wl, tl⟩ := hm ws ts rfl
      refine ⟨_, rfl, _, _, _, _, rfl, rfl, ha, rfl, _, rfl, (by show 2 ≤ sizeLine; decide), fun q hq => ⟨q, _, rfl, .inr (SqT.of upd_same), rfl, rfl, _, rfl, ?_⟩⟩
      refine ite2 (fun c => absurd c (by decide +kernel)) (fun _ => ?_)
      have s1 := same_new (o := .tup [.str "bid", .str "fixed"]) hq
      refine ⟨_, rfl, rfl, _, rfl, ite2 (fun _ => ?_) (fun c => absurd (by decide +kernel) c)⟩
      have ha1 := (Same.kt s1).sq ha
      have hb1 := (Same.kt s1).sq hb
      have hu1 := RpAll.mono (Same.kt s1) hu
      refine ⟨_, rfl, _, _, _, _, rfl, rfl, ha1, rfl, b, rfl, ⟨_, hb1⟩, fun D hD => ?_⟩
      have ul : us.length = ts.length := by rw [hu.length, meanD_length _ _ (by rw [datas_map, List.length_map]; exact wl), datas_map, List.length_map]
      refine it_tup (K := K) (a := b) (xs := us) (fun i H' => ∃ zs : List V, H' D = some (.lst zs) ∧ RTs K H' zs (ts.take i) ∧ Same (upd H q (.tup [.str "bid", .str "fixed"])) H')
        ⟨[], upd_same, by simp [RTs, Tm.datas]; exact .nil, same_new hD⟩ (fun i H' ⟨_, _, _, s5⟩ => (Same.kt s5).sq hb1) ?_ ?_
      · rintro i x H' hx ⟨zs, g1, g2, g3⟩
        obtain ⟨c, z, t, y, rfl, e1, e2, p1, p2⟩ := mean_part hu1 hx
        have zl : zs.length ≤ 8 := by rw [g2.length, List.length_take]; omega
        refine ⟨c, _, rfl, (Same.kt g3).sq p1, rfl, _, _, rfl, _, _, rfl, rfl, rfl, _, rfl, zs, g1, small1000 (by omega), zs ++ [y], upd_same, ?_, Same.mut g3 hD⟩
        rw [take_succ' e2]
        exact RpAll.mono (KT.updl g1) (RTs.snoc g2 (p2.mono (Same.kt g3)))
      · rintro H' ⟨zs, g1, g2, g3⟩
        rw [ul, List.take_length] at g2
        refine ⟨D, zs, rfl, .inl ⟨SqL.of g1, fun l hl => ?_⟩⟩
        exact k l zs _ ((s1.trans g3).trans (same_new hl)) (SqT.of upd_same) (RpAll.mono (Same.kt (same_new hl)) g2)
    | least ts =>
      obtain ⟨a, b, us, rfl, ha, hb, hu⟩ := t_least rt
      refine ⟨_, rfl, _, _, _, _, rfl, rfl, ha, rfl, _, rfl, (by show 2 ≤ sizeLine; decide), fun q hq => ⟨q, _, rfl, .inr (SqT.of upd_same), rfl, rfl, _, rfl, ?_⟩⟩
      refine ite2 (fun c => absurd c (by decide +kernel)) (fun _ => ?_)
      have s1 := Same.kt (same_new (o := .tup [.str "bid", .str "fixed"]) hq)
      refine ⟨_, rfl, rfl, _, rfl, ite2 (fun c => absurd c (by decide +kernel)) (fun _ => ?_)⟩
      refine ⟨_, rfl, rfl, _, rfl, ite2 (fun c => absurd c (by decide +kernel)) (fun _ => ?_)⟩
      exact ⟨_, rfl, _, rfl, _, _, _, _, rfl, rfl, s1.sq ha, rfl, k b us _ (same_new hq) (s1.sq hb) (RpAll.mono s1 hu)⟩
    | greatest ts =>
      obtain ⟨a, b, us, rfl, ha, hb, hu⟩ := t_greatest rt
      refine ⟨_, rfl, _, _, _, _, rfl, rfl, ha, rfl, _, rfl, (by show 2 ≤ sizeLine; decide), fun q hq => ⟨q, _, rfl, .inr (SqT.of upd_same), rfl, rfl, _, rfl, ?_⟩⟩
      refine ite2 (fun c => absurd c (by decide +kernel)) (fun _ => ?_)
      have s1 := Same.kt (same_new (o := .tup [.str "bid", .str "fixed"]) hq)
      refine ⟨_, rfl, rfl, _, rfl, ite2 (fun c => absurd c (by decide +kernel)) (fun _ => ?_)⟩
      refine ⟨_, rfl, rfl, _, rfl, ite2 (fun c => absurd c (by decide +kernel)) (fun _ => ?_)⟩
      exact ⟨_, rfl, _, rfl, _, _, _, _, rfl, rfl, s1.sq ha, rfl, k b us _ (same_new hq) (s1.sq hb) (RpAll.mono s1 hu)⟩
    | ranked r ts =>
      obtain ⟨a, b, us, rfl, ha, hb, hu⟩ := t_ranked rt
      refine ⟨_, rfl, _, _, _, _, rfl, rfl, ha, rfl, _, rfl, (by show 2 ≤ sizeLine; decide), fun q hq => ⟨q, _, rfl, .inr (SqT.of upd_same), rfl, rfl, _, rfl, ?_⟩⟩
      refine ite2 (fun c => absurd c (by decide +kernel)) (fun _ => ?_)
      have s1 := Same.kt (same_new (o := .tup [.str "bid", .str "fixed"]) hq)
      refine ⟨_, rfl, rfl, _, rfl, ite2 (fun c => absurd c (by decide +kernel)) (fun _ => ?_)⟩
      refine ⟨_, rfl, rfl, _, rfl, ite2 (fun c => absurd c (by decide +kernel)) (fun _ => ?_)⟩
      exact ⟨_, rfl, _, rfl, _, _, _, _, rfl, rfl, s1.sq ha, rfl, k b us _ (same_new hq) (s1.sq hb) (RpAll.mono s1 hu)⟩
    | between lo hi t =>
      obtain ⟨a, x, y, z, rfl, ha, _, _, hz⟩ := t_between rt
      refine ⟨_, rfl, _, _, _, _, rfl, rfl, ha, rfl, _, rfl, (by show 2 ≤ sizeLine; decide), fun q hq => ⟨q, _, rfl, .inr (SqT.of upd_same), rfl, rfl, _, rfl, ?_⟩⟩
      refine ite2 (fun c => absurd c (by decide +kernel)) (fun _ => ?_)
      have s0 := same_new (o := .tup [.str "bid", .str "fixed"]) hq
      have s1 := Same.kt s0
      refine ⟨_, rfl, rfl, _, rfl, ite2 (fun c => absurd c (by decide +kernel)) (fun _ => ?_)⟩
      refine ⟨_, rfl, rfl, _, rfl, ite2 (fun _ => ?_) (fun c => absurd (by decide +kernel) c)⟩
      refine ⟨_, rfl, _, _, _, _, rfl, rfl, s1.sq ha, rfl, (by show 1 ≤ sizeLine; decide), fun l hl => k l [z] _ (s0.trans (same_new hl)) (SqT.of upd_same) ?_⟩
      exact .cons ((hz.mono s1).mono (Same.kt (same_new hl))) .nil
end
end CB

set_option Elab.async false
set_option linter.all false
set_option maxRecDepth 100000
set_option maxHeartbeats 4000000
namespace CB
open PySem PySem.Spec PyProof.Rows L2
open C8 (Cal Met Mak pe_c pe_mk pe_mt pe_mt0 pe_gc CalAt)
section
variable {P : Program} {w : World} {K : PySem.W.Frag} {mg : Str → Option Value} {base : Heap}
abbrev n_is_formed : List Str := ["thing", "people", "word", "part"]
theorem sc_is_formed : FnScope ["thing", "people", "word", "part"] ["thing", "people"] (defScope s_is_formed) := ⟨rfl, rfl, rfl, by decide +kernel, rfl, by decide +kernel, by decide +kernel⟩
def sp_is_formed (K : PySem.W.Frag) : Sp := fun vs H Q _ => ∃ (v : V) (n s : Nat) (t : Tm), vs = [v, .int (n : Int)] ∧ Rp K H v t.data ∧ t.Ok n s ∧ s ≤ 9000 ∧ ∀ H', Same H H' → Q (.bl true) H'
theorem ok_is_formed (F : FnD K mg "is_formed" s_is_formed) (c_is_integer : Cal P w K mg base 1 "is_integer" sp_is_integer []) (c_is_number : Cal P w K mg base 2 "is_number" (sp_is_number K) []) (c_is_person : Cal P w K mg base 2 "is_person" sp_is_person []) (c_is_weighted : Cal P w K mg base 3 "is_weighted" (sp_is_weighted K) [])
    (c_are_some : Cal P w K mg base 1 "are_some" (sp_are_some K) []) (c_are_bounds : Cal P w K mg base 3 "are_bounds" (sp_are_bounds K) []) (T_isinstance : mg "isinstance" = none) (T_tuple : mg "tuple" = none) (T_str : mg "str" = none) (T_len : mg "len" = none) (T_all : mg "all" = none) : Cal P w K mg base 4 "is_formed" (sp_is_formed K) [] := by
  refine calOf F sc_is_formed (fun _ _ _ _ _ _ us hl => match us, hl with | [_, _], _ => rfl) (fun vs H Q E h => ?_) (fun cdv f A outer s H vs Q E hr h => ?_)
  · obtain ⟨_, _, _, _, rfl, _⟩ := h
    rfl
  · obtain ⟨v, n, sz, t, rfl, rt, hok, hs, k⟩ := h
    refine ⟨_, (pss_cons (ps_if (pt_not (PW.pt (pw_and (pt_val (pe_callB call_isi (by rfl) T_isinstance (by decide +kernel) (pa_cons (pv 0) (pa_cons (pe_ty (n := "tuple") (by rfl) T_tuple (by decide +kernel)) pa_nil)))) (pw_and (pt_cmpR op_ge (pe_callB call_len_seq (by rfl) T_len PySem.boot_len (pa_cons (pv 0) pa_nil)) pe_int (nomark _)) (pw_and1 (pt_val (pe_callB call_isi (by rfl) T_isinstance (by decide +kernel) (pa_cons (pe_ix ix_tup (pv 0) pe_int (fun _ _ => rfl)) (pa_cons (pe_ty (n := "str") (by rfl) T_str (by decide +kernel)) pa_nil))))))))) (pss_one (ps_ret pe_bl)) pss_nil)
    (pss_cons (ps_set (i := 2) sc_is_formed.nd rfl (Or.inl rfl) (pe_ix ix_tup (pv 0) pe_int (fun _ _ => rfl)))
    (pss_cons (ps_if (pt_cmpR op_eq (pv 2) pe_str (nomark _)) (pss_one (ps_ret (pe_and (pe_cmpR op_eq (pe_callB call_len_seq (by rfl) T_len PySem.boot_len (pa_cons (pv 0) pa_nil)) pe_int (nomark _)) (pe_and (pe_c c_are_some hr (by first | decide | omega) rfl (pa_cons (pe_ix ix_tup (pv 0) pe_int (fun _ _ => rfl)) pa_nil)) (pe_and (pe_c c_is_integer hr (by first | decide | omega) rfl (pa_cons (pe_ix ix_tup (pv 0) pe_int (fun _ _ => rfl)) pa_nil)) (pe_one (pe_chain op_le op_le pe_int (pe_ix ix_tup (pv 0) pe_int (fun _ _ => rfl)) (pe_callB call_len_seq (by rfl) T_len PySem.boot_len (pa_cons (pe_ix ix_tup (pv 0) pe_int (fun _ _ => rfl)) pa_nil))))))))) pss_nil)
    (pss_cons (ps_if (pt_cmpR op_eq (pv 2) pe_str (nomark _)) (pss_one (ps_ret (pe_and (pe_cmpR op_eq (pe_callB call_len_seq (by rfl) T_len PySem.boot_len (pa_cons (pv 0) pa_nil)) pe_int (nomark _)) (pe_one (pe_c c_are_bounds hr (by first | decide | omega) rfl (pa_cons (pe_ix ix_tup (pv 0) pe_int (fun _ _ => rfl)) (pa_cons (pe_ix ix_tup (pv 0) pe_int (fun _ _ => rfl)) pa_nil))))))) pss_nil)
    (pss_cons (ps_if (pt_cmpR op_gt (pe_callB call_len_seq (by rfl) T_len PySem.boot_len (pa_cons (pv 0) pa_nil)) pe_int (nomark _)) (pss_one (ps_ret pe_bl)) pss_nil)
    (pss_cons (ps_if (pt_cmpR op_eq (pv 2) pe_str (nomark _)) (pss_one (ps_ret (pe_c c_is_person hr (by first | decide | omega) rfl (pa_cons (pe_ix ix_tup (pv 0) pe_int (fun _ _ => rfl)) (pa_cons (pv 1) pa_nil))))) pss_nil)
    (pss_cons (ps_if (pt_cmpR op_eq (pv 2) pe_str (nomark _)) (pss_one (ps_ret (pe_c c_is_number hr (by first | decide | omega) rfl (pa_cons (pe_ix ix_tup (pv 0) pe_int (fun _ _ => rfl)) pa_nil)))) pss_nil)
    (pss_cons (ps_if (pt_cmpR op_eq (pv 2) pe_str (nomark _)) (pss_one (ps_ret (pe_and (pe_c c_are_some hr (by first | decide | omega) rfl (pa_cons (pe_ix ix_tup (pv 0) pe_int (fun _ _ => rfl)) pa_nil)) (pe_one (pe_callB (cr_all rfl) (by rfl) T_all (by decide +kernel) (pa_cons (pe_lc (own := [("part", 3)]) (by rfl) sc_is_formed.nd (pi_tup (pe_ix ix_tup (pv 0) pe_int (fun _ _ => rfl))) (blkOk_by (own := [("part", 3)]) (N := ["thing", "people", "word", "part"]) (sc := defScope s_is_formed) (by decide +kernel)) (fun _ _ _ _ _ => (pg_name (i := 3) sc_is_formed.nd rfl (Or.inl rfl))) (fun _ _ _ _ _ => pts_nil) (fun _ _ _ _ _ => (pe_c c_is_weighted hr (by first | decide | omega) rfl (pa_cons (pv 3) pa_nil)))) pa_nil)))))) pss_nil)
    (pss_one (ps_ret (pe_and (pe_cmpR op_in_seq (pv 2) (pe_tup (pa_cons pe_str (pa_cons pe_str pa_nil))) rfl) (pe_one (pe_c c_are_some hr (by first | decide | omega) rfl (pa_cons (pe_ix ix_tup (pv 0) pe_int (fun _ _ => rfl)) pa_nil)))))))))))))), ?_⟩
    cases t with
    | bid p =>
      obtain ⟨a, rfl, ha⟩ := t_bid rt
      refine ⟨_, rfl, _, _, _, _, true, rfl, .ty _, tyT ha, kit_ty (by decide +kernel), _, rfl, _, rfl, a, _, rfl, .inr ha, _, _, rfl, rfl, _, rfl, ite2 (fun _ => ?_) (fun c => absurd rfl c)⟩
      refine ⟨_, rfl, _, _, _, _, rfl, rfl, ha, rfl, _, _, _, _, true, rfl, .ty _, .base (.str _), kit_ty (by decide +kernel), _, rfl, _, rfl, _, _, _, _, rfl, rfl, ha, rfl, ?_⟩
      refine ⟨_, rfl, rfl, _, rfl, ite2 (fun c => absurd c (by decide +kernel)) (fun _ => ?_)⟩
      refine ⟨_, rfl, rfl, _, rfl, ite2 (fun c => absurd c (by decide +kernel)) (fun _ => ?_)⟩
      refine ⟨_, rfl, a, _, rfl, .inr ha, _, _, rfl, rfl, _, rfl, ite2 (fun c => nomatch (show false = true from c)) (fun _ => ?_)⟩
      refine ⟨_, rfl, rfl, _, rfl, ite2 (fun _ => ?_) (fun c => absurd (by decide +kernel) c)⟩
      exact ⟨_, rfl, _, _, _, _, rfl, rfl, ha, rfl, _, rfl, _, _, rfl, by omega, (by have : p < n := hok; omega), k _ (Same.refl _)⟩
    | fixed q =>
      obtain ⟨a, x, rfl, ha, hx⟩ := t_fixed rt
      have hn : NumOk sz q := hok
      refine ⟨_, rfl, _, _, _, _, true, rfl, .ty _, tyT ha, kit_ty (by decide +kernel), _, rfl, _, rfl, a, _, rfl, .inr ha, _, _, rfl, rfl, _, rfl, ite2 (fun _ => ?_) (fun c => absurd rfl c)⟩
      refine ⟨_, rfl, _, _, _, _, rfl, rfl, ha, rfl, _, _, _, _, true, rfl, .ty _, .base (.str _), kit_ty (by decide +kernel), _, rfl, _, rfl, _, _, _, _, rfl, rfl, ha, rfl, ?_⟩
      refine ⟨_, rfl, rfl, _, rfl, ite2 (fun c => absurd c (by decide +kernel)) (fun _ => ?_)⟩
      refine ⟨_, rfl, rfl, _, rfl, ite2 (fun c => absurd c (by decide +kernel)) (fun _ => ?_)⟩
      refine ⟨_, rfl, a, _, rfl, .inr ha, _, _, rfl, rfl, _, rfl, ite2 (fun c => nomatch (show false = true from c)) (fun _ => ?_)⟩
      refine ⟨_, rfl, rfl, _, rfl, ite2 (fun c => absurd c (by decide +kernel)) (fun _ => ?_)⟩
      refine ⟨_, rfl, rfl, _, rfl, ite2 (fun _ => ?_) (fun c => absurd (by decide +kernel) c)⟩
      exact ⟨_, rfl, _, _, _, _, rfl, rfl, ha, rfl, _, q, rfl, hx, hn.1, hn.2.1, k _ (Same.refl _)⟩
    | mean ws ts =>
      obtain ⟨a, b, us, rfl, ha, hb, hu⟩ := t_mean rt
      obtain ⟨wl, tne, tl, hw, ho⟩ := hok
      have ul : us.length = ts.length := by rw [hu.length, meanD_length _ _ (by rw [datas_map, List.length_map]; exact wl), datas_map, List.length_map]
      refine ⟨_, rfl, _, _, _, _, true, rfl, .ty _, tyT ha, kit_ty (by decide +kernel), _, rfl, _, rfl, a, _, rfl, .inr ha, _, _, rfl, rfl, _, rfl, ite2 (fun _ => ?_) (fun c => absurd rfl c)⟩
      refine ⟨_, rfl, _, _, _, _, rfl, rfl, ha, rfl, _, _, _, _, true, rfl, .ty _, .base (.str _), kit_ty (by decide +kernel), _, rfl, _, rfl, _, _, _, _, rfl, rfl, ha, rfl, ?_⟩
      refine ⟨_, rfl, rfl, _, rfl, ite2 (fun c => absurd c (by decide +kernel)) (fun _ => ?_)⟩
      refine ⟨_, rfl, rfl, _, rfl, ite2 (fun c => absurd c (by decide +kernel)) (fun _ => ?_)⟩
      refine ⟨_, rfl, a, _, rfl, .inr ha, _, _, rfl, rfl, _, rfl, ite2 (fun c => nomatch (show false = true from c)) (fun _ => ?_)⟩
      refine ⟨_, rfl, rfl, _, rfl, ite2 (fun c => absurd c (by decide +kernel)) (fun _ => ?_)⟩
      refine ⟨_, rfl, rfl, _, rfl, ite2 (fun c => absurd c (by decide +kernel)) (fun _ => ?_)⟩
      refine ⟨_, rfl, rfl, _, rfl, ite2 (fun _ => ?_) (fun c => absurd (by decide +kernel) c)⟩
      refine ⟨_, rfl, _, _, _, _, rfl, rfl, ha, rfl, b, us, rfl, hb, by have := List.length_pos_iff.mpr tne; omega, by omega, _, rfl, ?_⟩
      refine ⟨_, rfl, _, _, _, _, rfl, rfl, ha, rfl, b, rfl, ⟨_, hb⟩, fun D hD => ?_⟩
      refine it_tup (K := K) (a := b) (xs := us) (fun i H' => ∃ zs : List Bool, H' D = some (.lst (zs.map V.bl)) ∧ zs.length = i ∧ (∀ z ∈ zs, z = true) ∧ Same H H')
        ⟨[], upd_same, rfl, by simp, same_new hD⟩ (fun i H' ⟨_, _, _, _, s5⟩ => (Same.kt s5).sq hb) ?_ ?_
      · rintro i x H' hx ⟨zs, g1, g2, g3, g4⟩
        obtain ⟨c, z, t, y, rfl, e1, e2, p1, p2⟩ := mean_part hu hx
        have hz := hw z (List.mem_of_getElem? e1)
        have hi := (List.getElem?_eq_some_iff.mp hx).1
        refine ⟨rfl, _, rfl, c, z, y, rfl, (Same.kt g4).sq p1, hz.1, hz.2, _, g1, by rw [List.length_map, g2]; exact small1000 (by omega), zs ++ [true], by rw [List.map_append]; exact upd_same, by simp [g2], ?_, Same.mut g4 hD⟩
        intro q hq
        rcases List.mem_append.mp hq with h | h
        · exact g3 q h
        · exact List.mem_singleton.mp h
      · rintro H' ⟨zs, g1, g2, g3, g4⟩
        refine ⟨D, zs, rfl, SqL.of g1, ?_⟩
        have ea : zs.all id = true := List.all_eq_true.mpr g3
        rw [ea]
        exact k _ g4
    | least ts =>
      obtain ⟨a, b, us, rfl, ha, hb, hu⟩ := t_least rt
      have hok : ts ≠ [] ∧ ts.length ≤ 8 ∧ Tm.Oks n sz ts := hok
      have hu : RTs K H us ts := hu
      refine ⟨_, rfl, _, _, _, _, true, rfl, .ty _, tyT ha, kit_ty (by decide +kernel), _, rfl, _, rfl, a, _, rfl, .inr ha, _, _, rfl, rfl, _, rfl, ite2 (fun _ => ?_) (fun c => absurd rfl c)⟩
      refine ⟨_, rfl, _, _, _, _, rfl, rfl, ha, rfl, _, _, _, _, true, rfl, .ty _, .base (.str _), kit_ty (by decide +kernel), _, rfl, _, rfl, _, _, _, _, rfl, rfl, ha, rfl, ?_⟩
      refine ⟨_, rfl, rfl, _, rfl, ite2 (fun c => absurd c (by decide +kernel)) (fun _ => ?_)⟩
      refine ⟨_, rfl, rfl, _, rfl, ite2 (fun c => absurd c (by decide +kernel)) (fun _ => ?_)⟩
      refine ⟨_, rfl, a, _, rfl, .inr ha, _, _, rfl, rfl, _, rfl, ite2 (fun c => nomatch (show false = true from c)) (fun _ => ?_)⟩
      refine ⟨_, rfl, rfl, _, rfl, ite2 (fun c => absurd c (by decide +kernel)) (fun _ => ?_)⟩
      refine ⟨_, rfl, rfl, _, rfl, ite2 (fun c => absurd c (by decide +kernel)) (fun _ => ?_)⟩
      refine ⟨_, rfl, rfl, _, rfl, ite2 (fun c => absurd c (by decide +kernel)) (fun _ => ?_)⟩
      refine ⟨_, rfl, (by show 2 ≤ sizeLine; decide), fun q hq => ⟨q, _, rfl, .inr (SqT.of upd_same), rfl, rfl, _, rfl, ite2 (fun _ => ?_) (fun c => absurd (by decide +kernel) c)⟩⟩
      have s1 := Same.kt (same_new (o := .tup [.str "least", .str "greatest"]) hq)
      have ul : us.length = ts.length := hu.length
      exact ⟨_, rfl, _, _, _, _, rfl, rfl, s1.sq ha, rfl, b, us, rfl, s1.sq hb, by have := List.length_pos_iff.mpr hok.1; omega, by have := hok.2.1; omega, k _ (same_new hq)⟩
    | greatest ts =>
      obtain ⟨a, b, us, rfl, ha, hb, hu⟩ := t_greatest rt
      have hok : ts ≠ [] ∧ ts.length ≤ 8 ∧ Tm.Oks n sz ts := hok
      have hu : RTs K H us ts := hu
      refine ⟨_, rfl, _, _, _, _, true, rfl, .ty _, tyT ha, kit_ty (by decide +kernel), _, rfl, _, rfl, a, _, rfl, .inr ha, _, _, rfl, rfl, _, rfl, ite2 (fun _ => ?_) (fun c => absurd rfl c)⟩
      refine ⟨_, rfl, _, _, _, _, rfl, rfl, ha, rfl, _, _, _, _, true, rfl, .ty _, .base (.str _), kit_ty (by decide +kernel), _, rfl, _, rfl, _, _, _, _, rfl, rfl, ha, rfl, ?_⟩
      refine ⟨_, rfl, rfl, _, rfl, ite2 (fun c => absurd c (by decide +kernel)) (fun _ => ?_)⟩
      refine ⟨_, rfl, rfl, _, rfl, ite2 (fun c => absurd c (by decide +kernel)) (fun _ => ?_)⟩
      refine ⟨_, rfl, a, _, rfl, .inr ha, _, _, rfl, rfl, _, rfl, ite2 (fun c => nomatch (show false = true from c)) (fun _ => ?_)⟩
      refine ⟨_, rfl, rfl, _, rfl, ite2 (fun c => absurd c (by decide +kernel)) (fun _ => ?_)⟩
      refine ⟨_, rfl, rfl, _, rfl, ite2 (fun c => absurd c (by decide +kernel)) (fun _ => ?_)⟩
      refine ⟨_, rfl, rfl, _, rfl, ite2 (fun c => absurd c (by decide +kernel)) (fun _ => ?_)⟩
      refine ⟨_, rfl, (by show 2 ≤ sizeLine; decide), fun q hq => ⟨q, _, rfl, .inr (SqT.of upd_same), rfl, rfl, _, rfl, ite2 (fun _ => ?_) (fun c => absurd (by decide +kernel) c)⟩⟩
      have s1 := Same.kt (same_new (o := .tup [.str "least", .str "greatest"]) hq)
      have ul : us.length = ts.length := hu.length
      exact ⟨_, rfl, _, _, _, _, rfl, rfl, s1.sq ha, rfl, b, us, rfl, s1.sq hb, by have := List.length_pos_iff.mpr hok.1; omega, by have := hok.2.1; omega, k _ (same_new hq)⟩
    | ranked r ts =>
      obtain ⟨a, b, us, rfl, ha, hb, hu⟩ := t_ranked rt
      obtain ⟨r1, r2, tl, ho⟩ := hok
      have ul : us.length = ts.length := RTs.length hu
      refine ⟨_, rfl, _, _, _, _, true, rfl, .ty _, tyT ha, kit_ty (by decide +kernel), _, rfl, _, rfl, a, _, rfl, .inr ha, _, _, rfl, rfl, _, rfl, ite2 (fun _ => ?_) (fun c => absurd rfl c)⟩
      refine ⟨_, rfl, _, _, _, _, rfl, rfl, ha, rfl, _, _, _, _, true, rfl, .ty _, .base (.str _), kit_ty (by decide +kernel), _, rfl, _, rfl, _, _, _, _, rfl, rfl, ha, rfl, ?_⟩
      refine ⟨_, rfl, rfl, _, rfl, ite2 (fun _ => ?_) (fun c => absurd (by decide +kernel) c)⟩
      refine ⟨_, rfl, a, _, rfl, .inr ha, rfl, _, rfl, ite2 (fun _ => ?_) (fun c => absurd rfl c)⟩
      refine ⟨_, rfl, _, _, _, _, rfl, rfl, ha, rfl, b, us, rfl, hb, by omega, by omega, _, rfl, ?_⟩
      refine ⟨_, rfl, _, _, _, _, rfl, rfl, ha, rfl, _, rfl, _, rfl, ?_⟩
      refine ⟨_, rfl, _, _, _, _, rfl, rfl, ha, rfl, _, _, rfl, rfl, _, rfl, ite2 (fun _ => ?_) (fun c => absurd (decide_eq_true (show (1 : Int) ≤ (r : Int) by omega)) c)⟩
      refine ⟨_, rfl, _, _, _, _, rfl, rfl, ha, rfl, b, us, rfl, .inr hb, _, _, rfl, rfl, ?_⟩
      show Q (V.bl (decide ((r : Int) ≤ (us.length : Int)))) H
      rw [decide_eq_true (show (r : Int) ≤ (us.length : Int) by omega)]
      exact k _ (Same.refl _)
    | between lo hi t =>
      obtain ⟨a, x, y, z, rfl, ha, hx, hy, hz⟩ := t_between rt
      obtain ⟨n1, n2, hl, ho⟩ := hok
      refine ⟨_, rfl, _, _, _, _, true, rfl, .ty _, tyT ha, kit_ty (by decide +kernel), _, rfl, _, rfl, a, _, rfl, .inr ha, _, _, rfl, rfl, _, rfl, ite2 (fun _ => ?_) (fun c => absurd rfl c)⟩
      refine ⟨_, rfl, _, _, _, _, rfl, rfl, ha, rfl, _, _, _, _, true, rfl, .ty _, .base (.str _), kit_ty (by decide +kernel), _, rfl, _, rfl, _, _, _, _, rfl, rfl, ha, rfl, ?_⟩
      refine ⟨_, rfl, rfl, _, rfl, ite2 (fun c => absurd c (by decide +kernel)) (fun _ => ?_)⟩
      refine ⟨_, rfl, rfl, _, rfl, ite2 (fun _ => ?_) (fun c => absurd (by decide +kernel) c)⟩
      refine ⟨_, rfl, a, _, rfl, .inr ha, rfl, _, rfl, ite2 (fun _ => ?_) (fun c => absurd rfl c)⟩
      exact ⟨_, rfl, _, _, _, _, rfl, rfl, ha, rfl, _, rfl, _, _, _, _, rfl, rfl, ha, rfl, _, _, lo, hi, sz, rfl, hx, hy, n1, n2, hl, hs, k _ (Same.refl _)⟩
end
end CB

set_option Elab.async false
set_option linter.all false
set_option maxRecDepth 100000
set_option maxHeartbeats 4000000
namespace CB
open PySem PySem.Spec PyProof.Rows L2
open C8 (Cal Met Mak pe_c pe_mk pe_mt pe_mt0 pe_gc CalAt)
section
variable {P : Program} {w : World} {K : PySem.W.Frag} {mg : Str → Option Value} {base : Heap}
theorem dep_children (t : Tm) : t.dep = Tm.deps t.children + 1 := by
  cases t <;> simp [Tm.dep, Tm.children, Tm.deps]
theorem cnt_children (t : Tm) : t.cnt = Tm.cnts t.children + 1 := by
  cases t <;> simp [Tm.cnt, Tm.children, Tm.cnts]
theorem ok_children {n s : Nat} {t : Tm} (h : t.Ok n s) : Tm.Oks n s t.children := by
  cases t with
  | bid p => trivial
  | fixed q => trivial
  | mean ws ts => exact h.2.2.2.2
  | least ts => exact h.2.2
  | greatest ts => exact h.2.2
  | ranked k ts => exact h.2.2.2
  | between lo hi t => exact ⟨h.2.2.2, trivial⟩
theorem deps_append : ∀ (a b : List Tm), Tm.deps (a ++ b) = max (Tm.deps a) (Tm.deps b)
  | [], b => by simp [Tm.deps]
  | t :: a, b => by rw [List.cons_append, Tm.deps, Tm.deps, deps_append a b]; omega
theorem cnts_append : ∀ (a b : List Tm), Tm.cnts (a ++ b) = Tm.cnts a + Tm.cnts b
  | [], b => by simp [Tm.cnts]
  | t :: a, b => by rw [List.cons_append, Tm.cnts, Tm.cnts, cnts_append a b]; omega
theorem deps_flat : ∀ {ts : List Tm}, ts ≠ [] → Tm.deps (ts.flatMap Tm.children) + 1 = Tm.deps ts
  | [], h => absurd rfl h
  | [t], _ => by
    rw [List.flatMap_cons, List.flatMap_nil, List.append_nil, Tm.deps, Tm.deps, dep_children t]
    omega
  | t :: u :: ts, _ => by
    have ih := deps_flat (ts := u :: ts) (by simp)
    rw [List.flatMap_cons, deps_append, Tm.deps, dep_children t]
    omega
theorem cnts_flat : ∀ (ts : List Tm), Tm.cnts (ts.flatMap Tm.children) + ts.length = Tm.cnts ts
  | [] => by simp [Tm.cnts]
  | t :: ts => by
    have ih := cnts_flat ts
    rw [List.flatMap_cons, cnts_append, Tm.cnts, cnt_children t, List.length_cons]
    omega
theorem len_cnts : ∀ (ts : List Tm), ts.length ≤ Tm.cnts ts
  | [] => by simp [Tm.cnts]
  | t :: ts => by
    have ih := len_cnts ts
    have := cnt_children t
    rw [Tm.cnts, List.length_cons]
    omega
theorem oks_flat {n s : Nat} {ts : List Tm} (h : Tm.Oks n s ts) : Tm.Oks n s (ts.flatMap Tm.children) := (oks_iff _ _ _).mpr fun t ht => by
  obtain ⟨u, hu, h2⟩ := List.mem_flatMap.mp ht
  exact (oks_iff _ _ _).mp (ok_children ((oks_iff _ _ _).mp h u hu)) t h2
theorem mean_of_ok {n s : Nat} {t : Tm} (h : t.Ok n s) : ∀ ws ts, t = .mean ws ts → ws.length = ts.length ∧ ts.length ≤ 8 := fun ws ts e => by
  subst e
  exact ⟨h.1, h.2.2.1⟩
abbrev n_is_term : List Str := ["thing", "people", "level", "many", "depth", "term", "inner"]
theorem sc_is_term : FnScope ["thing", "people", "level", "many", "depth", "term", "inner"] ["thing", "people"] (defScope s_is_term) := ⟨rfl, rfl, rfl, by decide +kernel, rfl, by decide +kernel, by decide +kernel⟩
def sp_is_term (K : PySem.W.Frag) : Sp := fun vs H Q _ => ∃ (v : V) (n s : Nat) (t : Tm), vs = [v, .int (n : Int)] ∧ Rp K H v t.data ∧ t.Ok n s ∧ s ≤ 9000 ∧ t.dep ≤ 8 ∧ t.cnt ≤ 60 ∧ ∀ H', Same H H' → Q (.bl true) H'
theorem ok_is_term (F : FnD K mg "is_term" s_is_term) (c_is_formed : Cal P w K mg base 4 "is_formed" (sp_is_formed K) []) (c_inner_terms : Cal P w K mg base 1 "inner_terms" (sp_inner_terms K) []) (T_len : mg "len" = none) (T_all : mg "all" = none)
    (g_MOST_DEEP : ∃ u, mg "MOST_DEEP" = some u ∧ RelV (.int 8) u) (g_MOST_TERMS : ∃ u, mg "MOST_TERMS" = some u ∧ RelV (.int 60) u) : Cal P w K mg base 5 "is_term" (sp_is_term K) [] := by
  refine calOf F sc_is_term (fun _ _ _ _ _ _ us hl => match us, hl with | [_, _], _ => rfl) (fun vs H Q E h => ?_) (fun cdv f A outer s H vs Q E hr h => ?_)
  · obtain ⟨_, _, _, _, rfl, _⟩ := h
    rfl
  · obtain ⟨v, n, sz, t, rfl, rt, hok, hs, hdep, hcnt, k⟩ := h
    refine ⟨_, (pss_cons (ps_set (i := 2) sc_is_term.nd rfl (Or.inl rfl) (pe_lst (pa_cons (pv 0) pa_nil)))
    (pss_cons (ps_set (i := 3) sc_is_term.nd rfl (Or.inl rfl) pe_int)
    (pss_cons (ps_set (i := 4) sc_is_term.nd rfl (Or.inl rfl) pe_int)
    (pss_cons (ps_while PassesOwn.never (pt_truth (pv 2) (by intro _; rfl)) (pss_cons (ps_aug (i := 4) sc_is_term.nd rfl (Or.inl rfl) pe_int ip_add)
    (pss_cons (ps_aug (i := 3) sc_is_term.nd rfl (Or.inl rfl) (pe_callB call_len_seq (by rfl) T_len PySem.boot_len (pa_cons (pv 2) pa_nil)) ip_add)
    (pss_cons (ps_if (PW.pt (pw_or (pt_cmpR op_gt (pv 4) (pe_gc rfl g_MOST_DEEP) (nomark _)) (pw_or1 (pt_cmpR op_gt (pv 3) (pe_gc rfl g_MOST_TERMS) (nomark _))))) (pss_one (ps_ret pe_bl)) pss_nil)
    (pss_cons (ps_if (pt_not (pt_val (pe_callB (cr_all rfl) (by rfl) T_all (by decide +kernel) (pa_cons (pe_lc (own := [("term", 5)]) (by rfl) sc_is_term.nd (pi_list (pv 2)) (blkOk_by (own := [("term", 5)]) (N := ["thing", "people", "level", "many", "depth", "term", "inner"]) (sc := defScope s_is_term) (by decide +kernel)) (fun _ _ _ _ _ => (pg_name (i := 5) sc_is_term.nd rfl (Or.inl rfl))) (fun _ _ _ _ _ => pts_nil) (fun _ _ _ _ _ => (pe_c c_is_formed hr (by first | decide | omega) rfl (pa_cons (pv 5) (pa_cons (pv 1) pa_nil))))) pa_nil)))) (pss_one (ps_ret pe_bl)) pss_nil)
    (pss_one (ps_setLc2 (i := 2) (own := [("term", 5), ("inner", 6)]) (wi1 := iTup K (tCall (sp_inner_terms K) [] C8.E0 (tCons (tVar 5) tNil))) (by rfl) sc_is_term.nd rfl rfl (sw_true rfl rfl rfl (by decide +kernel)) (pi_list (pv 2)) (blkOk_by (own := [("term", 5), ("inner", 6)]) (N := ["thing", "people", "level", "many", "depth", "term", "inner"]) (sc := defScope s_is_term) (by decide +kernel)) (vs1 := [6]) (by decide) (fun _ _ _ _ _ => (pg_name (i := 5) sc_is_term.nd rfl (Or.inl rfl))) (fun _ _ _ _ _ => pts_nil) (fun _ _ _ _ _ => (pi_tup (pe_c c_inner_terms hr (by first | decide | omega) rfl (pa_cons (pv 5) pa_nil)))) (fun _ _ _ _ _ => (pg_name (i := 6) sc_is_term.nd rfl (Or.inl rfl))) (fun _ _ _ _ _ => pts_nil) (fun _ _ _ _ _ => (pv 6)))))))))
    (pss_one (ps_ret pe_bl)))))), ?_⟩
    refine ⟨_, rfl, (by show 1 ≤ sizeLine; decide), fun L0 hL0 => ?_⟩
    have s0 := same_new (o := .lst [v]) hL0
    refine ⟨fun m σ H' => ∃ (L : Addr) (us : List V) (ts : List Tm) (many depth : Int), σ = [some v, some (.int (n : Int)), some (.ref L), some (.int many), some (.int depth), none, none] ∧ H' L = some (.lst us) ∧ RTs K H' us ts ∧ Tm.Oks n sz ts ∧ Same H H' ∧
        0 ≤ many ∧ many + (Tm.cnts ts : Int) ≤ 60 ∧ 0 ≤ depth ∧ depth + (Tm.deps ts : Int) ≤ 8 ∧ m = Tm.deps ts,
      ⟨_, L0, [v], [t], 0, 0, rfl, upd_same, .cons (rt.mono (Same.kt s0)) .nil, ⟨hok, trivial⟩, s0, by omega, by simp [Tm.cnts]; omega, by omega, by simp [Tm.deps]; omega, rfl⟩, ?_⟩
    rintro m σ H1 ⟨L, us, ts, many, depth, rfl, hL, hu, ho, s1, m0, m1, d0, d1, rfl⟩
    have ul : us.length = ts.length := RTs.length hu
    refine ⟨_, rfl, _, .inl ⟨us, SqL.of hL, rfl⟩, ?_⟩
    refine ite2 (fun c => ?_) (fun _ => k _ s1)
    have hne : ts ≠ [] := by
      intro e
      subst e
      have : us = [] := List.eq_nil_of_length_eq_zero ul
      subst this
      cases c
    have df := deps_flat hne
    have cf := cnts_flat ts
    have lc := len_cnts ts
    refine ⟨fun σ' H' => ∃ (L : Addr) (us' : List V) (many depth : Int), σ' = [some v, some (.int (n : Int)), some (.ref L), some (.int many), some (.int depth), none, none] ∧ H' L = some (.lst us') ∧ RTs K H' us' (ts.flatMap Tm.children) ∧ Same H H' ∧
        0 ≤ many ∧ many + (Tm.cnts (ts.flatMap Tm.children) : Int) ≤ 60 ∧ 0 ≤ depth ∧ depth + (Tm.deps (ts.flatMap Tm.children) : Int) ≤ 8,
      fun σ' H' ⟨L, us', many, depth, a1, a2, a3, a4, a5, a6, a7, a8⟩ => ⟨_, by omega, L, us', _, many, depth, a1, a2, a3, oks_flat ho, a4, a5, a6, a7, a8, rfl⟩, ?_⟩
    refine ⟨_, rfl, _, _, rfl, rfl, _, rfl, _, rfl, L, us, rfl, .inl (SqL.of hL), _, _, rfl, rfl, ?_⟩
    have lp := List.length_pos_iff.mpr hne
    refine ⟨_, rfl, _, _, rfl, rfl, _, rfl, ite2 (fun c => absurd (of_decide_eq_true c) (show ¬ (8 : Int) < depth + 1 by omega)) (fun _ => ?_)⟩
    refine ⟨_, rfl, _, _, rfl, rfl, _, rfl, ite2 (fun c => absurd (of_decide_eq_true c) (show ¬ (60 : Int) < many + (us.length : Int) by omega)) (fun _ => ?_)⟩
    refine ⟨_, rfl, L, rfl, ⟨_, SqL.of hL⟩, fun D hD => ?_⟩
    have hDL : L ≠ D := ne_of_none hL hD
    refine it_list (K := K) (a := L) (xs := us) (fun i H' => ∃ zs : List Bool, H' D = some (.lst (zs.map V.bl)) ∧ zs.length = i ∧ (∀ z ∈ zs, z = true) ∧ Same H1 H')
      ⟨[], upd_same, rfl, by simp, same_new hD⟩ (fun i H' ⟨_, _, _, _, s5⟩ => s5.seq (SqL.of hL)) ?_ ?_
    · rintro i x H' hx ⟨zs, g1, g2, g3, g4⟩
      obtain ⟨u, hu1, ru⟩ := RTs.getV hu hx
      have hi := (List.getElem?_eq_some_iff.mp hx).1
      refine ⟨rfl, _, rfl, _, rfl, x, n, sz, u, rfl, ru.mono (Same.kt g4), (oks_iff _ _ _).mp ho u (List.mem_of_getElem? hu1), hs, fun H2 s6 => ⟨_, s6 _ _ g1, by rw [List.length_map, g2]; exact small1000 (by omega), zs ++ [true], by rw [List.map_append]; exact upd_same, by simp [g2], ?_, Same.mut (g4.trans s6) hD⟩⟩
      intro q hq
      rcases List.mem_append.mp hq with h | h
      · exact g3 q h
      · exact List.mem_singleton.mp h
    · rintro H2 ⟨zs, g1, g2, g3, s2⟩
      refine ⟨D, zs, rfl, SqL.of g1, ?_⟩
      have ea : zs.all id = true := List.all_eq_true.mpr g3
      rw [ea]
      refine ⟨_, rfl, ?_⟩
      have hL2 := s2 _ _ hL
      have hu2 : RTs K H2 us ts := RpAll.mono (Same.kt s2) hu
      refine ⟨_, rfl, L, rfl, ⟨_, SqL.of hL2⟩, fun D2 hD2 => ?_⟩
      refine it_list (K := K) (a := L) (xs := us) (fun i H' => ∃ zs : List V, H' D2 = some (.lst zs) ∧ RTs K H' zs ((ts.take i).flatMap Tm.children) ∧ Same H2 H')
        ⟨[], upd_same, by simp [RTs, Tm.datas]; exact .nil, same_new hD2⟩ (fun i H' ⟨_, _, _, s5⟩ => s5.seq (SqL.of hL2)) ?_ ?_
      · rintro i x H3 hx ⟨zs, b1, b2, b3⟩
        obtain ⟨u, hu1, ru⟩ := RTs.getV hu2 hx
        have hou := (oks_iff _ _ _).mp ho u (List.mem_of_getElem? hu1)
        refine ⟨rfl, _, rfl, x, u, rfl, ru.mono (Same.kt b3), mean_of_ok hou, fun p ws H4 s4 hp hw => ⟨p, rfl, ⟨_, hp⟩, ?_⟩⟩
        have tk : ts.take (i + 1) = ts.take i ++ [u] := take_succ' hu1
        have fl : (ts.take (i + 1)).flatMap Tm.children = (ts.take i).flatMap Tm.children ++ u.children := by
          rw [tk, List.flatMap_append, List.flatMap_cons, List.flatMap_nil, List.append_nil]
        have small : ((ts.take i).flatMap Tm.children ++ u.children).length ≤ 60 := by
          rw [← fl]
          have h1 := len_cnts ((ts.take (i + 1)).flatMap Tm.children)
          have h2 := cnts_flat (ts.take (i + 1))
          have h3 : Tm.cnts (ts.take (i + 1)) ≤ Tm.cnts ts := by
            have e : Tm.cnts ts = Tm.cnts (ts.take (i + 1)) + Tm.cnts (ts.drop (i + 1)) := by rw [← cnts_append, List.take_append_drop]
            omega
          omega
        rw [List.length_append] at small
        have wl : ws.length = u.children.length := RTs.length hw
        refine it_tup (K := K) (a := p) (xs := ws) (fun j H' => ∃ zs : List V, H' D2 = some (.lst zs) ∧ RTs K H' zs ((ts.take i).flatMap Tm.children ++ u.children.take j) ∧ Same H2 H' ∧ KT H4 H')
          ⟨zs, s4 _ _ b1, by rw [List.take_zero, List.append_nil]; exact RpAll.mono (Same.kt s4) b2, b3.trans s4, KT.refl _⟩ (fun j H' ⟨_, _, _, _, s5⟩ => s5.sq hp) ?_ ?_
        · rintro j y H5 hy ⟨zs, q1, q2, q3, q4⟩
          obtain ⟨c, hc, rc⟩ := RTs.getV hw hy
          have zl : zs.length ≤ 60 := by
            have := RTs.length q2
            rw [this, List.length_append, List.length_take]
            omega
          refine ⟨rfl, _, rfl, zs, q1, small1000 (by omega), zs ++ [y], upd_same, ?_, Same.mut q3 hD2, q4.trans (KT.updl q1)⟩
          rw [take_succ' hc, ← List.append_assoc]
          exact RpAll.mono (KT.updl q1) (RTs.snoc q2 (rc.mono q4))
        · rintro H5 ⟨zs, q1, q2, q3, q4⟩
          rw [wl, List.take_length] at q2
          exact ⟨zs, q1, by rw [fl]; exact q2, q3⟩
      · rintro H3 ⟨zs, b1, b2, b3⟩
        rw [ul, List.take_length] at b2
        exact ⟨D2, zs, many + (us.length : Int), depth + 1, rfl, b1, b2, (s1.trans s2).trans b3, by omega, by omega, by omega, by omega⟩
end
end CB

set_option Elab.async false
set_option linter.all false
set_option maxRecDepth 100000
set_option maxHeartbeats 4000000
namespace CB
open PySem PySem.Spec PyProof.Rows L2
open C8 (Cal Met Mak pe_c pe_mk pe_mt pe_mt0 pe_gc CalAt)
section
variable {P : Program} {w : World} {K : PySem.W.Frag} {mg : Str → Option Value} {base : Heap}
abbrev n_is_people : List Str := ["thing"]
theorem sc_is_people : FnScope ["thing"] ["thing"] (defScope s_is_people) := ⟨rfl, rfl, rfl, by decide +kernel, rfl, by decide +kernel, by decide +kernel⟩
def sp_is_people : Sp := fun vs H Q _ => ∃ p : Int, vs = [.int p] ∧ 1 ≤ p ∧ p ≤ 6 ∧ Q (.bl true) H
theorem ok_is_people (F : FnD K mg "is_people" s_is_people) (c_is_integer : Cal P w K mg base 1 "is_integer" sp_is_integer []) (g_MOST_PEOPLE : ∃ u, mg "MOST_PEOPLE" = some u ∧ RelV (.int 6) u) : Cal P w K mg base 2 "is_people" sp_is_people [] := by
  refine calOf F sc_is_people (fun _ _ _ _ _ _ us hl => match us, hl with | [_], _ => rfl) (fun vs H Q E h => ?_) (fun cdv f A outer s H vs Q E hr h => ?_)
  · obtain ⟨_, rfl, _⟩ := h
    rfl
  · obtain ⟨p, rfl, h0, h1, k⟩ := h
    refine ⟨_, (pss_one (ps_ret (pe_and (pe_c c_is_integer hr (by first | decide | omega) rfl (pa_cons (pv 0) pa_nil)) (pe_one (pe_chain op_le op_le pe_int (pv 0) (pe_gc rfl g_MOST_PEOPLE)))))), ?_⟩
    refine ⟨_, rfl, _, rfl, _, rfl, _, rfl, _, _, rfl, rfl, _, rfl, ite2 (fun _ => ?_) (fun c => absurd (decide_eq_true h0) c)⟩
    refine ⟨_, _, rfl, rfl, ?_⟩
    show Q (V.bl (decide (p ≤ 6))) H
    rw [decide_eq_true h1]
    exact k
abbrev n_Rule___init__ : List Str := ["self", "people", "term"]
theorem sc_Rule___init__ : FnScope ["self", "people", "term"] ["self", "people", "term"] (defScope s_Rule___init__) := ⟨rfl, rfl, rfl, by decide +kernel, rfl, by decide +kernel, by decide +kernel⟩
/-- a rule: an instance with its people and its term -/
def ruleF (n : Nat) (v : V) : List (Str × V) := [(("people" : Str), V.int (n : Int)), (("term" : Str), v)]
theorem ruleF_put (n : Nat) (v : V) : putF "term" v (putF "people" (.int (n : Int)) []) = ruleF n v := by
  show (if ("people" : Str) = "term" then [(("people" : Str), v)] else (("people" : Str), V.int (n : Int)) :: putF "term" v []) = ruleF n v
  rw [if_neg (by decide +kernel)]
  rfl
theorem ruleF_people (n : Nat) (v : V) : (ruleF n v).lookup ("people" : Str) = some (.int (n : Int)) := by
  rw [← ruleF_put, lookup_putF, if_neg (by decide +kernel), lookup_putF, if_pos rfl]
theorem ruleF_term (n : Nat) (v : V) : (ruleF n v).lookup ("term" : Str) = some v := by
  rw [← ruleF_put, lookup_putF, if_pos rfl]
def RuleAt (K : PySem.W.Frag) (C : Addr) (H : Hp) (a : Addr) (n : Nat) (t : Tm) : Prop := ∃ dx v, H a = some (.ins C dx (ruleF n v)) ∧ Rp K H v t.data
def sp_Rule (K : PySem.W.Frag) (C : Addr) : Sp := fun vs H Q _ => ∃ (p dx : Addr) (v : V) (n s : Nat) (t : Tm), vs = [.ref p, .int (n : Int), v] ∧ H p = some (.ins C dx []) ∧ Rp K H v t.data ∧ t.Ok n s ∧ s ≤ 9000 ∧ t.dep ≤ 8 ∧ t.cnt ≤ 60 ∧ 1 ≤ n ∧ n ≤ 6 ∧
  ∀ H', (∀ b o, b ≠ p → H b = some o → H' b = some o) → H' p = some (.ins C dx (ruleF n v)) → Q .non H'
theorem ok_Rule {C : Addr} (F : MkD K mg "Rule" C "Rule.__init__" s_Rule___init__) (hc : Cls K C) (n1 : NoAttr K C "people") (n2 : NoAttr K C "term") (c_is_people : Cal P w K mg base 2 "is_people" sp_is_people []) (c_is_term : Cal P w K mg base 5 "is_term" (sp_is_term K) []) : Mak P w K mg base 6 "Rule" C (sp_Rule K C) [] := by
  refine makOf F sc_Rule___init__ (fun _ _ _ _ _ _ us hl => match us, hl with | [_, _, _], _ => rfl) (fun vs H Q E h => ?_) (fun cdv f A outer s H vs Q E hr h => ?_)
  · obtain ⟨_, _, _, _, _, _, rfl, _⟩ := h
    rfl
  · obtain ⟨p, dx, v, n, sz, t, rfl, hp, rt, ho, hs, hd, hcn, hn1, hn6, k⟩ := h
    refine ⟨_, (pss_cons (ps_if (pt_not (pt_val (pe_c c_is_people hr (by first | decide | omega) rfl (pa_cons (pv 1) pa_nil)))) (pss_one ps_never) pss_nil)
    (pss_cons (ps_if (pt_not (pt_val (pe_c c_is_term hr (by first | decide | omega) rfl (pa_cons (pv 2) (pa_cons (pv 1) pa_nil))))) (pss_one ps_never) pss_nil)
    (pss_cons (ps_fld (pv 0) (pv 1) rfl)
    (pss_one (ps_fld (pv 0) (pv 2) rfl))))), ?_⟩
    refine ⟨_, rfl, (n : Int), rfl, by omega, by omega, _, rfl, _, rfl, _, rfl, v, n, sz, t, rfl, rt, ho, hs, hd, hcn, fun H1 s1 => ⟨_, rfl, ?_⟩⟩
    refine ⟨_, rfl, _, rfl, p, C, dx, _, rfl, s1 _ _ hp, hc, n1, (by show 0 < 1000; decide), _, rfl, _, rfl, p, C, dx, _, rfl, upd_same, hc, n2, (by show 1 < 1000; decide), ?_⟩
    refine k _ (fun b o hb e => ?_) ?_
    · rw [upd_ne hb, upd_ne hb]
      exact s1 _ _ e
    · rw [upd_same, ruleF_put]
/-! ### the ways of numbers -/
def sp_fixed (C : Addr) : Sp := fun vs H Q _ => ∃ (a : Addr) (v : V), vs = [.ref a, v] ∧ Q v H
def sp_self (sp : Sp) : Sp := fun vs H Q E => ∃ (a : Addr) (us : List V), vs = .ref a :: us ∧ us.length = 2 ∧ sp us H Q E
/-! ### the least, the greatest, the k-th -/
theorem cut1 {v : V} {vs : List V} : cutV (v :: vs) (some 1) none = vs := by
  unfold cutV
  show ((v :: vs).drop (HT.sIx (v :: vs).length 0 (some ((1 : Nat) : Int)))).take ((v :: vs).length - HT.sIx (v :: vs).length 0 (some ((1 : Nat) : Int))) = vs
  rw [HT.sIx_nat, List.length_cons, Nat.min_eq_left (by omega)]
  show vs.take (vs.length + 1 - 1) = vs
  rw [Nat.add_sub_cancel, List.take_length]
def sp_pick (K : PySem.W.Frag) (C : Addr) (pick : List Rat → Rat) : Sp := fun vs H Q _ => ∃ (a b dx : Addr) (us : List V) (qs : List Rat), vs = [.ref a, .ref b] ∧ SqL K H a us ∧ H b = some (.ins C dx []) ∧ RQ K H us qs ∧ qs ≠ [] ∧ (∀ q ∈ qs, Sz 9000 q) ∧
  ∀ v H', Same H H' → RF K H' v (pick qs) → Q v H'
theorem sz_rmin {k : Nat} {a b : Rat} (h1 : Sz k a) (h2 : Sz k b) : Sz k (rmin a b) := by unfold rmin; split <;> assumption
theorem sz_rmax {k : Nat} {a b : Rat} (h1 : Sz k a) (h2 : Sz k b) : Sz k (rmax a b) := by unfold rmax; split <;> assumption
theorem bub_snoc (x : Rat) : ∀ (l : List Rat) (t : Rat), bub t (l ++ [x]) = ((bub t l).1 ++ [rmin (bub t l).2 x], rmax (bub t l).2 x)
  | [], t => rfl
  | y :: l, t => by
    have ih := bub_snoc x l (rmax t y)
    show (rmin t y :: (bub (rmax t y) (l ++ [x])).1, (bub (rmax t y) (l ++ [x])).2) = _
    rw [ih]
    rfl
def itB : Nat → List Rat → List Rat
  | 0, l => l
  | i + 1, l => bubL (itB i l)
theorem itB_in : ∀ (i : Nat) (l : List Rat), itB i (bubL l) = bubL (itB i l)
  | 0, l => rfl
  | i + 1, l => by show bubL (itB i (bubL l)) = bubL (bubL (itB i l)); rw [itB_in i l]
theorem kthG_itB : ∀ (k : Nat) (l : List Rat), kthG k l = maxL (itB k l)
  | 0, l => rfl
  | k + 1, l => by show kthG k (bubL l) = maxL (bubL (itB k l)); rw [kthG_itB k, itB_in]
theorem itB_length : ∀ (i : Nat) (l : List Rat), (itB i l).length = l.length - i
  | 0, l => rfl
  | i + 1, l => by show (bubL (itB i l)).length = _; rw [bubL_length, itB_length i l]; omega
theorem bubL_mem {l : List Rat} {x : Rat} (h : x ∈ bubL l) : x ∈ l := by
  cases l with
  | nil => cases h
  | cons y l => exact (bub_perm l y).mem_iff.mp (List.mem_append_left _ h)
theorem itB_mem : ∀ (i : Nat) {l : List Rat} {x : Rat}, x ∈ itB i l → x ∈ l
  | 0, _, _, h => h
  | i + 1, _, _, h => itB_mem i (bubL_mem h)
def sp_kth (K : PySem.W.Frag) (C : Addr) : Sp := fun vs H Q _ => ∃ (a b dx : Addr) (us : List V) (qs : List Rat) (k : Nat), vs = [.int ((k : Int) + 1), .ref a, .ref b] ∧ SqL K H a us ∧ H b = some (.ins C dx []) ∧ RQ K H us qs ∧ k < qs.length ∧ qs.length ≤ 8 ∧ (∀ q ∈ qs, Sz 9000 q) ∧
  ∀ v H', Same H H' → RF K H' v (kthG k qs) → Q v H'
end
end CB

set_option Elab.async false
set_option linter.all false
set_option maxRecDepth 100000
set_option maxHeartbeats 4000000
namespace CB
open PySem PySem.Spec PyProof.Rows L2
open C8 (Cal Met Mak pe_c pe_mk pe_mt pe_mt0 pe_gc CalAt)
section
variable {P : Program} {w : World} {K : PySem.W.Frag} {mg : Str → Option Value} {base : Heap}
/-! ### the sizes of values -/
/-- the parts of a mean of terms -/
def mparts (s : Nat) (bs : List Rat) (ws : List Int) (ts : List Tm) : List MPart := List.zipWith (fun w t => (w, t.val bs, t.wt s)) ws ts
theorem mparts_ws (s : Nat) (bs : List Rat) : ∀ {ws : List Int} {ts : List Tm}, ws.length = ts.length → (mparts s bs ws ts).map (fun x => x.1) = ws
  | [], [], _ => rfl
  | w :: ws, t :: ts, h => by
    have ih := mparts_ws s bs (ws := ws) (ts := ts) (by simpa using h)
    show w :: (mparts s bs ws ts).map (fun x => x.1) = w :: ws
    rw [ih]
theorem mparts_qs (s : Nat) (bs : List Rat) : ∀ {ws : List Int} {ts : List Tm}, ws.length = ts.length → (mparts s bs ws ts).map (fun x => x.2.1) = Tm.vals bs ts
  | [], [], _ => rfl
  | w :: ws, t :: ts, h => by
    have ih := mparts_qs s bs (ws := ws) (ts := ts) (by simpa using h)
    show t.val bs :: (mparts s bs ws ts).map (fun x => x.2.1) = _
    rw [ih, Tm.vals]
theorem mparts_sz (s : Nat) (bs : List Rat) : ∀ {ws : List Int} {ts : List Tm}, ws.length = ts.length → wsz (mparts s bs ws ts) = Tm.wts s ts
  | [], [], _ => rfl
  | w :: ws, t :: ts, h => by
    have ih := mparts_sz s bs (ws := ws) (ts := ts) (by simpa using h)
    show (t.wt s + 8) + wsz (mparts s bs ws ts) = _
    rw [ih, Tm.wts]
theorem mparts_avg (s : Nat) (bs : List Rat) {ws : List Int} {ts : List Tm} (h : ws.length = ts.length) : wsum (mparts s bs ws ts) / ((wtot (mparts s bs ws ts) : Int) : Rat) = wavg ws (Tm.vals bs ts) := by
  have e1 : wtot (mparts s bs ws ts) = ws.sum := by
    unfold wtot
    rw [mparts_ws s bs h]
  have e2 : wsum (mparts s bs ws ts) = (List.zipWith (fun (w : Int) (q : Rat) => (w : Rat) * q) ws (Tm.vals bs ts)).sum := by
    clear e1
    induction ws generalizing ts with
    | nil =>
      cases ts with
      | nil => rfl
      | cons t ts => simp at h
    | cons w ws ih =>
      cases ts with
      | nil => simp at h
      | cons t ts =>
        have := ih (ts := ts) (by simpa using h)
        show wsum ((w, t.val bs, t.wt s) :: mparts s bs ws ts) = _
        rw [wsum_cons, this, Tm.vals]
        simp
  rw [e1, e2]
  rfl
theorem mparts_mem {s : Nat} {bs : List Rat} {ws : List Int} {ts : List Tm} {x : MPart} (h : x ∈ mparts s bs ws ts) : x.1 ∈ ws ∧ ∃ t ∈ ts, x.2 = (t.val bs, t.wt s) := by
  induction ws generalizing ts with
  | nil => cases h
  | cons w ws ih =>
    cases ts with
    | nil => cases h
    | cons t ts =>
      rcases List.mem_cons.mp (show x ∈ (w, t.val bs, t.wt s) :: mparts s bs ws ts from h) with e | e
      · subst e
        exact ⟨List.mem_cons_self, t, List.mem_cons_self, rfl⟩
      · obtain ⟨h1, u, h2, h3⟩ := ih e
        exact ⟨List.mem_cons_of_mem _ h1, u, List.mem_cons_of_mem _ h2, h3⟩
theorem mparts_length {s : Nat} {bs : List Rat} {ws : List Int} {ts : List Tm} (h : ws.length = ts.length) : (mparts s bs ws ts).length = ts.length := by
  unfold mparts
  rw [List.length_zipWith, h, Nat.min_self]
theorem minL_sz {k : Nat} {l : List Rat} (h : l ≠ []) (hz : ∀ q ∈ l, Sz k q) : Sz k (minL l) := hz _ (minL_mem h).1
theorem maxL_sz {k : Nat} {l : List Rat} (h : l ≠ []) (hz : ∀ q ∈ l, Sz k q) : Sz k (maxL l) := hz _ (maxL_mem h).1
theorem kthG_mem {k : Nat} {l : List Rat} (h : k < l.length) : kthG k l ∈ l := by
  have e := kthG_isort k l h
  exact (isort_perm l).mem_iff.mp (List.mem_of_getElem? e)
theorem vals_length (bs : List Rat) (ts : List Tm) : (Tm.vals bs ts).length = ts.length := by rw [vals_map, List.length_map]
theorem vals_ne {bs : List Rat} {ts : List Tm} (h : ts ≠ []) : Tm.vals bs ts ≠ [] := by
  intro e
  have := vals_length bs ts
  rw [e] at this
  exact h (List.eq_nil_of_length_eq_zero this.symm)
mutual
theorem val_sz {n s : Nat} {bs : List Rat} (hb : ∀ q ∈ bs, Sz s q) (hn : bs.length = n) : ∀ {t : Tm}, t.Ok n s → Sz (t.wt s) (t.val bs)
  | .bid p, h => by
    have hp : p < bs.length := by rw [hn]; exact h
    show Sz s (bs.getD p 0)
    rw [List.getD_eq_getElem?_getD, List.getElem?_eq_getElem hp]
    exact hb _ (List.getElem_mem hp)
  | .fixed q, h => h.2.2
  | .mean ws ts, h => by
    obtain ⟨wl, tne, tl, hw, ho⟩ := h
    have hz := vals_sz hb hn ho
    have z := wmean_sz (L := mparts s bs ws ts) (fun x hx => ?_) ?_ ?_
    · rw [mparts_avg s bs wl, mparts_sz s bs wl] at z
      exact z
    · obtain ⟨h1, t, h2, h3⟩ := mparts_mem hx
      have g := hw _ h1
      rw [MOk, h3]
      exact ⟨g.1, g.2, hz t h2⟩
    · intro e
      have := mparts_length (s := s) (bs := bs) wl
      rw [e] at this
      exact tne (List.eq_nil_of_length_eq_zero this.symm)
    · rw [mparts_length wl]
      exact tl
  | .least ts, h => by
    obtain ⟨tne, tl, ho⟩ := h
    have hz := vals_sz hb hn ho
    refine minL_sz (vals_ne tne) fun q hq => ?_
    rw [vals_map] at hq
    obtain ⟨t, ht, rfl⟩ := List.mem_map.mp hq
    exact (hz t ht).mono (by have := wts_mem (s := s) ht; show _ ≤ Tm.wts s ts; omega)
  | .greatest ts, h => by
    obtain ⟨tne, tl, ho⟩ := h
    have hz := vals_sz hb hn ho
    refine maxL_sz (vals_ne tne) fun q hq => ?_
    rw [vals_map] at hq
    obtain ⟨t, ht, rfl⟩ := List.mem_map.mp hq
    exact (hz t ht).mono (by have := wts_mem (s := s) ht; show _ ≤ Tm.wts s ts; omega)
  | .ranked k ts, h => by
    obtain ⟨k1, k2, tl, ho⟩ := h
    have hz := vals_sz hb hn ho
    have m := kthG_mem (k := k - 1) (l := Tm.vals bs ts) (by rw [vals_length]; omega)
    rw [vals_map] at m
    obtain ⟨t, ht, e⟩ := List.mem_map.mp m
    show Sz (Tm.wts s ts) (kthG (k - 1) (Tm.vals bs ts))
    rw [vals_map, ← e]
    exact (hz t ht).mono (by have := wts_mem (s := s) ht; omega)
  | .between lo hi t, h => by
    obtain ⟨n1, n2, hl, ho⟩ := h
    have z := val_sz hb hn ho
    show Sz (t.wt s + s + s) (rmax lo (rmin hi (t.val bs)))
    exact sz_rmax (n1.2.2.mono (by omega)) (sz_rmin (n2.2.2.mono (by omega)) (z.mono (by omega)))
theorem vals_sz {n s : Nat} {bs : List Rat} (hb : ∀ q ∈ bs, Sz s q) (hn : bs.length = n) : ∀ {ts : List Tm}, Tm.Oks n s ts → ∀ t ∈ ts, Sz (t.wt s) (t.val bs)
  | [], _, _, h => by cases h
  | u :: ts, ho, t, h => by
    rcases List.mem_cons.mp h with e | e
    · rw [e]
      exact val_sz hb hn ho.1
    · exact vals_sz hb hn ho.2 t e
end
def Tm.word : Tm → Str
  | .bid _ => "bid"
  | .fixed _ => "fixed"
  | .mean _ _ => "mean"
  | .least _ => "least"
  | .greatest _ => "greatest"
  | .ranked _ _ => "ranked"
  | .between _ _ _ => "between"
theorem t_head {H : Hp} {v : V} {t : Tm} (h : Rp K H v t.data) : ∃ a r, v = .ref a ∧ SqT K H a (.str t.word :: r) := by
  cases t with
  | bid p => obtain ⟨a, rfl, ha⟩ := t_bid h; exact ⟨a, _, rfl, ha⟩
  | fixed q => obtain ⟨a, x, rfl, ha, _⟩ := t_fixed h; exact ⟨a, _, rfl, ha⟩
  | mean ws ts => obtain ⟨a, x, _, rfl, ha, _⟩ := t_mean h; exact ⟨a, _, rfl, ha⟩
  | least ts => obtain ⟨a, x, _, rfl, ha, _⟩ := t_least h; exact ⟨a, _, rfl, ha⟩
  | greatest ts => obtain ⟨a, x, _, rfl, ha, _⟩ := t_greatest h; exact ⟨a, _, rfl, ha⟩
  | ranked k ts => obtain ⟨a, x, _, rfl, ha, _⟩ := t_ranked h; exact ⟨a, _, rfl, ha⟩
  | between lo hi t => obtain ⟨a, x, y, z, rfl, ha, _⟩ := t_between h; exact ⟨a, _, rfl, ha⟩
theorem kids_wt {s : Nat} {t u : Tm} (h : u ∈ t.children) : u.wt s ≤ t.wt s := by
  cases t with
  | bid p => cases h
  | fixed q => cases h
  | mean ws ts => have h' : u ∈ ts := h; have := wts_mem (s := s) h'; show _ ≤ Tm.wts s ts + 12; omega
  | least ts => have h' : u ∈ ts := h; have := wts_mem (s := s) h'; show _ ≤ Tm.wts s ts; omega
  | greatest ts => have h' : u ∈ ts := h; have := wts_mem (s := s) h'; show _ ≤ Tm.wts s ts; omega
  | ranked k ts => have h' : u ∈ ts := h; have := wts_mem (s := s) h'; show _ ≤ Tm.wts s ts; omega
  | between lo hi t => rw [List.mem_singleton.mp h]; show _ ≤ t.wt s + s + s; omega
theorem kids_len {n s : Nat} {t : Tm} (h : t.Ok n s) : t.children.length ≤ 8 := by
  cases t with
  | bid p => exact Nat.zero_le _
  | fixed q => exact Nat.zero_le _
  | mean ws ts => exact h.2.2.1
  | least ts => exact h.2.1
  | greatest ts => exact h.2.1
  | ranked k ts => exact h.2.2.1
  | between lo hi t => show 1 ≤ 8; omega
/-- bids: a tuple of numbers -/
def Bids (K : PySem.W.Frag) (H : Hp) (ab : Addr) (n s : Nat) (bs : List Rat) : Prop := ∃ us, SqT K H ab us ∧ RQ K H us bs ∧ bs.length = n ∧ ∀ q ∈ bs, NumOk s q
theorem Bids.mono {H H' : Hp} {ab : Addr} {n s : Nat} {bs : List Rat} (h : Bids K H ab n s bs) (e : KT H H') : Bids K H' ab n s bs := by
  obtain ⟨us, h1, h2, h3, h4⟩ := h
  exact ⟨us, e.sq h1, RpAll.mono e h2, h3, h4⟩
def spW (K : PySem.W.Frag) (C : Addr) (D : Nat) : Sp := fun vs H Q _ => ∃ (v : V) (ab b dx : Addr) (n s : Nat) (bs : List Rat) (t : Tm), vs = [v, .ref ab, .ref b] ∧ Rp K H v t.data ∧ t.Ok n s ∧ s ≤ 9000 ∧ t.dep ≤ D ∧ t.wt s + 20 ≤ 9000 ∧ Bids K H ab n s bs ∧ H b = some (.ins C dx []) ∧
  ∀ v H', Same H H' → RF K H' v (t.val bs) → Q v H'
end
end CB

set_option Elab.async false
set_option linter.all false
set_option maxRecDepth 100000
set_option maxHeartbeats 2000000
namespace CB
open PySem PySem.Spec PyProof.Rows L2
/-- a class with object's own __init__ -/
structure Mk0 (K : PySem.W.Frag) (C : Addr) : Prop where
  makes : PySem.W.makesIn K C = true
  init : PySem.W.findIn K (.ref C) "__init__" = some (some (.builtin "object.__init__"))
  top : PySem.W.mroIn K C (.type "object") = some true
  kp : PySem.W.keepIn K (.ref C) = true
section
variable {X : Cx} {C : Addr}
def tMk0 (C : Addr) : TE := fun _ H Q => ∀ x dx, H x = none → H dx = none → dx ≠ x → Q (.ref x) (upd (upd H dx (.own x)) x (.ins C dx []))
theorem run_mk0 {pins : List (Addr × Obj)} {σ : L2.St} {H : Hp} {s : Shared} {Q : VK} (M : Mk0 X.K C) (I : Inv X pins σ H s) (h : tMk0 C σ H Q) :
    wpAny (model X.prog X.w) X.A (call (.ref C) []) (EP X pins σ Q) X.xe s := by
  have hq := h (s.heap.objs.size + 1) s.heap.objs.size (I.hok.fresh (Nat.le_succ _)) (I.hok.fresh (Nat.le_refl _)) (Nat.ne_of_lt (Nat.lt_succ_self _))
  have I2 := Inv.made (C := C) I
  refine wpAny_call (make_map0 I.kIn M.makes M.init (fun self => PySem.W.Looks.of_pure (PySem.W.oi_bind self)) ?_)
  have e2 : ((s.heap.push PySem.W.emptyDict).push (PySem.W.instObj C s.heap.objs.size)).get? (s.heap.objs.size + 1) = some (PySem.W.instObj C s.heap.objs.size) := by
    have := Heap.get?_push_size (s.heap.push PySem.W.emptyDict) (o := PySem.W.instObj C s.heap.objs.size) rfl
    rwa [Heap.size_push] at this
  have t1 : PySem.W.Looks (model X.prog X.w) ((s.heap.push PySem.W.emptyDict).push (PySem.W.instObj C s.heap.objs.size)) (typeOf (.ref (s.heap.objs.size + 1))) (.ref C) := NwA.type_at e2 rfl
  have t2 : PySem.W.Looks (model X.prog X.w) ((s.heap.push PySem.W.emptyDict).push (PySem.W.instObj C s.heap.objs.size)) (isInstance (.ref (s.heap.objs.size + 1)) (.type "object")) true := t1.andThen (PySem.W.looks_mroIn I2.kIn M.top)
  refine codeAny_call_builtin PySem.W.oi_plain PySem.W.entry_oi (@PySem.W.check_slot (model X.prog X.w) _ _ _ "object.__init__" "object" "__init__" (.ref (s.heap.objs.size + 1)) [] [] _ PySem.W.oi_kind PySem.W.oi_split t2 (NwA.oi_args_any (.ref (s.heap.objs.size + 1)) [] []) ?_)
  rw [PySem.W.oi_run]
  exact wpAny_pure (And.intro rfl ⟨V.ref (s.heap.objs.size + 1), _, I2.tok _, rfl, hq⟩)
theorem pe_mk0 {x : Str} {p pos : Pos} (M : Mk0 X.K C) (hg : Gl X x) (hm : X.mg x = some (.ref C)) (hdb : (x == ("__debug__" : Str)) = false := by decide) : PE X (.Call (.Name x p) [] [] pos) (tMk0 C) := by
  refine ⟨fun pins s σ H Q I h => ?_⟩
  refine wpAny_Call_Name_kw (ld_glob I hg hm ?_ hdb)
  exact PySem.W.callWith_K0 I.kIn M.kp (run_mk0 M I h)
end
end CB

set_option Elab.async false
set_option linter.all false
set_option maxRecDepth 100000
set_option maxHeartbeats 4000000
namespace CB
open PySem PySem.Spec PyProof.Rows L2
open C8 (Cal Met Mak pe_c pe_mk pe_mt pe_mt0 pe_gc CalAt)
section
variable {P : Program} {w : World} {K : PySem.W.Frag} {mg : Str → Option Value} {base : Heap}
def sp_told_by (K : PySem.W.Frag) : Sp := fun vs H Q _ => ∃ (v : V) (ab : Addr) (n s : Nat) (bs : List Rat) (t : Tm), vs = [v, .ref ab] ∧ Rp K H v t.data ∧ t.Ok n s ∧ s ≤ 9000 ∧ t.dep ≤ 60 ∧ t.wt s + 20 ≤ 9000 ∧ Bids K H ab n s bs ∧
  ∀ v H', Same H H' → RF K H' v (t.val bs) → Q v H'
abbrev n_are_numbers : List Str := ["thing", "many", "number"]
theorem sc_are_numbers : FnScope ["thing", "many", "number"] ["thing", "many"] (defScope s_are_numbers) := ⟨rfl, rfl, rfl, by decide +kernel, rfl, by decide +kernel, by decide +kernel⟩
def sp_are_numbers (K : PySem.W.Frag) : Sp := fun vs H Q _ => ∃ (a : Addr) (n s : Nat) (bs : List Rat), vs = [.ref a, .int (n : Int)] ∧ Bids K H a n s bs ∧ n ≤ 1000 ∧ ∀ H', Same H H' → Q (.bl true) H'
theorem ok_are_numbers (F : FnD K mg "are_numbers" s_are_numbers) (c_is_number : Cal P w K mg base 2 "is_number" (sp_is_number K) []) (T_isinstance : mg "isinstance" = none) (T_tuple : mg "tuple" = none) (T_len : mg "len" = none) (T_all : mg "all" = none) : Cal P w K mg base 3 "are_numbers" (sp_are_numbers K) [] := by
  refine calOf F sc_are_numbers (fun _ _ _ _ _ _ us hl => match us, hl with | [_, _], _ => rfl) (fun vs H Q E h => ?_) (fun cdv f A outer s H vs Q E hr h => ?_)
  · obtain ⟨_, _, _, _, rfl, _⟩ := h
    rfl
  · obtain ⟨a, n, sz, bs, rfl, ⟨us, h1, h2, h3, h4⟩, hn, k⟩ := h
    have ul : us.length = n := by rw [RQ.length h2, h3]
    refine ⟨_, (pss_one (ps_ret (pe_and (pe_callB call_isi (by rfl) T_isinstance (by decide +kernel) (pa_cons (pv 0) (pa_cons (pe_ty (n := "tuple") (by rfl) T_tuple (by decide +kernel)) pa_nil))) (pe_and (pe_cmpR op_eq (pe_callB call_len_seq (by rfl) T_len PySem.boot_len (pa_cons (pv 0) pa_nil)) (pv 1) (nomark _)) (pe_one (pe_callB (cr_all rfl) (by rfl) T_all (by decide +kernel) (pa_cons (pe_lc (own := [("number", 2)]) (by rfl) sc_are_numbers.nd (pi_tup (pv 0)) (blkOk_by (own := [("number", 2)]) (N := ["thing", "many", "number"]) (sc := defScope s_are_numbers) (by decide +kernel)) (fun _ _ _ _ _ => (pg_name (i := 2) sc_are_numbers.nd rfl (Or.inl rfl))) (fun _ _ _ _ _ => pts_nil) (fun _ _ _ _ _ => (pe_c c_is_number hr (by first | decide | omega) rfl (pa_cons (pv 2) pa_nil)))) pa_nil))))))), ?_⟩
    refine ⟨_, rfl, _, _, _, _, true, rfl, .ty _, tyT h1, kit_ty (by decide +kernel), _, rfl, _, rfl, a, _, rfl, .inr h1, _, rfl, rfl, _, rfl, ite2 (fun _ => ?_) (fun c => absurd (decide_eq_true (by rw [ul])) c)⟩
    refine ⟨_, rfl, a, rfl, ⟨_, h1⟩, fun D hD => ?_⟩
    refine it_tup (K := K) (a := a) (xs := us) (fun i H' => ∃ zs : List Bool, H' D = some (.lst (zs.map V.bl)) ∧ zs.length = i ∧ (∀ z ∈ zs, z = true) ∧ Same H H')
      ⟨[], upd_same, rfl, by simp, same_new hD⟩ (fun i H' ⟨_, _, _, _, s5⟩ => (Same.kt s5).sq h1) ?_ ?_
    · rintro i x H' hx ⟨zs, g1, g2, g3, g4⟩
      obtain ⟨q, e, r⟩ := RQ.getV h2 hx
      have nq := h4 q (List.mem_of_getElem? e)
      have hi := (List.getElem?_eq_some_iff.mp hx).1
      refine ⟨rfl, _, rfl, x, q, rfl, r.mono (Same.kt g4), nq.1, nq.2.1, _, g1, by rw [List.length_map, g2]; exact small1000 (by omega), zs ++ [true], by rw [List.map_append]; exact upd_same, by simp [g2], ?_, Same.mut g4 hD⟩
      intro q hq
      rcases List.mem_append.mp hq with h | h
      · exact g3 q h
      · exact List.mem_singleton.mp h
    · rintro H' ⟨zs, g1, g2, g3, g4⟩
      refine ⟨D, zs, rfl, SqL.of g1, ?_⟩
      have ea : zs.all id = true := List.all_eq_true.mpr g3
      rw [ea]
      exact k _ g4
def sp_need_bids (K : PySem.W.Frag) (C : Addr) : Sp := fun vs H Q _ => ∃ (r a : Addr) (n s : Nat) (t : Tm) (bs : List Rat), vs = [.ref r, .ref a] ∧ RuleAt K C H r n t ∧ Bids K H a n s bs ∧ n ≤ 6 ∧ ∀ H', Same H H' → Q .non H'
def sp_value (K : PySem.W.Frag) (C : Addr) : Sp := fun vs H Q _ => ∃ (r a : Addr) (n s : Nat) (t : Tm) (bs : List Rat), vs = [.ref r, .ref a] ∧ RuleAt K C H r n t ∧ t.Ok n s ∧ s ≤ 9000 ∧ t.dep ≤ 60 ∧ t.wt s + 20 ≤ 9000 ∧ Bids K H a n s bs ∧ n ≤ 6 ∧
  ∀ v H', Same H H' → RF K H' v (t.val bs) → Q v H'
theorem RuleAt.same {C : Addr} {H H' : Hp} {r : Addr} {n : Nat} {t : Tm} (h : RuleAt K C H r n t) (e : Same H H') : RuleAt K C H' r n t := by
  obtain ⟨dx, v, h1, h2⟩ := h
  exact ⟨dx, v, e _ _ h1, h2.mono (Same.kt e)⟩
end
end CB

set_option Elab.async false
set_option linter.all false
set_option maxRecDepth 100000
set_option maxHeartbeats 4000000
/-! how many different numbers a tuple has: len(set(t)) -/
namespace CB
open PySem PySem.Spec PyProof.Rows L2
theorem nodup_len : ∀ {l m : List Int}, l.Nodup → (∀ x ∈ l, x ∈ m) → l.length ≤ m.length
  | [], _, _, _ => Nat.zero_le _
  | a :: l, m, h, s => by
    have h' := List.nodup_cons.mp h
    have am := s a List.mem_cons_self
    have ih := nodup_len (l := l) (m := m.erase a) h'.2 fun x hx => (List.mem_erase_of_ne (by intro e; rw [e] at hx; exact h'.1 hx)).mpr (s x (List.mem_cons_of_mem _ hx))
    rw [List.length_erase_of_mem am] at ih
    have := List.length_pos_of_mem am
    rw [List.length_cons]
    omega
def tLenSetT (K : PySem.W.Frag) (ta : TE) : TE := fun σ H Q => ta σ H fun x H1 => ∃ (a : Addr) (ns D : List Int), x = .ref a ∧ SqT K H1 a (ns.map V.int) ∧ ns.length ≤ 60 ∧ D.Nodup ∧ (∀ k, k ∈ D ↔ k ∈ ns) ∧ Q (.int (D.length : Nat)) H1
theorem ints_of : ∀ {ns : List Int} {us : List Value}, Vals (ns.map V.int) us → PyProof.Rows.IntsAre us ns
  | [], _, h => by cases h; exact .nil
  | n :: ns, _, h => by
    cases h with
    | cons r t =>
      obtain ⟨z, rfl⟩ := r
      exact .cons n z (ints_of t)
theorem pe_lenSetT {X : Cx} {a : Expr} {ta : TE} {p p2 q pos : Pos} (g1 : Gl X "len") (m1 : X.mg "len" = none) (g2 : Gl X "set") (m2 : X.mg "set" = none) (ha : PE X a ta) (hc : X.calm = true := by rfl)
    (na : starEach [a] X.env = (false, eval a X.env) :: starEach [] X.env := by rfl) : PE X (.Call (.Name "len" p) [.Call (.Name "set" p2) [a] [] q] [] pos) (tLenSetT X.K ta) := by
  refine ⟨fun pins s σ H Q I h => ?_⟩
  refine Call_ (ld_blt I g1 m1 boot_len ?_)
  refine PyProof.Rows.callWith_builtin1 (PyProof.Rows.args_cons ?_ rfl) rfl rfl
  refine Call_ (ld_blt I g2 m2 boot_set ?_)
  refine PyProof.Rows.callWith_type1 (PyProof.Rows.args_cons
    (thn (ha.run pins s σ H _ I h) fun v s1 ⟨x, H1, I1, r1, z⟩ => PyProof.Rows.args_nil ?_) na) na rfl
  obtain ⟨l, ns, D, rfl, hq, hl, hD, hm, z⟩ := z
  cases r1
  obtain ⟨its, r, pl, hz⟩ := I1.tuple hq
  refine call_set_tupI ns (I1.ok.hd hc) pl (by simpa using ints_of r) (by unfold scanBound; omega) fun h' tk c hS _ hk => ?_
  refine PyProof.Rows.args_nil ?_
  obtain ⟨o, es, ep, t, ho, hex, hd, _, nd, mem, hb, hf, hn, _⟩ := hS
  have I2 : Inv X pins σ H1 { s1 with heap := h', toks := tk } := I1.kept fun b o e => hk b o e
  have el : D.length = c := by
    have a1 := nodup_len hD (m := es.toList.map keyOf) fun k hk => (mem k).mp (decide_eq_true ((hm k).mp hk))
    have a2 := nodup_len nd (m := D) fun k hk => (hm k).mpr (of_decide_eq_true ((mem k).mpr hk))
    rw [List.length_map] at a1 a2
    have a3 : es.toList.length = es.size := Array.length_toList
    omega
  refine call_len_set ho hex hd hf (by rw [hn]; have := nodup_len hD (m := ns) fun k hk => (hm k).mp hk; omega) ⟨.int c, H1, I2.tok _, ⟨_, by rw [hn]⟩, ?_⟩
  rw [← el]
  exact z
end CB

set_option Elab.async false
set_option linter.all false
set_option maxRecDepth 100000
set_option maxHeartbeats 4000000
/-! a tuple, once or oftener -/
namespace CB
open PySem PySem.Spec PyProof.Rows L2
theorem tup_once (a : Addr) (xs : Array Value) (m : Nat) (q : Option Addr) (z : Array (Option Value)) (u : Tok) :
    Meets (Builtin.«tuple.__mul__» ⟨[.ref a, .int 1 u], []⟩)
      (fun _ R s => s.heap.get? a = some { cls := .type "tuple", dict := q, data := .seq xs m, slots := z } ∧ R (.ok (.ret (Value.ref a))) s) :=
  .of_wp fun prog w A R s z1 => by
    obtain ⟨s1, s2, s3, s4, s5⟩ := s
    obtain ⟨z2, z1⟩ := z1
    have z3 := AutoSeq1.idx_int
    have z4 : (decide ((1 : Int) < -(2 ^ 63)) || decide ((1 : Int) ≥ 2 ^ 63)) = false := by decide
    have z5 : (xs.isEmpty || (1 : Int) == 1) = true := by simp
    wp_walk using wpAny_loadPart' z2
    repeat (first
      | (refine wpAny_ite_false (decide_eq_false (fun h => absurd (z4.symm.trans h) Bool.false_ne_true)) ?_
         wp_walk using wpAny_loadPart' z2)
      | (refine wpAny_ite_true (decide_eq_true z5) ?_
         wp_walk using wpAny_loadPart' z2))
    exact ⟨_, rfl, z1⟩
section
variable {X : Cx}
def rRepN (K : PySem.W.Frag) : R2 := fun x y H Q => ∃ (a : Addr) (k : Nat) (xs : List V), x = .ref a ∧ y = .int (k : Int) ∧ SqT K H a xs ∧ xs ≠ [] ∧ 1 ≤ k ∧ k ≤ 1000 ∧ xs.length ≤ 1000 ∧
  (k = 1 → Q (.ref a) H) ∧ (2 ≤ k → ∀ p, H p = none → Q (.ref p) (upd H p (.tup (List.replicate k xs).flatten)))
theorem op_repN : OpR X (binaryOp .Mult) (rRepN X.K) := by
  intro pins s σ H x y v u Q I rx ry h
  obtain ⟨a, k, xs, rfl, rfl, hT, hne, k1, k2, hz, q1, q2⟩ := h
  by_cases c : k = 1
  · subst c
    cases rx
    obtain ⟨t, rfl⟩ := ry
    obtain ⟨its, r, ⟨⟨cls, dd, data, sl⟩, ho, hc, n, hd⟩, hs⟩ := I.tuple hT
    simp only at hc hd
    subst hc hd
    refine wpAny_binaryOp_repeat_ref (T := "tuple") (U := "int") (by decide) ⟨_, ho, rfl⟩ (fun s' => typeIs_int s' _ t)
      noFill_tuple_mul F.fills_int_mul F.slot_int_rmul repeat_tuple F.slot_int_index.lookup
      (call_meets F.slot_int_rmul (typeIs_int s _ t) F.entry_int_rmul (F.args_int_rmul_2 _ _)
        (int_rmul_tuple _ t a its.toArray n dd sl)
        ⟨ho, rfl, ⟨_, ho, rfl⟩, call_meets F.slot_tuple_mul ⟨_, ho, rfl⟩ F.entry_tuple_mul (F.args_tuple_mul_2 _ _) (tup_once a its.toArray n dd sl t) ⟨ho, ?_⟩⟩)
    exact ⟨.ref a, _, I, rfl, q1 rfl⟩
  · exact op_repT pins s σ H _ _ v u Q I rx ry ⟨a, (k : Int), xs, rfl, rfl, hT, hne, by omega, by omega, hz, fun p hp => by
      have := q2 (by omega) p hp
      rw [Int.toNat_natCast]
      exact this⟩
end
end CB

set_option Elab.async false
set_option linter.all false
set_option maxRecDepth 100000
set_option maxHeartbeats 2000000
namespace CB
open PySem PySem.Spec PyProof.Rows L2
theorem qd_lay (q : Rat) : (qd q).canLay0 = true := by simp [qd, PyData.canLay0, PyData.canLayAll0]
theorem qd_depth (q : Rat) : (qd q).depth ≤ 2 := by simp [qd, PyData.depth, PyData.depthAll]
theorem lay_meanD : ∀ (ws : List Int) (ds : List PyData), PyData.canLayAll0 ds = true → PyData.canLayAll0 (meanD ws ds) = true
  | [], ds, _ => by simp [meanD, PyData.canLayAll0]
  | w :: ws, [], _ => by simp [meanD, PyData.canLayAll0]
  | w :: ws, d :: ds, h => by
    simp only [PyData.canLayAll0, Bool.and_eq_true] at h
    have ih := lay_meanD ws ds h.2
    show PyData.canLayAll0 (.tuple [.int w, d] :: meanD ws ds) = true
    simp only [PyData.canLayAll0, PyData.canLay0, Bool.and_eq_true]
    exact ⟨⟨trivial, h.1, trivial⟩, ih⟩
theorem depth_meanD : ∀ (ws : List Int) (ds : List PyData), PyData.depthAll (meanD ws ds) ≤ PyData.depthAll ds + 1
  | [], ds => by simp [meanD, PyData.depthAll]
  | w :: ws, [] => by simp [meanD, PyData.depthAll]
  | w :: ws, d :: ds => by
    have ih := depth_meanD ws ds
    show PyData.depthAll (.tuple [.int w, d] :: meanD ws ds) ≤ _
    simp only [PyData.depthAll, PyData.depth]
    omega
mutual
theorem data_lay : ∀ t : Tm, t.data.canLay0 = true
  | .bid p => by simp [Tm.data, PyData.canLay0, PyData.canLayAll0]; decide +kernel
  | .fixed q => by simp [Tm.data, PyData.canLay0, PyData.canLayAll0, qd_lay]; decide +kernel
  | .mean ws ts => by simp [Tm.data, PyData.canLay0, PyData.canLayAll0, lay_meanD ws _ (datas_lay ts)]; decide +kernel
  | .least ts => by simp [Tm.data, PyData.canLay0, PyData.canLayAll0, datas_lay ts]; decide +kernel
  | .greatest ts => by simp [Tm.data, PyData.canLay0, PyData.canLayAll0, datas_lay ts]; decide +kernel
  | .ranked k ts => by simp [Tm.data, PyData.canLay0, PyData.canLayAll0, datas_lay ts]; decide +kernel
  | .between lo hi t => by simp [Tm.data, PyData.canLay0, PyData.canLayAll0, qd_lay, data_lay t]; decide +kernel
theorem datas_lay : ∀ ts : List Tm, PyData.canLayAll0 (Tm.datas ts) = true
  | [] => by simp [Tm.datas, PyData.canLayAll0]
  | t :: ts => by simp [Tm.datas, PyData.canLayAll0, data_lay t, datas_lay ts]
end
mutual
theorem data_depth : ∀ t : Tm, t.data.depth ≤ 3 * t.dep + 1
  | .bid p => by simp [Tm.data, PyData.depth, PyData.depthAll, Tm.dep]
  | .fixed q => by have := qd_depth q; simp [Tm.data, PyData.depth, PyData.depthAll, Tm.dep]; omega
  | .mean ws ts => by
    have h := datas_depth ts
    have h2 := depth_meanD ws (Tm.datas ts)
    simp only [Tm.data, PyData.depth, PyData.depthAll, Tm.dep]
    omega
  | .least ts => by have h := datas_depth ts; simp only [Tm.data, PyData.depth, PyData.depthAll, Tm.dep]; omega
  | .greatest ts => by have h := datas_depth ts; simp only [Tm.data, PyData.depth, PyData.depthAll, Tm.dep]; omega
  | .ranked k ts => by have h := datas_depth ts; simp only [Tm.data, PyData.depth, PyData.depthAll, Tm.dep]; omega
  | .between lo hi t => by
    have h := data_depth t
    have h1 := qd_depth lo
    have h2 := qd_depth hi
    simp only [Tm.data, PyData.depth, PyData.depthAll, Tm.dep]
    omega
theorem datas_depth : ∀ ts : List Tm, PyData.depthAll (Tm.datas ts) ≤ 3 * Tm.deps ts + 1
  | [] => by simp [Tm.datas, PyData.depthAll]
  | t :: ts => by
    have h1 := data_depth t
    have h2 := datas_depth ts
    simp only [Tm.datas, PyData.depthAll, Tm.deps]
    omega
end
theorem qd_shaped (q : Rat) : SeqAt.shaped (qd q) = true := by
  unfold SeqAt.shaped
  have := qd_depth q
  rw [qd_lay, Bool.true_and]
  exact decide_eq_true (by omega)
theorem data_shaped {t : Tm} (h : t.dep ≤ 20) : SeqAt.shaped t.data = true := by
  unfold SeqAt.shaped
  have := data_depth t
  rw [data_lay, Bool.true_and]
  exact decide_eq_true (by omega)
end CB

set_option Elab.async false
set_option linter.all false
set_option maxRecDepth 100000
set_option maxHeartbeats 4000000
namespace CB
open PySem PySem.Spec PyProof.Rows L2
open C8 (Cal Met Mak pe_c pe_mk pe_mt pe_mt0 pe_gc CalAt)
section
variable {P : Program} {w : World} {K : PySem.W.Frag} {mg : Str → Option Value} {base : Heap}
/-- persons, as numbers -/
def pI (ps : List Nat) : List Int := ps.map fun (p : Nat) => ((p : Nat) : Int)
def pV (ps : List Nat) : List V := (pI ps).map V.int
theorem pV_len (ps : List Nat) : (pV ps).length = ps.length := by simp [pV, pI]
theorem pV_get {ps : List Nat} {i : Nat} {x : V} (h : (pV ps)[i]? = some x) : ∃ p, ps[i]? = some p ∧ x = .int (p : Int) := by
  unfold pV pI at h
  rw [List.getElem?_map, List.getElem?_map] at h
  cases e : ps[i]? with
  | none => rw [e] at h; cases h
  | some p => rw [e] at h; cases h; exact ⟨p, rfl, rfl⟩
theorem pV_at {ps : List Nat} {i p : Nat} (h : ps[i]? = some p) : (pV ps)[i]? = some (.int (p : Int)) := by
  unfold pV pI
  rw [List.getElem?_map, List.getElem?_map, h]
  rfl
structure Sched (n : Nat) (ps : List Nat) : Prop where
  lt : ∀ p ∈ ps, p < n
  len : ps.length ≤ 12
  all : ∀ p, p < n → p ∈ ps
abbrev n_are_persons : List Str := ["thing", "people", "person"]
theorem sc_are_persons : FnScope ["thing", "people", "person"] ["thing", "people"] (defScope s_are_persons) := ⟨rfl, rfl, rfl, by decide +kernel, rfl, by decide +kernel, by decide +kernel⟩
def sp_are_persons (K : PySem.W.Frag) : Sp := fun vs H Q _ => ∃ (a : Addr) (n : Nat) (ps : List Nat), vs = [.ref a, .int (n : Int)] ∧ SqT K H a (pV ps) ∧ (∀ p ∈ ps, p < n) ∧ ps.length ≤ 12 ∧ ∀ H', Same H H' → Q (.bl true) H'
theorem ok_are_persons (F : FnD K mg "are_persons" s_are_persons) (c_is_person : Cal P w K mg base 2 "is_person" sp_is_person []) (T_isinstance : mg "isinstance" = none) (T_tuple : mg "tuple" = none) (T_all : mg "all" = none) : Cal P w K mg base 3 "are_persons" (sp_are_persons K) [] := by
  refine calOf F sc_are_persons (fun _ _ _ _ _ _ us hl => match us, hl with | [_, _], _ => rfl) (fun vs H Q E h => ?_) (fun cdv f A outer s H vs Q E hr h => ?_)
  · obtain ⟨_, _, _, rfl, _⟩ := h
    rfl
  · obtain ⟨a, n, ps, rfl, h1, h2, h3, k⟩ := h
    refine ⟨_, (pss_one (ps_ret (pe_and (pe_callB call_isi (by rfl) T_isinstance (by decide +kernel) (pa_cons (pv 0) (pa_cons (pe_ty (n := "tuple") (by rfl) T_tuple (by decide +kernel)) pa_nil))) (pe_one (pe_callB (cr_all rfl) (by rfl) T_all (by decide +kernel) (pa_cons (pe_lc (own := [("person", 2)]) (by rfl) sc_are_persons.nd (pi_tup (pv 0)) (blkOk_by (own := [("person", 2)]) (N := ["thing", "people", "person"]) (sc := defScope s_are_persons) (by decide +kernel)) (fun _ _ _ _ _ => (pg_name (i := 2) sc_are_persons.nd rfl (Or.inl rfl))) (fun _ _ _ _ _ => pts_nil) (fun _ _ _ _ _ => (pe_c c_is_person hr (by first | decide | omega) rfl (pa_cons (pv 2) (pa_cons (pv 1) pa_nil))))) pa_nil)))))), ?_⟩
    refine ⟨_, rfl, _, _, _, _, true, rfl, .ty _, tyT h1, kit_ty (by decide +kernel), _, rfl, ?_⟩
    refine ⟨_, rfl, a, rfl, ⟨_, h1⟩, fun D hD => ?_⟩
    refine it_tup (K := K) (a := a) (xs := pV ps) (fun i H' => ∃ zs : List Bool, H' D = some (.lst (zs.map V.bl)) ∧ zs.length = i ∧ (∀ z ∈ zs, z = true) ∧ Same H H')
      ⟨[], upd_same, rfl, by simp, same_new hD⟩ (fun i H' ⟨_, _, _, _, s5⟩ => (Same.kt s5).sq h1) ?_ ?_
    · rintro i x H' hx ⟨zs, g1, g2, g3, g4⟩
      obtain ⟨p, hp, rfl⟩ := pV_get hx
      have hi := (List.getElem?_eq_some_iff.mp hx).1
      rw [pV_len] at hi
      have pl := h2 p (List.mem_of_getElem? hp)
      refine ⟨rfl, _, rfl, _, rfl, (p : Int), (n : Int), rfl, by omega, by omega, _, g1, by rw [List.length_map, g2]; exact small1000 (by omega), zs ++ [true], by rw [List.map_append]; exact upd_same, by simp [g2], ?_, Same.mut g4 hD⟩
      intro q hq
      rcases List.mem_append.mp hq with h | h
      · exact g3 q h
      · exact List.mem_singleton.mp h
    · rintro H' ⟨zs, g1, g2, g3, g4⟩
      refine ⟨D, zs, rfl, SqL.of g1, ?_⟩
      have ea : zs.all id = true := List.all_eq_true.mpr g3
      rw [ea]
      exact k _ g4
abbrev n_is_schedule : List Str := ["thing", "people"]
theorem sc_is_schedule : FnScope ["thing", "people"] ["thing", "people"] (defScope s_is_schedule) := ⟨rfl, rfl, rfl, by decide +kernel, rfl, by decide +kernel, by decide +kernel⟩
def sp_is_schedule (K : PySem.W.Frag) : Sp := fun vs H Q _ => ∃ (a : Addr) (n : Nat) (ps : List Nat), vs = [.ref a, .int (n : Int)] ∧ SqT K H a (pV ps) ∧ Sched n ps ∧ ∀ H', Same H H' → Q (.bl true) H'
theorem range_nodup (n : Nat) : (pI (List.range n)).Nodup := by
  unfold pI
  exact List.Pairwise.map _ (fun a b h e => h (Int.ofNat.inj e)) List.nodup_range
theorem ok_is_schedule (F : FnD K mg "is_schedule" s_is_schedule) (c_are_persons : Cal P w K mg base 3 "are_persons" (sp_are_persons K) []) (T_len : mg "len" = none) (T_set : mg "set" = none) (g_MOST_TURNS : ∃ u, mg "MOST_TURNS" = some u ∧ RelV (.int 12) u) : Cal P w K mg base 4 "is_schedule" (sp_is_schedule K) [] := by
  refine calOf F sc_is_schedule (fun _ _ _ _ _ _ us hl => match us, hl with | [_, _], _ => rfl) (fun vs H Q E h => ?_) (fun cdv f A outer s H vs Q E hr h => ?_)
  · obtain ⟨_, _, _, rfl, _⟩ := h
    rfl
  · obtain ⟨a, n, ps, rfl, h1, hS, k⟩ := h
    refine ⟨_, (pss_one (ps_ret (pe_and (pe_c c_are_persons hr (by first | decide | omega) rfl (pa_cons (pv 0) (pa_cons (pv 1) pa_nil))) (pe_and (pe_cmpR op_le (pe_callB call_len_seq (by rfl) T_len PySem.boot_len (pa_cons (pv 0) pa_nil)) (pe_gc rfl g_MOST_TURNS) (nomark _)) (pe_one (pe_cmpR op_eq (pe_lenSetT (by rfl) T_len (by rfl) T_set (pv 0)) (pv 1) (nomark _))))))), ?_⟩
    refine ⟨_, rfl, _, rfl, a, n, ps, rfl, h1, hS.lt, hS.len, fun H1 s1 => ⟨_, rfl, ?_⟩⟩
    have h2 := (Same.kt s1).sq h1
    have hl := hS.len
    refine ⟨_, rfl, a, _, rfl, .inr h2, _, _, rfl, rfl, _, rfl, ite2 (fun _ => ?_) (fun c => absurd (decide_eq_true (by rw [pV_len]; omega)) c)⟩
    refine ⟨_, rfl, a, pI ps, pI (List.range n), rfl, h2, by simp [pI]; omega, range_nodup n, fun x => ?_, _, rfl, rfl, ?_⟩
    · unfold pI
      rw [List.mem_map, List.mem_map]
      constructor
      · rintro ⟨p, hp, rfl⟩
        exact ⟨p, hS.all p (List.mem_range.mp hp), rfl⟩
      · rintro ⟨p, hp, rfl⟩
        exact ⟨p, List.mem_range.mpr (hS.lt p hp), rfl⟩
    · show Q (V.bl (decide (V.int ((pI (List.range n)).length : Nat) = V.int (n : Int)))) H1
      rw [show (pI (List.range n)).length = n by simp [pI], decide_eq_true rfl]
      exact k H1 s1
abbrev n_is_play : List Str := ["thing", "schedule"]
theorem sc_is_play : FnScope ["thing", "schedule"] ["thing", "schedule"] (defScope s_is_play) := ⟨rfl, rfl, rfl, by decide +kernel, rfl, by decide +kernel, by decide +kernel⟩
def sp_is_play (K : PySem.W.Frag) : Sp := fun vs H Q _ => ∃ (a b : Addr) (ps : List Nat) (qs : List Rat) (s : Nat), vs = [.ref a, .ref b] ∧ SqT K H b (pV ps) ∧ qs.length ≤ ps.length ∧ ps.length ≤ 12 ∧ Bids K H a qs.length s qs ∧ ∀ H', Same H H' → Q (.bl true) H'
theorem ok_is_play (F : FnD K mg "is_play" s_is_play) (c_are_numbers : Cal P w K mg base 3 "are_numbers" (sp_are_numbers K) []) (T_isinstance : mg "isinstance" = none) (T_tuple : mg "tuple" = none) (T_len : mg "len" = none) : Cal P w K mg base 4 "is_play" (sp_is_play K) [] := by
  refine calOf F sc_is_play (fun _ _ _ _ _ _ us hl => match us, hl with | [_, _], _ => rfl) (fun vs H Q E h => ?_) (fun cdv f A outer s H vs Q E hr h => ?_)
  · obtain ⟨_, _, _, _, _, rfl, _⟩ := h
    rfl
  · obtain ⟨a, b, ps, qs, sz, rfl, h1, hl, hl2, hB, k⟩ := h
    obtain ⟨us, b1, b2, b3, b4⟩ := id hB
    have ul : us.length = qs.length := RQ.length b2
    refine ⟨_, (pss_one (ps_ret (pe_and (pe_callB call_isi (by rfl) T_isinstance (by decide +kernel) (pa_cons (pv 0) (pa_cons (pe_ty (n := "tuple") (by rfl) T_tuple (by decide +kernel)) pa_nil))) (pe_and (pe_cmpR op_le (pe_callB call_len_seq (by rfl) T_len PySem.boot_len (pa_cons (pv 0) pa_nil)) (pe_callB call_len_seq (by rfl) T_len PySem.boot_len (pa_cons (pv 1) pa_nil)) (nomark _)) (pe_one (pe_c c_are_numbers hr (by first | decide | omega) rfl (pa_cons (pv 0) (pa_cons (pe_callB call_len_seq (by rfl) T_len PySem.boot_len (pa_cons (pv 0) pa_nil)) pa_nil)))))))), ?_⟩
    refine ⟨_, rfl, _, _, _, _, true, rfl, .ty _, tyT b1, kit_ty (by decide +kernel), _, rfl, ?_⟩
    refine ⟨_, rfl, a, _, rfl, .inr b1, _, rfl, b, _, rfl, .inr h1, _, _, rfl, rfl, _, rfl, ite2 (fun _ => ?_) (fun c => absurd (decide_eq_true (by rw [pV_len, ul]; omega)) c)⟩
    exact ⟨_, rfl, _, rfl, a, us, rfl, .inr b1, a, qs.length, sz, qs, by rw [ul]; rfl, hB, by omega, fun H' s => k H' s⟩
abbrev n_need_schedule : List Str := ["rule", "thing"]
theorem sc_need_schedule : FnScope ["rule", "thing"] ["rule", "thing"] (defScope s_need_schedule) := ⟨rfl, rfl, rfl, by decide +kernel, rfl, by decide +kernel, by decide +kernel⟩
def sp_need_schedule (K : PySem.W.Frag) (C : Addr) : Sp := fun vs H Q _ => ∃ (r a : Addr) (n : Nat) (t : Tm) (ps : List Nat), vs = [.ref r, .ref a] ∧ RuleAt K C H r n t ∧ SqT K H a (pV ps) ∧ Sched n ps ∧ ∀ H', Same H H' → Q .non H'
theorem ok_need_schedule {C : Addr} (F : FnD K mg "need_schedule" s_need_schedule) (hc : Cls K C) (n1 : NoAttr K C "people") (c_is_schedule : Cal P w K mg base 4 "is_schedule" (sp_is_schedule K) []) : Cal P w K mg base 5 "need_schedule" (sp_need_schedule K C) [] := by
  refine calOf F sc_need_schedule (fun _ _ _ _ _ _ us hl => match us, hl with | [_, _], _ => rfl) (fun vs H Q E h => ?_) (fun cdv f A outer s H vs Q E hr h => ?_)
  · obtain ⟨_, _, _, _, _, rfl, _⟩ := h
    rfl
  · obtain ⟨r, a, n, t, ps, rfl, ⟨dx, v, hr1, rt⟩, h1, hS, k⟩ := h
    refine ⟨_, (pss_one (ps_if (pt_not (pt_val (pe_c c_is_schedule hr (by first | decide | omega) rfl (pa_cons (pv 1) (pa_cons (pe_fld (pv 0) rfl) pa_nil))))) (pss_one ps_never) pss_nil)), ?_⟩
    exact ⟨_, rfl, _, rfl, r, C, dx, _, _, rfl, hr1, hc, n1, ruleF_people n v, a, n, ps, rfl, h1, hS, fun H1 s1 => ⟨_, rfl, k _ s1⟩⟩
abbrev n_need_play : List Str := ["schedule", "thing"]
theorem sc_need_play : FnScope ["schedule", "thing"] ["schedule", "thing"] (defScope s_need_play) := ⟨rfl, rfl, rfl, by decide +kernel, rfl, by decide +kernel, by decide +kernel⟩
def sp_need_play (K : PySem.W.Frag) : Sp := fun vs H Q _ => ∃ (b a : Addr) (ps : List Nat) (qs : List Rat) (s : Nat), vs = [.ref b, .ref a] ∧ SqT K H b (pV ps) ∧ qs.length ≤ ps.length ∧ ps.length ≤ 12 ∧ Bids K H a qs.length s qs ∧ ∀ H', Same H H' → Q .non H'
theorem ok_need_play (F : FnD K mg "need_play" s_need_play) (c_is_play : Cal P w K mg base 4 "is_play" (sp_is_play K) []) : Cal P w K mg base 5 "need_play" (sp_need_play K) [] := by
  refine calOf F sc_need_play (fun _ _ _ _ _ _ us hl => match us, hl with | [_, _], _ => rfl) (fun vs H Q E h => ?_) (fun cdv f A outer s H vs Q E hr h => ?_)
  · obtain ⟨_, _, _, _, _, rfl, _⟩ := h
    rfl
  · obtain ⟨b, a, ps, qs, sz, rfl, h1, hl, hl2, hB, k⟩ := h
    refine ⟨_, (pss_one (ps_if (pt_not (pt_val (pe_c c_is_play hr (by first | decide | omega) rfl (pa_cons (pv 1) (pa_cons (pv 0) pa_nil))))) (pss_one ps_never) pss_nil)), ?_⟩
    exact ⟨_, rfl, _, rfl, a, b, ps, qs, sz, rfl, h1, hl, hl2, hB, fun H1 s1 => ⟨_, rfl, k _ s1⟩⟩
/-- the bids behind a play -/
def lat : List Rat → List Nat → List Rat → List Rat
  | b, p :: ps, q :: qs => lat (b.set p q) ps qs
  | b, [], _ => b
  | b, _ :: _, [] => b
theorem lat_len : ∀ (b : List Rat) (ps : List Nat) (qs : List Rat), (lat b ps qs).length = b.length
  | b, p :: ps, q :: qs => by rw [lat, lat_len, List.length_set]
  | b, [], _ => by rw [lat]
  | b, _ :: _, [] => by rw [lat]
theorem lat_snoc : ∀ (b : List Rat) (ps : List Nat) (qs : List Rat) (p : Nat) (q : Rat), ps[qs.length]? = some p → lat b ps (qs ++ [q]) = (lat b ps qs).set p q
  | b, p' :: ps, q' :: qs, p, q, h => by
    have h' : ps[qs.length]? = some p := by simpa using h
    show lat (b.set p' q') ps (qs ++ [q]) = _
    rw [lat_snoc _ ps qs p q h']
    rfl
  | b, p' :: ps, [], p, q, h => by
    have e : p' = p := by simpa using h
    subst e
    cases ps <;> rfl
  | b, [], _, _, _, h => by simp at h
theorem lat_ok {s : Nat} : ∀ (b : List Rat) (ps : List Nat) (qs : List Rat), (∀ x ∈ b, NumOk s x) → (∀ x ∈ qs, NumOk s x) → ∀ x ∈ lat b ps qs, NumOk s x
  | b, p :: ps, q :: qs, hb, hq => lat_ok (b.set p q) ps qs (fun x hx => by
      rcases List.mem_or_eq_of_mem_set hx with h | h
      · exact hb x h
      · rw [h]; exact hq q List.mem_cons_self) fun x hx => hq x (List.mem_cons_of_mem _ hx)
  | b, [], _, hb, _ => by rw [lat]; exact hb
  | b, _ :: _, [], hb, _ => by rw [lat]; exact hb
def lat0 (n : Nat) (ps : List Nat) (qs : List Rat) : List Rat := lat (List.replicate n 0) ps qs
theorem rq_reps {H : Hp} {v : V} {q : Rat} (r : RF K H v q) : ∀ n : Nat, RQ K H (List.replicate n v) (List.replicate n q)
  | 0 => .nil
  | n + 1 => .cons r.rp (rq_reps r n)
theorem rq_set {H : Hp} {v : V} {q : Rat} (r : RF K H v q) : ∀ {us : List V} {qs : List Rat} (i : Nat), RQ K H us qs → RQ K H (us.set i v) (qs.set i q)
  | [], [], _, _ => .nil
  | _ :: _, _ :: _, 0, h => by cases h with | cons a b => exact .cons r.rp b
  | _ :: us, _ :: qs, i + 1, h => by cases h with | cons a b => exact .cons a (rq_set r (us := us) (qs := qs) i b)
  | [], _ :: _, _, h => by cases h
  | _ :: _, [], _, h => by cases h
theorem for_zipS {a b : Addr} {xs ys : List V} {g : TG} {tb : TS} {D : Ends} {σ : L2.St} {H : Hp} (hl : ys.length ≤ xs.length) (Pv : Nat → L2.St → Hp → Prop) (h0 : Pv 0 σ H) (hq : ∀ i σ H, Pv i σ H → SqT K H a xs ∧ SqT K H b ys)
    (hs : ∀ (i : Nat) (x y : V) (T : Addr) (σ : L2.St) (H : Hp), xs[i]? = some x → ys[i]? = some y → Pv i σ H → H T = none →
      g (.ref T) σ (upd H T (.tup [x, y])) fun σ2 H2 => tb { D with nx := Pv (i + 1), ct := Pv (i + 1), bk := D.nx } σ2 H2) (hd : ∀ σ H, Pv ys.length σ H → D.nx σ H) :
    ∃ W : Nat → Nat → L2.St → Hp → Prop, (∃ m, W 0 m σ H) ∧ ∀ i m σ H, W i m σ H →
      ((RZ.ItzT K a b).stop i H ∧ D.nx σ H) ∨ ((RZ.ItzT K a b).go i H ∧ ∃ N : L2.St → Hp → Prop, (∀ σ' H', N σ' H' → ∃ m', m' < m ∧ W (i + 1) m' σ' H') ∧
        ∀ v H', (RZ.ItzT K a b).yld i H v H' → g v σ H' fun σ2 H2 => tb { D with nx := N, ct := N, bk := D.nx } σ2 H2) := by
  refine ⟨fun i m σ H => m = ys.length - i ∧ i ≤ ys.length ∧ Pv i σ H, ⟨ys.length, rfl, Nat.zero_le _, h0⟩, ?_⟩
  rintro i m σ H ⟨rfl, hi, z⟩
  obtain ⟨zx, zy⟩ := hq i σ H z
  by_cases c : i < ys.length
  · have ex : xs[i]? = some (xs[i]'(by omega)) := List.getElem?_eq_getElem _
    have ey : ys[i]? = some ys[i] := List.getElem?_eq_getElem c
    refine .inr ⟨⟨xs, ys, _, _, zx, zy, ex, ey⟩, Pv (i + 1), fun σ' H' z' => ⟨ys.length - (i + 1), by omega, rfl, c, z'⟩, fun v H' y => ?_⟩
    obtain ⟨T, x', y', rfl, hT, rfl, f1, f2⟩ := y
    exact hs i x' y' T σ H (f1 xs zx) (f2 ys zy) z hT
  · have e : i = ys.length := by omega
    subst e
    exact .inl ⟨⟨xs, ys, zx, zy, Or.inr (Nat.le_refl _)⟩, hd σ H z⟩
theorem ixN_nat {p n : Nat} (h : p < n) : ixN n (p : Int) = some p := by
  unfold ixN
  rw [if_pos (by omega)]
  rw [Int.toNat_natCast]
  simp [h]
theorem numOk_zero (s : Nat) : NumOk (s + 1) 0 := by
  refine ⟨by decide, by decide, ?_, ?_⟩
  · show (0 : Nat) < 2 ^ (s + 1)
    exact Nat.two_pow_pos _
  · show (1 : Nat) < 2 ^ (s + 1)
    exact Nat.one_lt_two_pow (by omega)
abbrev n_latest_bids : List Str := ["rule", "schedule", "play", "bids", "person", "bid"]
theorem sc_latest_bids : FnScope ["rule", "schedule", "play", "bids", "person", "bid"] ["rule", "schedule", "play"] (defScope s_latest_bids) := ⟨rfl, rfl, rfl, by decide +kernel, rfl, by decide +kernel, by decide +kernel⟩
def sp_latest_bids (K : PySem.W.Frag) (C : Addr) : Sp := fun vs H Q _ => ∃ (r b a : Addr) (n s : Nat) (t : Tm) (ps : List Nat) (qs : List Rat), vs = [.ref r, .ref b, .ref a] ∧ RuleAt K C H r n t ∧ n ≤ 6 ∧ SqT K H b (pV ps) ∧ (∀ p ∈ ps, p < n) ∧ qs.length ≤ ps.length ∧ Bids K H a qs.length s qs ∧
  ∀ (p : Addr) H', Same H H' → Bids K H' p n (s + 1) (lat0 n ps qs) → Q (.ref p) H'
theorem ok_latest_bids {C aZ : Addr} (F : FnD K mg "latest_bids" s_latest_bids) (hc : Cls K C) (n1 : NoAttr K C "people") (g_ZERO : ∃ u, mg "ZERO" = some u ∧ RelV (.ref aZ) u) (z0 : ∀ H, SqT K H aZ [.int 0, .int 1]) (T_zip : mg "zip" = none) (T_tuple : mg "tuple" = none) : Cal P w K mg base 1 "latest_bids" (sp_latest_bids K C) [] := by
  refine calOf F sc_latest_bids (fun _ _ _ _ _ _ us hl => match us, hl with | [_, _, _], _ => rfl) (fun vs H Q E h => ?_) (fun cdv f A outer s H vs Q E hr h => ?_)
  · obtain ⟨_, _, _, _, _, _, _, _, rfl, _⟩ := h
    rfl
  · obtain ⟨r, b, a, n, sz, t, ps, qs, rfl, hR, hn, hb, hp, hl', hB, k⟩ := h
    obtain ⟨dx, v, hr1, rt⟩ := id hR
    obtain ⟨us, b1, b2, b3, b4⟩ := id hB
    have ul : us.length = qs.length := RQ.length b2
    refine ⟨_, (pss_cons (ps_set (i := 3) sc_latest_bids.nd rfl (Or.inl rfl) (pe_op op_rep (pe_lst (pa_cons (pe_gc rfl g_ZERO) pa_nil)) (pe_fld (pv 0) rfl)))
    (pss_cons (ps_for PassesOwn.never rfl (RZ.pi_zipA (by rfl) T_zip (pa_cons (pv 1) (pa_cons (pv 2) pa_nil))) (pg_tup rfl (pgs_cons (pg_name (i := 4) sc_latest_bids.nd rfl (Or.inl rfl)) (pgs_cons (pg_name (i := 5) sc_latest_bids.nd rfl (Or.inl rfl)) pgs_nil))) (pss_one (ps_asg (pv 5) (pg_sub (pv 3) (pv 4) set_list))))
    (pss_one (ps_ret (pe_callTy call_tuple_of (by rfl) T_tuple (by decide +kernel) (pa_cons (pv 3) pa_nil)))))), ?_⟩
    refine ⟨(by show 1 ≤ sizeLine; decide), fun l0 hl0 => ?_⟩
    have s0 := same_new (o := .lst [.ref aZ]) hl0
    refine ⟨_, rfl, r, C, dx, _, _, rfl, s0 _ _ hr1, hc, n1, ruleF_people n v, l0, (n : Int), [.ref aZ], rfl, rfl, upd_same, by omega, by omega, ?_, fun l hl => ?_⟩
    · show 1 * n ≤ sizeLine
      exact Nat.le_of_lt (small1000 (by omega))
    rw [show (List.replicate (n : Int).toNat [V.ref aZ]).flatten = List.replicate n (V.ref aZ) by simp]
    have s1 := same_new (o := .lst (List.replicate n (V.ref aZ))) hl
    have s01 := s0.trans s1
    refine ⟨_, rfl, _, rfl, b, a, pV ps, us, rfl, .inr ⟨(Same.kt s01).sq hb, (Same.kt s01).sq b1, for_zipS (K := K) (a := b) (b := a) (xs := pV ps) (ys := us) (by rw [pV_len, ul]; exact hl') (fun i σ H' => ∃ (zs : List V) (x y : Option V), σ = [some (.ref r), some (.ref b), some (.ref a), some (.ref l), x, y] ∧ H' l = some (.lst zs) ∧ RQ K H' zs (lat0 n ps (qs.take i)) ∧ Same (upd H l0 (.lst [.ref aZ])) H')
      ⟨_, none, none, rfl, upd_same, ?_, s1⟩ (fun i σ H' ⟨_, _, _, _, _, _, e⟩ => ⟨(Same.kt (s0.trans e)).sq hb, (Same.kt (s0.trans e)).sq b1⟩) ?_ ?_⟩⟩
    · have e : lat0 n ps (qs.take 0) = List.replicate n 0 := by
        rw [List.take_zero]
        unfold lat0
        cases ps <;> rfl
      rw [e]
      exact rq_reps (zero_rf (z0 _)) n
    · rintro i x y T σ H' hx hy ⟨zs, _, _, rfl, g1, g2, g3⟩ hT
      obtain ⟨p, hpp, rfl⟩ := pV_get hx
      obtain ⟨q, hq, rq⟩ := b2.getV hy
      have pn := hp p (List.mem_of_getElem? hpp)
      have zl : zs.length = n := by rw [RQ.length g2]; unfold lat0; rw [lat_len, List.length_replicate]
      have sT := same_new (o := .tup [.int (p : Int), y]) hT
      have hlT := sT _ _ g1
      have il : i < qs.length := (List.getElem?_eq_some_iff.mp hq).1
      refine ⟨T, _, rfl, SqT.of upd_same, rfl, _, _, rfl, _, _, rfl, rfl, ?_⟩
      refine ⟨_, rfl, _, rfl, _, rfl, l, zs, (p : Int), p, rfl, rfl, hlT, ixN_nat (by omega), _, _, _, rfl, upd_same, ?_, Same.mut (g3.trans sT) hl⟩
      have e : lat0 n ps (qs.take (i + 1)) = (lat0 n ps (qs.take i)).set p q := by
        rw [take_succ' hq]
        unfold lat0
        refine lat_snoc _ ps (qs.take i) p q ?_
        rw [List.length_take, Nat.min_eq_left (Nat.le_of_lt il)]
        exact hpp
      rw [e]
      have kT := Same.kt ((s0.trans g3).trans sT)
      exact RpAll.mono (KT.updl hlT) (rq_set (rq.mono kT) p (RpAll.mono (Same.kt sT) g2))
    · rintro σ H' ⟨zs, _, _, rfl, g1, g2, g3⟩
      rw [ul, List.take_length] at g2
      refine ⟨_, rfl, l, zs, rfl, .inl ⟨SqL.of g1, fun p hpn => ?_⟩⟩
      have sp := same_new (o := .tup zs) hpn
      refine k p _ ((s0.trans g3).trans sp) ⟨zs, SqT.of upd_same, RpAll.mono (Same.kt sp) g2, by unfold lat0; rw [lat_len, List.length_replicate], ?_⟩
      exact lat_ok _ _ _ (fun x hx => by rw [(List.mem_replicate.mp hx).2]; exact numOk_zero _) fun x hx => (b4 x hx).mono (Nat.le_succ _)
abbrev n_bids_behind : List Str := ["rule", "schedule", "play"]
theorem sc_bids_behind : FnScope ["rule", "schedule", "play"] ["rule", "schedule", "play"] (defScope s_bids_behind) := ⟨rfl, rfl, rfl, by decide +kernel, rfl, by decide +kernel, by decide +kernel⟩
def sp_bids_behind (K : PySem.W.Frag) (C : Addr) : Sp := fun vs H Q _ => ∃ (r b a : Addr) (n s : Nat) (t : Tm) (ps : List Nat) (qs : List Rat), vs = [.ref r, .ref b, .ref a] ∧ RuleAt K C H r n t ∧ n ≤ 6 ∧ SqT K H b (pV ps) ∧ Sched n ps ∧ qs.length ≤ ps.length ∧ Bids K H a qs.length s qs ∧
  ∀ (p : Addr) H', Same H H' → Bids K H' p n (s + 1) (lat0 n ps qs) → Q (.ref p) H'
theorem ok_bids_behind {C : Addr} (F : FnD K mg "bids_behind" s_bids_behind) (c_need_schedule : Cal P w K mg base 5 "need_schedule" (sp_need_schedule K C) []) (c_need_play : Cal P w K mg base 5 "need_play" (sp_need_play K) []) (c_latest_bids : Cal P w K mg base 1 "latest_bids" (sp_latest_bids K C) []) : Cal P w K mg base 6 "bids_behind" (sp_bids_behind K C) [] := by
  refine calOf F sc_bids_behind (fun _ _ _ _ _ _ us hl => match us, hl with | [_, _, _], _ => rfl) (fun vs H Q E h => ?_) (fun cdv f A outer s H vs Q E hr h => ?_)
  · obtain ⟨_, _, _, _, _, _, _, _, rfl, _⟩ := h
    rfl
  · obtain ⟨r, b, a, n, sz, t, ps, qs, rfl, hR, hn, hb, hS, hl, hB, k⟩ := h
    refine ⟨_, (pss_cons (ps_expr (pe_c c_need_schedule hr (by first | decide | omega) rfl (pa_cons (pv 0) (pa_cons (pv 1) pa_nil))))
    (pss_cons (ps_expr (pe_c c_need_play hr (by first | decide | omega) rfl (pa_cons (pv 1) (pa_cons (pv 2) pa_nil))))
    (pss_one (ps_ret (pe_c c_latest_bids hr (by first | decide | omega) rfl (pa_cons (pv 0) (pa_cons (pv 1) (pa_cons (pv 2) pa_nil)))))))), ?_⟩
    refine ⟨_, rfl, _, rfl, r, b, n, t, ps, rfl, hR, hb, hS, fun H1 s1 => ?_⟩
    refine ⟨_, rfl, _, rfl, b, a, ps, qs, sz, rfl, (Same.kt s1).sq hb, hl, hS.len, hB.mono (Same.kt s1), fun H2 s2 => ?_⟩
    have s12 := s1.trans s2
    refine ⟨_, rfl, _, rfl, _, rfl, r, b, a, n, sz, t, ps, qs, rfl, hR.same s12, hn, (Same.kt s12).sq hb, hS.lt, hl, hB.mono (Same.kt s12), fun p H3 s3 h3 => ?_⟩
    exact k p H3 (s12.trans s3) h3
abbrev n__law_bids : List Str := ["_law_people", "_law_schedule_here", "_law_play", "_law_found", "_law_turn"]
theorem sc__law_bids : FnScope ["_law_people", "_law_schedule_here", "_law_play", "_law_found", "_law_turn"] ["_law_people", "_law_schedule_here", "_law_play"] (defScope s__law_bids) := ⟨rfl, rfl, rfl, by decide +kernel, rfl, by decide +kernel, by decide +kernel⟩
def sp__law_bids (K : PySem.W.Frag) : Sp := fun vs H Q _ => ∃ (b a : Addr) (n s : Nat) (ps : List Nat) (qs : List Rat), vs = [.int (n : Int), .ref b, .ref a] ∧ n ≤ 6 ∧ SqT K H b (pV ps) ∧ (∀ p ∈ ps, p < n) ∧ qs.length ≤ ps.length ∧ ps.length ≤ 12 ∧ Bids K H a qs.length s qs ∧
  ∀ (p : Addr) H', Same H H' → Bids K H' p n (s + 1) (lat0 n ps qs) → Q (.ref p) H'
theorem ok__law_bids (F : FnD K mg "_law_bids" s__law_bids) (T_len : mg "len" = none) (T_range : mg "range" = none) (T_tuple : mg "tuple" = none) : Cal P w K mg base 1 "_law_bids" (sp__law_bids K) [] := by
  refine calOf F sc__law_bids (fun _ _ _ _ _ _ us hl => match us, hl with | [_, _, _], _ => rfl) (fun vs H Q E h => ?_) (fun cdv f A outer s H vs Q E hr h => ?_)
  · obtain ⟨_, _, _, _, _, _, rfl, _⟩ := h
    rfl
  · obtain ⟨b, a, n, sz, ps, qs, rfl, hn, hb, hp, hl', hl12, hB, k⟩ := h
    obtain ⟨us, b1, b2, b3, b4⟩ := id hB
    have ul : us.length = qs.length := RQ.length b2
    refine ⟨_, (pss_cons (ps_set (i := 3) sc__law_bids.nd rfl (Or.inl rfl) (pe_op op_rep (pe_lst (pa_cons (pe_tup (pa_cons pe_int (pa_cons pe_int pa_nil))) pa_nil)) (pv 0)))
    (pss_cons (ps_for PassesOwn.never rfl (pi_range1 (by rfl) T_range (pa_cons (pe_callB call_len_seq (by rfl) T_len PySem.boot_len (pa_cons (pv 2) pa_nil)) pa_nil)) (pg_name (i := 4) sc__law_bids.nd rfl (Or.inl rfl)) (pss_one (ps_asg (pe_ix ix_tup (pv 2) (pv 4) (fun _ _ => rfl)) (pg_sub (pv 3) (pe_ix ix_tup (pv 1) (pv 4) (fun _ _ => rfl)) set_list))))
    (pss_one (ps_ret (pe_callTy call_tuple_of (by rfl) T_tuple (by decide +kernel) (pa_cons (pv 3) pa_nil)))))), ?_⟩
    refine ⟨(by show 2 ≤ sizeLine; decide), fun z0 hz0 => ⟨(by show 1 ≤ sizeLine; decide), fun l0 hl0 => ?_⟩⟩
    have sz0 := same_new (o := .tup [.int 0, .int 1]) hz0
    have sl0 := same_new (o := .lst [.ref z0]) hl0
    have s0 := sz0.trans sl0
    refine ⟨_, rfl, l0, (n : Int), [.ref z0], rfl, rfl, upd_same, by omega, by omega, ?_, fun l hl => ?_⟩
    · show 1 * n ≤ sizeLine
      exact Nat.le_of_lt (small1000 (by omega))
    rw [show (List.replicate (n : Int).toNat [V.ref z0]).flatten = List.replicate n (V.ref z0) by simp]
    have s1 := same_new (o := .lst (List.replicate n (V.ref z0))) hl
    have s01 := s0.trans s1
    refine ⟨_, rfl, a, us, rfl, .inr ((Same.kt s01).sq b1), ?_⟩
    refine ⟨(us.length : Int), rfl, by omega, by omega, ?_⟩
    refine for_range (lo := 0) (n := ((us.length : Nat) : Int).toNat) (fun i σ H' => ∃ (zs : List V) (x : Option V), σ = [some (.int (n : Int)), some (.ref b), some (.ref a), some (.ref l), x] ∧ H' l = some (.lst zs) ∧ RQ K H' zs (lat0 n ps (qs.take i)) ∧ Same (upd (upd H z0 (.tup [.int 0, .int 1])) l0 (.lst [.ref z0])) H')
      ⟨_, none, rfl, upd_same, ?_, s1⟩ ?_ ?_
    · have e : lat0 n ps (qs.take 0) = List.replicate n 0 := by
        rw [List.take_zero]
        unfold lat0
        cases ps <;> rfl
      rw [e]
      exact rq_reps (zero_rf ((Same.kt (sl0.trans s1)).sq (SqT.of upd_same))) n
    · rintro i σ H' hi ⟨zs, _, rfl, g1, g2, g3⟩
      have il : i < qs.length := by omega
      obtain ⟨y, hy, rq⟩ := RQ.get b2 (List.getElem?_eq_getElem il)
      obtain ⟨p, hpp⟩ : ∃ p, ps[i]? = some p := ⟨_, List.getElem?_eq_getElem (by omega)⟩
      have pn := hp p (List.mem_of_getElem? hpp)
      have zl : zs.length = n := by rw [RQ.length g2]; unfold lat0; rw [lat_len, List.length_replicate]
      have kT := Same.kt (s0.trans g3)
      have ei : (0 : Int) + ((i : Nat) : Int) = ((i : Nat) : Int) := Int.zero_add _
      refine ⟨_, rfl, _, rfl, a, us, _, y, rfl, rfl, kT.sq b1, at_of (j := i) ei hy, _, rfl, _, rfl, _, rfl, b, pV ps, _, _, rfl, rfl, kT.sq hb, at_of (j := i) ei (pV_at hpp), l, zs, (p : Int), p, rfl, rfl, g1, ixN_nat (by omega), _, _, rfl, upd_same, ?_, Same.mut g3 hl⟩
      have hq : qs[i]? = some qs[i] := List.getElem?_eq_getElem il
      have e : lat0 n ps (qs.take (i + 1)) = (lat0 n ps (qs.take i)).set p qs[i] := by
        rw [take_succ' hq]
        unfold lat0
        refine lat_snoc _ ps (qs.take i) p _ ?_
        rw [List.length_take, Nat.min_eq_left (Nat.le_of_lt il)]
        exact hpp
      rw [e]
      exact RpAll.mono (KT.updl g1) (rq_set (rq.mono kT) p g2)
    · rintro σ H' ⟨zs, _, rfl, g1, g2, g3⟩
      rw [Int.toNat_natCast, ul, List.take_length] at g2
      refine ⟨_, rfl, l, zs, rfl, .inl ⟨SqL.of g1, fun p hpn => ?_⟩⟩
      have sp := same_new (o := .tup zs) hpn
      refine k p _ ((s0.trans g3).trans sp) ⟨zs, SqT.of upd_same, RpAll.mono (Same.kt sp) g2, by unfold lat0; rw [lat_len, List.length_replicate], ?_⟩
      exact lat_ok _ _ _ (fun x hx => by rw [(List.mem_replicate.mp hx).2]; exact numOk_zero _) fun x hx => (b4 x hx).mono (Nat.le_succ _)
abbrev n__law_schedule : List Str := ["_law_dice_here", "_law_people", "_law_found", "_law_person", "_law_turn"]
theorem sc__law_schedule : FnScope ["_law_dice_here", "_law_people", "_law_found", "_law_person", "_law_turn"] ["_law_dice_here", "_law_people"] (defScope s__law_schedule) := ⟨rfl, rfl, rfl, by decide +kernel, rfl, by decide +kernel, by decide +kernel⟩
def sp__law_schedule (K : PySem.W.Frag) : Sp := fun vs H Q _ => ∃ (da : Addr × Addr) (n : Nat), vs = [.ref da.1, .int (n : Int)] ∧ Dice H da ∧ 1 ≤ n ∧ n ≤ 6 ∧
  ∀ (p : Addr) (ps : List Nat) (H' : Hp), SqT K H' p (pV ps) → Sched n ps → Dice H' da → KD da.1 H H' → Q (.ref p) H'
theorem pV_ins {ps : List Nat} (i p : Nat) : pV (ps.take i ++ [p] ++ ps.drop i) = (pV ps).take i ++ [.int (p : Int)] ++ (pV ps).drop i := by
  simp [pV, pI]
theorem ins_mem {ps : List Nat} {i p x : Nat} : x ∈ ps.take i ++ [p] ++ ps.drop i ↔ x = p ∨ x ∈ ps := by
  have e : x ∈ ps ↔ x ∈ ps.take i ∨ x ∈ ps.drop i := by
    rw [← List.mem_append, List.take_append_drop]
  rw [e]
  simp only [List.mem_append, List.mem_singleton]
  constructor
  · rintro ((h | h) | h)
    · exact .inr (.inl h)
    · exact .inl h
    · exact .inr (.inr h)
  · rintro (h | h | h)
    · exact .inl (.inr h)
    · exact .inl (.inl h)
    · exact .inr h
theorem ins_len {ps : List Nat} {i p : Nat} : (ps.take i ++ [p] ++ ps.drop i).length = ps.length + 1 := by
  simp only [List.length_append, List.length_take, List.length_drop, List.length_singleton]
  omega
theorem ok__law_schedule (F : FnD K mg "_law_schedule" s__law_schedule) (c__law_draw : Cal P w K mg base 1 "_law_draw" sp__law_draw []) (T_len : mg "len" = none) (T_range : mg "range" = none) (T_tuple : mg "tuple" = none) (T_min : mg "min" = none) : Cal P w K mg base 2 "_law_schedule" (sp__law_schedule K) [] := by
  refine calOf F sc__law_schedule (fun _ _ _ _ _ _ us hl => match us, hl with | [_, _], _ => rfl) (fun vs H Q E h => ?_) (fun cdv f A outer s H vs Q E hr h => ?_)
  · obtain ⟨_, _, rfl, _⟩ := h
    rfl
  · obtain ⟨da, n, rfl, hd, hn1, hn6, k⟩ := h
    refine ⟨_, (pss_cons (ps_set (i := 2) sc__law_schedule.nd rfl (Or.inl rfl) (pe_lst pa_nil))
    (pss_cons (ps_for PassesOwn.never rfl (pi_range1 (by rfl) T_range (pa_cons (pv 1) pa_nil)) (pg_name (i := 3) sc__law_schedule.nd rfl (Or.inl rfl)) (pss_one (ps_expr (pe_bm PySem.F.plainAttrs_list PySem.F.slot_list_insert PySem.F.type_list_insert mt_insert (pv 2) (pa_cons (pe_c c__law_draw hr (by first | decide | omega) rfl (pa_cons (pv 0) (pa_cons (pe_op op_add (pv 3) pe_int) pa_nil))) (pa_cons (pv 3) pa_nil))))))
    (pss_cons (ps_for PassesOwn.never rfl (pi_range1 (by rfl) T_range (pa_cons (pe_c c__law_draw hr (by first | decide | omega) rfl (pa_cons (pv 0) (pa_cons (pe_op op_add pe_int (pe_callB (call_min2 rfl) (by rfl) T_min (by decide +kernel) (pa_cons pe_int (pa_cons (pe_op op_sub pe_int (pv 1)) pa_nil)))) pa_nil))) pa_nil)) (pg_name (i := 4) sc__law_schedule.nd rfl (Or.inl rfl)) (pss_one (ps_expr (pe_bm PySem.F.plainAttrs_list PySem.F.slot_list_insert PySem.F.type_list_insert mt_insert (pv 2) (pa_cons (pe_c c__law_draw hr (by first | decide | omega) rfl (pa_cons (pv 0) (pa_cons (pe_op op_add (pe_callB call_len_seq (by rfl) T_len PySem.boot_len (pa_cons (pv 2) pa_nil)) pe_int) pa_nil))) (pa_cons (pe_c c__law_draw hr (by first | decide | omega) rfl (pa_cons (pv 0) (pa_cons (pv 1) pa_nil))) pa_nil))))))
    (pss_one (ps_ret (pe_callTy call_tuple_of (by rfl) T_tuple (by decide +kernel) (pa_cons (pv 2) pa_nil))))))), ?_⟩
    refine ⟨Nat.zero_le _, fun l hl => ?_⟩
    have s0 := same_new (o := .lst []) hl
    have nl := hd.ne hl
    refine ⟨_, rfl, (n : Int), rfl, by omega, by omega, ?_⟩
    refine for_range (lo := 0) (n := (n : Int).toNat) (fun i σ H' => ∃ (ps : List Nat) (x y : Option V), σ = [some (.ref da.1), some (.int (n : Int)), some (.ref l), x, y] ∧ H' l = some (.lst (pV ps)) ∧ ps.length = i ∧ (∀ p, p ∈ ps ↔ p < i) ∧ Dice H' da ∧ KD da.1 H H')
      ⟨[], none, none, rfl, upd_same, rfl, by simp, hd.same s0, Same.kd s0⟩ ?_ ?_
    · rintro i σ H' hi ⟨ps, _, y, rfl, g1, g2, g3, g4, g5⟩
      have ei : (0 : Int) + ((i : Nat) : Int) = ((i : Nat) : Int) := Int.zero_add _
      refine ⟨_, rfl, .inl ⟨rfl, _, SqL.of g1⟩, ?_⟩
      refine ⟨_, rfl, _, rfl, _, _, rfl, rfl, da, (0 + ((i : Nat) : Int)) + 1, rfl, g4, by omega, by omega, fun z H2 z0 z1 d2 e2 => ?_⟩
      have hl2 := e2 l _ nl.1 g1
      have hv : pV (ps.take z.toNat ++ [i] ++ ps.drop z.toNat) = (pV ps).take z.toNat ++ [V.int (0 + ((i : Nat) : Int))] ++ (pV ps).drop z.toNat := by rw [pV_ins, ei]
      refine ⟨_, rfl, l, pV ps, z, _, rfl, rfl, hl2, by rw [pV_len]; exact small1000 (by omega), z0, by omega, ps.take z.toNat ++ [i] ++ ps.drop z.toNat, _, _, rfl, by rw [hv]; exact upd_same, by rw [ins_len, g2], fun p => by rw [ins_mem, g3]; omega, d2.upd nl, (g5.trans e2).mut hl⟩
    · rintro σ H' ⟨ps, _, y, rfl, g1, g2, g3, g4, g5⟩
      have en : ((n : Nat) : Int).toNat = n := Int.toNat_natCast n
      rw [en] at g2 g3
      refine ⟨_, rfl, _, rfl, _, _, rfl, rfl, (6 : Int), (12 : Int) - (n : Int), rfl, ?_⟩
      refine ⟨_, _, rfl, rfl, da, 1 + (if (12 : Int) - (n : Int) < 6 then (12 : Int) - (n : Int) else 6), rfl, g4, by split <;> omega, by split <;> omega, fun m H2 m0 m1 d2 e2 => ?_⟩
      have hl2 := e2 l _ nl.1 g1
      have mb : m ≤ 6 ∧ m + (n : Int) ≤ 12 := by
        revert m1
        split <;> intro m1 <;> omega
      refine ⟨m, rfl, by omega, by omega, ?_⟩
      refine for_range (lo := 0) (n := m.toNat) (fun i σ H' => ∃ (ps : List Nat) (x y : Option V), σ = [some (.ref da.1), some (.int (n : Int)), some (.ref l), x, y] ∧ H' l = some (.lst (pV ps)) ∧ ps.length = n + i ∧ (∀ p ∈ ps, p < n) ∧ (∀ p, p < n → p ∈ ps) ∧ Dice H' da ∧ KD da.1 H H')
        ⟨ps, _, y, rfl, hl2, by rw [g2]; omega, fun p hp => (g3 p).mp hp, fun p hp => (g3 p).mpr hp, d2, g5.trans e2⟩ ?_ ?_
      · rintro i σ H3 hi ⟨qs, x3, _, rfl, f1, f2, f3, f4, f5, f6⟩
        refine ⟨_, rfl, .inl ⟨rfl, _, SqL.of f1⟩, ?_⟩
        have pl := pV_len qs
        refine ⟨_, rfl, _, rfl, l, pV qs, rfl, .inl (SqL.of f1), _, _, rfl, rfl, da, ((pV qs).length : Int) + 1, rfl, f5, by omega, by omega, fun z H4 z0 z1 d4 e4 => ?_⟩
        refine ⟨_, rfl, _, rfl, da, (n : Int), rfl, d4, by omega, by omega, fun z5 H5 y0 y1 d5 e5 => ?_⟩
        obtain ⟨p, rfl⟩ : ∃ p : Nat, z5 = (p : Int) := ⟨z5.toNat, (Int.toNat_of_nonneg y0).symm⟩
        have hl5 := e5 l _ nl.1 (e4 l _ nl.1 f1)
        have hv := pV_ins (ps := qs) z.toNat p
        refine ⟨l, pV qs, z, _, rfl, rfl, hl5, by rw [pl]; exact small1000 (by omega), z0, by omega, qs.take z.toNat ++ [p] ++ qs.drop z.toNat, _, _, rfl, by rw [hv]; exact upd_same, by rw [ins_len, f2]; omega, fun x hx => ?_, fun x hx => ins_mem.mpr (.inr (f4 x hx)), d5.upd nl, ((f6.trans e4).trans e5).mut hl⟩
        rcases ins_mem.mp hx with h | h
        · omega
        · exact f3 x h
      · rintro σ H3 ⟨qs, x3, _, rfl, f1, f2, f3, f4, f5, f6⟩
        refine ⟨_, rfl, l, pV qs, rfl, .inl ⟨SqL.of f1, fun p hp => ?_⟩⟩
        have sp := same_new (o := .tup (pV qs)) hp
        exact k p qs _ (SqT.of upd_same) ⟨f3, by omega, f4⟩ (f5.same sp) (f6.trans (Same.kd sp))
end
end CB

set_option Elab.async false
set_option linter.all false
set_option maxRecDepth 100000
set_option maxHeartbeats 4000000
namespace CB
open PySem PySem.Spec PyProof.Rows L2
open C8 (Cal Met Mak pe_c pe_mk pe_mt pe_mt0 pe_gc CalAt)
section
variable {P : Program} {w : World} {K : PySem.W.Frag} {mg : Str → Option Value} {base : Heap}
abbrev n_law : List Str := ["_law_script", "_law_dice_here", "_law_turn", "_law_people", "_law_term_here", "_law_rule", "_law_schedule_here", "_law_play", "_law_ahead", "_law_many", "_law_told", "_law_speaker"]
theorem sc_law : FnScope ["_law_script", "_law_dice_here", "_law_turn", "_law_people", "_law_term_here", "_law_rule", "_law_schedule_here", "_law_play", "_law_ahead", "_law_many", "_law_told", "_law_speaker"] ["_law_script"] (defScope s_law) := ⟨rfl, rfl, rfl, by decide +kernel, rfl, by decide +kernel, by decide +kernel⟩
def sp_law (K : PySem.W.Frag) : Sp := fun vs H Q _ => ∃ (a : Addr) (ns : List Int), vs = [.ref a] ∧ SqL K H a (ns.map V.int) ∧ ∀ H', Q (.bl true) H'
theorem RuleAt.kd {C : Addr} {H H' : Hp} {r : Addr} {n : Nat} {t : Tm} {da : Addr × Addr} (h : RuleAt K C H r n t) (d : Dice H da) (e : KD da.1 H H') : RuleAt K C H' r n t := by
  obtain ⟨dx, v, h1, h2⟩ := h
  obtain ⟨xs, hx⟩ := d.lst
  exact ⟨dx, v, e _ _ (ne_of h1 hx (by intro z; cases z)) h1, h2.mono (d.kt e)⟩
theorem bids_of {H : Hp} {v : V} {qs : List Rat} {n s : Nat} (h : Rp K H v (.tuple (qs.map qd))) (hl : qs.length = n) (hq : ∀ q ∈ qs, NumOk s q) : ∃ a, v = .ref a ∧ Bids K H a n s qs := by
  obtain ⟨a, us, rfl, h1, h2⟩ := h.tupI
  exact ⟨a, rfl, us, h1, h2, hl, hq⟩
theorem Bids.rp {H : Hp} {a : Addr} {n s : Nat} {qs : List Rat} (h : Bids K H a n s qs) : Rp K H (.ref a) (.tuple (qs.map qd)) := by
  obtain ⟨us, h1, h2, _, _⟩ := h
  exact .tup h1 h2
theorem qds_lay : ∀ l : List Rat, PyData.canLayAll0 (l.map qd) = true
  | [] => by simp [PyData.canLayAll0]
  | q :: l => by
    show PyData.canLayAll0 (qd q :: l.map qd) = true
    simp only [PyData.canLayAll0, Bool.and_eq_true]
    exact ⟨qd_lay q, qds_lay l⟩
theorem qds_depth : ∀ l : List Rat, PyData.depthAll (l.map qd) ≤ 3
  | [] => by simp [PyData.depthAll]
  | q :: l => by
    have h1 := qd_depth q
    have h2 := qds_depth l
    show PyData.depthAll (qd q :: l.map qd) ≤ 3
    simp only [PyData.depthAll]
    omega
theorem tup_lay (l : List Rat) : (PyData.tuple (l.map qd)).canLay0 = true := by
  simp only [PyData.canLay0]
  exact qds_lay l
theorem tup_shaped (l : List Rat) : SeqAt.shaped (.tuple (l.map qd)) = true := by
  unfold SeqAt.shaped
  have := qds_depth l
  rw [tup_lay, Bool.true_and]
  simp only [PyData.depth]
  exact decide_eq_true (by omega)
theorem tup_ne (l : List Rat) : (!PyData.eqv (.tuple (l.map qd)) (.tuple (l.map qd))) = false := by rw [SeqAt.eqv_refl _ (tup_lay l)]; rfl
theorem cut_take {xs : List V} {m : Nat} (h : m ≤ xs.length) : cutV xs none (some (m : Int)) = xs.take m := by
  unfold cutV
  rw [HT.sIx_none, HT.sIx_nat, Nat.min_eq_left h, List.drop_zero, Nat.sub_zero]
theorem cut_drop {xs : List V} {m : Nat} (h : m ≤ xs.length) : cutV xs (some (m : Int)) none = xs.drop m := by
  unfold cutV
  rw [HT.sIx_none, HT.sIx_nat, Nat.min_eq_left h]
  exact List.take_of_length_le (by rw [List.length_drop]; omega)
theorem slA_take {a : Addr} {xs : List V} {m : Nat} {H : Hp} {Q : VK} (h : SqT K H a xs) (hm : m ≤ xs.length) (q : ∀ p H', Same H H' → SqT K H' p (xs.take m) → Q (.ref p) H') : rSlA K (.ref a) none (some (m : Int)) H Q := by
  refine ⟨a, xs, rfl, h, fun z => ?_, fun _ p hp => ?_⟩
  · have z2 := z.2
    rw [HT.sIx_nat, Nat.min_eq_left hm] at z2
    exact q a H (Same.refl H) (by rw [z2, List.take_length]; exact h)
  · rw [cut_take hm]
    exact q p _ (same_new hp) (SqT.of upd_same)
theorem slT_take {a : Addr} {xs : List V} {m : Nat} {H : Hp} {Q : VK} (h : SqT K H a xs) (hm : m < xs.length) (q : ∀ p H', Same H H' → SqT K H' p (xs.take m) → Q (.ref p) H') : rSlT K (.ref a) none (some (m : Int)) H Q := by
  refine ⟨a, xs, rfl, h, fun z => ?_, fun p hp => ?_⟩
  · have z2 := z.2
    rw [HT.sIx_nat, Nat.min_eq_left (Nat.le_of_lt hm)] at z2
    omega
  · rw [cut_take (Nat.le_of_lt hm)]
    exact q p _ (same_new hp) (SqT.of upd_same)
theorem slT_drop {a : Addr} {xs : List V} {m : Nat} {H : Hp} {Q : VK} (h : SqT K H a xs) (h0 : 0 < m) (hm : m ≤ xs.length) (q : ∀ p H', Same H H' → SqT K H' p (xs.drop m) → Q (.ref p) H') : rSlT K (.ref a) (some (m : Int)) none H Q := by
  refine ⟨a, xs, rfl, h, fun z => ?_, fun p hp => ?_⟩
  · have z2 := z.1
    rw [HT.sIx_nat, Nat.min_eq_left hm] at z2
    omega
  · rw [cut_drop hm]
    exact q p _ (same_new hp) (SqT.of upd_same)
theorem catA_ok {a b : Addr} {xs ys : List V} {H : Hp} {Q : VK} (ha : SqT K H a xs) (hb : SqT K H b ys) (hl : xs.length + ys.length < 1000) (q : ∀ p H', Same H H' → SqT K H' p (xs ++ ys) → Q (.ref p) H') : rCatA K (.ref a) (.ref b) H Q := by
  refine ⟨a, b, xs, ys, rfl, rfl, ha, hb, Nat.le_of_lt (small1000 (by omega)), fun e => ?_, fun _ e => ?_, fun _ _ p hp => q p _ (same_new hp) (SqT.of upd_same)⟩
  · exact q b H (Same.refl H) (by rw [e]; exact hb)
  · exact q a H (Same.refl H) (by rw [e, List.append_nil]; exact ha)
theorem repN_ok {a : Addr} {v : V} {n : Nat} {H : Hp} {Q : VK} (h : SqT K H a [v]) (h1 : 1 ≤ n) (h6 : n ≤ 6) (q : ∀ p H', Same H H' → SqT K H' p (List.replicate n v) → Q (.ref p) H') : rRepN K (.ref a) (.int (n : Int)) H Q := by
  refine ⟨a, n, [v], rfl, rfl, h, by simp, h1, by omega, by show 1 ≤ 1000; decide, fun e => ?_, fun _ p hp => ?_⟩
  · exact q a H (Same.refl H) (by rw [e]; exact h)
  · rw [show (List.replicate n [v]).flatten = List.replicate n v by simp]
    exact q p _ (same_new hp) (SqT.of upd_same)
theorem lat0_nil (n : Nat) (ps : List Nat) : lat0 n ps [] = List.replicate n 0 := by
  unfold lat0
  cases ps <;> rfl
theorem ok_law {C fa : Addr} {fd : FuncData} (F : FunD K "law" "law" (defArgs s_law) (defBody s_law) (defScope s_law) [] [] fa fd) (c__law_dice : Cal P w K mg base 1 "_law_dice" (sp__law_dice K) []) (c__law_rule_parts : Cal P w K mg base 9 "_law_rule_parts" (sp__law_rule_parts K) []) (c_Rule : Mak P w K mg base 6 "Rule" C (sp_Rule K C) [])
    (c__law_numbers : Cal P w K mg base 3 "_law_numbers" (sp__law_numbers K) []) (c__law_schedule : Cal P w K mg base 2 "_law_schedule" (sp__law_schedule K) []) (c_bids_behind : Cal P w K mg base 6 "bids_behind" (sp_bids_behind K C) []) (c__law_bids : Cal P w K mg base 1 "_law_bids" (sp__law_bids K) [])
    (T_range : mg "range" = none) (T_tuple : mg "tuple" = none) (T_len : mg "len" = none) (T_isinstance : mg "isinstance" = none) : FnOk P w K mg base C8.CX0 12 fa fd ["_law_script"] (sp_law K) := by
  refine fnOkOf F sc_law (fun vs H Q E h => ?_) (fun cdv f A outer s H vs Q E hr h => ?_)
  · obtain ⟨_, _, rfl, _⟩ := h
    rfl
  · obtain ⟨a0, ns, rfl, hS, k⟩ := h
    refine ⟨_, (pss_cons (ps_set (i := 1) sc_law.nd rfl (Or.inl rfl) (pe_c c__law_dice hr (by first | decide | omega) rfl (pa_cons (pv 0) pa_nil)))
    (pss_cons (ps_for PassesOwn.never rfl (pi_range1 (by rfl) T_range (pa_cons pe_int pa_nil)) (pg_name (i := 2) sc_law.nd rfl (Or.inl rfl)) (pss_cons (ps_asg (pe_c c__law_rule_parts hr (by first | decide | omega) rfl (pa_cons (pv 1) (pa_cons pe_int pa_nil))) (pg_tup rfl (pgs_cons (pg_name (i := 3) sc_law.nd rfl (Or.inl rfl)) (pgs_cons (pg_name (i := 4) sc_law.nd rfl (Or.inl rfl)) pgs_nil))))
    (pss_cons (ps_set (i := 5) sc_law.nd rfl (Or.inl rfl) (pe_mk c_Rule hr (by first | decide | omega) rfl (pa_cons (pv 3) (pa_cons (pv 4) pa_nil))))
    (pss_cons (ps_set (i := 6) sc_law.nd rfl (Or.inl rfl) (pe_c c__law_schedule hr (by first | decide | omega) rfl (pa_cons (pv 1) (pa_cons (pv 3) pa_nil))))
    (pss_cons (ps_set (i := 7) sc_law.nd rfl (Or.inl rfl) (pe_c c__law_numbers hr (by first | decide | omega) rfl (pa_cons (pv 1) (pa_cons (pe_callB call_len_seq (by rfl) T_len PySem.boot_len (pa_cons (pv 6) pa_nil)) pa_nil))))
    (pss_cons (ps_set (i := 8) sc_law.nd rfl (Or.inl rfl) (pe_c c_bids_behind hr (by first | decide | omega) rfl (pa_cons (pv 5) (pa_cons (pv 6) (pa_cons (pe_tup pa_nil) pa_nil)))))
    (pss_cons (ps_if (pt_cmpR (op_neD hr.units) (pv 8) (pe_op op_repN (pe_tup (pa_cons (pe_tup (pa_cons pe_int (pa_cons pe_int pa_nil))) pa_nil)) (pv 3)) (nomark _)) (pss_one (ps_ret pe_bl)) pss_nil)
    (pss_cons (ps_for PassesOwn.never rfl (pi_range2 (by rfl) T_range (pa_cons pe_int (pa_cons (pe_op op_add (pe_callB call_len_seq (by rfl) T_len PySem.boot_len (pa_cons (pv 6) pa_nil)) pe_int) pa_nil))) (pg_name (i := 9) sc_law.nd rfl (Or.inl rfl)) (pss_cons (ps_set (i := 10) sc_law.nd rfl (Or.inl rfl) (pe_c c_bids_behind hr (by first | decide | omega) rfl (pa_cons (pv 5) (pa_cons (pv 6) (pa_cons (pe_slice sl_tupA (pv 7) po_none (po_some (pv 9))) pa_nil)))))
    (pss_cons (ps_if (PW.pt (pw_or (pt_not (pt_val (pe_callB call_isi (by rfl) T_isinstance (by decide +kernel) (pa_cons (pv 10) (pa_cons (pe_ty (n := "tuple") (by rfl) T_tuple (by decide +kernel)) pa_nil))))) (pw_or1 (pt_cmpR (op_neD hr.units) (pv 10) (pe_c c__law_bids hr (by first | decide | omega) rfl (pa_cons (pv 3) (pa_cons (pv 6) (pa_cons (pe_slice sl_tupA (pv 7) po_none (po_some (pv 9))) pa_nil)))) (nomark _))))) (pss_one (ps_ret pe_bl)) pss_nil)
    (pss_cons (ps_set (i := 11) sc_law.nd rfl (Or.inl rfl) (pe_ix ix_tup (pv 6) (pe_op op_sub (pv 9) pe_int) (fun _ _ => rfl)))
    (pss_cons (ps_if (pt_cmpR (op_neD hr.units) (pv 10) (pe_op op_catA (pe_op op_catA (pe_slice sl_tup (pv 8) po_none (po_some (pv 11))) (pe_tup (pa_cons (pe_ix ix_tup (pv 7) (pe_op op_sub (pv 9) pe_int) (fun _ _ => rfl)) pa_nil))) (pe_slice sl_tup (pv 8) (po_some (pe_op op_add (pv 11) pe_int)) po_none)) (nomark _)) (pss_one (ps_ret pe_bl)) pss_nil)
    (pss_one (ps_set (i := 8) sc_law.nd rfl (Or.inl rfl) (pv 10))))))))
    (pss_one (ps_if (pt_cmpR (op_neD hr.units) (pe_c c_bids_behind hr (by first | decide | omega) rfl (pa_cons (pv 5) (pa_cons (pv 6) (pa_cons (pv 7) pa_nil)))) (pv 8) (nomark _)) (pss_one (ps_ret pe_bl)) pss_nil))))))))))
    (pss_one (ps_ret pe_bl)))), ?_⟩
    refine ⟨_, rfl, a0, ns, rfl, hS, fun da H1 _ s1 d1 => ?_⟩
    refine ⟨4, rfl, by decide, by decide, ?_⟩
    refine for_range (lo := 0) (n := (4 : Int).toNat) (fun i σ H' => ∃ x1 x2 x3 x4 x5 x6 x7 x8 x9 xa : Option V, σ = [some (.ref a0), some (.ref da.1), x1, x2, x3, x4, x5, x6, x7, x8, x9, xa] ∧ Dice H' da)
      ⟨none, none, none, none, none, none, none, none, none, none, rfl, d1⟩ ?_ ?_
    · rintro i σ H2 hi ⟨_, _, _, _, y5, y6, y7, y8, y9, ya, rfl, d2⟩
      refine ⟨_, rfl, da, 6, rfl, d2, by omega, by omega, fun v0 n t H3 hn1 hn6 rv rt d3 e3 => ?_⟩
      obtain ⟨ap0, x, y, rfl, hap, r1, r2⟩ := rp2 rv
      have ex := r1.intI
      subst ex
      refine ⟨ap0, _, rfl, hap, rfl, _, _, rfl, _, _, rfl, rfl, ?_⟩
      refine ⟨_, rfl, _, rfl, fun rr dx nx ndx nex => ?_⟩
      have s4 : Same H3 (upd (upd H3 dx (.own rr)) rr (.ins C dx [])) := (same_new ndx).trans (same_new (by rw [upd_ne (Ne.symm nex)]; exact nx))
      refine ⟨rr, dx, y, n, 20, t, rfl, upd_same, r2.mono (Same.kt s4), rt.ok, by omega, rt.dep, rt.cnt, hn1, hn6, fun H5 k5 hR5 => ⟨rfl, ?_⟩⟩
      have s5 : Same H3 H5 := fun b o e => k5 b o (ne_of_none e nx) (s4 b o e)
      have d5 := d3.same s5
      have R5 : RuleAt K C H5 rr n t := ⟨dx, y, hR5, r2.mono (Same.kt s5)⟩
      refine ⟨_, rfl, _, rfl, da, n, rfl, d5, hn1, hn6, fun b ps H6 hb6 hS6 d6 e6 => ?_⟩
      have R6 := R5.kd d5 e6
      have pl := hS6.len
      refine ⟨_, rfl, _, rfl, b, pV ps, rfl, .inr hb6, da, ps.length, by rw [pV_len]; rfl, d6, by omega, fun vp qs H7 hq1 hq2 rb d7 e7 => ?_⟩
      have R7 := R6.kd d6 e7
      have hb7 := (d6.kt e7).sq hb6
      obtain ⟨ap, rfl, hB7⟩ := bids_of rb hq1 hq2
      refine ⟨_, rfl, _, rfl, Nat.zero_le _, fun pe hpe => ?_⟩
      have s8 := same_new (o := .tup []) hpe
      refine ⟨rr, b, pe, n, 20, t, ps, [], rfl, R7.same s8, hn6, (Same.kt s8).sq hb7, hS6, Nat.zero_le _, ⟨[], SqT.of upd_same, .nil, rfl, by simp⟩, fun pa H9 s9 hA9 => ?_⟩
      have s79 := s8.trans s9
      have R9 := R7.same s79
      have hb9 := (Same.kt s79).sq hb7
      have hB9 := hB7.mono (Same.kt s79)
      have d9 := d7.same s79
      refine ⟨_, rfl, (by show 2 ≤ sizeLine; decide), fun z hz => ⟨(by show 1 ≤ sizeLine; decide), fun p hp => ⟨_, rfl, ?_⟩⟩⟩
      have w1 := same_new (o := .tup [.int 0, .int 1]) hz
      have w2 := same_new (o := .tup [.ref z]) hp
      refine repN_ok (SqT.of upd_same) hn1 hn6 fun pr H10 s10 hpr => ?_
      have s910 := (w1.trans w2).trans s10
      have rz : RF K H10 (.ref z) 0 := zero_rf ((Same.kt (w2.trans s10)).sq (SqT.of upd_same))
      have rpr : Rp K H10 (.ref pr) (.tuple ((lat0 n ps []).map qd)) := by
        rw [lat0_nil]
        exact .tup hpr (rq_reps rz n)
      refine ⟨_, _, (hA9.mono (Same.kt s910)).rp.dp, rpr.dp, tup_shaped _, tup_shaped _, _, rfl, ?_⟩
      rw [tup_ne]
      refine iteF ?_
      have pvl := pV_len ps
      obtain ⟨us, b1, b2, b3, b4⟩ := id hB9
      have ul : us.length = qs.length := RQ.length b2
      refine ⟨_, rfl, b, pV ps, rfl, .inr ((Same.kt s910).sq hb9), _, _, rfl, rfl, 1, ((pV ps).length : Int) + 1, rfl, ⟨by omega, by omega, by omega, by omega⟩, ?_⟩
      refine for_range (lo := 1) (n := (((pV ps).length : Int) + 1 - 1).toNat) (fun m σ H' => ∃ (pa : Addr) (x9 x10 x11 : Option V), σ = [some (.ref a0), some (.ref da.1), some (.int (0 + (i : Int))), some (.int (n : Int)), some y, some (.ref rr), some (.ref b), some (.ref ap), some (.ref pa), x9, x10, x11] ∧ Same H9 H' ∧ Bids K H' pa n 21 (lat0 n ps (qs.take m)))
        ⟨pa, _, _, _, rfl, s910, by rw [List.take_zero]; exact hA9.mono (Same.kt s910)⟩ ?_ ?_
      · rintro m σ H11 hm ⟨pa, x9, x10, x11, rfl, s11, hA11⟩
        have ml : m < ps.length := by omega
        have em : (1 : Int) + ((m : Nat) : Int) = ((m + 1 : Nat) : Int) := by omega
        rw [em]
        have R11 := R9.same s11
        have hb11 := (Same.kt s11).sq hb9
        have hu11 := (Same.kt s11).sq b1
        have tk : ∀ {p : Addr} {H' : Hp}, Same H9 H' → SqT K H' p (us.take (m + 1)) → Bids K H' p (qs.take (m + 1)).length 20 (qs.take (m + 1)) := fun {p H'} e h => by
          refine ⟨us.take (m + 1), h, ?_, rfl, fun q hq => b4 q (List.mem_of_mem_take hq)⟩
          have z := RpAll.take (m + 1) (RpAll.mono (Same.kt e) b2)
          rw [← List.map_take] at z
          exact z
        have tkl : (qs.take (m + 1)).length ≤ ps.length := by rw [List.length_take]; omega
        obtain ⟨pm, hpm⟩ : ∃ p, ps[m]? = some p := ⟨_, List.getElem?_eq_getElem ml⟩
        have pmn := hS6.lt pm (List.mem_of_getElem? hpm)
        obtain ⟨um, hum, rum⟩ := RQ.get b2 (List.getElem?_eq_getElem (show m < qs.length by omega))
        refine ⟨_, rfl, _, rfl, _, rfl, _, rfl, _, rfl, ?_⟩
        refine slA_take (m := m + 1) hu11 (by omega) fun p2 H12 s12 hp2 => ?_
        have s912 := s11.trans s12
        refine ⟨rr, b, p2, n, 20, t, ps, qs.take (m + 1), rfl, R11.same s12, hn6, (Same.kt s12).sq hb11, hS6, tkl, tk s912 hp2, fun pt H13 s13 hT13 => ?_⟩
        have s913 := s912.trans s13
        obtain ⟨ut, t1, t2, t3, t4⟩ := id hT13
        refine ⟨_, rfl, _, _, _, _, true, rfl, .ty _, tyT t1, kit_ty (by decide +kernel), _, rfl, ?_⟩
        refine iteF ?_
        refine ⟨_, rfl, _, rfl, _, rfl, _, rfl, _, rfl, _, rfl, ?_⟩
        refine slA_take (m := m + 1) ((Same.kt s913).sq b1) (by omega) fun p3 H14 s14 hp3 => ?_
        have s914 := s913.trans s14
        refine ⟨b, p3, n, 20, ps, qs.take (m + 1), rfl, hn6, (Same.kt s914).sq hb9, hS6.lt, tkl, pl, tk s914 hp3, fun pl2 H15 s15 hL15 => ?_⟩
        have s915 := s914.trans s15
        have hT15 := hT13.mono (Same.kt (s14.trans s15))
        refine ⟨_, _, hT15.rp.dp, hL15.rp.dp, tup_shaped _, tup_shaped _, _, rfl, ?_⟩
        rw [tup_ne]
        refine iteF ?_
        have em2 : ((m + 1 : Nat) : Int) - 1 = ((m : Nat) : Int) := by omega
        have k15 := Same.kt s915
        refine ⟨_, rfl, _, rfl, _, _, rfl, rfl, b, pV ps, _, _, rfl, rfl, k15.sq hb9, at_of (j := m) em2 (pV_at hpm), ?_⟩
        have hA15 := hA11.mono (Same.kt (((s12.trans s13).trans s14).trans s15))
        obtain ⟨ua, c1, c2, c3, c4⟩ := id hA15
        have ual : ua.length = n := by rw [RQ.length c2, c3]
        refine ⟨_, rfl, _, rfl, _, rfl, _, rfl, ?_⟩
        refine slT_take (m := pm) c1 (by omega) fun p4 H16 s16 hp4 => ?_
        refine ⟨_, rfl, _, rfl, _, _, rfl, rfl, ap, us, _, um, rfl, rfl, (Same.kt (s915.trans s16)).sq b1, at_of (j := m) em2 hum, (by show 1 ≤ sizeLine; decide), fun p5 hp5 => ?_⟩
        have s17 := same_new (o := .tup [um]) hp5
        refine catA_ok ((Same.kt s17).sq hp4) (SqT.of upd_same) (by rw [List.length_take]; show min pm ua.length + 1 < 1000; omega) fun p6 H18 s18 hp6 => ?_
        have s1518 := (s16.trans s17).trans s18
        refine ⟨_, rfl, _, rfl, _, _, rfl, rfl, _, rfl, ?_⟩
        have em3 : ((pm : Nat) : Int) + 1 = ((pm + 1 : Nat) : Int) := by omega
        dsimp only [tNoPart]
        rw [em3]
        refine slT_drop (m := pm + 1) ((Same.kt s1518).sq c1) (by omega) (by omega) fun p7 H19 s19 hp7 => ?_
        refine catA_ok ((Same.kt s19).sq hp6) hp7 (by simp only [List.length_append, List.length_take, List.length_drop, List.length_singleton]; omega) fun p8 H20 s20 hp8 => ?_
        have s1520 := (s1518.trans s19).trans s20
        have s920 := s915.trans s1520
        have el : lat0 n ps (qs.take (m + 1)) = (lat0 n ps (qs.take m)).take pm ++ [qs[m]] ++ (lat0 n ps (qs.take m)).drop (pm + 1) := by
          rw [take_succ' (List.getElem?_eq_getElem (show m < qs.length by omega))]
          unfold lat0
          rw [lat_snoc _ ps (qs.take m) pm _ (by rw [List.length_take, Nat.min_eq_left (by omega)]; exact hpm), List.set_eq_take_append_cons_drop, if_pos (by rw [lat_len, List.length_replicate]; exact pmn)]
          simp
        have rum20 : RF K H20 um qs[m] := rum.mono (Same.kt s920)
        have c20 : RQ K H20 ua (lat0 n ps (qs.take m)) := RpAll.mono (Same.kt s1520) c2
        have r8 : Rp K H20 (.ref p8) (.tuple ((lat0 n ps (qs.take (m + 1))).map qd)) := by
          rw [el]
          refine .tup hp8 ?_
          rw [List.map_append, List.map_append, List.map_take, List.map_drop]
          exact ((RpAll.take pm c20).append (.cons rum20.rp .nil)).append (RpAll.drop (pm + 1) c20)
        have hT20 := hT15.mono (Same.kt s1520)
        refine ⟨_, _, hT20.rp.dp, r8.dp, tup_shaped _, tup_shaped _, _, rfl, ?_⟩
        rw [tup_ne]
        refine iteF ?_
        exact ⟨_, rfl, pt, _, _, _, rfl, s920, hT20⟩
      · rintro σ H11 ⟨pa, x9, x10, x11, rfl, s11, hA11⟩
        have em : (((pV ps).length : Int) + 1 - 1).toNat = qs.length := by omega
        rw [em, List.take_length] at hA11
        have hB11 := hB9.mono (Same.kt s11)
        refine ⟨_, rfl, _, rfl, _, rfl, rr, b, ap, n, 20, t, ps, qs, rfl, R9.same s11, hn6, (Same.kt s11).sq hb9, hS6, by omega, by rw [hq1]; exact hB11, fun pt H12 s12 hT12 => ?_⟩
        refine ⟨_, rfl, _, _, hT12.rp.dp, (hA11.mono (Same.kt s12)).rp.dp, tup_shaped _, tup_shaped _, _, rfl, ?_⟩
        rw [tup_ne]
        refine iteF ?_
        exact ⟨_, _, _, _, _, _, _, _, _, _, rfl, (d9.same s11).same s12⟩
    · rintro σ H2 ⟨_, _, _, _, _, _, _, _, _, _, rfl, d2⟩
      exact k _
end
end CB

set_option Elab.async false
set_option linter.all false
set_option maxRecDepth 100000
set_option maxHeartbeats 0
namespace CB
open PySem PySem.Spec PyProof.Rows L2
open C8 (Cal Met Mak pe_c pe_mk pe_mt pe_mt0 pe_gc CalAt)
section
variable {P : Program} {w : World} {K : PySem.W.Frag} {mg : Str → Option Value}
theorem all_ok {h : Heap} {f : Addr} (X : K.In h) (G : h.Ns mainGlobals mg) (hfa : mg ("law" : Str) = some (.ref f)) (c : He.SaysX faL fnL [] [] exL w h K) :
    ∃ fd : FuncData, (∀ (s : Shared) (v : Value), BindsTo s fd ⟨[v], []⟩ [("_law_script", v)]) ∧ ∀ base : Heap, K.In base → base.Ns mainGlobals mg → FnOk P w K mg base C8.CX0 12 f fd ["_law_script"] (sp_law K) := by
  have cD : He.SaysD faL fnL K := congrArg (fun z : He.AlT => z.1) c.t
  have cE := c.more
  unfold exL at cE
  obtain ⟨x0, cE⟩ := He.ba cE
  obtain ⟨x1, cE⟩ := He.ba cE
  have F_is_less : FnD K mg "is_less" s_is_less := by
    obtain ⟨fd, F⟩ := cD.def_ 0 (d := d_is_less) rfl
    exact ⟨_, fd, F, He.glo_ok X G (cD.fact 0 (f := .glo "is_less") rfl)⟩
  have F_is_integer : FnD K mg "is_integer" s_is_integer := by
    obtain ⟨fd, F⟩ := cD.def_ 1 (d := d_is_integer) rfl
    exact ⟨_, fd, F, He.glo_ok X G (cD.fact 1 (f := .glo "is_integer") rfl)⟩
  have F_is_number : FnD K mg "is_number" s_is_number := by
    obtain ⟨fd, F⟩ := cD.def_ 2 (d := d_is_number) rfl
    exact ⟨_, fd, F, He.glo_ok X G (cD.fact 2 (f := .glo "is_number") rfl)⟩
  have F_are_numbers : FnD K mg "are_numbers" s_are_numbers := by
    obtain ⟨fd, F⟩ := cD.def_ 3 (d := d_are_numbers) rfl
    exact ⟨_, fd, F, He.glo_ok X G (cD.fact 3 (f := .glo "are_numbers") rfl)⟩
  have F_are_bounds : FnD K mg "are_bounds" s_are_bounds := by
    obtain ⟨fd, F⟩ := cD.def_ 4 (d := d_are_bounds) rfl
    exact ⟨_, fd, F, He.glo_ok X G (cD.fact 4 (f := .glo "are_bounds") rfl)⟩
  have F_is_people : FnD K mg "is_people" s_is_people := by
    obtain ⟨fd, F⟩ := cD.def_ 5 (d := d_is_people) rfl
    exact ⟨_, fd, F, He.glo_ok X G (cD.fact 5 (f := .glo "is_people") rfl)⟩
  have F_is_person : FnD K mg "is_person" s_is_person := by
    obtain ⟨fd, F⟩ := cD.def_ 6 (d := d_is_person) rfl
    exact ⟨_, fd, F, He.glo_ok X G (cD.fact 6 (f := .glo "is_person") rfl)⟩
  have F_are_persons : FnD K mg "are_persons" s_are_persons := by
    obtain ⟨fd, F⟩ := cD.def_ 7 (d := d_are_persons) rfl
    exact ⟨_, fd, F, He.glo_ok X G (cD.fact 7 (f := .glo "are_persons") rfl)⟩
  have F_is_schedule : FnD K mg "is_schedule" s_is_schedule := by
    obtain ⟨fd, F⟩ := cD.def_ 8 (d := d_is_schedule) rfl
    exact ⟨_, fd, F, He.glo_ok X G (cD.fact 8 (f := .glo "is_schedule") rfl)⟩
  have F_is_play : FnD K mg "is_play" s_is_play := by
    obtain ⟨fd, F⟩ := cD.def_ 9 (d := d_is_play) rfl
    exact ⟨_, fd, F, He.glo_ok X G (cD.fact 9 (f := .glo "is_play") rfl)⟩
  have F_need_schedule : FnD K mg "need_schedule" s_need_schedule := by
    obtain ⟨fd, F⟩ := cD.def_ 10 (d := d_need_schedule) rfl
    exact ⟨_, fd, F, He.glo_ok X G (cD.fact 10 (f := .glo "need_schedule") rfl)⟩
  have F_need_play : FnD K mg "need_play" s_need_play := by
    obtain ⟨fd, F⟩ := cD.def_ 11 (d := d_need_play) rfl
    exact ⟨_, fd, F, He.glo_ok X G (cD.fact 11 (f := .glo "need_play") rfl)⟩
  have F_is_term : FnD K mg "is_term" s_is_term := by
    obtain ⟨fd, F⟩ := cD.def_ 12 (d := d_is_term) rfl
    exact ⟨_, fd, F, He.glo_ok X G (cD.fact 12 (f := .glo "is_term") rfl)⟩
  have F_is_formed : FnD K mg "is_formed" s_is_formed := by
    obtain ⟨fd, F⟩ := cD.def_ 13 (d := d_is_formed) rfl
    exact ⟨_, fd, F, He.glo_ok X G (cD.fact 13 (f := .glo "is_formed") rfl)⟩
  have F_are_some : FnD K mg "are_some" s_are_some := by
    obtain ⟨fd, F⟩ := cD.def_ 14 (d := d_are_some) rfl
    exact ⟨_, fd, F, He.glo_ok X G (cD.fact 14 (f := .glo "are_some") rfl)⟩
  have F_is_weighted : FnD K mg "is_weighted" s_is_weighted := by
    obtain ⟨fd, F⟩ := cD.def_ 15 (d := d_is_weighted) rfl
    exact ⟨_, fd, F, He.glo_ok X G (cD.fact 15 (f := .glo "is_weighted") rfl)⟩
  have F_is_weight : FnD K mg "is_weight" s_is_weight := by
    obtain ⟨fd, F⟩ := cD.def_ 16 (d := d_is_weight) rfl
    exact ⟨_, fd, F, He.glo_ok X G (cD.fact 16 (f := .glo "is_weight") rfl)⟩
  have F_inner_terms : FnD K mg "inner_terms" s_inner_terms := by
    obtain ⟨fd, F⟩ := cD.def_ 17 (d := d_inner_terms) rfl
    exact ⟨_, fd, F, He.glo_ok X G (cD.fact 17 (f := .glo "inner_terms") rfl)⟩
  have F_bids_behind : FnD K mg "bids_behind" s_bids_behind := by
    obtain ⟨fd, F⟩ := cD.def_ 18 (d := d_bids_behind) rfl
    exact ⟨_, fd, F, He.glo_ok X G (cD.fact 18 (f := .glo "bids_behind") rfl)⟩
  have F_latest_bids : FnD K mg "latest_bids" s_latest_bids := by
    obtain ⟨fd, F⟩ := cD.def_ 19 (d := d_latest_bids) rfl
    exact ⟨_, fd, F, He.glo_ok X G (cD.fact 19 (f := .glo "latest_bids") rfl)⟩
  have F__law_dice : FnD K mg "_law_dice" s__law_dice := by
    obtain ⟨fd, F⟩ := cD.def_ 20 (d := d__law_dice) rfl
    exact ⟨_, fd, F, He.glo_ok X G (cD.fact 20 (f := .glo "_law_dice") rfl)⟩
  have F__law_draw : FnD K mg "_law_draw" s__law_draw := by
    obtain ⟨fd, F⟩ := cD.def_ 21 (d := d__law_draw) rfl
    exact ⟨_, fd, F, He.glo_ok X G (cD.fact 21 (f := .glo "_law_draw") rfl)⟩
  have F__law_lowest : FnD K mg "_law_lowest" s__law_lowest := by
    obtain ⟨fd, F⟩ := cD.def_ 22 (d := d__law_lowest) rfl
    exact ⟨_, fd, F, He.glo_ok X G (cD.fact 22 (f := .glo "_law_lowest") rfl)⟩
  have F__law_less : FnD K mg "_law_less" s__law_less := by
    obtain ⟨fd, F⟩ := cD.def_ 23 (d := d__law_less) rfl
    exact ⟨_, fd, F, He.glo_ok X G (cD.fact 23 (f := .glo "_law_less") rfl)⟩
  have F__law_sorted : FnD K mg "_law_sorted" s__law_sorted := by
    obtain ⟨fd, F⟩ := cD.def_ 24 (d := d__law_sorted) rfl
    exact ⟨_, fd, F, He.glo_ok X G (cD.fact 24 (f := .glo "_law_sorted") rfl)⟩
  have F__law_number : FnD K mg "_law_number" s__law_number := by
    obtain ⟨fd, F⟩ := cD.def_ 25 (d := d__law_number) rfl
    exact ⟨_, fd, F, He.glo_ok X G (cD.fact 25 (f := .glo "_law_number") rfl)⟩
  have F__law_numbers : FnD K mg "_law_numbers" s__law_numbers := by
    obtain ⟨fd, F⟩ := cD.def_ 26 (d := d__law_numbers) rfl
    exact ⟨_, fd, F, He.glo_ok X G (cD.fact 26 (f := .glo "_law_numbers") rfl)⟩
  have F__law_term : FnD K mg "_law_term" s__law_term := by
    obtain ⟨fd, F⟩ := cD.def_ 27 (d := d__law_term) rfl
    exact ⟨_, fd, F, He.glo_ok X G (cD.fact 27 (f := .glo "_law_term") rfl)⟩
  have F__law_rule_parts : FnD K mg "_law_rule_parts" s__law_rule_parts := by
    obtain ⟨fd, F⟩ := cD.def_ 28 (d := d__law_rule_parts) rfl
    exact ⟨_, fd, F, He.glo_ok X G (cD.fact 28 (f := .glo "_law_rule_parts") rfl)⟩
  have F__law_schedule : FnD K mg "_law_schedule" s__law_schedule := by
    obtain ⟨fd, F⟩ := cD.def_ 29 (d := d__law_schedule) rfl
    exact ⟨_, fd, F, He.glo_ok X G (cD.fact 29 (f := .glo "_law_schedule") rfl)⟩
  have F__law_bids : FnD K mg "_law_bids" s__law_bids := by
    obtain ⟨fd, F⟩ := cD.def_ 30 (d := d__law_bids) rfl
    exact ⟨_, fd, F, He.glo_ok X G (cD.fact 30 (f := .glo "_law_bids") rfl)⟩
  have g_Rule := He.glo_ok X G (cD.fact 32 (f := .glo "Rule") rfl)
  have cl_Rule : Cls K (He.ga K "Rule") := He.cls_ok (cD.fact 33 (f := .cls "Rule") rfl)
  have na_Rule_people : NoAttr K (He.ga K "Rule") "people" := He.noat_ok (cD.fact 34 (f := .noat "Rule" "people") rfl)
  have na_Rule_term : NoAttr K (He.ga K "Rule") "term" := He.noat_ok (cD.fact 35 (f := .noat "Rule" "term") rfl)
  have F_Rule___init__ : MkD K mg "Rule" (He.ga K "Rule") "Rule.__init__" s_Rule___init__ := by
    obtain ⟨fd, F⟩ := cD.def_ 32 (d := d_Rule___init__) rfl
    exact ⟨_, fd, F, g_Rule, He.mkr_ok (cD.fact 36 (f := .mkr "Rule") rfl)⟩
  have T_abs := He.free_ok X G (cD.fact 37 (f := .free "abs") rfl)
  have T_int := He.free_ok X G (cD.fact 38 (f := .free "int") rfl)
  have T_len := He.free_ok X G (cD.fact 39 (f := .free "len") rfl)
  have T_range := He.free_ok X G (cD.fact 40 (f := .free "range") rfl)
  have T_tuple := He.free_ok X G (cD.fact 41 (f := .free "tuple") rfl)
  have T_isinstance := He.free_ok X G (cD.fact 42 (f := .free "isinstance") rfl)
  have T_bool := He.free_ok X G (cD.fact 43 (f := .free "bool") rfl)
  have T_str := He.free_ok X G (cD.fact 44 (f := .free "str") rfl)
  have T_all := He.free_ok X G (cD.fact 45 (f := .free "all") rfl)
  have T_min := He.free_ok X G (cD.fact 46 (f := .free "min") rfl)
  have T_set := He.free_ok X G (cD.fact 47 (f := .free "set") rfl)
  have T_zip := He.free_ok X G (cD.fact 48 (f := .free "zip") rfl)
  have g_MOST_PEOPLE : ∃ u, mg "MOST_PEOPLE" = some u ∧ RelV (.int 6) u := by
    obtain ⟨t, e⟩ := He.int_ok X G (cD.fact 49 (f := .int "MOST_PEOPLE" 6) rfl)
    exact ⟨_, e, t, rfl⟩
  have g_MOST_WEIGHT : ∃ u, mg "MOST_WEIGHT" = some u ∧ RelV (.int 99) u := by
    obtain ⟨t, e⟩ := He.int_ok X G (cD.fact 50 (f := .int "MOST_WEIGHT" 99) rfl)
    exact ⟨_, e, t, rfl⟩
  have g_MOST_PARTS : ∃ u, mg "MOST_PARTS" = some u ∧ RelV (.int 8) u := by
    obtain ⟨t, e⟩ := He.int_ok X G (cD.fact 51 (f := .int "MOST_PARTS" 8) rfl)
    exact ⟨_, e, t, rfl⟩
  have g_MOST_DEEP : ∃ u, mg "MOST_DEEP" = some u ∧ RelV (.int 8) u := by
    obtain ⟨t, e⟩ := He.int_ok X G (cD.fact 52 (f := .int "MOST_DEEP" 8) rfl)
    exact ⟨_, e, t, rfl⟩
  have g_MOST_TERMS : ∃ u, mg "MOST_TERMS" = some u ∧ RelV (.int 60) u := by
    obtain ⟨t, e⟩ := He.int_ok X G (cD.fact 53 (f := .int "MOST_TERMS" 60) rfl)
    exact ⟨_, e, t, rfl⟩
  have g_MOST_TURNS : ∃ u, mg "MOST_TURNS" = some u ∧ RelV (.int 12) u := by
    obtain ⟨t, e⟩ := He.int_ok X G (cD.fact 54 (f := .int "MOST_TURNS" 12) rfl)
    exact ⟨_, e, t, rfl⟩
  have g_gcd : mg "gcd" = some (.builtin "math.gcd") := PySem.W.mg_of X G (He.eqO_ok x0)
  have g_ZERO := He.glo_ok X G (cD.fact 55 (f := .glo "ZERO") rfl)
  have z_ZERO : ∀ H, SqT K H (He.ga K "ZERO") [.int 0, .int 1] := fun H => He.tupB_ok x1 H
  obtain ⟨fdL, FL⟩ := cD.def_ 31 (d := d_law) rfl
  have eL := hfa.symm.trans (He.glo_ok X G (cD.fact 31 (f := .glo "law") rfl))
  cases eL
  have bL := FunD.bindsA (ps := ["_law_script"]) FL fun _ _ _ _ _ _ us hl => match us, hl with | [_], _ => rfl
  refine ⟨fdL, fun s v => bL s [v] rfl, fun base _ _ => ?_⟩
  have c__law_dice := ok__law_dice (P := P) (w := w) (base := base) (mg := mg) F__law_dice T_abs T_int
  have c__law_draw := ok__law_draw (P := P) (w := w) (base := base) (mg := mg) F__law_draw T_len T_int
  have c__law_lowest := ok__law_lowest (P := P) (w := w) (base := base) (mg := mg) F__law_lowest T_abs T_int
  have c__law_number := ok__law_number (P := P) (w := w) (base := base) (mg := mg) F__law_number c__law_draw c__law_lowest
  have c__law_less := ok__law_less (P := P) (w := w) (base := base) (mg := mg) F__law_less
  have c__law_sorted := ok__law_sorted (P := P) (w := w) (base := base) (mg := mg) F__law_sorted c__law_less T_len
  have c__law_term := ok__law_term (P := P) (w := w) (base := base) (mg := mg) F__law_term c__law_draw c__law_number c__law_sorted T_len T_range T_tuple
  have c__law_rule_parts := ok__law_rule_parts (P := P) (w := w) (base := base) (mg := mg) F__law_rule_parts c__law_draw (c__law_term _) T_range T_tuple
  have c_is_integer := ok_is_integer (P := P) (w := w) (base := base) (mg := mg) F_is_integer T_isinstance T_int T_bool
  have c_is_people := ok_is_people (P := P) (w := w) (base := base) (mg := mg) F_is_people c_is_integer g_MOST_PEOPLE
  have c_is_number := ok_is_number (P := P) (w := w) (base := base) (mg := mg) F_is_number c_is_integer T_isinstance T_tuple T_len g_gcd
  have c_is_person := ok_is_person (P := P) (w := w) (base := base) (mg := mg) F_is_person c_is_integer
  have c_is_weight := ok_is_weight (P := P) (w := w) (base := base) (mg := mg) F_is_weight c_is_integer g_MOST_WEIGHT
  have c_is_weighted := ok_is_weighted (P := P) (w := w) (base := base) (mg := mg) F_is_weighted c_is_weight T_isinstance T_tuple T_len
  have c_are_some := ok_are_some (P := P) (w := w) (base := base) (mg := mg) F_are_some T_isinstance T_tuple T_len g_MOST_PARTS
  have c_is_less := ok_is_less (P := P) (w := w) (base := base) (mg := mg) F_is_less
  have c_are_bounds := ok_are_bounds (P := P) (w := w) (base := base) (mg := mg) F_are_bounds c_is_number c_is_less
  have c_is_formed := ok_is_formed (P := P) (w := w) (base := base) (mg := mg) F_is_formed c_is_integer c_is_number c_is_person c_is_weighted c_are_some c_are_bounds T_isinstance T_tuple T_str T_len T_all
  have c_inner_terms := ok_inner_terms (P := P) (w := w) (base := base) (mg := mg) F_inner_terms T_tuple
  have c_is_term := ok_is_term (P := P) (w := w) (base := base) (mg := mg) F_is_term c_is_formed c_inner_terms T_len T_all g_MOST_DEEP g_MOST_TERMS
  have k_Rule := ok_Rule (P := P) (w := w) (base := base) (mg := mg) F_Rule___init__ cl_Rule na_Rule_people na_Rule_term c_is_people c_is_term
  have c__law_numbers := ok__law_numbers (P := P) (w := w) (base := base) (mg := mg) F__law_numbers c__law_number T_range T_tuple
  have c__law_schedule := ok__law_schedule (P := P) (w := w) (base := base) (mg := mg) F__law_schedule c__law_draw T_len T_range T_tuple T_min
  have c_are_persons := ok_are_persons (P := P) (w := w) (base := base) (mg := mg) F_are_persons c_is_person T_isinstance T_tuple T_all
  have c_is_schedule := ok_is_schedule (P := P) (w := w) (base := base) (mg := mg) F_is_schedule c_are_persons T_len T_set g_MOST_TURNS
  have c_need_schedule := ok_need_schedule (P := P) (w := w) (base := base) (mg := mg) F_need_schedule cl_Rule na_Rule_people c_is_schedule
  have c_are_numbers := ok_are_numbers (P := P) (w := w) (base := base) (mg := mg) F_are_numbers c_is_number T_isinstance T_tuple T_len T_all
  have c_is_play := ok_is_play (P := P) (w := w) (base := base) (mg := mg) F_is_play c_are_numbers T_isinstance T_tuple T_len
  have c_need_play := ok_need_play (P := P) (w := w) (base := base) (mg := mg) F_need_play c_is_play
  have c_latest_bids := ok_latest_bids (P := P) (w := w) (base := base) (mg := mg) F_latest_bids cl_Rule na_Rule_people ⟨_, g_ZERO, rfl⟩ z_ZERO T_zip T_tuple
  have c_bids_behind := ok_bids_behind (P := P) (w := w) (base := base) (mg := mg) F_bids_behind c_need_schedule c_need_play c_latest_bids
  have c__law_bids := ok__law_bids (P := P) (w := w) (base := base) (mg := mg) F__law_bids T_len T_range T_tuple
  exact ok_law FL c__law_dice c__law_rule_parts k_Rule c__law_numbers c__law_schedule c_bids_behind c__law_bids T_range T_tuple T_len T_isinstance
end
end CB
open PySem PySem.W PySem.Calls PyProof.Rows
set_option maxHeartbeats 0 in
theorem PySem.Challenge.cw_cornerbids_k27_whole_bids_behind_plays_holds : PySem.Challenge.rw_cornerbids_k27_whole_bids_behind_plays.Holds := by
  w_on; o_law
  refine HandSHeadRun.head_imp (r := CB.Rw) (q := CB.qv) (H := CB.hkL) (ob := CB.obL) (M := 6000) (loose := CB.looseL) (d := HandSHeadRun.topDef CB.Rw.prog 51) (kwd := []) CB.ob_eq
    CB.runL (by kernel_rfl) (by kernel_rfl) (by kernel_rfl) (by rfl) (by first | assumption | decide +kernel) (by decide +kernel) ⟨rfl, rfl, rfl, rfl, rfl, by decide +kernel⟩ ?hw ?hc
  case hw => w_witness2
  case hc =>
    refine L2.walk_ofE (l := PySem.Challenge.rw_cornerbids_k27_whole_bids_behind_plays) (n := 63) (k := 12) (x := "_law_script") (CX := C8.CX0) rfl (by decide) (by kernel_rfl) ⟨rfl, by decide, by decide⟩ ?F (fun _ _ _ _ z => z)
    intro w mg fa h Y G hmg0
    obtain ⟨K, KX, c⟩ := Y
    have hmg : mg ("law" : PySem.Str) = some (.ref fa) := by
      have e : (HandSHeadRun.topDef CB.Rw.prog 51).name = ("law" : PySem.Str) := by kernel_rfl
      rw [← e]
      exact hmg0
    obtain ⟨fd, hb, hF⟩ := CB.all_ok (P := (PySem.Challenge.rw_cornerbids_k27_whole_bids_behind_plays).prog) (w := w) KX G hmg c
    exact ⟨K, fd, CB.sp_law K, KX, hb, fun H a ns hl _ hS => ⟨a, ns, rfl, hS, fun _ => rfl⟩, hF⟩

