import PyProof.Rows.All
import Wide.All
import OpenK.AllK
import Wide.FinOn
import HandS.ForMost
import HandS.ForExc
import HandS.Conv
import HandS.TupAny
import HandS.TupMul
import HandS.Zip
import HandS.Wide
import HandS.Deep
import HandS.Small
import HandS.IsInst
import HandS.ExcIs
import PyProof.ReprRoads
import HandS.ExcBuiltin
import HandS.FStr
import HandS.Style
import HandS.RaiseMore
import HandS.SortInts
import HandS.More
import HandS.Iter
import HandS.Sort
import PyProof.SeqIndex
import PyProof.ReprLen
import PySem.Challenge.RW_spansay_k38_rounds_judged
set_option Elab.async false
set_option linter.all false
set_option maxRecDepth 100000
/-! Sim: tuples that are made: kept with the object itself, so that it is known that it has no dict of its own. -/
namespace Sim
open PySem PySem.Spec PyProof.Rows L2
def tupObj (arr : Array Value) : Obj := { cls := .type "tuple", data := .seq arr }
abbrev fzT (arr : Array Value) (xs : List V) : HO := .frz (tupObj arr) (.tup xs)
/-- the object there is known, and has no dict -/
def NoDc (K : PySem.W.Frag) (H : Hp) (a : Addr) : Prop := (∃ o u, H a = some (.frz o u) ∧ o.dict = none) ∨ ∃ o, K.lookup a = some o ∧ o.dict = none
def SqN (K : PySem.W.Frag) (H : Hp) (a : Addr) (xs : List V) : Prop := SqT K H a xs ∧ NoDc K H a
theorem sqN_new {K : PySem.W.Frag} {H : Hp} {p : Addr} {arr : Array Value} {xs : List V} : SqN K (upd H p (fzT arr xs)) p xs := ⟨.inl (.inr ⟨_, upd_same⟩), .inl ⟨_, _, upd_same, rfl⟩⟩
section
variable {P : Program} {w : World} {H : Hp} {h : Heap} {a : Addr} {arr : Array Value} {xs : List V}
theorem okN (e : h.get? a = some (tupObj arr)) (r : Vals xs arr.toList) (z : xs.length ≤ sizeLine) : ObjOk P w H h a (fzT arr xs) :=
  ⟨e, z, arr.toList, r, ⟨_, e, rfl, 0, by rw [Array.toArray_toList]; rfl⟩⟩
end
section
variable {X : Cx} {pins : List (Addr × Obj)} {σ : L2.St} {H : Hp} {s : Shared} {Q : VK} {xs : List V}
/-- a new tuple on the heap -/
theorem newN {t' : Nat} {arr : Array Value} (J : Inv X pins σ H s) (r : Vals xs arr.toList) (z : xs.length ≤ sizeLine) (k : ∀ p ar, H p = none → Q (.ref p) (upd H p (fzT ar xs))) :
    EP X pins σ Q (.ref s.heap.objs.size) { s with heap := s.heap.push (tupObj arr), toks := t' } :=
  ⟨.ref s.heap.objs.size, _, J.laid (o := fzT arr xs) (t' := t') (fun _ _ e => Heap.get?_push_of_some _ e) (Nat.le_refl _) (okN (Heap.get?_push_size _ rfl) r z), rfl, k _ _ (J.hok.fresh (Nat.le_refl _))⟩
end
/-! ### a display -/
def tTupN (t : TA) : TE := fun σ H Q => t σ H fun xs H1 => xs.length ≤ sizeLine ∧ ∀ p ar, H1 p = none → Q (.ref p) (upd H1 p (fzT ar xs))
section
variable {X : Cx} {es : List Expr} {t : TA} {pos : Pos}
theorem pe_tupN {kx} (g : PA X es t) : PE X (.Tuple es kx pos) (tTupN t) := ⟨fun pins st σ G Q J w => wpAny_Tuple_spliced (thn (g.run pos pins st σ G _ J w) fun vs st1 ⟨ys, G1, J1, rr, zz, qq⟩ =>
  ⟨by rw [← rr.length]; exact zz, newN (arr := vs.toArray) (t' := st1.toks) J1 rr zz qq⟩)⟩
end
/-! ### tuple(x) -/
def kTupN (K : PySem.W.Frag) (x : V) (H : Hp) (Q : VK) : Prop :=
  (∃ p xs, x = .ref p ∧ SqL K H p xs ∧ ∀ q ar, H q = none → Q (.ref q) (upd H q (fzT ar xs))) ∨ (∃ p xs, x = .ref p ∧ SqT K H p xs ∧ Q (.ref p) H)
section
variable {X : Cx} {a : Expr} {ta : TE}
theorem pe_tupleN {p pos : Pos} (hg : Gl X "tuple") (hm : X.mg "tuple" = none) (ha : PE X a ta) (na : starEach [a] X.env = (false, eval a X.env) :: starEach [] X.env := by rfl) :
    PE X (.Call (.Name "tuple" p) [a] [] pos) (tThen ta (kTupN X.K)) := by
  refine ⟨fun pins s σ H Q J w => Call_ (ld_blt J hg hm boot_tuple (PyProof.Rows.callWith_type1 (one_arg ha J w (fun u s2 y G J2 rl want => ?_) na) na))⟩
  rcases want with ⟨l, ys, rfl, sq, want⟩ | ⟨l, ys, rfl, sq, want⟩
  · obtain rfl : u = .ref l := rl
    obtain ⟨us, rv, isl, sz⟩ := J2.list sq
    refine call_tuple_list isl.isList (fun g' kp => ?_) (by rw [List.size_toArray, ← rv.length]; exact sz)
    exact newN (arr := us.toArray) (t' := s2.toks) (J2.kept (t' := s2.toks) kp) rv sz want
  · obtain rfl : u = .ref l := rl
    obtain ⟨us, _, ist, _⟩ := J2.tuple sq
    exact call_tuple_tup ist ⟨.ref l, G, J2, rfl, want⟩
end
/-! ### t + u -/
def rCatN (K : PySem.W.Frag) : R2 := fun x y H Q => ∃ a b xs ys, x = .ref a ∧ y = .ref b ∧ SqT K H a xs ∧ SqT K H b ys ∧ xs.length + ys.length ≤ sizeLine ∧
  (xs = [] → Q (.ref b) H) ∧ (xs ≠ [] → ys = [] → Q (.ref a) H) ∧ (xs ≠ [] → ys ≠ [] → ∀ p ar, H p = none → Q (.ref p) (upd H p (fzT ar (xs ++ ys))))
section
variable {X : Cx}
theorem op_catN : OpR X (binaryOp .Add) (rCatN X.K) := by
  intro pins s σ H x y v u Q J rx ry want
  obtain ⟨l, m, xs, ys, rfl, rfl, sx, sy, sz, w0, w1, w2⟩ := want
  obtain rfl : v = .ref l := rx
  obtain rfl : u = .ref m := ry
  obtain ⟨vs, r1, t1, _⟩ := J.tuple sx
  obtain ⟨us, r2, t2, _⟩ := J.tuple sy
  by_cases hx : xs = []
  · have : vs = [] := r1.nil_iff.mpr hx
    subst this
    exact cat_tup0 t1 t2 ⟨.ref m, H, J, rfl, w0 hx⟩
  · exact HT.cat_tup t1 t2 (fun e => hx (r1.nil_iff.mp e)) (fun e => ⟨.ref l, H, J, rfl, w1 hx (r2.nil_iff.mp e)⟩)
      (fun e => newN (arr := (vs ++ us).toArray) (t' := s.toks) J (r1.append r2) (by rw [List.length_append]; exact sz) (w2 hx fun z => e (r2.nil_iff.mpr z))) (by rw [← r1.length, ← r2.length]; exact sz)
end
/-! ### t[lo:hi] -/
def rSlN (K : PySem.W.Frag) : V → Option Int → Option Int → Hp → VK → Prop := fun x lo hi H Q => ∃ a xs, x = .ref a ∧ SqT K H a xs ∧
  (HT.sIx xs.length 0 lo = 0 ∧ HT.sIx xs.length xs.length hi = xs.length → Q (.ref a) H) ∧ (¬ (HT.sIx xs.length 0 lo = 0 ∧ HT.sIx xs.length xs.length hi = xs.length) → ∀ p ar, H p = none → Q (.ref p) (upd H p (fzT ar (cutV xs lo hi))))
section
variable {X : Cx}
theorem sl_tupN : SlR X (rSlN X.K) := by
  intro pins s σ H x v vl vu lo hi sl Q J rx hs pl pu want
  obtain ⟨l, xs, rfl, sx, w1, w2⟩ := want
  obtain rfl : v = .ref l := rx
  obtain ⟨vs, rv, it, sz⟩ := J.tuple sx
  have n0 : vs.toArray.size = xs.length := rv.length ▸ List.size_toArray
  refine ⟨"tuple", _, PyProof.Rows.slot_tuple_getitem.lookup, it.typeIs, ?_⟩
  by_cases hw : HT.sIx xs.length 0 lo = 0 ∧ HT.sIx xs.length xs.length hi = xs.length
  · exact getItem_tuple_whole it hs pl pu (by rw [n0]; exact hw) ⟨.ref l, H, J, rfl, w1 hw⟩
  · refine HT.getItem_tuple_cut it hs pl pu (by rw [n0]; exact hw) ?_ (by rw [n0]; exact sz)
    rw [n0]
    exact newN (t' := s.toks) J ((rv.drop _).take _) (Nat.le_trans (cutV_length xs lo hi) sz) (w2 hw)
end
/-! ### tuple(range(..)) -/
def tTupRgN (te : L2.St → Hp → (Int → Int → Hp → Prop) → Prop) : TE := fun σ H Q => te σ H fun a b H1 => RgOk a b ∧ ∀ q ar, H1 q = none → Q (.ref q) (upd H1 q (fzT ar (rgV a b)))
section
variable {X : Cx} {e : Expr} {te : L2.St → Hp → (Int → Int → Hp → Prop) → Prop}
theorem pe_tupRgN {p pos : Pos} (hc : X.calm = true) (hg : Gl X "tuple") (hm : X.mg "tuple" = none) (he : PRg X e te) (na : starEach [e] X.env = (false, eval e X.env) :: starEach [] X.env := by rfl) : PE X (.Call (.Name "tuple" p) [e] [] pos) (tTupRgN te) := by
  refine ⟨fun pins s σ H Q J w => Call_ (ld_blt J hg hm boot_tuple (PyProof.Rows.callWith_type1 (args_cons (thn (he pins s σ H _ J w) fun y s1 ⟨l, i, j, t0, t1, t2, G, ey, isr, J1, rgok, want⟩ => args_nil ?_) na) na))⟩
  subst ey
  obtain ⟨b1, b2, b3, b4, b5⟩ := rgok
  refine call_tuple_range (n := (j - i).toNat) (J1.ok.hd hc) isr (small_one b1 b2 b3 b4) (rangeSize_nat i j) b5 fun g' tk acc kp hi => ?_
  exact newN (s := { s1 with heap := g', toks := tk }) (arr := acc) (t' := tk) (J1.kept kp) (vals_rg hi) (by rw [rgV_length, sizeLine_eq]; omega) want
end
/-! ### t * n -/
def rRepN (K : PySem.W.Frag) : R2 := fun x y H Q => ∃ l k xs, x = .ref l ∧ y = .int k ∧ SqT K H l xs ∧ xs ≠ [] ∧ 2 ≤ k ∧ k ≤ 1000 ∧ xs.length ≤ 1000 ∧ ∀ p ar, H p = none → Q (.ref p) (upd H p (fzT ar (List.replicate k.toNat xs).flatten))
section
variable {X : Cx}
theorem op_repN : OpR X (binaryOp .Mult) (rRepN X.K) := by
  intro pins s σ H x y v u Q J rx ry want
  obtain ⟨l, k, xs, rfl, rfl, sx, hne, k2, k3, xl, want⟩ := want
  obtain rfl : v = .ref l := rx
  obtain ⟨tk, rfl⟩ := ry
  obtain ⟨vs, rv, ⟨⟨c0, d0, e0, sl0⟩, hob, hcl, n0, hda⟩, _⟩ := J.tuple sx
  obtain rfl : c0 = .type "tuple" := hcl
  obtain rfl : e0 = .seq vs.toArray n0 := hda
  have ln : vs.length = xs.length := rv.length.symm
  have ne : vs.toArray.isEmpty = false := by
    cases vs with
    | nil => exact absurd (List.eq_nil_of_length_eq_zero ln.symm) hne
    | cons _ _ => rfl
  have as : vs.toArray.size = xs.length := by rw [List.size_toArray, ln]
  have up : ((vs.toArray.size : Nat) : Int) * k ≤ 1000000 := by
    rw [as]
    have : ((xs.length : Nat) : Int) * k ≤ 1000 * k := Int.mul_le_mul_of_nonneg_right (by omega) (by omega)
    omega
  have km : k.toNat * xs.length ≤ 1000 * 1000 := Nat.mul_le_mul (by omega) xl
  have fl : (List.replicate k.toNat vs).flatten.length ≤ sizeLine := by
    rw [PyProof.Rows.lm_len_rep_flat, ln, sizeLine_eq]; omega
  have q0 : (decide (k < -(2 ^ 63)) || decide (k ≥ 2 ^ 63)) = false := by
    rw [decide_eq_false (show ¬ k < -(2 ^ 63) by omega), decide_eq_false (show ¬ k ≥ 2 ^ 63 by omega)]; rfl
  have q1 : (vs.toArray.isEmpty || k == 1) = false := by rw [ne, Bool.false_or]; exact beq_eq_false_iff_ne.mpr (by omega)
  have q2 : (decide (k ≤ 0) || vs.toArray.isEmpty) = false := by rw [ne, Bool.or_false]; exact decide_eq_false (by omega)
  have q4 : Builtin.Tuple.tupleTooMany (((vs.toArray.size : Nat) : Int) * k) = false := by
    unfold Builtin.Tuple.tupleTooMany; rw [sizeLine_eq]; exact decide_eq_false (by omega)
  have sp := call_meets (prog := X.prog) (w := X.w) (A := X.A) (E := X.xe) (s := s) (Q := EP X pins σ Q) F.slot_tuple_mul (show s.TypeIs (.ref l) "tuple" from ⟨_, hob, rfl⟩) F.entry_tuple_mul (F.args_tuple_mul_2 _ _) (tuple_mulW l vs.toArray n0 d0 sl0 k tk q0 q1 q2 (by omega) q4 (by rw [size_rep, List.size_toArray]; exact fl))
    ⟨hob, by rw [size_rep]; exact newN (t' := s.toks) J (rv.rep k.toNat) (by rw [PyProof.Rows.lm_len_rep_flat, sizeLine_eq]; omega) want⟩
  exact wpAny_binaryOp_repeat_ref (T := "tuple") (U := "int") (by decide) ⟨_, hob, rfl⟩ (fun s' => typeIs_int s' k tk) noFill_tuple_mul F.fills_int_mul F.slot_int_rmul repeat_tuple F.slot_int_index.lookup
    (call_meets F.slot_int_rmul (typeIs_int s k tk) F.entry_int_rmul (F.args_int_rmul_2 _ _) (int_rmul_tuple k tk l vs.toArray n0 d0 sl0) ⟨hob, rfl, ⟨_, hob, rfl⟩, sp⟩)
end
/-! ### zip of two tuples -/
def ItzN (K : PySem.W.Frag) (a b : Addr) : It :=
  ⟨(RZ.ItzT K a b).go, fun i H v H' => ∃ T x y ar, v = .ref T ∧ H T = none ∧ H' = upd H T (fzT ar [x, y]) ∧ (∀ xs, SqT K H a xs → xs[i]? = some x) ∧ ∀ ys, SqT K H b ys → ys[i]? = some y, (RZ.ItzT K a b).stop⟩
open RZ in
theorem turn_zipN {P : Program} {w : World} {K : PySem.W.Frag} {elts : List Expr} {kk : Nat} {tpos : Pos} {a b z p q i1 i2 : Addr} (D : ZipApart z p q i1 i2 a b) :
    Turn P w K (.Tuple elts kk tpos) (ItzN K a b) [z, p, q, i1, i2] z (fun i h => IsZip h z p q .none ∧ IsPair h p (.ref i1) (.ref i2) ∧ (∃ x y, IsPair h q x y) ∧ h.IsTupleIter i1 a i ∧ h.IsTupleIter i2 b i) where
  mem := (turn_zipT (P := P) (w := w) (K := K) (elts := elts) (kk := kk) (tpos := tpos) D).mem
  obj := (turn_zipT (P := P) (w := w) (K := K) (elts := elts) (kk := kk) (tpos := tpos) D).obj
  keep := (turn_zipT (P := P) (w := w) (K := K) (elts := elts) (kk := kk) (tpos := tpos) D).keep
  done := (turn_zipT (P := P) (w := w) (K := K) (elts := elts) (kk := kk) (tpos := tpos) D).done
  self := (turn_zipT (P := P) (w := w) (K := K) (elts := elts) (kk := kk) (tpos := tpos) D).self
  item := by
    intro X hP hw hK hc i pins s σ H E J hf st ⟨xs, ys, x, y, sx, sy, ex, ey⟩
    subst hP hw hK
    obtain ⟨isz, isp, ⟨x0, y0, isq⟩, t1, t2⟩ := st
    obtain ⟨vs, rv, tv, _⟩ := J.tuple sx
    obtain ⟨us, ru, tu, _⟩ := J.tuple sy
    obtain ⟨v, hv, rx⟩ := rv.get ex
    obtain ⟨u, hu, ry⟩ := ru.get ey
    have zl := Heap.lt_size isz
    have five : ∀ c, c ∈ [z, p, q, i1, i2] → c < s.heap.objs.size := fun c hm => by
      simp only [List.mem_cons, List.not_mem_nil, or_false] at hm
      rcases hm with rfl | rfl | rfl | rfl | rfl
      · exact zl
      · exact Heap.lt_size isp
      · exact Heap.lt_size isq
      · exact Heap.lt_size t1.choose_spec.1
      · exact Heap.lt_size t2.choose_spec.1
    refine pyNext_zipT_item D isz isp isq t1 t2 tv tu (x := v) (y := u) (by simpa using hv) (by simpa using hu) fun g zz qq t1' t2' hT _ kp => ?_
    refine ⟨_, rfl, wpAny_letOwnedTupleGo_zip (s := { s with heap := g }) zz fun g2 zz2 sb => ?_⟩
    have own : g2.get? s.heap.objs.size = some (tupObj #[v, u]) := (sb.2 _ (Nat.ne_of_gt zl)).trans hT
    have kp2 : ∀ c o, c ∉ [z, p, q, i1, i2] → s.heap.get? c = some o → g2.get? c = some o := fun c o nm e => by
      simp only [List.mem_cons, List.not_mem_nil, or_false, not_or] at nm
      exact (sb.2 c nm.1).trans (kp c o (by first | exact nm.1 | exact nm.2.1 | exact nm.2.2.1 | exact nm.2.2.2.1 | exact nm.2.2.2.2) (by first | exact nm.1 | exact nm.2.1 | exact nm.2.2.1 | exact nm.2.2.2.1 | exact nm.2.2.2.2) (by first | exact nm.1 | exact nm.2.1 | exact nm.2.2.1 | exact nm.2.2.2.1 | exact nm.2.2.2.2) (by first | exact nm.1 | exact nm.2.1 | exact nm.2.2.1 | exact nm.2.2.2.1 | exact nm.2.2.2.2) e)
    have J1 : Inv X pins σ (upd H s.heap.objs.size (fzT #[v, u] [x, y])) { s with heap := g2 } :=
      J.turnedNew (t' := s.toks) (ch := [z, p, q, i1, i2]) kp2 hf (Nat.le_refl _) (okN own (.cons rx (.cons ry .nil)) (by show 2 ≤ sizeLine; decide))
    refine ⟨.ref s.heap.objs.size, _, J1, rfl, ⟨_, x, y, _, rfl, J.hok.fresh (Nat.le_refl _), rfl, fun l hl => by rw [J.tuple_inj hl sx]; exact ex, fun l hl => by rw [J.tuple_inj hl sy]; exact ey⟩, ⟨zz2, ?_, ⟨v, u, (sb.2 _ D.TOz).trans qq⟩, t1'.at fun o e => (sb.2 _ D.i1z).trans e, t2'.at fun o e => (sb.2 _ D.i2z).trans e⟩, fun c hm => ?_⟩
    · exact (sb.2 _ D.TIz).trans (kp _ _ D.TIz D.TITO D.TIi1 D.TIi2 isp)
    · rw [upd_ne (Nat.ne_of_lt (five c hm))]
      exact (hf c hm).1
def iZipN (K : PySem.W.Frag) (ta : TA) : TI := fun σ H R => ta σ H fun vs H1 => ∃ a b xs ys, vs = [.ref a, .ref b] ∧ SqT K H1 a xs ∧ SqT K H1 b ys ∧ R (ItzN K a b) H1
open RZ in
theorem pi_zipN {X : Cx} {e e2 : Expr} {ta : TA} {p pos tpos : Pos} {elts : List Expr} {kk : Nat} (hg : Gl X "zip") (hm : X.mg "zip" = none) (ha : PA X [e, e2] ta)
    (hs : starEach [e, e2] X.env = (false, eval e X.env) :: starEach [e2] X.env := by rfl) (hpl : (backTo pos (starEach [e2] X.env)).any (·.1) = false := by rfl) :
    PI X (.Tuple elts kk tpos) (.Call (.Name "zip" p) [e, e2] [] pos) (iZipN X.K ta) := by
  refine ⟨fun pins s σ H R J w => Call_ (ld_blt J hg hm PyProof.Rows.boot_zip (PyProof.Rows.callWith_type1 (thn (ha.run pos pins s σ H _ J w) fun us s1 ⟨vs, G, J1, rl, want⟩ => ?_) hs hpl))⟩
  obtain ⟨l, m, xs, ys, rfl, sx, sy, want⟩ := want
  obtain ⟨u1, us1, rfl, r1, rl⟩ : ∃ u us', us = u :: us' ∧ RelV (.ref l) u ∧ Vals [.ref m] us' := by cases rl with | cons a b => exact ⟨_, _, rfl, a, b⟩
  obtain ⟨u2, rfl, r2⟩ := vals1 rl
  obtain rfl : u1 = .ref l := r1
  obtain rfl : u2 = .ref m := r2
  obtain ⟨vl, _, tl, _⟩ := J1.tuple sx
  obtain ⟨vm, _, tm, _⟩ := J1.tuple sy
  obtain ⟨o1, e1, _⟩ := id tl
  obtain ⟨o2, e2, _⟩ := id tm
  refine call_zipT (show s1.heap.IsTuple l vl.toArray from tl) (show s1.heap.IsTuple m vm.toArray from tm) fun g hz hp hq h1 h2 _ kp => wpAny_pyIter_zip hz ?_
  have J2 : Inv X pins σ G { s1 with heap := g } := J1.kept (t' := s1.toks) kp
  refine ⟨s1.heap.objs.size + 4, [s1.heap.objs.size + 4, s1.heap.objs.size + 2, s1.heap.objs.size + 3, s1.heap.objs.size, s1.heap.objs.size + 1], _, _, G, rfl, J2, turn_zipN (PySem.W.ktu_apart s1.heap.objs.size l m (Heap.lt_size e1) (Heap.lt_size e2)), ⟨hz, hp, ⟨_, _, hq⟩, h1, h2⟩, fun c hm => ?_, want⟩
  have hle : s1.heap.objs.size ≤ c := by
    simp only [List.mem_cons, List.not_mem_nil, or_false] at hm
    rcases hm with rfl | rfl | rfl | rfl | rfl
    · exact Nat.le_add_right _ _
    · exact Nat.le_add_right _ _
    · exact Nat.le_add_right _ _
    · exact Nat.le_refl _
    · exact Nat.le_add_right _ _
  exact J1.fpOk hle (J1.hok.fresh hle)
end Sim

/-! Sim: a program's values as trees (D), with the addresses that a tree owns; what a value represents. -/
namespace Sim
open PySem PySem.Spec PyProof.Rows L2

inductive D where
  | non | bl (b : Bool) | int (i : Int) | str (x : Str)
  | tup (ds : List D) | lst (ds : List D) | fls (ds : List D)
  | dct (kvs : List (Key × D)) | fdc (kvs : List (Key × D))
  | ins (c : String) (fs : List (Str × D)) | fin (c : String) (fs : List (Str × D))
  | exn (fs : List (Str × D))
  | cls (c : String) | ty (n : String)
  | rng (lo hi : Int)
/-- the written part; within an except suite: the exception, and its own dict -/
structure KX where
  f : PySem.W.Frag
  x : Option (V × Option Addr)
instance : Coe KX PySem.W.Frag := ⟨KX.f⟩

section
variable (K : KX) (Z H : Hp)
mutual
/-- v is the tree d; O: the addresses of its parts that may be changed -/
def Rep : D → V → List Addr → Prop
  | .non, v, O => v = .non ∧ O = []
  | .bl b, v, O => v = .bl b ∧ O = []
  | .int i, v, O => v = .int i ∧ O = []
  | .str x, v, O => v = .str x ∧ O = []
  | .tup ds, v, O => ∃ a vs, v = .ref a ∧ SqN K.f Z a vs ∧ Reps ds vs O
  | .lst ds, v, O => ∃ a vs O', v = .ref a ∧ O = a :: O' ∧ H a = some (.lst vs) ∧ Reps ds vs O'
  | .fls ds, v, O => ∃ a vs, v = .ref a ∧ O = [] ∧ SqL K.f Z a vs ∧ Reps ds vs O
  | .dct kvs, v, O => ∃ a kv O', v = .ref a ∧ O = a :: O' ∧ H a = some (.dK kv) ∧ RepK kvs kv O'
  | .fdc kvs, v, O => ∃ a kv, v = .ref a ∧ O = [] ∧ Rd Z a (.dK kv) ∧ RepK kvs kv O
  | .ins c fs, v, O => ∃ a dx C kv O', v = .ref a ∧ O = a :: dx :: O' ∧ PySem.W.nsIn K.f mainGlobals (Str.ofString c) = some (some (.ref C)) ∧ H a = some (.ins C dx kv) ∧ H dx = some (.own a) ∧ RepF fs kv O'
  | .fin c fs, v, O => ∃ a dx C kv, v = .ref a ∧ O = [] ∧ PySem.W.nsIn K.f mainGlobals (Str.ofString c) = some (some (.ref C)) ∧ Z a = some (.ins C dx kv) ∧ Z dx = some (.own a) ∧ RepF fs kv O
  | .cls c, v, O => ∃ C : Addr, v = .ref C ∧ O = [] ∧ PySem.W.nsIn K.f mainGlobals (Str.ofString c) = some (some (.ref C))
  | .ty n, v, O => v = .ty n ∧ O = []
  | .rng lo hi, v, O => ∃ a, v = .ref a ∧ O = [] ∧ Z a = some (.rng lo hi)
  | .exn fs, v, O => ∃ dd, K.x = some (v, dd) ∧ O = [] ∧ ((fs = [] ∧ dd = none) ∨ ∃ a kv, (fs ≠ [] ∧ dd = some a) ∧ Z a = some (.xd kv) ∧ RepF fs kv O)
def Reps : List D → List V → List Addr → Prop
  | [], vs, O => vs = [] ∧ O = []
  | d :: ds, vs, O => ∃ v vs' O1 O2, vs = v :: vs' ∧ O = O1 ++ O2 ∧ Rep d v O1 ∧ Reps ds vs' O2
def RepK : List (Key × D) → List (Key × V) → List Addr → Prop
  | [], vs, O => vs = [] ∧ O = []
  | (k, d) :: ds, vs, O => ∃ v vs' O1 O2, vs = (k, v) :: vs' ∧ O = O1 ++ O2 ∧ Rep d v O1 ∧ RepK ds vs' O2
def RepF : List (Str × D) → List (Str × V) → List Addr → Prop
  | [], vs, O => vs = [] ∧ O = []
  | (k, d) :: ds, vs, O => ∃ v vs' O1 O2, vs = (k, v) :: vs' ∧ O = O1 ++ O2 ∧ Rep d v O1 ∧ RepF ds vs' O2
end
end

mutual
/-- nothing of it may be changed any more -/
def frz : D → D
  | .tup ds => .tup (frzs ds)
  | .lst ds => .fls (frzs ds)
  | .fls ds => .fls (frzs ds)
  | .dct kvs => .fdc (frzK kvs)
  | .fdc kvs => .fdc (frzK kvs)
  | .ins c fs => .fin c (frzF fs)
  | .fin c fs => .fin c (frzF fs)
  | .exn fs => .exn (frzF fs)
  | .rng lo hi => .rng lo hi
  | .cls c => .cls c
  | .ty n => .ty n
  | .non => .non
  | .bl b => .bl b
  | .int i => .int i
  | .str x => .str x
def frzs : List D → List D
  | [] => []
  | d :: ds => frz d :: frzs ds
def frzK : List (Key × D) → List (Key × D)
  | [] => []
  | (k, d) :: ds => (k, frz d) :: frzK ds
def frzF : List (Str × D) → List (Str × D)
  | [] => []
  | (k, d) :: ds => (k, frz d) :: frzF ds
end

mutual
/-- no part of it may be changed -/
def imm : D → Bool
  | .tup ds => imms ds
  | .fls ds => imms ds
  | .fdc kvs => immK kvs
  | .fin _ fs => immF fs
  | .exn fs => immF fs
  | .lst _ => false
  | .dct _ => false
  | .ins _ _ => false
  | _ => true
def imms : List D → Bool
  | [] => true
  | d :: ds => imm d && imms ds
def immK : List (Key × D) → Bool
  | [] => true
  | (_, d) :: ds => imm d && immK ds
def immF : List (Str × D) → Bool
  | [] => true
  | (_, d) :: ds => imm d && immF ds
end

section
variable {Z Z' : Hp} {K : PySem.W.Frag}
theorem sqT_mono (zz : ∀ b o, Z b = some o → Z' b = some o) {a : Addr} {vs : List V} (h : SqT K Z a vs) : SqT K Z' a vs := by
  rcases h with (h | ⟨o, h⟩) | h
  · exact .inl (.inl (zz _ _ h))
  · exact .inl (.inr ⟨o, zz _ _ h⟩)
  · exact .inr h
theorem sqN_mono (zz : ∀ b o, Z b = some o → Z' b = some o) {a : Addr} {vs : List V} (h : SqN K Z a vs) : SqN K Z' a vs :=
  ⟨sqT_mono zz h.1, h.2.imp (fun ⟨o, u, e, n⟩ => ⟨o, u, zz _ _ e, n⟩) id⟩
theorem sqL_mono (zz : ∀ b o, Z b = some o → Z' b = some o) {a : Addr} {vs : List V} (h : SqL K Z a vs) : SqL K Z' a vs := by
  rcases h with (h | ⟨o, h⟩) | h
  · exact .inl (.inl (zz _ _ h))
  · exact .inl (.inr ⟨o, zz _ _ h⟩)
  · exact .inr h
theorem rd_mono (zz : ∀ b o, Z b = some o → Z' b = some o) {a : Addr} {u : HO} (h : Rd Z a u) : Rd Z' a u := by
  rcases h with h | ⟨o, h⟩
  · exact .inl (zz _ _ h)
  · exact .inr ⟨o, zz _ _ h⟩

end
section
variable {K : KX} {Z H Z' H' : Hp}
mutual
theorem Rep.stay (zz : ∀ b o, Z b = some o → Z' b = some o) : ∀ (d : D) (v : V) (O : List Addr), Rep K Z H d v O → (∀ b ∈ O, ∀ o, H b = some o → H' b = some o) → Rep K Z' H' d v O
  | .non, v, O, h, _ => h
  | .bl b, v, O, h, _ => h
  | .int i, v, O, h, _ => h
  | .str x, v, O, h, _ => h
  | .tup ds, v, O, h, k => by
    obtain ⟨a, vs, e, q, r⟩ := h
    exact ⟨a, vs, e, sqN_mono zz q, Reps.stay zz ds vs O r k⟩
  | .lst ds, v, O, h, k => by
    obtain ⟨a, vs, O', e, eo, q, r⟩ := h
    subst eo
    exact ⟨a, vs, O', e, rfl, k a (by simp) _ q, Reps.stay zz ds vs O' r fun b hb => k b (by simp [hb])⟩
  | .fls ds, v, O, h, k => by
    obtain ⟨a, vs, e, eo, q, r⟩ := h
    exact ⟨a, vs, e, eo, sqL_mono zz q, Reps.stay zz ds vs O r k⟩
  | .dct ds, v, O, h, k => by
    obtain ⟨a, vs, O', e, eo, q, r⟩ := h
    subst eo
    exact ⟨a, vs, O', e, rfl, k a (by simp) _ q, RepK.stay zz ds vs O' r fun b hb => k b (by simp [hb])⟩
  | .fdc ds, v, O, h, k => by
    obtain ⟨a, vs, e, eo, q, r⟩ := h
    exact ⟨a, vs, e, eo, rd_mono zz q, RepK.stay zz ds vs O r k⟩
  | .ins c ds, v, O, h, k => by
    obtain ⟨a, dx, C, vs, O', e, eo, g, q, q2, r⟩ := h
    subst eo
    exact ⟨a, dx, C, vs, O', e, rfl, g, k a (by simp) _ q, k dx (by simp) _ q2, RepF.stay zz ds vs O' r fun b hb => k b (by simp [hb])⟩
  | .fin c ds, v, O, h, k => by
    obtain ⟨a, dx, C, vs, e, eo, g, q, q2, r⟩ := h
    exact ⟨a, dx, C, vs, e, eo, g, zz _ _ q, zz _ _ q2, RepF.stay zz ds vs O r k⟩
  | .cls c, v, O, h, _ => h
  | .ty n, v, O, h, _ => h
  | .rng lo hi, v, O, h, _ => by obtain ⟨a, e, eo, q⟩ := h; exact ⟨a, e, eo, zz _ _ q⟩
  | .exn ds, v, O, h, k => by
    obtain ⟨dd, e, eo, q | ⟨a, kv, ed, q, r⟩⟩ := h
    · exact ⟨dd, e, eo, .inl q⟩
    · exact ⟨dd, e, eo, .inr ⟨a, kv, ed, zz _ _ q, RepF.stay zz ds kv O r k⟩⟩
theorem Reps.stay (zz : ∀ b o, Z b = some o → Z' b = some o) : ∀ (ds : List D) (vs : List V) (O : List Addr), Reps K Z H ds vs O → (∀ b ∈ O, ∀ o, H b = some o → H' b = some o) → Reps K Z' H' ds vs O
  | [], vs, O, h, _ => h
  | d :: ds, vs, O, h, k => by
    obtain ⟨v, vs', O1, O2, e, eo, r1, r2⟩ := h
    subst eo
    exact ⟨v, vs', O1, O2, e, rfl, Rep.stay zz d v O1 r1 fun b hb => k b (by simp [hb]), Reps.stay zz ds vs' O2 r2 fun b hb => k b (by simp [hb])⟩
theorem RepK.stay (zz : ∀ b o, Z b = some o → Z' b = some o) : ∀ (ds : List (Key × D)) (vs : List (Key × V)) (O : List Addr), RepK K Z H ds vs O → (∀ b ∈ O, ∀ o, H b = some o → H' b = some o) → RepK K Z' H' ds vs O
  | [], vs, O, h, _ => h
  | (k, d) :: ds, vs, O, h, q => by
    obtain ⟨v, vs', O1, O2, e, eo, r1, r2⟩ := h
    subst eo
    exact ⟨v, vs', O1, O2, e, rfl, Rep.stay zz d v O1 r1 fun b hb => q b (by simp [hb]), RepK.stay zz ds vs' O2 r2 fun b hb => q b (by simp [hb])⟩
theorem RepF.stay (zz : ∀ b o, Z b = some o → Z' b = some o) : ∀ (ds : List (Str × D)) (vs : List (Str × V)) (O : List Addr), RepF K Z H ds vs O → (∀ b ∈ O, ∀ o, H b = some o → H' b = some o) → RepF K Z' H' ds vs O
  | [], vs, O, h, _ => h
  | (k, d) :: ds, vs, O, h, q => by
    obtain ⟨v, vs', O1, O2, e, eo, r1, r2⟩ := h
    subst eo
    exact ⟨v, vs', O1, O2, e, rfl, Rep.stay zz d v O1 r1 fun b hb => q b (by simp [hb]), RepF.stay zz ds vs' O2 r2 fun b hb => q b (by simp [hb])⟩
end
end

section
variable {K : KX} {Z H : Hp}
mutual
/-- what is owned stands in the heap -/
theorem Rep.there : ∀ (d : D) (v : V) (O : List Addr), Rep K Z H d v O → ∀ b ∈ O, ∃ o, H b = some o
  | .non, v, O, h => by rw [h.2]; simp
  | .bl b, v, O, h => by rw [h.2]; simp
  | .int i, v, O, h => by rw [h.2]; simp
  | .str x, v, O, h => by rw [h.2]; simp
  | .tup ds, v, O, h => by
    obtain ⟨a, vs, e, q, r⟩ := h
    exact Reps.there ds vs O r
  | .lst ds, v, O, h => by
    obtain ⟨a, vs, O', e, eo, q, r⟩ := h
    subst eo
    intro b hb
    rcases List.mem_cons.mp hb with rfl | hb
    · exact ⟨_, q⟩
    · exact Reps.there ds vs O' r b hb
  | .fls ds, v, O, h => by obtain ⟨a, vs, e, eo, _⟩ := h; rw [eo]; simp
  | .dct ds, v, O, h => by
    obtain ⟨a, vs, O', e, eo, q, r⟩ := h
    subst eo
    intro b hb
    rcases List.mem_cons.mp hb with rfl | hb
    · exact ⟨_, q⟩
    · exact RepK.there ds vs O' r b hb
  | .fdc ds, v, O, h => by obtain ⟨a, vs, e, eo, _⟩ := h; rw [eo]; simp
  | .ins c ds, v, O, h => by
    obtain ⟨a, dx, C, vs, O', e, eo, g, q, q2, r⟩ := h
    subst eo
    intro b hb
    rcases List.mem_cons.mp hb with rfl | hb
    · exact ⟨_, q⟩
    · rcases List.mem_cons.mp hb with rfl | hb
      · exact ⟨_, q2⟩
      · exact RepF.there ds vs O' r b hb
  | .fin c ds, v, O, h => by obtain ⟨a, dx, C, vs, e, eo, _⟩ := h; rw [eo]; simp
  | .exn ds, v, O, h => by obtain ⟨dd, e, eo, _⟩ := h; rw [eo]; simp
  | .cls c, v, O, h => by obtain ⟨C, e, eo, _⟩ := h; rw [eo]; simp
  | .ty n, v, O, h => by rw [h.2]; simp
  | .rng lo hi, v, O, h => by obtain ⟨a, e, eo, q⟩ := h; rw [eo]; simp
theorem Reps.there : ∀ (ds : List D) (vs : List V) (O : List Addr), Reps K Z H ds vs O → ∀ b ∈ O, ∃ o, H b = some o
  | [], vs, O, h => by rw [h.2]; simp
  | d :: ds, vs, O, h => by
    obtain ⟨v, vs', O1, O2, e, eo, r1, r2⟩ := h
    subst eo
    intro b hb
    rcases List.mem_append.mp hb with hb | hb
    · exact Rep.there d v O1 r1 b hb
    · exact Reps.there ds vs' O2 r2 b hb
theorem RepK.there : ∀ (ds : List (Key × D)) (vs : List (Key × V)) (O : List Addr), RepK K Z H ds vs O → ∀ b ∈ O, ∃ o, H b = some o
  | [], vs, O, h => by rw [h.2]; simp
  | (k, d) :: ds, vs, O, h => by
    obtain ⟨v, vs', O1, O2, e, eo, r1, r2⟩ := h
    subst eo
    intro b hb
    rcases List.mem_append.mp hb with hb | hb
    · exact Rep.there d v O1 r1 b hb
    · exact RepK.there ds vs' O2 r2 b hb
theorem RepF.there : ∀ (ds : List (Str × D)) (vs : List (Str × V)) (O : List Addr), RepF K Z H ds vs O → ∀ b ∈ O, ∃ o, H b = some o
  | [], vs, O, h => by rw [h.2]; simp
  | (k, d) :: ds, vs, O, h => by
    obtain ⟨v, vs', O1, O2, e, eo, r1, r2⟩ := h
    subst eo
    intro b hb
    rcases List.mem_append.mp hb with hb | hb
    · exact Rep.there d v O1 r1 b hb
    · exact RepF.there ds vs' O2 r2 b hb
end
mutual
/-- what can't be changed owns nothing -/
theorem Rep.immO : ∀ (d : D) (v : V) (O : List Addr), Rep K Z H d v O → imm d = true → O = []
  | .non, v, O, h, _ => h.2
  | .bl b, v, O, h, _ => h.2
  | .int i, v, O, h, _ => h.2
  | .str x, v, O, h, _ => h.2
  | .tup ds, v, O, h, k => by
    obtain ⟨a, vs, e, q, r⟩ := h
    exact Reps.immO ds vs O r k
  | .lst ds, v, O, h, k => by cases k
  | .fls ds, v, O, h, k => by obtain ⟨a, vs, e, eo, _⟩ := h; exact eo
  | .dct ds, v, O, h, k => by cases k
  | .fdc ds, v, O, h, k => by obtain ⟨a, vs, e, eo, _⟩ := h; exact eo
  | .ins c ds, v, O, h, k => by cases k
  | .fin c ds, v, O, h, k => by obtain ⟨a, dx, C, vs, e, eo, _⟩ := h; exact eo
  | .exn ds, v, O, h, k => by obtain ⟨dd, e, eo, _⟩ := h; exact eo
  | .cls c, v, O, h, _ => by obtain ⟨C, e, eo, _⟩ := h; exact eo
  | .ty n, v, O, h, _ => h.2
  | .rng lo hi, v, O, h, _ => by obtain ⟨a, e, eo, q⟩ := h; exact eo
theorem Reps.immO : ∀ (ds : List D) (vs : List V) (O : List Addr), Reps K Z H ds vs O → imms ds = true → O = []
  | [], vs, O, h, _ => h.2
  | d :: ds, vs, O, h, k => by
    obtain ⟨v, vs', O1, O2, e, eo, r1, r2⟩ := h
    unfold imms at k
    rw [Bool.and_eq_true] at k
    rw [eo, Rep.immO d v O1 r1 k.1, Reps.immO ds vs' O2 r2 k.2]
    rfl
end
mutual
theorem Rep.frz (zh : ∀ b o, Z b = some o → H b = some o) : ∀ (d : D) (v : V) (O : List Addr), Rep K Z H d v O → ∀ Z' : Hp, (∀ b o, Z b = some o → Z' b = some o) → (∀ b ∈ O, Z' b = H b) → Rep K Z' H (frz d) v []
  | .non, v, O, h, _, _, _ => by unfold Sim.frz; exact ⟨h.1, rfl⟩
  | .bl b, v, O, h, _, _, _ => by unfold Sim.frz; exact ⟨h.1, rfl⟩
  | .int i, v, O, h, _, _, _ => by unfold Sim.frz; exact ⟨h.1, rfl⟩
  | .str x, v, O, h, _, _, _ => by unfold Sim.frz; exact ⟨h.1, rfl⟩
  | .tup ds, v, O, h, Z', zz, k => by
    obtain ⟨a, vs, e, q, r⟩ := h
    unfold Sim.frz
    exact ⟨a, vs, e, sqN_mono zz q, Reps.frz zh ds vs O r Z' zz k⟩
  | .lst ds, v, O, h, Z', zz, k => by
    obtain ⟨a, vs, O', e, eo, q, r⟩ := h
    subst eo
    unfold Sim.frz
    exact ⟨a, vs, e, rfl, .inl (.inl ((k a (by simp)).trans q)), Reps.frz zh ds vs O' r Z' zz fun b hb => k b (by simp [hb])⟩
  | .fls ds, v, O, h, Z', zz, k => by
    obtain ⟨a, vs, e, eo, q, r⟩ := h
    unfold Sim.frz
    exact ⟨a, vs, e, rfl, sqL_mono zz q, Reps.frz zh ds vs O r Z' zz k⟩
  | .dct ds, v, O, h, Z', zz, k => by
    obtain ⟨a, vs, O', e, eo, q, r⟩ := h
    subst eo
    unfold Sim.frz
    exact ⟨a, vs, e, rfl, .inl ((k a (by simp)).trans q), RepK.frz zh ds vs O' r Z' zz fun b hb => k b (by simp [hb])⟩
  | .fdc ds, v, O, h, Z', zz, k => by
    obtain ⟨a, vs, e, eo, q, r⟩ := h
    unfold Sim.frz
    exact ⟨a, vs, e, rfl, rd_mono zz q, RepK.frz zh ds vs O r Z' zz k⟩
  | .ins c ds, v, O, h, Z', zz, k => by
    obtain ⟨a, dx, C, vs, O', e, eo, g, q, q2, r⟩ := h
    subst eo
    unfold Sim.frz
    exact ⟨a, dx, C, vs, e, rfl, g, (k a (by simp)).trans q, (k dx (by simp)).trans q2, RepF.frz zh ds vs O' r Z' zz fun b hb => k b (by simp [hb])⟩
  | .fin c ds, v, O, h, Z', zz, k => by
    obtain ⟨a, dx, C, vs, e, eo, g, q, q2, r⟩ := h
    unfold Sim.frz
    exact ⟨a, dx, C, vs, e, rfl, g, zz _ _ q, zz _ _ q2, RepF.frz zh ds vs O r Z' zz k⟩
  | .cls c, v, O, h, Z', zz, k => by
    obtain ⟨C, e, eo, g⟩ := h
    unfold Sim.frz
    exact ⟨C, e, rfl, g⟩
  | .ty n, v, O, h, _, _, _ => by unfold Sim.frz; exact ⟨h.1, rfl⟩
  | .rng lo hi, v, O, h, Z', zz, _ => by obtain ⟨a, e, eo, q⟩ := h; unfold Sim.frz; exact ⟨a, e, rfl, zz _ _ q⟩
  | .exn ds, v, O, h, Z', zz, k => by
    obtain ⟨dd, e, eo, q | ⟨a, kv, ed, q, r⟩⟩ := h
    · unfold Sim.frz
      exact ⟨dd, e, rfl, .inl ⟨by rw [q.1]; rfl, q.2⟩⟩
    · unfold Sim.frz
      exact ⟨dd, e, rfl, .inr ⟨a, kv, ⟨fun z => ed.1 (by cases ds with | nil => rfl | cons x xs => obtain ⟨k, d⟩ := x; simp [Sim.frzF] at z), ed.2⟩, zz _ _ q, RepF.frz zh ds kv O r Z' zz k⟩⟩
theorem Reps.frz (zh : ∀ b o, Z b = some o → H b = some o) : ∀ (ds : List D) (vs : List V) (O : List Addr), Reps K Z H ds vs O → ∀ Z' : Hp, (∀ b o, Z b = some o → Z' b = some o) → (∀ b ∈ O, Z' b = H b) → Reps K Z' H (frzs ds) vs []
  | [], vs, O, h, Z', zz, k => by unfold Sim.frzs; exact ⟨h.1, rfl⟩
  | d :: ds, vs, O, h, Z', zz, k => by
    obtain ⟨v, vs', O1, O2, e, eo, r1, r2⟩ := h
    subst eo
    unfold Sim.frzs
    exact ⟨v, vs', [], [], e, rfl, Rep.frz zh d v O1 r1 Z' zz fun b hb => k b (by simp [hb]), Reps.frz zh ds vs' O2 r2 Z' zz fun b hb => k b (by simp [hb])⟩
theorem RepK.frz (zh : ∀ b o, Z b = some o → H b = some o) : ∀ (ds : List (Key × D)) (vs : List (Key × V)) (O : List Addr), RepK K Z H ds vs O → ∀ Z' : Hp, (∀ b o, Z b = some o → Z' b = some o) → (∀ b ∈ O, Z' b = H b) → RepK K Z' H (frzK ds) vs []
  | [], vs, O, h, Z', zz, k => by unfold Sim.frzK; exact ⟨h.1, rfl⟩
  | (k0, d) :: ds, vs, O, h, Z', zz, k => by
    obtain ⟨v, vs', O1, O2, e, eo, r1, r2⟩ := h
    subst eo
    unfold Sim.frzK
    exact ⟨v, vs', [], [], e, rfl, Rep.frz zh d v O1 r1 Z' zz fun b hb => k b (by simp [hb]), RepK.frz zh ds vs' O2 r2 Z' zz fun b hb => k b (by simp [hb])⟩
theorem RepF.frz (zh : ∀ b o, Z b = some o → H b = some o) : ∀ (ds : List (Str × D)) (vs : List (Str × V)) (O : List Addr), RepF K Z H ds vs O → ∀ Z' : Hp, (∀ b o, Z b = some o → Z' b = some o) → (∀ b ∈ O, Z' b = H b) → RepF K Z' H (frzF ds) vs []
  | [], vs, O, h, Z', zz, k => by unfold Sim.frzF; exact ⟨h.1, rfl⟩
  | (k0, d) :: ds, vs, O, h, Z', zz, k => by
    obtain ⟨v, vs', O1, O2, e, eo, r1, r2⟩ := h
    subst eo
    unfold Sim.frzF
    exact ⟨v, vs', [], [], e, rfl, Rep.frz zh d v O1 r1 Z' zz fun b hb => k b (by simp [hb]), RepF.frz zh ds vs' O2 r2 Z' zz fun b hb => k b (by simp [hb])⟩
end
end
/-! ### what holds no caught error -/
mutual
def noX : D → Bool
  | .tup ds => noXs ds
  | .lst ds => noXs ds
  | .fls ds => noXs ds
  | .dct kvs => noXK kvs
  | .fdc kvs => noXK kvs
  | .ins _ fs => noXF fs
  | .fin _ fs => noXF fs
  | .exn _ => false
  | _ => true
def noXs : List D → Bool
  | [] => true
  | d :: ds => noX d && noXs ds
def noXK : List (Key × D) → Bool
  | [] => true
  | (_, d) :: ds => noX d && noXK ds
def noXF : List (Str × D) → Bool
  | [] => true
  | (_, d) :: ds => noX d && noXF ds
end
section
variable {f : PySem.W.Frag} {x y : Option (V × Option Addr)} {Z H : Hp}
mutual
theorem Rep.turnX : ∀ (d : D) (v : V) (O : List Addr), Rep ⟨f, x⟩ Z H d v O → (x = none ∨ noX d = true) → Rep ⟨f, y⟩ Z H d v O
  | .non, v, O, h, _ => h
  | .bl b, v, O, h, _ => h
  | .int i, v, O, h, _ => h
  | .str x, v, O, h, _ => h
  | .cls c, v, O, h, _ => h
  | .ty n, v, O, h, _ => h
  | .rng lo hi, v, O, h, _ => h
  | .tup ds, v, O, h, n => by
    obtain ⟨a, vs, e, q, r⟩ := h
    exact ⟨a, vs, e, q, Reps.turnX ds vs O r n⟩
  | .lst ds, v, O, h, n => by
    obtain ⟨a, vs, O', e, eo, q, r⟩ := h
    exact ⟨a, vs, O', e, eo, q, Reps.turnX ds vs O' r n⟩
  | .fls ds, v, O, h, n => by
    obtain ⟨a, vs, e, eo, q, r⟩ := h
    exact ⟨a, vs, e, eo, q, Reps.turnX ds vs O r n⟩
  | .dct ds, v, O, h, n => by
    obtain ⟨a, vs, O', e, eo, q, r⟩ := h
    exact ⟨a, vs, O', e, eo, q, RepK.turnX ds vs O' r n⟩
  | .fdc ds, v, O, h, n => by
    obtain ⟨a, vs, e, eo, q, r⟩ := h
    exact ⟨a, vs, e, eo, q, RepK.turnX ds vs O r n⟩
  | .ins c ds, v, O, h, n => by
    obtain ⟨a, dx, C, vs, O', e, eo, g, q, q2, r⟩ := h
    exact ⟨a, dx, C, vs, O', e, eo, g, q, q2, RepF.turnX ds vs O' r n⟩
  | .fin c ds, v, O, h, n => by
    obtain ⟨a, dx, C, vs, e, eo, g, q, q2, r⟩ := h
    exact ⟨a, dx, C, vs, e, eo, g, q, q2, RepF.turnX ds vs O r n⟩
  | .exn ds, v, O, h, n => by
    obtain ⟨dd, e, _⟩ := h
    rcases n with n | n
    · subst n; cases e
    · cases n
theorem Reps.turnX : ∀ (ds : List D) (vs : List V) (O : List Addr), Reps ⟨f, x⟩ Z H ds vs O → (x = none ∨ noXs ds = true) → Reps ⟨f, y⟩ Z H ds vs O
  | [], vs, O, h, _ => h
  | d :: ds, vs, O, h, n => by
    obtain ⟨v, vs', O1, O2, e, eo, r1, r2⟩ := h
    exact ⟨v, vs', O1, O2, e, eo, Rep.turnX d v O1 r1 (n.imp id fun n => (Bool.and_eq_true_iff.mp n).1), Reps.turnX ds vs' O2 r2 (n.imp id fun n => (Bool.and_eq_true_iff.mp n).2)⟩
theorem RepK.turnX : ∀ (ds : List (Key × D)) (vs : List (Key × V)) (O : List Addr), RepK ⟨f, x⟩ Z H ds vs O → (x = none ∨ noXK ds = true) → RepK ⟨f, y⟩ Z H ds vs O
  | [], vs, O, h, _ => h
  | (k, d) :: ds, vs, O, h, n => by
    obtain ⟨v, vs', O1, O2, e, eo, r1, r2⟩ := h
    exact ⟨v, vs', O1, O2, e, eo, Rep.turnX d v O1 r1 (n.imp id fun n => (Bool.and_eq_true_iff.mp n).1), RepK.turnX ds vs' O2 r2 (n.imp id fun n => (Bool.and_eq_true_iff.mp n).2)⟩
theorem RepF.turnX : ∀ (ds : List (Str × D)) (vs : List (Str × V)) (O : List Addr), RepF ⟨f, x⟩ Z H ds vs O → (x = none ∨ noXF ds = true) → RepF ⟨f, y⟩ Z H ds vs O
  | [], vs, O, h, _ => h
  | (k, d) :: ds, vs, O, h, n => by
    obtain ⟨v, vs', O1, O2, e, eo, r1, r2⟩ := h
    exact ⟨v, vs', O1, O2, e, eo, Rep.turnX d v O1 r1 (n.imp id fun n => (Bool.and_eq_true_iff.mp n).1), RepF.turnX ds vs' O2 r2 (n.imp id fun n => (Bool.and_eq_true_iff.mp n).2)⟩
end
end
end Sim

namespace Sim
open PySem PySem.Spec PyProof.Rows L2

abbrev Sl := List (Option D)

section
variable (K : KX) (Z H : Hp)
/-- the slots -/
def RepS : Sl → L2.St → List Addr → Prop
  | [], σ, O => σ = [] ∧ O = []
  | none :: e, σ, O => ∃ x σ', σ = x :: σ' ∧ RepS e σ' O
  | some d :: e, σ, O => ∃ v σ' O1 O2, σ = some v :: σ' ∧ O = O1 ++ O2 ∧ Rep K Z H d v O1 ∧ RepS e σ' O2
end

section
variable {K : KX} {Z H Z' H' : Hp}
theorem RepS.stay (zz : ∀ b o, Z b = some o → Z' b = some o) : ∀ {e : Sl} {σ : L2.St} {O : List Addr}, RepS K Z H e σ O → (∀ b ∈ O, ∀ o, H b = some o → H' b = some o) → RepS K Z' H' e σ O
  | [], σ, O, h, _ => h
  | none :: e, σ, O, h, k => by
    obtain ⟨x, σ', es, r⟩ := h
    exact ⟨x, σ', es, r.stay zz k⟩
  | some d :: e, σ, O, h, k => by
    obtain ⟨v, σ', O1, O2, es, eo, r1, r2⟩ := h
    subst eo
    exact ⟨v, σ', O1, O2, es, rfl, r1.stay zz d v O1 fun b hb => k b (by simp [hb]), r2.stay zz fun b hb => k b (by simp [hb])⟩
theorem RepS.there : ∀ {e : Sl} {σ : L2.St} {O : List Addr}, RepS K Z H e σ O → ∀ b ∈ O, ∃ o, H b = some o
  | [], σ, O, h => by rw [h.2]; simp
  | none :: e, σ, O, h => by
    obtain ⟨x, σ', es, r⟩ := h
    exact r.there
  | some d :: e, σ, O, h => by
    obtain ⟨v, σ', O1, O2, es, eo, r1, r2⟩ := h
    subst eo
    intro b hb
    rcases List.mem_append.mp hb with hb | hb
    · exact r1.there d v O1 b hb
    · exact r2.there b hb
theorem RepS.len : ∀ {e : Sl} {σ : L2.St} {O : List Addr}, RepS K Z H e σ O → σ.length = e.length
  | [], σ, O, h => by rw [h.1]; rfl
  | none :: e, σ, O, h => by
    obtain ⟨x, σ', es, r⟩ := h
    rw [es, List.length_cons, List.length_cons, r.len]
  | some d :: e, σ, O, h => by
    obtain ⟨v, σ', O1, O2, es, eo, r1, r2⟩ := h
    rw [es, List.length_cons, List.length_cons, r2.len]
/-- one slot looked at: the others stay, whatever comes into it -/
theorem RepS.get : ∀ {e : Sl} {σ : L2.St} {O : List Addr} {i : Nat} {d : D}, RepS K Z H e σ O → e[i]? = some (some d) → ∃ v A O1 B, σ[i]? = some (some v) ∧ O = A ++ (O1 ++ B) ∧ Rep K Z H d v O1 ∧
    RepS K Z H (e.set i none) σ (A ++ B) ∧ (∀ x, RepS K Z H (e.set i none) (σ.set i x) (A ++ B)) ∧
    (∀ Z' H' d' v' O1', (∀ b o, Z b = some o → Z' b = some o) → (∀ b ∈ A ++ B, ∀ o, H b = some o → H' b = some o) → Rep K Z' H' d' v' O1' → RepS K Z' H' (e.set i (some d')) (σ.set i (some v')) (A ++ (O1' ++ B)))
  | none :: e, σ, O, 0, d, h, q => by simp at q
  | some d0 :: e, σ, O, 0, d, h, q => by
    obtain ⟨v, σ', O1, O2, es, eo, r1, r2⟩ := h
    have e0 : d0 = d := by simpa using q
    subst e0 es eo
    refine ⟨v, [], O1, O2, rfl, rfl, r1, ⟨_, _, rfl, r2⟩, fun x => ⟨_, _, rfl, r2⟩, fun Z' H' d' v' O1' zz hh r => ⟨v', σ', O1', O2, rfl, rfl, r, r2.stay zz fun b hb => hh b (by simpa using hb)⟩⟩
  | none :: e, σ, O, i + 1, d, h, q => by
    obtain ⟨x, σ', es, r⟩ := h
    subst es
    obtain ⟨v, A, O1, B, e1, eo, r1, r2, r3, r4⟩ := r.get (i := i) (d := d) (by simpa using q)
    refine ⟨v, A, O1, B, by simpa using e1, eo, r1, ⟨_, _, rfl, r2⟩, fun y => ⟨_, _, rfl, r3 y⟩, fun Z' H' d' v' O1' zz hh r => ⟨_, _, rfl, r4 Z' H' d' v' O1' zz hh r⟩⟩
  | some d0 :: e, σ, O, i + 1, d, h, q => by
    obtain ⟨v0, σ', O0, O2, es, eo, r0, r⟩ := h
    subst es eo
    obtain ⟨v, A, O1, B, e1, eo, r1, r2, r3, r4⟩ := r.get (i := i) (d := d) (by simpa using q)
    subst eo
    refine ⟨v, O0 ++ A, O1, B, by simpa using e1, by simp, r1, ⟨_, _, _, _, rfl, by rw [List.append_assoc], r0, r2⟩, fun y => ⟨_, _, _, _, rfl, by rw [List.append_assoc], r0, r3 y⟩, fun Z' H' d' v' O1' zz hh r => ⟨_, _, O0, _, rfl, by rw [List.append_assoc], r0.stay zz d0 v0 O0 (fun b hb => hh b (by simp [hb])), r4 Z' H' d' v' O1' zz (fun b hb => hh b (by simp only [List.mem_append] at hb ⊢; rcases hb with hb | hb <;> simp [hb])) r⟩⟩
/-- a slot that nothing is said of -/
theorem RepS.free : ∀ {e : Sl} {σ : L2.St} {O : List Addr} {i : Nat}, RepS K Z H e σ O → e[i]? = some none → ∃ A B, O = A ++ B ∧ (∀ x, RepS K Z H e (σ.set i x) O) ∧
    (∀ Z' H' d' v' O1', (∀ b o, Z b = some o → Z' b = some o) → (∀ b ∈ O, ∀ o, H b = some o → H' b = some o) → Rep K Z' H' d' v' O1' → RepS K Z' H' (e.set i (some d')) (σ.set i (some v')) (A ++ (O1' ++ B)))
  | some d0 :: e, σ, O, 0, h, q => by simp at q
  | none :: e, σ, O, 0, h, q => by
    obtain ⟨x, σ', es, r⟩ := h
    subst es
    exact ⟨[], O, rfl, fun y => ⟨_, _, rfl, r⟩, fun Z' H' d' v' O1' zz hh r' => ⟨v', σ', O1', O, rfl, rfl, r', r.stay zz hh⟩⟩
  | none :: e, σ, O, i + 1, h, q => by
    obtain ⟨x, σ', es, r⟩ := h
    subst es
    obtain ⟨A, B, eo, r3, r4⟩ := r.free (i := i) (by simpa using q)
    exact ⟨A, B, eo, fun y => ⟨_, _, rfl, r3 y⟩, fun Z' H' d' v' O1' zz hh r' => ⟨_, _, rfl, r4 Z' H' d' v' O1' zz hh r'⟩⟩
  | some d0 :: e, σ, O, i + 1, h, q => by
    obtain ⟨v0, σ', O0, O2, es, eo, r0, r⟩ := h
    subst es eo
    obtain ⟨A, B, eo, r3, r4⟩ := r.free (i := i) (by simpa using q)
    subst eo
    refine ⟨O0 ++ A, B, by rw [List.append_assoc], fun y => ⟨_, _, _, _, rfl, rfl, r0, r3 y⟩, fun Z' H' d' v' O1' zz hh r' => ⟨_, _, O0, _, rfl, by rw [List.append_assoc], r0.stay zz d0 v0 O0 (fun b hb => hh b (by simp [hb])), r4 Z' H' d' v' O1' zz (fun b hb => hh b (by simp only [List.mem_append] at hb ⊢; rcases hb with hb | hb <;> simp [hb])) r'⟩⟩
end

/-- the state: slots σ hold the trees e, which own O; Z: what never changes any more -/
structure Ok (K : KX) (Z H : Hp) (σ : L2.St) (e : Sl) (O : List Addr) : Prop where
  zh : ∀ b o, Z b = some o → H b = some o
  rep : RepS K Z H e σ O
  nd : O.Nodup
  zo : ∀ b ∈ O, Z b = none

/-- what a step may do -/
structure Ext (Z H : Hp) (O : List Addr) (Z' H' : Hp) (O' : List Addr) : Prop where
  zz : ∀ b o, Z b = some o → Z' b = some o
  fr : ∀ b o, H b = some o → b ∉ O → H' b = some o
  nw : ∀ b ∈ O', b ∈ O ∨ H b = none
  nz : ∀ b, Z' b ≠ none → Z b ≠ none ∨ b ∈ O ∨ H b = none

/-- a value and the state -/
structure Ov (K : KX) (Z H : Hp) (O : List Addr) (σ : L2.St) (d : D) (e' : Sl) (v : V) (H' : Hp) (Z' : Hp) (Od Oe : List Addr) : Prop where
  ok : Ok K Z' H' σ e' Oe
  rep : Rep K Z' H' d v Od
  nd : (Od ++ Oe).Nodup
  zo : ∀ b ∈ Od, Z' b = none
  ext : Ext Z H O Z' H' (Od ++ Oe)
/-- the same of several values -/
structure Ovs (K : KX) (Z H : Hp) (O : List Addr) (σ : L2.St) (d : List D) (e' : Sl) (v : List V) (H' : Hp) (Z' : Hp) (Od Oe : List Addr) : Prop where
  ok : Ok K Z' H' σ e' Oe
  rep : Reps K Z' H' d v Od
  nd : (Od ++ Oe).Nodup
  zo : ∀ b ∈ Od, Z' b = none
  ext : Ext Z H O Z' H' (Od ++ Oe)

theorem Ext.refl {Z H : Hp} {O : List Addr} : Ext Z H O Z H O := ⟨fun _ _ h => h, fun _ _ h _ => h, fun _ h => .inl h, fun _ h => .inl h⟩
theorem Ext.less {Z H Z' H' : Hp} {O O' O'' : List Addr} (x : Ext Z H O Z' H' O') (h : ∀ b ∈ O'', b ∈ O') : Ext Z H O Z' H' O'' := ⟨x.zz, x.fr, fun b hb => x.nw b (h b hb), x.nz⟩
theorem Ext.more {Z H Z' H' : Hp} {O O' P : List Addr} (x : Ext Z H O Z' H' O') (h : ∀ b ∈ O, b ∈ P) : Ext Z H P Z' H' O' :=
  ⟨x.zz, fun b o q n => x.fr b o q fun m => n (h b m), fun b hb => (x.nw b hb).imp (h b) id, fun b q => (x.nz b q).imp id (Or.imp (h b) id)⟩
/-- two steps: the first leaves O1 (well owned), the second works with P ⊆ O1 and leaves O2 -/
theorem Ext.trans {Z H Z1 H1 Z2 H2 : Hp} {O O1 O2 P : List Addr} (x : Ext Z H O Z1 H1 O1) (y : Ext Z1 H1 P Z2 H2 O2) (hp : ∀ b ∈ P, b ∈ O1) (zo : ∀ b ∈ O1, Z1 b = none) (zh : ∀ b o, Z b = some o → H b = some o) : Ext Z H O Z2 H2 O2 := by
  refine ⟨fun b o h => y.zz b o (x.zz b o h), fun b o h n => ?_, fun b hb => ?_, fun b hb => ?_⟩
  · refine y.fr b o (x.fr b o h n) fun m => ?_
    rcases x.nw b (hp b m) with q | q
    · exact n q
    · rw [h] at q; cases q
  · rcases y.nw b hb with q | q
    · exact x.nw b (hp b q)
    · by_cases m : b ∈ O
      · exact .inl m
      · right
        cases e : H b with
        | none => rfl
        | some o => rw [x.fr b o e m] at q; cases q
  · rcases y.nz b hb with q | q | q
    · exact x.nz b q
    · exact .inr (x.nw b (hp b q))
    · by_cases m : b ∈ O
      · exact .inr (.inl m)
      · refine .inr (.inr ?_)
        cases e : H b with
        | none => rfl
        | some o => rw [x.fr b o e m] at q; cases q

/-! ### results -/
inductive R (α : Type) where
  | ok (a : α) (e : Sl)
  | exc (c : String) (fs : List (Str × D)) (e : Sl)
  | stuck
def R.bind {α β : Type} (r : R α) (f : α → Sl → R β) : R β := match r with
  | .ok a e => f a e
  | .exc c fs e => .exc c fs e
  | .stuck => .stuck
inductive RS where
  | nx (e : Sl)
  | ret (d : D) (e : Sl)
  | brk (e : Sl)
  | cont (e : Sl)
  | exc (c : String) (fs : List (Str × D)) (e : Sl)
  | stuck

/-- an exception of the class called c with these fields -/
def ExV (K : KX) (Z H : Hp) (c : String) (fs : List (Str × D)) (cls : Value) (dd : Option Addr) : Prop :=
  ∃ C : Addr, cls = .ref C ∧ PySem.W.nsIn K mainGlobals (Str.ofString c) = some (some (.ref C)) ∧
    ((fs = [] ∧ dd = none) ∨ ∃ a kv, (fs ≠ [] ∧ dd = some a) ∧ Z a = some (.xd kv) ∧ RepF K Z H fs kv [])
/-- .. in flight, with the state -/
structure Ox (K : KX) (Z H : Hp) (O : List Addr) (σ : L2.St) (c : String) (fs : List (Str × D)) (e' : Sl) (cls : Value) (dd : Option Addr) (H' : Hp) (Z' : Hp) (Oe : List Addr) : Prop where
  ok : Ok K Z' H' σ e' Oe
  ex : ExV K Z' H' c fs cls dd
  ext : Ext Z H O Z' H' Oe

/-- what is wanted behind an expression -/
def Wants (K : KX) (W : WX) (Z H : Hp) (O : List Addr) (σ : L2.St) (r : R D) (Q : VK) : Prop := match r with
  | .ok d e' => ∀ v H' Z' Od Oe, Ov K Z H O σ d e' v H' Z' Od Oe → Q v H'
  | .exc c fs e' => ∀ cls dd H' Z' Oe, Ox K Z H O σ c fs e' cls dd H' Z' Oe → W cls dd σ H'
  | .stuck => False
def WantsT (K : KX) (W : WX) (Z H : Hp) (O : List Addr) (σ : L2.St) (r : R Bool) (Q : Bool → Hp → Prop) : Prop := match r with
  | .ok b e' => ∀ H' Z' Oe, Ok K Z' H' σ e' Oe → Ext Z H O Z' H' Oe → Q b H'
  | .exc c fs e' => ∀ cls dd H' Z' Oe, Ox K Z H O σ c fs e' cls dd H' Z' Oe → W cls dd σ H'
  | .stuck => False
def WantsA (K : KX) (W : WX) (Z H : Hp) (O : List Addr) (σ : L2.St) (r : R (List D)) (Q : List V → Hp → Prop) : Prop := match r with
  | .ok d e' => ∀ v H' Z' Od Oe, Ovs K Z H O σ d e' v H' Z' Od Oe → Q v H'
  | .exc c fs e' => ∀ cls dd H' Z' Oe, Ox K Z H O σ c fs e' cls dd H' Z' Oe → W cls dd σ H'
  | .stuck => False

/-! ### what a reading does -/
section
variable (K : KX) (W : WX)
def SemE (t : TE) (m : Sl → R D) : Prop := ∀ σ H Z O s (Q : VK), Ok K Z H σ s O → Wants K W Z H O σ (m s) Q → t σ H Q
def SemT (t : TT) (m : Sl → R Bool) : Prop := ∀ σ H Z O s (Q : Bool → Hp → Prop), Ok K Z H σ s O → WantsT K W Z H O σ (m s) Q → t σ H Q
def SemA (t : TA) (m : Sl → R (List D)) : Prop := ∀ σ H Z O s (Q : List V → Hp → Prop), Ok K Z H σ s O → WantsA K W Z H O σ (m s) Q → t σ H Q
end
/-- a pure one: nothing that stands changes, the value may be part of what the slots own -/
structure Pz (Z H : Hp) (H' : Hp) (Z' : Hp) : Prop where
  zz : ∀ b o, Z b = some o → Z' b = some o
  zh : ∀ b o, Z' b = some o → H' b = some o
  fr : ∀ b o, H b = some o → H' b = some o
  nz : ∀ b, Z' b ≠ none → Z b ≠ none ∨ H b = none
section
variable (K : KX)
def SemP (t : TE) (m : Sl → Option D) : Prop := ∀ σ H Z O s (Q : VK), Ok K Z H σ s O → ∀ d, m s = some d → (∀ v H' Z' Od, Pz Z H H' Z' → Rep K Z' H' d v Od → Q v H') → t σ H Q
def SemPA (t : TA) (m : Sl → Option (List D)) : Prop := ∀ σ H Z O s (Q : List V → Hp → Prop), Ok K Z H σ s O → ∀ d, m s = some d → (∀ v H' Z' Od, Pz Z H H' Z' → Reps K Z' H' d v Od → Q v H') → t σ H Q
def SemPT (t : TT) (m : Sl → Option Bool) : Prop := ∀ σ H Z O s (Q : Bool → Hp → Prop), Ok K Z H σ s O → ∀ b, m s = some b → (∀ H' Z', Pz Z H H' Z' → Q b H') → t σ H Q
end
/-- e does what m says -/
def SimE (X : Cx) (ξ : Option (V × Option Addr)) (W : WX) (e : Expr) (m : Sl → R D) : Prop := ∃ t : TE, PE X e t ∧ SemE ⟨X.K, ξ⟩ W t m
def SimT (X : Cx) (ξ : Option (V × Option Addr)) (W : WX) (e : Expr) (m : Sl → R Bool) : Prop := ∃ t : TT, PT X e t ∧ SemT ⟨X.K, ξ⟩ W t m
def SimA (X : Cx) (ξ : Option (V × Option Addr)) (W : WX) (es : List Expr) (m : Sl → R (List D)) : Prop := ∃ t : TA, PA X es t ∧ SemA ⟨X.K, ξ⟩ W t m
def SimP (X : Cx) (ξ : Option (V × Option Addr)) (e : Expr) (m : Sl → Option D) : Prop := ∃ t : TE, PE X e t ∧ SemP ⟨X.K, ξ⟩ t m
def SimPA (X : Cx) (ξ : Option (V × Option Addr)) (es : List Expr) (m : Sl → Option (List D)) : Prop := ∃ t : TA, PA X es t ∧ SemPA ⟨X.K, ξ⟩ t m
def SimPT (X : Cx) (ξ : Option (V × Option Addr)) (e : Expr) (m : Sl → Option Bool) : Prop := ∃ t : TT, PT X e t ∧ SemPT ⟨X.K, ξ⟩ t m

/-- the slots that are never set again -/
def Keep (pin : List Nat) (σ σ' : L2.St) : Prop := σ'.length = σ.length ∧ ∀ i ∈ pin, σ'[i]? = σ[i]?
def WantsS (K : KX) (W : WX) (pin : List Nat) (Z H : Hp) (O : List Addr) (σ : L2.St) (r : RS) (D : Ends) : Prop := match r with
  | .nx e' => ∀ σ' H' Z' Oe, Ok K Z' H' σ' e' Oe → Ext Z H O Z' H' Oe → Keep pin σ σ' → D.nx σ' H'
  | .brk e' => ∀ σ' H' Z' Oe, Ok K Z' H' σ' e' Oe → Ext Z H O Z' H' Oe → Keep pin σ σ' → D.bk σ' H'
  | .cont e' => ∀ σ' H' Z' Oe, Ok K Z' H' σ' e' Oe → Ext Z H O Z' H' Oe → Keep pin σ σ' → D.ct σ' H'
  | .ret d e' => ∀ v σ' H' Z' Od Oe, Ov K Z H O σ' d e' v H' Z' Od Oe → Keep pin σ σ' → D.rt v H'
  | .exc c fs e' => ∀ cls dd σ' H' Z' Oe, Ox K Z H O σ' c fs e' cls dd H' Z' Oe → Keep pin σ σ' → W cls dd σ' H'
  | .stuck => False
def SemS (K : KX) (W : WX) (pin : List Nat) (t : TS) (m : Sl → RS) : Prop := ∀ σ H Z O s (D : Ends), Ok K Z H σ s O → WantsS K W pin Z H O σ (m s) D → t D σ H
def SimS (X : Cx) (ξ : Option (V × Option Addr)) (W : WX) (pin : List Nat) (st : Stmt) (m : Sl → RS) : Prop := ∃ t : TS, PS X st t ∧ SemS ⟨X.K, ξ⟩ W pin t m
def SimSs (X : Cx) (ξ : Option (V × Option Addr)) (W : WX) (pin : List Nat) (st : List Stmt) (m : Sl → RS) : Prop := ∃ t : TS, PSs X st t ∧ SemS ⟨X.K, ξ⟩ W pin t m
end Sim

namespace Sim
open PySem PySem.Spec PyProof.Rows L2

section
variable {K : KX} {W : WX} {Z H Z' H' : Hp} {σ : L2.St} {s : Sl} {O : List Addr}
theorem Pz.refl (h : ∀ b o, Z b = some o → H b = some o) : Pz Z H H Z := ⟨fun _ _ q => q, h, fun _ _ q => q, fun _ q => .inl q⟩
theorem Pz.trans {Z2 H2 : Hp} (x : Pz Z H H' Z') (y : Pz Z' H' H2 Z2) : Pz Z H H2 Z2 := ⟨fun b o q => y.zz b o (x.zz b o q), y.zh, fun b o q => y.fr b o (x.fr b o q), fun b q => by
  rcases y.nz b q with q | q
  · exact x.nz b q
  · right
    cases e : H b with
    | none => rfl
    | some o => rw [x.fr b o e] at q; cases q⟩
theorem Ok.pz (ok : Ok K Z H σ s O) (x : Pz Z H H' Z') : Ok K Z' H' σ s O := ⟨x.zh, ok.rep.stay x.zz fun b _ o q => x.fr b o q, ok.nd, fun b hb => by
  cases e : Z' b with
  | none => rfl
  | some o =>
    rcases x.nz b (by rw [e]; simp) with q | q
    · exact absurd (ok.zo b hb) q
    · obtain ⟨o', e'⟩ := ok.rep.there b hb
      rw [q] at e'; cases e'⟩
theorem Pz.ext (x : Pz Z H H' Z') : Ext Z H O Z' H' O := ⟨x.zz, fun b o q _ => x.fr b o q, fun _ h => .inl h, fun b q => (x.nz b q).imp id .inr⟩
theorem Pz.rep (x : Pz Z H H' Z') {d : D} {v : V} {Od : List Addr} (r : Rep K Z H d v Od) : Rep K Z' H' d v Od := r.stay x.zz d v Od fun b _ o q => x.fr b o q
theorem Pz.reps (x : Pz Z H H' Z') {d : List D} {v : List V} {Od : List Addr} (r : Reps K Z H d v Od) : Reps K Z' H' d v Od := r.stay x.zz d v Od fun b _ o q => x.fr b o q
/-- a new thing that never changes -/
theorem Pz.newZ (zh : ∀ b o, Z b = some o → H b = some o) {p : Addr} (n : H p = none) (o : HO) : Pz Z H (upd H p o) (upd Z p o) := by
  have nz : Z p = none := by
    cases e : Z p with
    | none => rfl
    | some o' => rw [zh p o' e] at n; cases n
  refine ⟨fun b u q => ?_, fun b u q => ?_, fun b u q => ?_, fun b q => ?_⟩
  · rw [upd_ne (ne_of_none q nz)]; exact q
  · by_cases e : b = p
    · subst e; rw [upd_same] at q ⊢; exact q
    · rw [upd_ne e] at q ⊢; exact zh b u q
  · rw [upd_ne (ne_of_none q n)]; exact q
  · by_cases e : b = p
    · subst e; exact .inr n
    · rw [upd_ne e] at q; exact .inl q
/-- a new thing that may change -/
theorem Pz.new (zh : ∀ b o, Z b = some o → H b = some o) {p : Addr} (n : H p = none) (o : HO) : Pz Z H (upd H p o) Z := by
  refine ⟨fun b u q => q, fun b u q => ?_, fun b u q => ?_, fun b q => .inl q⟩
  · rw [upd_ne (ne_of_none (zh b u q) n)]; exact zh b u q
  · rw [upd_ne (ne_of_none q n)]; exact q

/-! ### pure ones -/
theorem join_some {i : Nat} {d : D} (e : s[i]?.join = some d) : s[i]? = some (some d) := by
  cases h : s[i]? with
  | none => rw [h] at e; cases e
  | some x => rw [h] at e; cases x with
    | none => cases e
    | some y => cases e; rfl
theorem semP_var {i : Nat} : SemP K (tVar i) (fun s => s[i]?.join) := fun σ H Z O s Q ok d e k => by
  obtain ⟨v, A, O1, B, q, eo, r, _⟩ := ok.rep.get (join_some e)
  exact ⟨v, q, k v H Z O1 (.refl ok.zh) r⟩
theorem semP_c {v : V} {d : D} (r : ∀ Z H, Rep K Z H d v []) : SemP K (tC v) (fun _ => some d) := fun σ H Z O s Q ok d' e k => by
  cases e
  exact k v H Z [] (.refl ok.zh) (r Z H)

/-- an operation by trees: pure, of what may be owned elsewhere -/
def OpD (K : KX) (r : R2) (f : D → D → Option D) : Prop := ∀ Z H dx dy z x y Ox Oy (Q : VK), (∀ b o, Z b = some o → H b = some o) → Rep K Z H dx x Ox → Rep K Z H dy y Oy → f dx dy = some z →
  (∀ v H' Z' Od, Pz Z H H' Z' → Rep K Z' H' z v Od → Q v H') → r x y H Q
def UnD (K : KX) (r : V → Hp → VK → Prop) (f : D → Option D) : Prop := ∀ Z H dx z x Ox (Q : VK), (∀ b o, Z b = some o → H b = some o) → Rep K Z H dx x Ox → f dx = some z →
  (∀ v H' Z' Od, Pz Z H H' Z' → Rep K Z' H' z v Od → Q v H') → r x H Q
def CaD (K : KX) (r : List V → Hp → VK → Prop) (f : List D → Option D) : Prop := ∀ Z H dx z x Ox (Q : VK), (∀ b o, Z b = some o → H b = some o) → Reps K Z H dx x Ox → f dx = some z →
  (∀ v H' Z' Od, Pz Z H H' Z' → Rep K Z' H' z v Od → Q v H') → r x H Q

variable {ta tb : TE} {ma mb : Sl → Option D} {r : R2} {f : D → D → Option D}
theorem semP_op (o : OpD K r f) (ha : SemP K ta ma) (hb : SemP K tb mb) : SemP K (tOp r ta tb) (fun s => (ma s).bind fun x => (mb s).bind fun y => f x y) := fun σ H Z O s Q ok d e k => by
  obtain ⟨x, ea, e⟩ := Option.bind_eq_some_iff.mp e
  obtain ⟨y, eb, e⟩ := Option.bind_eq_some_iff.mp e
  refine ha σ H Z O s _ ok x ea fun v H1 Z1 O1 p1 r1 => ?_
  refine hb σ H1 Z1 O s _ (ok.pz p1) y eb fun w H2 Z2 O2 p2 r2 => ?_
  exact o Z2 H2 x y d v w O1 O2 Q p2.zh (p2.rep r1) r2 e fun z H3 Z3 O3 p3 r3 => k z H3 Z3 O3 (p1.trans (p2.trans p3)) r3
theorem semP_un {r : V → Hp → VK → Prop} {f : D → Option D} (o : UnD K r f) (ha : SemP K ta ma) : SemP K (tUn r ta) (fun s => (ma s).bind f) := fun σ H Z O s Q ok d e k => by
  obtain ⟨x, ea, e⟩ := Option.bind_eq_some_iff.mp e
  refine ha σ H Z O s _ ok x ea fun v H1 Z1 O1 p1 r1 => ?_
  exact o Z1 H1 x d v O1 Q p1.zh r1 e fun z H3 Z3 O3 p3 r3 => k z H3 Z3 O3 (p1.trans p3) r3
theorem semPA_nil : SemPA K tNil (fun _ => some []) := fun σ H Z O s Q ok d e k => by
  cases e
  exact k [] H Z [] (.refl ok.zh) ⟨rfl, rfl⟩
theorem semPA_cons {tr : TA} {mr : Sl → Option (List D)} (ha : SemP K ta ma) (hr : SemPA K tr mr) : SemPA K (tCons ta tr) (fun s => (ma s).bind fun x => (mr s).bind fun xs => some (x :: xs)) := fun σ H Z O s Q ok d e k => by
  obtain ⟨x, ea, e⟩ := Option.bind_eq_some_iff.mp e
  obtain ⟨y, eb, e⟩ := Option.bind_eq_some_iff.mp e
  cases e
  refine ha σ H Z O s _ ok x ea fun v H1 Z1 O1 p1 r1 => ?_
  refine hr σ H1 Z1 O s _ (ok.pz p1) y eb fun w H2 Z2 O2 p2 r2 => ?_
  exact k _ H2 Z2 (O1 ++ O2) (p1.trans p2) ⟨v, w, O1, O2, rfl, rfl, p2.rep r1, r2⟩
theorem reps_len : ∀ {ds : List D} {vs : List V} {O : List Addr}, Reps K Z H ds vs O → vs.length = ds.length
  | [], vs, O, h => by rw [h.1]; rfl
  | d :: ds, vs, O, h => by
    obtain ⟨v, vs', O1, O2, e, eo, r1, r2⟩ := h
    rw [e, List.length_cons, List.length_cons, reps_len r2]
def mkTup (xs : List D) : Option D := if xs.length ≤ sizeLine then some (.tup xs) else none
def mkLst (xs : List D) : Option D := if xs.length ≤ sizeLine then some (.lst xs) else none
theorem mkTup_some {xs : List D} {d : D} (h : mkTup xs = some d) : xs.length ≤ sizeLine ∧ d = .tup xs := by
  unfold mkTup at h
  split at h
  · cases h; exact ⟨by assumption, rfl⟩
  · cases h
theorem mkLst_some {xs : List D} {d : D} (h : mkLst xs = some d) : xs.length ≤ sizeLine ∧ d = .lst xs := by
  unfold mkLst at h
  split at h
  · cases h; exact ⟨by assumption, rfl⟩
  · cases h
theorem semP_tup {ts : TA} {ms : Sl → Option (List D)} (h : SemPA K ts ms) : SemP K (tTupN ts) (fun s => (ms s).bind mkTup) := fun σ H Z O s Q ok d e k => by
  obtain ⟨x, ea, e⟩ := Option.bind_eq_some_iff.mp e
  obtain ⟨hl, rfl⟩ := mkTup_some e
  refine h σ H Z O s _ ok x ea fun v H1 Z1 O1 p1 r1 => ⟨by rw [reps_len r1]; exact hl, fun p ar n => ?_⟩
  have q := Pz.newZ p1.zh n (fzT ar v)
  exact k _ _ _ O1 (p1.trans q) ⟨p, v, rfl, sqN_new, q.reps r1⟩
theorem semP_lst {ts : TA} {ms : Sl → Option (List D)} (h : SemPA K ts ms) : SemP K (tLst ts) (fun s => (ms s).bind mkLst) := fun σ H Z O s Q ok d e k => by
  obtain ⟨x, ea, e⟩ := Option.bind_eq_some_iff.mp e
  obtain ⟨hl, rfl⟩ := mkLst_some e
  refine h σ H Z O s _ ok x ea fun v H1 Z1 O1 p1 r1 => ⟨by rw [reps_len r1]; exact hl, fun p n => ?_⟩
  have q := Pz.new p1.zh n (.lst v)
  exact k _ _ _ (p :: O1) (p1.trans q) ⟨p, v, O1, rfl, rfl, upd_same, q.reps r1⟩
theorem semP_call {r : List V → Hp → VK → Prop} {f : List D → Option D} {ts : TA} {ms : Sl → Option (List D)} (o : CaD K r f) (ha : SemPA K ts ms) : SemP K (tCB r ts) (fun s => (ms s).bind f) := fun σ H Z O s Q ok d e k => by
  obtain ⟨x, ea, e⟩ := Option.bind_eq_some_iff.mp e
  refine ha σ H Z O s _ ok x ea fun v H1 Z1 O1 p1 r1 => ?_
  exact o Z1 H1 x d v O1 Q p1.zh r1 e fun z H3 Z3 O3 p3 r3 => k z H3 Z3 O3 (p1.trans p3) r3
/-- tests -/
def asB : D → Option Bool
  | .bl b => some b
  | _ => none
theorem asB_some {d : D} {b : Bool} (h : asB d = some b) : d = .bl b := by
  cases d <;> try cases h
  rfl
theorem semPT_of {t : TE} {m : Sl → Option D} (h : SemP K t m) : SemPT K (tTest t) (fun s => (m s).bind asB) := fun σ H Z O s Q ok d e k => by
  obtain ⟨x, ea, e⟩ := Option.bind_eq_some_iff.mp e
  have e' := asB_some e
  subst e'
  exact h σ H Z O s _ ok _ ea fun v H1 Z1 O1 p1 r1 => ⟨d, r1.1, k H1 Z1 p1⟩
end
end Sim

namespace Sim
open PySem PySem.Spec PyProof.Rows L2

section
variable {K : KX} {W : WX} {Z H Z' H' Z1 H1 Z2 H2 : Hp} {σ : L2.St} {s s1 : Sl} {O Od Oe O2 : List Addr} {d : D} {v : V}

theorem Ext.trans2 {O1 : List Addr} (x : Ext Z H O Z1 H1 O1) {P : List Addr} (y : Ext Z1 H1 P Z2 H2 O2) (hp : ∀ b ∈ P, b ∈ O1) : Ext Z H O Z2 H2 O2 := by
  have back : ∀ b, H1 b = none → b ∈ O ∨ H b = none := fun b q => by
    by_cases m : b ∈ O
    · exact .inl m
    · right
      cases e : H b with
      | none => rfl
      | some o => rw [x.fr b o e m] at q; cases q
  refine ⟨fun b o h => y.zz b o (x.zz b o h), fun b o h n => y.fr b o (x.fr b o h n) fun m => ?_, fun b hb => ?_, fun b hb => ?_⟩
  · rcases x.nw b (hp b m) with q | q
    · exact n q
    · rw [h] at q; cases q
  · rcases y.nw b hb with q | q
    · exact x.nw b (hp b q)
    · exact back b q
  · rcases y.nz b hb with q | q | q
    · exact x.nz b q
    · exact .inr (x.nw b (hp b q))
    · exact .inr (back b q)

/-- what a pending value keeps behind a further step -/
theorem carry (th : ∀ b ∈ Od, ∃ o, H1 b = some o) (nd : (Od ++ Oe).Nodup) (zo : ∀ b ∈ Od, Z1 b = none) (y : Ext Z1 H1 Oe Z2 H2 O2) :
    (∀ b ∈ Od, ∀ o, H1 b = some o → H2 b = some o) ∧ (∀ b ∈ Od, Z2 b = none) ∧ (∀ b ∈ Od, b ∉ O2) := by
  have ne : ∀ b ∈ Od, b ∉ Oe := fun b hb hc => (List.nodup_append.mp nd).2.2 b hb b hc rfl
  refine ⟨fun b hb o e => y.fr b o e (ne b hb), fun b hb => ?_, fun b hb hc => ?_⟩
  · cases e : Z2 b with
    | none => rfl
    | some o =>
      rcases y.nz b (by rw [e]; simp) with q | q | q
      · exact absurd (zo b hb) q
      · exact absurd q (ne b hb)
      · obtain ⟨o', e'⟩ := th b hb
        rw [q] at e'; cases e'
  · rcases y.nw b hc with q | q
    · exact ne b hb q
    · obtain ⟨o', e'⟩ := th b hb
      rw [q] at e'; cases e'
theorem ext_both {O1 : List Addr} (x : Ext Z H O Z1 H1 (Od ++ Oe)) (y : Ext Z1 H1 Oe Z2 H2 O2) : Ext Z H O Z2 H2 (Od ++ O2) := by
  have t : Ext Z H O Z2 H2 O2 := x.trans2 y fun b hb => List.mem_append_right _ hb
  refine ⟨t.zz, t.fr, fun b hb => ?_, t.nz⟩
  rcases List.mem_append.mp hb with hb | hb
  · exact x.nw b (List.mem_append_left _ hb)
  · exact t.nw b hb
theorem Ov.then_ (x : Ov K Z H O σ d s1 v H1 Z1 Od Oe) (y : Ext Z1 H1 Oe Z2 H2 O2) : Rep K Z2 H2 d v Od ∧ (∀ b ∈ Od, Z2 b = none) ∧ (∀ b ∈ Od, b ∉ O2) ∧ Ext Z H O Z2 H2 (Od ++ O2) :=
  let c := carry (x.rep.there d v Od) x.nd x.zo y
  ⟨x.rep.stay y.zz d v Od c.1, c.2.1, c.2.2, ext_both (O1 := []) x.ext y⟩
theorem Ovs.then_ {d : List D} {v : List V} (x : Ovs K Z H O σ d s1 v H1 Z1 Od Oe) (y : Ext Z1 H1 Oe Z2 H2 O2) : Reps K Z2 H2 d v Od ∧ (∀ b ∈ Od, Z2 b = none) ∧ (∀ b ∈ Od, b ∉ O2) ∧ Ext Z H O Z2 H2 (Od ++ O2) :=
  let c := carry (x.rep.there d v Od) x.nd x.zo y
  ⟨x.rep.stay y.zz d v Od c.1, c.2.1, c.2.2, ext_both (O1 := []) x.ext y⟩
theorem nodup_join {A B : List Addr} (a : A.Nodup) (b : B.Nodup) (h : ∀ x ∈ A, x ∉ B) : (A ++ B).Nodup := List.nodup_append.mpr ⟨a, b, fun x hx y hy e => h x hx (e ▸ hy)⟩

/-! ### from pure ones -/
def ofP (m : Sl → Option D) (s : Sl) : R D := match m s with
  | some d => if imm d = true then .ok d s else .stuck
  | none => .stuck
theorem ofP_some {m : Sl → Option D} {d : D} (h : m s = some d) (hi : imm d = true) : ofP m s = .ok d s := by
  unfold ofP; rw [h]; exact if_pos hi
theorem semE_P {t : TE} {m : Sl → Option D} (h : SemP K t m) : SemE K W t (ofP m) := fun σ H Z O s Q ok w => by
  unfold ofP at w
  cases e : m s with
  | none => rw [e] at w; exact w.elim
  | some d =>
    rw [e] at w
    dsimp only at w
    by_cases hi : imm d = true
    · rw [if_pos hi] at w
      refine h σ H Z O s Q ok d e fun v H' Z' Od p r => ?_
      have eo := r.immO d v Od hi
      subst eo
      exact w v H' Z' [] O ⟨ok.pz p, r, (ok.pz p).nd, by simp, p.ext⟩
    · rw [if_neg hi] at w; exact w.elim
def ofPT (m : Sl → Option Bool) (s : Sl) : R Bool := match m s with
  | some d => .ok d s
  | none => .stuck
theorem semT_P {t : TT} {m : Sl → Option Bool} (h : SemPT K t m) : SemT K W t (ofPT m) := fun σ H Z O s Q ok w => by
  unfold ofPT at w
  cases e : m s with
  | none => rw [e] at w; exact w.elim
  | some d =>
    rw [e] at w
    exact h σ H Z O s Q ok d e fun H' Z' p => w H' Z' O (ok.pz p) p.ext

/-! ### a name, from now on frozen; a name that is read for the last time -/
def mRd (i : Nat) (s : Sl) : R D := match s[i]?.join with
  | some d => .ok (frz d) (s.set i (some (frz d)))
  | none => .stuck
def mMv (i : Nat) (s : Sl) : R D := match s[i]?.join with
  | some d => .ok d (s.set i none)
  | none => .stuck
theorem set_same {σ : L2.St} {i : Nat} {v : V} (h : σ[i]? = some (some v)) : σ.set i (some v) = σ := by
  apply List.ext_getElem?
  intro j
  by_cases e : i = j
  · subst e
    rw [List.getElem?_set_self (List.getElem?_eq_some_iff.mp h).1, h]
  · rw [List.getElem?_set_ne e]
theorem semE_rd {i : Nat} : SemE K W (tVar i) (mRd i) := fun σ H Z O s Q ok w => by
  unfold mRd at w
  cases e : s[i]?.join with
  | none => rw [e] at w; exact w.elim
  | some d =>
    rw [e] at w
    obtain ⟨v, A, O1, B, q, eo, r, r2, r3, r4⟩ := ok.rep.get (join_some e)
    refine ⟨v, q, ?_⟩
    obtain ⟨Z', hZ⟩ : ∃ Z' : Hp, Z' = fun b => if b ∈ O1 then H b else Z b := ⟨_, rfl⟩
    have hO1 : ∀ b ∈ O1, b ∈ O := fun b hb => by rw [eo]; simp [hb]
    have zz : ∀ b o, Z b = some o → Z' b = some o := fun b o h => by
      have nb : b ∉ O1 := fun hb => by rw [ok.zo b (hO1 b hb)] at h; cases h
      rw [hZ]
      show (if b ∈ O1 then H b else Z b) = _
      rw [if_neg nb]; exact h
    have kz : ∀ b ∈ O1, Z' b = H b := fun b hb => by rw [hZ]; exact if_pos hb
    have nd := ok.nd
    rw [eo] at nd
    have ndAB : (A ++ B).Nodup := by grind
    have rf := r.frz ok.zh d v O1 Z' zz kz
    have rs := r4 Z' H (frz d) v [] zz (fun b _ o h => h) rf
    rw [set_same q] at rs
    have hZn : ∀ b, b ∉ O1 → Z' b = Z b := fun b hb => by rw [hZ]; exact if_neg hb
    refine w v H Z' [] (A ++ B) ⟨⟨fun b o h => ?_, rs, ndAB, fun b hb => ?_⟩, rf, ndAB, by simp, ⟨zz, fun _ _ h _ => h, fun b hb => .inl (by grind), fun b hb => ?_⟩⟩
    · by_cases hb : b ∈ O1
      · rw [kz b hb] at h; exact h
      · rw [hZn b hb] at h; exact ok.zh b o h
    · have nb : b ∉ O1 := by grind
      rw [hZn b nb]
      exact ok.zo b (by grind)
    · by_cases hm : b ∈ O1
      · exact .inr (.inl (hO1 b hm))
      · rw [hZn b hm] at hb; exact .inl hb
theorem semE_mv {i : Nat} : SemE K W (tVar i) (mMv i) := fun σ H Z O s Q ok w => by
  unfold mMv at w
  cases e : s[i]?.join with
  | none => rw [e] at w; exact w.elim
  | some d =>
    rw [e] at w
    obtain ⟨v, A, O1, B, q, eo, r, r2, r3, r4⟩ := ok.rep.get (join_some e)
    have nd := ok.nd
    rw [eo] at nd
    refine ⟨v, q, w v H Z O1 (A ++ B) ⟨⟨ok.zh, r2, by grind, fun b hb => ok.zo b (by grind)⟩, r, by grind, fun b hb => ok.zo b (by rw [eo]; simp [hb]), ⟨fun _ _ h => h, fun _ _ h _ => h, fun b hb => .inl (by grind), fun b hb => .inl hb⟩⟩⟩

/-! ### several, in a row -/
theorem semA_nil : SemA K W tNil (fun s => .ok [] s) := fun σ H Z O s Q ok w => w [] H Z [] O ⟨ok, ⟨rfl, rfl⟩, ok.nd, by simp, .refl⟩
def mCons (ma : Sl → R D) (mr : Sl → R (List D)) (s : Sl) : R (List D) := (ma s).bind fun x s1 => (mr s1).bind fun xs s2 => .ok (x :: xs) s2
theorem semA_cons {ta : TE} {tr : TA} {ma : Sl → R D} {mr : Sl → R (List D)} (ha : SemE K W ta ma) (hr : SemA K W tr mr) : SemA K W (tCons ta tr) (mCons ma mr) := fun σ H Z O s Q ok w => by
  unfold mCons at w
  refine ha σ H Z O s _ ok ?_
  cases ea : ma s with
  | stuck => rw [ea] at w; exact w.elim
  | exc c fs e' => rw [ea] at w; exact w
  | ok x s1 =>
    rw [ea] at w
    intro v H1 Z1 Od Oe x1
    refine hr σ H1 Z1 Oe s1 _ x1.ok ?_
    have w : WantsA K W Z H O σ ((mr s1).bind fun xs s2 => .ok (x :: xs) s2) Q := w
    cases eb : mr s1 with
    | stuck => rw [eb] at w; exact w.elim
    | exc c fs e' =>
      rw [eb] at w
      intro cls dd H2 Z2 O2 y
      exact w cls dd H2 Z2 O2 ⟨y.ok, y.ex, x1.ext.trans2 y.ext fun b hb => List.mem_append_right _ hb⟩
    | ok xs s2 =>
      rw [eb] at w
      intro vs H2 Z2 Od2 Oe2 y
      obtain ⟨c1, c2, c3, c4⟩ := x1.then_ y.ext
      refine w (v :: vs) H2 Z2 (Od ++ Od2) Oe2 ⟨y.ok, ⟨v, vs, Od, Od2, rfl, rfl, c1, y.rep⟩, ?_, fun b hb => ?_, by rw [List.append_assoc]; exact c4⟩
      · rw [List.append_assoc]
        exact nodup_join (List.nodup_append.mp x1.nd).1 y.nd c3
      · rcases List.mem_append.mp hb with hb | hb
        · exact c2 b hb
        · exact y.zo b hb
/-- what comes of several values: a built-in's result, a display -/
def NewD (K : KX) (r : List V → Hp → VK → Prop) (f : List D → Option D) : Prop := ∀ Z H dx z xs Ox (Q : VK), (∀ b o, Z b = some o → H b = some o) → Reps K Z H dx xs Ox → Ox.Nodup → (∀ b ∈ Ox, Z b = none) → f dx = some z →
  (∀ v H' Z' Od, Pz Z H H' Z' → Rep K Z' H' z v Od → Od.Nodup → (∀ b ∈ Od, Z' b = none) → (∀ b ∈ Od, b ∈ Ox ∨ H b = none) → Q v H') → r xs H Q
def mApp (f : List D → Option D) (ms : Sl → R (List D)) (s : Sl) : R D := (ms s).bind fun xs s1 => match f xs with
  | some d => .ok d s1
  | none => .stuck
/-- a pure step behind values that are owned -/
theorem ov_pz {xs : List D} {vs : List V} {Od2 : List Addr} {z : D} {v : V} (x : Ovs K Z H O σ xs s1 vs H1 Z1 Od Oe) (p : Pz Z1 H1 H2 Z2) (r : Rep K Z2 H2 z v Od2) (nd : Od2.Nodup) (zo : ∀ b ∈ Od2, Z2 b = none) (nw : ∀ b ∈ Od2, b ∈ Od ∨ H1 b = none) :
    Ov K Z H O σ z s1 v H2 Z2 Od2 Oe := by
  have ok2 := x.ok.pz p
  refine ⟨ok2, r, nodup_join nd ok2.nd fun b hb hc => ?_, zo, ?_⟩
  · rcases nw b hb with q | q
    · exact (List.nodup_append.mp x.nd).2.2 b q b hc rfl
    · obtain ⟨o, e⟩ := x.ok.rep.there b hc
      rw [q] at e; cases e
  · have t : Ext Z H O Z2 H2 (Od ++ Oe) := x.ext.trans2 (p.ext (O := Od ++ Oe)) fun b hb => hb
    refine ⟨t.zz, t.fr, fun b hb => ?_, t.nz⟩
    rcases List.mem_append.mp hb with hb | hb
    · rcases nw b hb with q | q
      · exact t.nw b (List.mem_append_left _ q)
      · by_cases m : b ∈ O
        · exact .inl m
        · right
          cases e : H b with
          | none => rfl
          | some o => rw [x.ext.fr b o e m] at q; cases q
    · exact t.nw b (List.mem_append_right _ hb)
theorem semE_app {r : List V → Hp → VK → Prop} {f : List D → Option D} {ts : TA} {ms : Sl → R (List D)} (o : NewD K r f) (ha : SemA K W ts ms) : SemE K W (tCB r ts) (mApp f ms) := fun σ H Z O s Q ok w => by
  unfold mApp at w
  refine ha σ H Z O s _ ok ?_
  cases ea : ms s with
  | stuck => rw [ea] at w; exact w.elim
  | exc c fs e' => rw [ea] at w; exact w
  | ok xs s1 =>
    rw [ea] at w
    have w : Wants K W Z H O σ (match f xs with | some d => .ok d s1 | none => .stuck) Q := w
    intro vs H1 Z1 Od Oe x
    cases ef : f xs with
    | none => rw [ef] at w; exact w.elim
    | some z =>
      rw [ef] at w
      exact o Z1 H1 xs z vs Od Q x.ok.zh x.rep (List.nodup_append.mp x.nd).1 x.zo ef fun v H2 Z2 Od2 p r nd zo nw => w v H2 Z2 Od2 Oe (ov_pz x p r nd zo nw)
theorem newD_tup : NewD K (fun xs H1 Q => xs.length ≤ sizeLine ∧ ∀ p ar, H1 p = none → Q (.ref p) (upd H1 p (fzT ar xs))) mkTup := fun Z H dx z xs Ox Q zh r nd zo e k => by
  obtain ⟨hl, rfl⟩ := mkTup_some e
  refine ⟨by rw [reps_len r]; exact hl, fun p ar n => ?_⟩
  have q := Pz.newZ zh n (fzT ar xs)
  refine k _ _ _ Ox q ⟨p, xs, rfl, sqN_new, q.reps r⟩ nd (fun b hb => ?_) fun b hb => .inl hb
  obtain ⟨o, e⟩ := r.there dx xs Ox b hb
  rw [upd_ne (ne_of_none e n)]; exact zo b hb
theorem newD_lst : NewD K (fun xs H1 Q => xs.length ≤ sizeLine ∧ ∀ p, H1 p = none → Q (.ref p) (upd H1 p (.lst xs))) mkLst := fun Z H dx z xs Ox Q zh r nd zo e k => by
  obtain ⟨hl, rfl⟩ := mkLst_some e
  refine ⟨by rw [reps_len r]; exact hl, fun p n => ?_⟩
  have q := Pz.new zh n (.lst xs)
  have np : p ∉ Ox := fun hb => by
    obtain ⟨o, e⟩ := r.there dx xs Ox p hb
    rw [n] at e; cases e
  refine k _ _ _ (p :: Ox) q ⟨p, xs, Ox, rfl, rfl, upd_same, q.reps r⟩ (List.nodup_cons.mpr ⟨np, nd⟩) (fun b hb => ?_) fun b hb => ?_
  · rcases List.mem_cons.mp hb with rfl | hb
    · cases e : Z b with
      | none => rfl
      | some o => rw [zh b o e] at n; cases n
    · exact zo b hb
  · rcases List.mem_cons.mp hb with rfl | hb
    · exact .inr n
    · exact .inl hb
theorem semE_tup {ts : TA} {ms : Sl → R (List D)} (h : SemA K W ts ms) : SemE K W (tTupN ts) (mApp mkTup ms) := semE_app newD_tup h
theorem semE_lst {ts : TA} {ms : Sl → R (List D)} (h : SemA K W ts ms) : SemE K W (tLst ts) (mApp mkLst ms) := semE_app newD_lst h

/-- two values in a row -/
theorem sem_two {ta tb : TE} {ma mb : Sl → R D} (ha : SemE K W ta ma) (hb : SemE K W tb mb) (ok : Ok K Z H σ s O) {k : V → V → Hp → Prop}
    (w : match (ma s).bind fun x s1 => (mb s1).bind fun y s2 => .ok (x, y) s2 with
      | .ok (x, y) s2 => ∀ v u H2 Z2 O1 O2 Oe, Rep K Z2 H2 x v O1 → Rep K Z2 H2 y u O2 → Ovs K Z H O σ [x, y] s2 [v, u] H2 Z2 (O1 ++ O2) Oe → k v u H2
      | .exc c fs e' => ∀ cls dd H' Z' Oe, Ox K Z H O σ c fs e' cls dd H' Z' Oe → W cls dd σ H'
      | .stuck => False) : ta σ H fun x H1 => tb σ H1 fun y H2 => k x y H2 := by
  refine ha σ H Z O s _ ok ?_
  cases ea : ma s with
  | stuck => rw [ea] at w; exact w.elim
  | exc c fs e' => rw [ea] at w; exact w
  | ok x s1 =>
    rw [ea] at w
    intro v H1 Z1 Od Oe x1
    refine hb σ H1 Z1 Oe s1 _ x1.ok ?_
    dsimp only [R.bind] at w
    cases eb : mb s1 with
    | stuck => rw [eb] at w; exact w.elim
    | exc c fs e' =>
      rw [eb] at w
      intro cls dd H2 Z2 O2 y
      exact w cls dd H2 Z2 O2 ⟨y.ok, y.ex, x1.ext.trans2 y.ext fun b hb => List.mem_append_right _ hb⟩
    | ok xs s2 =>
      rw [eb] at w
      intro u H2 Z2 Od2 Oe2 y
      obtain ⟨c1, c2, c3, c4⟩ := x1.then_ y.ext
      refine w v u H2 Z2 Od Od2 Oe2 c1 y.rep ⟨y.ok, ⟨v, [u], Od, Od2, rfl, rfl, c1, u, [], Od2, [], rfl, by simp, y.rep, rfl, rfl⟩, ?_, fun b hb => ?_, by rw [List.append_assoc]; exact c4⟩
      · rw [List.append_assoc]
        exact nodup_join (List.nodup_append.mp x1.nd).1 y.nd c3
      · rcases List.mem_append.mp hb with hb | hb
        · exact c2 b hb
        · exact y.zo b hb
/-- an operation on values that are owned -/
def NewD2 (K : KX) (r : R2) (f : D → D → Option D) : Prop := ∀ Z H dx dy z x y Ox Oy (Q : VK), (∀ b o, Z b = some o → H b = some o) → Rep K Z H dx x Ox → Rep K Z H dy y Oy → (Ox ++ Oy).Nodup → (∀ b ∈ Ox ++ Oy, Z b = none) → f dx dy = some z →
  (∀ v H' Z' Od, Pz Z H H' Z' → Rep K Z' H' z v Od → Od.Nodup → (∀ b ∈ Od, Z' b = none) → (∀ b ∈ Od, b ∈ Ox ++ Oy ∨ H b = none) → Q v H') → r x y H Q
def m2 (f : D → D → Option D) (ma mb : Sl → R D) (s : Sl) : R D := (ma s).bind fun x s1 => (mb s1).bind fun y s2 => match f x y with
  | some d => .ok d s2
  | none => .stuck
theorem semE_op {ta tb : TE} {ma mb : Sl → R D} {r : R2} {f : D → D → Option D} (o : NewD2 K r f) (ha : SemE K W ta ma) (hb : SemE K W tb mb) : SemE K W (tOp r ta tb) (m2 f ma mb) := fun σ H Z O s Q ok w => by
  unfold m2 at w
  refine sem_two ha hb ok (k := fun x y H2 => r x y H2 Q) ?_
  cases ea : ma s with
  | stuck => rw [ea] at w; exact w.elim
  | exc c fs e' => rw [ea] at w; exact w
  | ok x s1 =>
    rw [ea] at w
    dsimp only [R.bind] at w ⊢
    cases eb : mb s1 with
    | stuck => rw [eb] at w; exact w.elim
    | exc c fs e' => rw [eb] at w; exact w
    | ok y s2 =>
      rw [eb] at w
      dsimp only at w ⊢
      intro v u H2 Z2 O1 O2 Oe r1 r2 q
      cases ef : f x y with
      | none => rw [ef] at w; exact w.elim
      | some z =>
        rw [ef] at w
        exact o Z2 H2 x y z v u O1 O2 Q q.ok.zh r1 r2 (List.nodup_append.mp q.nd).1 q.zo ef fun v' H3 Z3 Od3 p r nd zo nw => w v' H3 Z3 Od3 Oe (ov_pz q p r nd zo nw)
def only (f : D → D → Option D) (x y : D) : Option D := match f x y with
  | some d => if imm d = true then some d else none
  | none => none
/-- what a pure operation gives may be kept if nothing of it may change -/
theorem newD2_imm {r : R2} {f : D → D → Option D} (o : OpD K r f) : NewD2 K r (only f) := fun Z H dx dy z x y Ox Oy Q zh rx ry nd zo e k => by
  unfold only at e
  cases ef : f dx dy with
  | none => rw [ef] at e; cases e
  | some z' =>
    rw [ef] at e
    dsimp only at e
    split at e
    · rename_i hi
      cases e
      refine o Z H dx dy z x y Ox Oy Q zh rx ry ef fun v H' Z' Od p r => ?_
      have eo := r.immO z v Od hi
      subst eo
      exact k v H' Z' [] p r (by simp) (by simp) (by simp)
    · cases e
def only1 (f : List D → Option D) (x : List D) : Option D := match f x with
  | some d => if imm d = true then some d else none
  | none => none
theorem newD_imm {r : List V → Hp → VK → Prop} {f : List D → Option D} (o : CaD K r f) : NewD K r (only1 f) := fun Z H dx z x Ox Q zh rx nd zo e k => by
  unfold only1 at e
  cases ef : f dx with
  | none => rw [ef] at e; cases e
  | some z' =>
    rw [ef] at e
    dsimp only at e
    split at e
    · rename_i hi
      cases e
      refine o Z H dx z x Ox Q zh rx ef fun v H' Z' Od p r => ?_
      have eo := r.immO z v Od hi
      subst eo
      exact k v H' Z' [] p r (by simp) (by simp) (by simp)
    · cases e
def m1 (f : D → Option D) (ma : Sl → R D) (s : Sl) : R D := (ma s).bind fun x s1 => match f x with
  | some d => if imm d = true then .ok d s1 else .stuck
  | none => .stuck
theorem semE_un {ta : TE} {ma : Sl → R D} {r : V → Hp → VK → Prop} {f : D → Option D} (o : UnD K r f) (ha : SemE K W ta ma) : SemE K W (tUn r ta) (m1 f ma) := fun σ H Z O s Q ok w => by
  unfold m1 at w
  refine ha σ H Z O s _ ok ?_
  cases ea : ma s with
  | stuck => rw [ea] at w; exact w.elim
  | exc c fs e' => rw [ea] at w; exact w
  | ok x s1 =>
    rw [ea] at w
    dsimp only [R.bind] at w
    intro v H1 Z1 Od Oe q
    cases ef : f x with
    | none => rw [ef] at w; exact w.elim
    | some z =>
      rw [ef] at w
      dsimp only at w
      split at w
      · rename_i hi
        refine o Z1 H1 x z v Od Q q.ok.zh q.rep ef fun v' H3 Z3 Od3 p r => ?_
        have eo := r.immO z v' Od3 hi
        subst eo
        exact w v' H3 Z3 [] Oe (ov_pz (xs := [x]) (vs := [v]) (Od := Od) ⟨q.ok, ⟨v, [], Od, [], rfl, by simp, q.rep, rfl, rfl⟩, q.nd, q.zo, q.ext⟩ p r (by simp) (by simp) (by simp))
      · exact w.elim
/-- tests -/
def mTest (m : Sl → R D) (s : Sl) : R Bool := (m s).bind fun d s1 => match d with
  | .bl b => .ok b s1
  | _ => .stuck
theorem semT_of {t : TE} {m : Sl → R D} (h : SemE K W t m) : SemT K W (tTest t) (mTest m) := fun σ H Z O s Q ok w => by
  unfold mTest at w
  refine h σ H Z O s _ ok ?_
  cases ea : m s with
  | stuck => rw [ea] at w; exact w.elim
  | exc c fs e' => rw [ea] at w; exact w
  | ok x s1 =>
    rw [ea] at w
    dsimp only [R.bind] at w
    intro v H1 Z1 Od Oe q
    cases x <;> try exact False.elim w
    rename_i b
    refine ⟨b, q.rep.1, w H1 Z1 Oe q.ok (q.ext.less fun b hb => List.mem_append_right _ hb)⟩
end
end Sim

namespace Sim
open PySem PySem.Spec PyProof.Rows L2

section
variable {K : KX} {W : WX} {pin : List Nat} {Z H Z' H' Z1 H1 Z2 H2 : Hp} {σ σ1 : L2.St} {s s1 : Sl} {O Od Oe O1 O2 : List Addr} {d : D} {v : V}

theorem Keep.refl : Keep pin σ σ := ⟨rfl, fun _ _ => rfl⟩
theorem Keep.trans {σ2 : L2.St} (a : Keep pin σ σ1) (b : Keep pin σ1 σ2) : Keep pin σ σ2 := ⟨b.1.trans a.1, fun i hi => (b.2 i hi).trans (a.2 i hi)⟩
theorem Keep.set {i : Nat} {x : Option V} (h : i ∉ pin) : Keep pin σ (σ.set i x) := ⟨List.length_set, fun j hj => by
  rw [List.getElem?_set_ne (fun e => h (by rw [e]; exact hj))]⟩
theorem WantsS.after {r : RS} {D : Ends} (w : WantsS K W pin Z H O σ r D) (x : Ext Z H O Z1 H1 O1) (k : Keep pin σ σ1) : WantsS K W pin Z1 H1 O1 σ1 r D := by
  cases r with
  | nx e' => exact fun σ' H' Z' Oe ok e kk => w σ' H' Z' Oe ok (x.trans2 e fun _ h => h) (k.trans kk)
  | brk e' => exact fun σ' H' Z' Oe ok e kk => w σ' H' Z' Oe ok (x.trans2 e fun _ h => h) (k.trans kk)
  | cont e' => exact fun σ' H' Z' Oe ok e kk => w σ' H' Z' Oe ok (x.trans2 e fun _ h => h) (k.trans kk)
  | ret d e' => exact fun v σ' H' Z' Od Oe q kk => w v σ' H' Z' Od Oe ⟨q.ok, q.rep, q.nd, q.zo, x.trans2 q.ext fun _ h => h⟩ (k.trans kk)
  | exc c fs e' => exact fun cls dd σ' H' Z' Oe q kk => w cls dd σ' H' Z' Oe ⟨q.ok, q.ex, x.trans2 q.ext fun _ h => h⟩ (k.trans kk)
  | stuck => exact w
theorem WantsS.ofX {c : String} {fs : List (Str × D)} {e' : Sl} {De : Ends} (w : WantsS K W pin Z H O σ (.exc c fs e') De) : ∀ cls dd H' Z' Oe, Ox K Z H O σ c fs e' cls dd H' Z' Oe → W cls dd σ H' :=
  fun cls dd H' Z' Oe q => w cls dd σ H' Z' Oe q .refl

/-! ### blocks -/
def mNext (s : Sl) : RS := .nx s
def mSeq (m n : Sl → RS) (s : Sl) : RS := match m s with
  | .nx s1 => n s1
  | r => r
theorem semS_next : SemS K W pin tNext mNext := fun σ H Z O s D ok w => w σ H Z O ok .refl .refl
theorem semS_seq {t u : TS} {m n : Sl → RS} (ht : SemS K W pin t m) (hu : SemS K W pin u n) : SemS K W pin (tSeq t u) (mSeq m n) := fun σ H Z O s D ok w => by
  unfold mSeq at w
  refine ht σ H Z O s _ ok ?_
  cases e : m s with
  | nx s1 =>
    rw [e] at w
    intro σ' H' Z' Oe ok' x k
    exact hu σ' H' Z' Oe s1 D ok' (WantsS.after w x k)
  | _ => rw [e] at w; exact w
def mBrk (s : Sl) : RS := .brk s
def mCont (s : Sl) : RS := .cont s
theorem semS_brk : SemS K W pin tBreak mBrk := fun σ H Z O s D ok w => w σ H Z O ok .refl .refl
theorem semS_cont : SemS K W pin tCont mCont := fun σ H Z O s D ok w => w σ H Z O ok .refl .refl
def mExpr (m : Sl → R D) (s : Sl) : RS := match m s with
  | .ok _ s1 => .nx s1
  | .exc c fs s1 => .exc c fs s1
  | .stuck => .stuck
theorem semS_expr {t : TE} {m : Sl → R D} (h : SemE K W t m) : SemS K W pin (tDrop t) (mExpr m) := fun σ H Z O s D ok w => by
  unfold mExpr at w
  refine h σ H Z O s _ ok ?_
  cases e : m s with
  | ok d s1 =>
    rw [e] at w
    exact fun v H' Z' Od Oe q => w σ H' Z' Oe q.ok (q.ext.less fun b hb => List.mem_append_right _ hb) .refl
  | exc c fs s1 => rw [e] at w; exact w.ofX
  | stuck => rw [e] at w; exact w.elim
def mRet (m : Sl → R D) (s : Sl) : RS := match m s with
  | .ok d s1 => .ret d s1
  | .exc c fs s1 => .exc c fs s1
  | .stuck => .stuck
theorem semS_ret {t : TE} {m : Sl → R D} (h : SemE K W t m) : SemS K W pin (tRet t) (mRet m) := fun σ H Z O s D ok w => by
  unfold mRet at w
  refine h σ H Z O s _ ok ?_
  cases e : m s with
  | ok d s1 =>
    rw [e] at w
    exact fun v H' Z' Od Oe q => w v σ H' Z' Od Oe q .refl
  | exc c fs s1 => rw [e] at w; exact w.ofX
  | stuck => rw [e] at w; exact w.elim
def mRetN (s : Sl) : RS := .ret .non s
theorem semS_retN : SemS K W pin tRetN mRetN := fun σ H Z O s D ok w => w .non σ H Z [] O ⟨ok, ⟨rfl, rfl⟩, ok.nd, by simp, .refl⟩ .refl
def mIf (c : Sl → R Bool) (m n : Sl → RS) (s : Sl) : RS := match c s with
  | .ok b s1 => if b = true then m s1 else n s1
  | .exc c fs s1 => .exc c fs s1
  | .stuck => .stuck
theorem semS_if {tc : TT} {t u : TS} {c : Sl → R Bool} {m n : Sl → RS} (hc : SemT K W tc c) (ht : SemS K W pin t m) (hu : SemS K W pin u n) : SemS K W pin (tIfS tc t u) (mIf c m n) := fun σ H Z O s D ok w => by
  unfold mIf at w
  refine hc σ H Z O s _ ok ?_
  cases e : c s with
  | ok b s1 =>
    rw [e] at w
    intro H' Z' Oe ok' x
    cases b with
    | true => exact ht σ H' Z' Oe s1 D ok' (WantsS.after w x .refl)
    | false => exact hu σ H' Z' Oe s1 D ok' (WantsS.after w x .refl)
  | exc c fs s1 => rw [e] at w; exact w.ofX
  | stuck => rw [e] at w; exact w.elim

/-! ### targets -/
/-- a value that is put into slot i -/
theorem Ok.put {i : Nat} (ok : Ok K Z H σ s Oe) (r : Rep K Z H d v Od) (nd : (Od ++ Oe).Nodup) (zo : ∀ b ∈ Od, Z b = none) : ∃ O', Ok K Z H (σ.set i (some v)) (s.set i (some d)) O' ∧ ∀ b ∈ O', b ∈ Od ++ Oe := by
  cases e : s[i]? with
  | none =>
    have h1 : s.length ≤ i := List.getElem?_eq_none_iff.mp e
    have h2 : σ.length ≤ i := by rw [ok.rep.len]; exact h1
    rw [List.set_eq_of_length_le h1, List.set_eq_of_length_le h2]
    exact ⟨Oe, ok, fun b hb => List.mem_append_right _ hb⟩
  | some x =>
    cases x with
    | none =>
      obtain ⟨A, B, eo, r3, r4⟩ := ok.rep.free e
      refine ⟨A ++ (Od ++ B), ⟨ok.zh, r4 Z H d v Od (fun _ _ h => h) (fun _ _ _ h => h) r, by grind, fun b hb => ?_⟩, by grind⟩
      by_cases hm : b ∈ Od
      · exact zo b hm
      · exact ok.zo b (by grind)
    | some d0 =>
      obtain ⟨v0, A, O1, B, q, eo, r1, r2, r3, r4⟩ := ok.rep.get e
      refine ⟨A ++ (Od ++ B), ⟨ok.zh, r4 Z H d v Od (fun _ _ h => h) (fun _ _ _ h => h) r, by grind, fun b hb => ?_⟩, by grind⟩
      by_cases hm : b ∈ Od
      · exact zo b hm
      · exact ok.zo b (by grind)
def SemG (K : KX) (pin : List Nat) (g : TG) (m : D → Sl → Option Sl) : Prop := ∀ σ H Z O s d v Od (Q : L2.St → Hp → Prop), Ok K Z H σ s O → Rep K Z H d v Od → (Od ++ O).Nodup → (∀ b ∈ Od, Z b = none) →
  ∀ s', m d s = some s' → (∀ σ' H' Z' O', Ok K Z' H' σ' s' O' → Ext Z H (Od ++ O) Z' H' O' → Keep pin σ σ' → Q σ' H') → g v σ H Q
def SemGs (K : KX) (pin : List Nat) (g : TGs) (m : List D → Sl → Option Sl) : Prop := ∀ σ H Z O s d v Od (Q : L2.St → Hp → Prop), Ok K Z H σ s O → Reps K Z H d v Od → (Od ++ O).Nodup → (∀ b ∈ Od, Z b = none) →
  ∀ s', m d s = some s' → (∀ σ' H' Z' O', Ok K Z' H' σ' s' O' → Ext Z H (Od ++ O) Z' H' O' → Keep pin σ σ' → Q σ' H') → g v σ H Q
def mgName (i : Nat) (d : D) (s : Sl) : Option Sl := some (s.set i (some d))
theorem semG_name {i : Nat} (hi : i ∉ pin) : SemG K pin (gName i) (mgName i) := fun σ H Z O s d v Od Q ok r nd zo s' e k => by
  cases e
  obtain ⟨O', ok', sub⟩ := ok.put r nd zo
  exact k _ H Z O' ok' ⟨fun _ _ h => h, fun _ _ h _ => h, fun b hb => .inl (sub b hb), fun b hb => .inl hb⟩ (.set hi)
def mgNil (ds : List D) (s : Sl) : Option Sl := match ds with
  | [] => some s
  | _ => none
theorem semGs_nil : SemGs K pin gNil mgNil := fun σ H Z O s d v Od Q ok r nd zo s' e k => by
  cases d with
  | cons _ _ => cases e
  | nil =>
    cases e
    exact ⟨r.1, k σ H Z O ok ⟨fun _ _ h => h, fun _ _ h _ => h, fun b hb => .inl (List.mem_append_right _ hb), fun b hb => .inl hb⟩ .refl⟩
def mgCons (m : D → Sl → Option Sl) (n : List D → Sl → Option Sl) (ds : List D) (s : Sl) : Option Sl := match ds with
  | [] => none
  | d :: r => (m d s).bind (n r)
theorem semGs_cons {g : TG} {u : TGs} {m : D → Sl → Option Sl} {n : List D → Sl → Option Sl} (hg : SemG K pin g m) (hu : SemGs K pin u n) : SemGs K pin (gCons g u) (mgCons m n) := fun σ H Z O s d v Od Q ok r nd zo s' e k => by
  cases d with
  | nil => cases e
  | cons d ds =>
    obtain ⟨s1, e1, e2⟩ := Option.bind_eq_some_iff.mp e
    obtain ⟨v1, vs, Oa, Ob, ev, eo, r1, r2⟩ := r
    subst ev eo
    refine ⟨v1, vs, rfl, ?_⟩
    -- the rest waits
    refine hg σ H Z O s d v1 Oa _ ok r1 (by grind) (fun b hb => zo b (by simp [hb])) s1 e1 fun σ' H' Z' O' ok' x kk => ?_
    have nd2 : (Ob ++ (Oa ++ O)).Nodup := by grind
    have c := carry (r2.there ds vs Ob) nd2 (fun b hb => zo b (by simp [hb])) x
    refine hu σ' H' Z' O' s1 ds vs Ob Q ok' (r2.stay x.zz ds vs Ob c.1) (nodup_join (by grind) ok'.nd c.2.2) c.2.1 s' e2 fun σ2 H2 Z2 O2 ok2 x2 kk2 => ?_
    refine k σ2 H2 Z2 O2 ok2 ?_ (kk.trans kk2)
    -- both steps
    have y : Ext Z H (Oa ++ Ob ++ O) Z' H' (Ob ++ O') := by
      have x' : Ext Z H (Oa ++ Ob ++ O) Z' H' O' := x.more fun b hb => by grind
      exact ⟨x'.zz, x'.fr, fun b hb => by
        rcases List.mem_append.mp hb with hb | hb
        · exact .inl (by grind)
        · exact x'.nw b hb, x'.nz⟩
    exact y.trans2 x2 fun _ h => h
def mgTup (n : Nat) (m : List D → Sl → Option Sl) (d : D) (s : Sl) : Option Sl := match d with
  | .tup ds => if ds.length = n then m ds s else none
  | _ => none
theorem semG_tup {n : Nat} {t : TGs} {m : List D → Sl → Option Sl} (h : SemGs K pin t m) : SemG K pin (gTup K n t) (mgTup n m) := fun σ H Z O s d v Od Q ok r nd zo s' e k => by
  unfold mgTup at e
  cases d <;> try cases e
  rename_i ds
  dsimp only at e
  split at e
  · rename_i hl
    obtain ⟨a, vs, ev, q, r⟩ := r
    exact ⟨a, vs, ev, sqT_mono ok.zh q.1, by rw [reps_len r]; exact hl, h σ H Z O s ds vs Od Q ok r nd zo s' e k⟩
  · cases e
def mAsg (m : Sl → R D) (g : D → Sl → Option Sl) (s : Sl) : RS := match m s with
  | .ok d s1 => match g d s1 with
    | some s2 => .nx s2
    | none => .stuck
  | .exc c fs s1 => .exc c fs s1
  | .stuck => .stuck
theorem semS_asg {t : TE} {g : TG} {m : Sl → R D} {mg : D → Sl → Option Sl} (h : SemE K W t m) (hg : SemG K pin g mg) : SemS K W pin (tAsg t g) (mAsg m mg) := fun σ H Z O s D ok w => by
  unfold mAsg at w
  refine h σ H Z O s _ ok ?_
  cases e : m s with
  | ok d s1 =>
    rw [e] at w
    dsimp only at w
    intro v H' Z' Od Oe q
    cases eg : mg d s1 with
    | none => rw [eg] at w; exact w.elim
    | some s2 =>
      rw [eg] at w
      exact hg σ H' Z' Oe s1 d v Od _ q.ok q.rep q.nd q.zo s2 eg fun σ2 H2 Z2 O2 ok2 x2 kk => w σ2 H2 Z2 O2 ok2 (q.ext.trans2 x2 fun _ h => h) kk
  | exc c fs s1 => rw [e] at w; exact w.ofX
  | stuck => rw [e] at w; exact w.elim
/-- x op= e -/
def mAug (i : Nat) (f : D → D → Option D) (m : Sl → R D) (s : Sl) : RS := match s[i]?.join with
  | none => .stuck
  | some _ => match m s with
    | .ok d s1 => match s1[i]?.join with
      | some x => match f x d with
        | some z => .nx (s1.set i (some z))
        | none => .stuck
      | none => .stuck
    | .exc c fs s1 => .exc c fs s1
    | .stuck => .stuck
def IpD (K : KX) (t : TIp) (f : D → D → Option D) : Prop := ∀ Z H dx dy z x y Ox Oy (Q : VK), (∀ b o, Z b = some o → H b = some o) → Rep K Z H dx x Ox → Rep K Z H dy y Oy → f dx dy = some z → (∀ v, Rep K Z H z v [] → Q v H) → t x y H Q
theorem semS_aug {i : Nat} {t : TE} {ti : TIp} {f : D → D → Option D} {m : Sl → R D} (hi : i ∉ pin) (h : SemE K W t m) (o : IpD K ti f) : SemS K W pin (tAug i t ti) (mAug i f m) := fun σ H Z O s D ok w => by
  unfold mAug at w
  cases ex : s[i]?.join with
  | none => rw [ex] at w; exact w.elim
  | some x =>
    rw [ex] at w
    dsimp only at w
    obtain ⟨v, A, O1, B, q, eo, r, _⟩ := ok.rep.get (join_some ex)
    refine ⟨v, q, h σ H Z O s _ ok ?_⟩
    cases e : m s with
    | stuck => rw [e] at w; exact w.elim
    | exc c fs s1 => rw [e] at w; exact w.ofX
    | ok d s1 =>
      rw [e] at w
      dsimp only at w
      intro u H' Z' Od Oe y
      cases e2 : s1[i]?.join with
      | none => rw [e2] at w; exact w.elim
      | some x2 =>
        rw [e2] at w
        dsimp only at w
        obtain ⟨v', A', O1', B', q', eo', r', _, _, r4⟩ := y.ok.rep.get (join_some e2)
        rw [q] at q'
        cases q'
        cases ef : f x2 d with
        | none => rw [ef] at w; exact w.elim
        | some z =>
          rw [ef] at w
          refine o Z' H' x2 d z v u O1' Od _ y.ok.zh r' y.rep ef fun z' rz => ?_
          obtain ⟨O', ok', sub⟩ := y.ok.put (i := i) rz (by simpa using y.ok.nd) (by simp)
          exact w _ H' Z' O' ok' (y.ext.less fun b hb => List.mem_append_right _ (by simpa using sub b hb)) (.set hi)
end
end Sim

namespace Sim
open PySem PySem.Spec PyProof.Rows L2

/-! ### what is walked -/
section
variable {X : Cx} {tg : Expr}
/-- a list or a tuple -/
def iSeq (K : PySem.W.Frag) (tl : TE) : TI := fun σ H R => tl σ H fun x H1 => ∃ a, x = .ref a ∧ (((∃ xs, SqL K H1 a xs) ∧ R (Itl K a) H1) ∨ ((∃ xs, SqT K H1 a xs) ∧ R (Itt K a) H1))
theorem pi_seq {l : Expr} {tl : TE} (hl : PE X l tl) : PI X tg l (iSeq X.K tl) := by
  refine ⟨fun pins s σ H R I h => ?_⟩
  refine thn (hl.run pins s σ H _ I h) fun v s1 ⟨x, H1, I1, r1, q1⟩ => ?_
  obtain ⟨a, e, ⟨⟨xs, hq⟩, q⟩ | ⟨⟨xs, hq⟩, q⟩⟩ := q1
  · subst e
    cases r1
    obtain ⟨its, rv, p, hz⟩ := I1.list hq
    refine wpAny_pyIter_list p.isList ?_
    refine ⟨s1.heap.objs.size, [s1.heap.objs.size], _, _, H1, rfl, I1.kept (t' := s1.toks) fun b o e => Heap.get?_push_of_some _ e, turn_list a _, ⟨_, Heap.get?_push_size _ rfl, rfl, rfl⟩, fun b hb => ?_, q⟩
    have e : b = s1.heap.objs.size := by simpa using hb
    subst e
    exact I1.fpOk (Nat.le_refl _) (I1.hok.fresh (Nat.le_refl _))
  · subst e
    cases r1
    obtain ⟨its, rv, p, hz⟩ := I1.tuple hq
    refine wpAny_pyIter_tuple (show s1.heap.IsTuple a its.toArray from p) ?_
    refine ⟨s1.heap.objs.size, [s1.heap.objs.size], _, _, H1, rfl, I1.kept (t' := s1.toks) fun b o e => Heap.get?_push_of_some _ e, turn_tuple a _, ⟨_, Heap.get?_push_size _ rfl, rfl, rfl⟩, fun b hb => ?_, q⟩
    have e : b = s1.heap.objs.size := by simpa using hb
    subst e
    exact I1.fpOk (Nat.le_refl _) (I1.hok.fresh (Nat.le_refl _))
end

section
variable {K : KX} {W : WX} {pin : List Nat} {Z H Z' H' Z1 H1 Z2 H2 : Hp} {σ σ1 : L2.St} {s s1 : Sl} {O Od Oe O1 O2 : List Addr} {d : D} {v : V}

/-- J walks ds from Z on -/
structure Wlk (K : KX) (Z : Hp) (J : It) (ds : List D) : Prop where
  im : imms ds = true
  go : ∀ (Z2 H2 : Hp) i d, (∀ b o, Z b = some o → Z2 b = some o) → (∀ b o, Z2 b = some o → H2 b = some o) → ds[i]? = some d → J.go i H2 ∧ ∀ x H3, J.yld i H2 x H3 → ∃ Z3, Pz Z2 H2 H3 Z3 ∧ Rep K Z3 H3 d x []
  stop : ∀ Z2 H2 : Hp, (∀ b o, Z b = some o → Z2 b = some o) → (∀ b o, Z2 b = some o → H2 b = some o) → J.stop ds.length H2
def WantsI (K : KX) (W : WX) (Z H : Hp) (O : List Addr) (σ : L2.St) (r : R (List D)) (Q : It → Hp → Prop) : Prop := match r with
  | .ok ds e' => ∀ J H' Z' Oe, Ok K Z' H' σ e' Oe → Ext Z H O Z' H' Oe → Wlk K Z' J ds → Q J H'
  | .exc c fs e' => ∀ cls dd H' Z' Oe, Ox K Z H O σ c fs e' cls dd H' Z' Oe → W cls dd σ H'
  | .stuck => False
def SemI (K : KX) (W : WX) (t : TI) (m : Sl → R (List D)) : Prop := ∀ σ H Z O s (Q : It → Hp → Prop), Ok K Z H σ s O → WantsI K W Z H O σ (m s) Q → t σ H Q

theorem Reps.get : ∀ {ds : List D} {vs : List V} {O : List Addr} {i : Nat} {d : D}, Reps K Z H ds vs O → ds[i]? = some d → ∃ v A O1 B, vs[i]? = some v ∧ O = A ++ (O1 ++ B) ∧ Rep K Z H d v O1
  | d0 :: ds, vs, O, 0, d, h, e => by
    obtain ⟨v, vs', O1, O2, ev, eo, r1, r2⟩ := h
    have e0 : d0 = d := by simpa using e
    subst e0 ev eo
    exact ⟨v, [], O1, O2, rfl, rfl, r1⟩
  | d0 :: ds, vs, O, i + 1, d, h, e => by
    obtain ⟨v, vs', O1, O2, ev, eo, r1, r2⟩ := h
    subst ev eo
    obtain ⟨v', A, Oi, B, e1, e2, r⟩ := r2.get (i := i) (d := d) (by simpa using e)
    subst e2
    exact ⟨v', O1 ++ A, Oi, B, by simpa using e1, by simp, r⟩
theorem imms_get : ∀ {ds : List D} {i : Nat} {d : D}, imms ds = true → ds[i]? = some d → imm d = true
  | d0 :: ds, 0, d, h, e => by
    have e0 : d0 = d := by simpa using e
    subst e0
    unfold imms at h
    exact (Bool.and_eq_true _ _ ▸ h).1
  | d0 :: ds, i + 1, d, h, e => by
    unfold imms at h
    exact imms_get (ds := ds) (i := i) (Bool.and_eq_true _ _ ▸ h).2 (by simpa using e)
theorem walks_list {a : Addr} {vs : List V} {ds : List D} (q : SqL K Z a vs) (r : Reps K Z H ds vs []) (hi : imms ds = true) (zh : ∀ b o, Z b = some o → H b = some o) : Wlk K Z (Itl K a) ds := by
  refine ⟨hi, fun Z2 H2 i d z2 h2 e => ?_, fun Z2 H2 z2 h2 => ?_⟩
  · obtain ⟨v, A, Oi, B, e1, e2, ri⟩ := r.get e
    have eo : Oi = [] := by
      have : A ++ (Oi ++ B) = [] := e2.symm
      simp at this
      exact this.2.1
    subst eo
    refine ⟨⟨vs, v, sqL_mono (fun b o h => h2 b o (z2 b o h)) q, e1⟩, fun x H3 y => ?_⟩
    obtain ⟨rfl, y⟩ := y
    have ex : x = v := by
      have := y vs (sqL_mono (fun b o h => h2 b o (z2 b o h)) q)
      rw [e1] at this
      exact (Option.some.inj this).symm
    subst ex
    exact ⟨Z2, .refl h2, ri.stay z2 d x [] (by simp)⟩
  · exact ⟨vs, sqL_mono (fun b o h => h2 b o (z2 b o h)) q, by rw [reps_len r]; exact Nat.le_refl _⟩
theorem walks_tup {a : Addr} {vs : List V} {ds : List D} (q : SqT K Z a vs) (r : Reps K Z H ds vs []) (hi : imms ds = true) (zh : ∀ b o, Z b = some o → H b = some o) : Wlk K Z (Itt K a) ds := by
  refine ⟨hi, fun Z2 H2 i d z2 h2 e => ?_, fun Z2 H2 z2 h2 => ?_⟩
  · obtain ⟨v, A, Oi, B, e1, e2, ri⟩ := r.get e
    have eo : Oi = [] := by
      have : A ++ (Oi ++ B) = [] := e2.symm
      simp at this
      exact this.2.1
    subst eo
    refine ⟨⟨vs, v, sqT_mono (fun b o h => h2 b o (z2 b o h)) q, e1⟩, fun x H3 y => ?_⟩
    obtain ⟨rfl, y⟩ := y
    have ex : x = v := by
      have := y vs (sqT_mono (fun b o h => h2 b o (z2 b o h)) q)
      rw [e1] at this
      exact (Option.some.inj this).symm
    subst ex
    exact ⟨Z2, .refl h2, ri.stay z2 d x [] (by simp)⟩
  · exact ⟨vs, sqT_mono (fun b o h => h2 b o (z2 b o h)) q, by rw [reps_len r]; exact Nat.le_refl _⟩

mutual
theorem imm_frz : ∀ d : D, imm (frz d) = true
  | .tup ds => by unfold frz imm; exact imms_frz ds
  | .lst ds => by unfold frz imm; exact imms_frz ds
  | .fls ds => by unfold frz imm; exact imms_frz ds
  | .dct ds => by unfold frz imm; exact immK_frz ds
  | .fdc ds => by unfold frz imm; exact immK_frz ds
  | .ins c ds => by unfold frz imm; exact immF_frz ds
  | .fin c ds => by unfold frz imm; exact immF_frz ds
  | .exn ds => by unfold frz imm; exact immF_frz ds
  | .cls _ => rfl
  | .ty _ => rfl
  | .rng _ _ => rfl
  | .non => rfl
  | .bl _ => rfl
  | .int _ => rfl
  | .str _ => rfl
theorem imms_frz : ∀ ds : List D, imms (frzs ds) = true
  | [] => rfl
  | d :: ds => by unfold frzs imms; rw [imm_frz d, imms_frz ds]; rfl
theorem immK_frz : ∀ ds : List (Key × D), immK (frzK ds) = true
  | [] => rfl
  | (_, d) :: ds => by unfold frzK immK; rw [imm_frz d, immK_frz ds]; rfl
theorem immF_frz : ∀ ds : List (Str × D), immF (frzF ds) = true
  | [] => rfl
  | (_, d) :: ds => by unfold frzF immF; rw [imm_frz d, immF_frz ds]; rfl
end
mutual
theorem frz_imm : ∀ d : D, imm d = true → frz d = d
  | .tup ds, h => by unfold frz; rw [frzs_imm ds h]
  | .lst ds, h => by cases h
  | .fls ds, h => by unfold frz; rw [frzs_imm ds h]
  | .dct ds, h => by cases h
  | .fdc ds, h => by unfold frz; rw [frzK_imm ds h]
  | .ins c ds, h => by cases h
  | .fin c ds, h => by unfold frz; rw [frzF_imm ds h]
  | .exn ds, h => by unfold frz; rw [frzF_imm ds h]
  | .cls _, _ => by unfold frz; rfl
  | .ty _, _ => by unfold frz; rfl
  | .rng _ _, _ => by unfold frz; rfl
  | .non, _ => by unfold frz; rfl
  | .bl _, _ => by unfold frz; rfl
  | .int _, _ => by unfold frz; rfl
  | .str _, _ => by unfold frz; rfl
theorem frzs_imm : ∀ ds : List D, imms ds = true → frzs ds = ds
  | [], _ => rfl
  | d :: ds, h => by
    unfold imms at h
    rw [Bool.and_eq_true] at h
    unfold frzs; rw [frz_imm d h.1, frzs_imm ds h.2]
theorem frzK_imm : ∀ ds : List (Key × D), immK ds = true → frzK ds = ds
  | [], _ => rfl
  | (_, d) :: ds, h => by
    unfold immK at h
    rw [Bool.and_eq_true] at h
    unfold frzK; rw [frz_imm d h.1, frzK_imm ds h.2]
theorem frzF_imm : ∀ ds : List (Str × D), immF ds = true → frzF ds = ds
  | [], _ => rfl
  | (_, d) :: ds, h => by
    unfold immF at h
    rw [Bool.and_eq_true] at h
    unfold frzF; rw [frz_imm d h.1, frzF_imm ds h.2]
end

/-- what is owned by a value that waits is frozen -/
theorem freeze_ov (x : Ov K Z H O σ d s1 v H1 Z1 Od Oe) : ∃ Z2, Rep K Z2 H1 (frz d) v [] ∧ Ok K Z2 H1 σ s1 Oe ∧ Ext Z H O Z2 H1 Oe := by
  obtain ⟨Z', hZ⟩ : ∃ Z' : Hp, Z' = fun b => if b ∈ Od then H1 b else Z1 b := ⟨_, rfl⟩
  have kz : ∀ b ∈ Od, Z' b = H1 b := fun b hb => by rw [hZ]; exact if_pos hb
  have hZn : ∀ b, b ∉ Od → Z' b = Z1 b := fun b hb => by rw [hZ]; exact if_neg hb
  have zz : ∀ b o, Z1 b = some o → Z' b = some o := fun b o h => by
    have nb : b ∉ Od := fun hb => by rw [x.zo b hb] at h; cases h
    rw [hZn b nb]; exact h
  refine ⟨Z', x.rep.frz x.ok.zh d v Od Z' zz kz, ⟨fun b o h => ?_, x.ok.rep.stay zz fun _ _ _ h => h, x.ok.nd, fun b hb => ?_⟩, ⟨fun b o h => zz b o (x.ext.zz b o h), x.ext.fr, fun b hb => x.ext.nw b (List.mem_append_right _ hb), fun b hb => ?_⟩⟩
  · by_cases hb : b ∈ Od
    · rw [kz b hb] at h; exact h
    · rw [hZn b hb] at h; exact x.ok.zh b o h
  · have nb : b ∉ Od := fun h => (List.nodup_append.mp x.nd).2.2 b h b hb rfl
    rw [hZn b nb]; exact x.ok.zo b hb
  · by_cases hm : b ∈ Od
    · exact .inr (x.ext.nw b (List.mem_append_left _ hm))
    · rw [hZn b hm] at hb; exact x.ext.nz b hb
/-- the items of a list or a tuple -/
def itemsOf : D → Option (List D)
  | .tup ds => some ds
  | .fls ds => some ds
  | _ => none
def mItems (m : Sl → R D) (s : Sl) : R (List D) := (m s).bind fun d s1 => match itemsOf (frz d) with
  | some ds => .ok ds s1
  | none => .stuck
theorem semI_seq {t : TE} {m : Sl → R D} (h : SemE K W t m) : SemI K W (iSeq K t) (mItems m) := fun σ H Z O s Q ok w => by
  unfold mItems at w
  refine h σ H Z O s _ ok ?_
  cases e : m s with
  | stuck => rw [e] at w; exact w.elim
  | exc c fs s1 => rw [e] at w; exact w
  | ok d s1 =>
    rw [e] at w
    dsimp only [R.bind] at w
    intro v H1 Z1 Od Oe x
    obtain ⟨Z2, r, ok2, ext⟩ := freeze_ov x
    have hi := imm_frz d
    generalize frz d = d' at w r hi
    cases d' <;> try exact False.elim w
    · rename_i ds
      obtain ⟨a, vs, ev, q, r⟩ := r
      exact ⟨a, ev, .inr ⟨⟨vs, sqT_mono ok2.zh q.1⟩, w _ H1 Z2 Oe ok2 ext (walks_tup q.1 r hi ok2.zh)⟩⟩
    · rename_i ds
      obtain ⟨a, vs, ev, eo, q, r⟩ := r
      exact ⟨a, ev, .inl ⟨⟨vs, sqL_mono ok2.zh q⟩, w _ H1 Z2 Oe ok2 ext (walks_list q r hi ok2.zh)⟩⟩

def rangeD (lo : Int) (n : Nat) : List D := (List.range n).map fun i => D.int (lo + (i : Nat))
theorem imms_ints (f : Nat → Int) : ∀ l : List Nat, imms (l.map fun i => D.int (f i)) = true
  | [] => rfl
  | a :: l => by
    show imms (D.int (f a) :: l.map fun i => D.int (f i)) = true
    unfold imms
    rw [imms_ints f l]; rfl
theorem walks_range {lo : Int} {n : Nat} : Wlk K Z (Itr lo n) (rangeD lo n) := by
  refine ⟨imms_ints _ _, fun Z2 H2 i d z2 h2 e => ?_, fun Z2 H2 z2 h2 => ?_⟩
  · unfold rangeD at e
    rw [List.getElem?_map] at e
    by_cases hi : i < n
    · rw [List.getElem?_range hi] at e
      cases e
      exact ⟨hi, fun x H3 y => ⟨Z2, by rw [y.1]; exact .refl h2, ⟨y.2, rfl⟩⟩⟩
    · rw [List.getElem?_eq_none (by rw [List.length_range]; omega)] at e
      cases e
  · show n ≤ (rangeD lo n).length
    unfold rangeD
    rw [List.length_map, List.length_range]
    exact Nat.le_refl _
def rng1 (j : Int) : Option (List D) := if j.natAbs < 2 ^ 60 then some (rangeD 0 j.toNat) else none
def rng2 (i j : Int) : Option (List D) := if i.natAbs < 2 ^ 60 ∧ j.natAbs < 2 ^ 60 then some (rangeD i (j - i).toNat) else none
def rngOf : List D → Option (List D)
  | [.int j] => rng1 j
  | [.int i, .int j] => rng2 i j
  | _ => none
theorem rng1_some {j : Int} {l : List D} (h : rng1 j = some l) : (-(2 ^ 62) ≤ j ∧ j < 2 ^ 62) ∧ l = rangeD 0 j.toNat := by
  unfold rng1 at h
  split at h
  · cases h; exact ⟨by omega, rfl⟩
  · cases h
theorem rng2_some {i j : Int} {l : List D} (h : rng2 i j = some l) : (-(2 ^ 62) ≤ i ∧ i < 2 ^ 62 ∧ -(2 ^ 62) ≤ j ∧ j < 2 ^ 62) ∧ l = rangeD i (j - i).toNat := by
  unfold rng2 at h
  split at h
  · cases h; exact ⟨by omega, rfl⟩
  · cases h
def mRange (m : Sl → R (List D)) (s : Sl) : R (List D) := (m s).bind fun ds s1 => match rngOf ds with
  | some is => .ok is s1
  | none => .stuck
theorem reps_one {d : D} {vs : List V} (h : Reps K Z H [d] vs O) : ∃ v, vs = [v] ∧ Rep K Z H d v O := by
  obtain ⟨v, vs', O1, O2, e, eo, r, r2⟩ := h
  rw [r2.1] at e
  rw [r2.2, List.append_nil] at eo
  subst eo
  exact ⟨v, e, r⟩
theorem reps_two {d e : D} {vs : List V} (h : Reps K Z H [d, e] vs O) : ∃ v u O1 O2, vs = [v, u] ∧ O = O1 ++ O2 ∧ Rep K Z H d v O1 ∧ Rep K Z H e u O2 := by
  obtain ⟨v, vs', O1, O2, ev, eo, r, r2⟩ := h
  obtain ⟨u, e2, r3⟩ := reps_one r2
  subst e2
  exact ⟨v, u, O1, O2, ev, eo, r, r3⟩
theorem semI_range1 {t : TA} {m : Sl → R (List D)} (h : SemA K W t m) (one : ∀ s ds s1, m s = .ok ds s1 → ds.length = 1) : SemI K W (iRng1 t) (mRange m) := fun σ H Z O s Q ok w => by
  unfold mRange at w
  refine h σ H Z O s _ ok ?_
  cases e : m s with
  | stuck => rw [e] at w; exact w.elim
  | exc c fs s1 => rw [e] at w; exact w
  | ok ds s1 =>
    rw [e] at w
    dsimp only [R.bind] at w
    intro v H1 Z1 Od Oe x
    have hl := one s ds s1 e
    match ds, hl with
    | [d], _ =>
      obtain ⟨j, rfl⟩ : ∃ j, d = D.int j := by cases d <;> first | exact ⟨_, rfl⟩ | exact False.elim w
      obtain ⟨u, rfl, r⟩ := reps_one x.rep
      cases er : rng1 j with
      | none => rw [show rngOf [D.int j] = rng1 j from rfl, er] at w; exact w.elim
      | some l =>
        rw [show rngOf [D.int j] = rng1 j from rfl, er] at w
        obtain ⟨hj, rfl⟩ := rng1_some er
        exact ⟨j, by rw [r.1], hj.1, hj.2, w _ H1 Z1 Oe x.ok (x.ext.less fun b hb => List.mem_append_right _ hb) walks_range⟩
theorem semI_range2 {t : TA} {m : Sl → R (List D)} (h : SemA K W t m) (two : ∀ s ds s1, m s = .ok ds s1 → ds.length = 2) : SemI K W (iRng2 t) (mRange m) := fun σ H Z O s Q ok w => by
  unfold mRange at w
  refine h σ H Z O s _ ok ?_
  cases e : m s with
  | stuck => rw [e] at w; exact w.elim
  | exc c fs s1 => rw [e] at w; exact w
  | ok ds s1 =>
    rw [e] at w
    dsimp only [R.bind] at w
    intro v H1 Z1 Od Oe x
    have hl := two s ds s1 e
    match ds, hl with
    | [d, d'], _ =>
      obtain ⟨i, rfl⟩ : ∃ j, d = D.int j := by cases d <;> first | exact ⟨_, rfl⟩ | exact False.elim w
      obtain ⟨j, rfl⟩ : ∃ j, d' = D.int j := by cases d' <;> first | exact ⟨_, rfl⟩ | exact False.elim w
      obtain ⟨u, u', O1, O2, rfl, _, r, r'⟩ := reps_two x.rep
      cases er : rng2 i j with
      | none => rw [show rngOf [D.int i, D.int j] = rng2 i j from rfl, er] at w; exact w.elim
      | some l =>
        rw [show rngOf [D.int i, D.int j] = rng2 i j from rfl, er] at w
        obtain ⟨hj, rfl⟩ := rng2_some er
        exact ⟨i, j, by rw [r.1, r'.1], hj, w _ H1 Z1 Oe x.ok (x.ext.less fun b hb => List.mem_append_right _ hb) walks_range⟩
end
end Sim

namespace Sim
open PySem PySem.Spec PyProof.Rows L2

section
variable {K : KX} {W : WX} {pin : List Nat} {Z H Z' H' Z1 H1 Z2 H2 : Hp} {σ σ1 : L2.St} {s s1 : Sl} {O Od Oe O1 O2 : List Addr} {d : D} {v : V}

/-! ### for, while -/
def mLoop (g : D → Sl → Option Sl) (body : Sl → RS) : List D → Sl → RS
  | [], s => .nx s
  | d :: ds, s => match g d s with
    | none => .stuck
    | some s1 => match body s1 with
      | .nx s2 => mLoop g body ds s2
      | .cont s2 => mLoop g body ds s2
      | .brk s2 => .nx s2
      | .ret d s2 => .ret d s2
      | .exc c fs s2 => .exc c fs s2
      | .stuck => .stuck
def mFor (mi : Sl → R (List D)) (g : D → Sl → Option Sl) (body : Sl → RS) (s : Sl) : RS := match mi s with
  | .ok ds s1 => mLoop g body ds s1
  | .exc c fs s1 => .exc c fs s1
  | .stuck => .stuck
theorem semS_for {wi : TI} {g : TG} {tb : TS} {mi : Sl → R (List D)} {mg : D → Sl → Option Sl} {body : Sl → RS} (hi : SemI K W wi mi) (hg : SemG K pin g mg) (hb : SemS K W pin tb body) : SemS K W pin (tFor wi g tb) (mFor mi mg body) := fun σ H Z O s D ok w => by
  unfold mFor at w
  refine hi σ H Z O s _ ok ?_
  cases e : mi s with
  | stuck => rw [e] at w; exact w.elim
  | exc c fs s1 => rw [e] at w; exact w.ofX
  | ok ds s1 =>
    rw [e] at w
    dsimp only at w
    intro J H1 Z1 O1 ok1 x1 wk
    refine ⟨fun i m σ' H' => m = ds.length - i ∧ i ≤ ds.length ∧ ∃ Z' O' s', Ok K Z' H' σ' s' O' ∧ (∀ b o, Z1 b = some o → Z' b = some o) ∧ WantsS K W pin Z' H' O' σ' (mLoop mg body (ds.drop i) s') D,
      ⟨ds.length, by omega, Nat.zero_le _, Z1, O1, s1, ok1, fun _ _ h => h, w.after x1 .refl⟩, ?_⟩
    rintro i m σ2 H2 ⟨rfl, hi, Z2, O2, s2, ok2, zz, w2⟩
    by_cases hlt : i < ds.length
    · have ed : ds[i]? = some ds[i] := List.getElem?_eq_getElem hlt
      obtain ⟨go, yl⟩ := wk.go Z2 H2 i _ zz ok2.zh ed
      refine .inr ⟨go, fun σ' H' => ∃ Z' O' s', Ok K Z' H' σ' s' O' ∧ (∀ b o, Z1 b = some o → Z' b = some o) ∧ WantsS K W pin Z' H' O' σ' (mLoop mg body (ds.drop (i + 1)) s') D, ?_, ?_⟩
      · rintro σ' H' ⟨Z', O', s', ok', zz', w'⟩
        exact ⟨ds.length - (i + 1), by omega, rfl, hlt, Z', O', s', ok', zz', w'⟩
      · intro v H3 y
        obtain ⟨Z3, p, r⟩ := yl v H3 y
        have ok3 := ok2.pz p
        rw [List.drop_eq_getElem_cons hlt] at w2
        unfold mLoop at w2
        cases eg : mg ds[i] s2 with
        | none => rw [eg] at w2; exact w2.elim
        | some s3 =>
          rw [eg] at w2
          dsimp only at w2
          refine hg σ2 H3 Z3 O2 s2 _ v [] _ ok3 r ok3.nd (by simp) s3 eg fun σ4 H4 Z4 O4 ok4 x4 k4 => ?_
          have x24 : Ext Z2 H2 O2 Z4 H4 O4 := p.ext.trans2 x4 fun _ h => h
          refine hb σ4 H4 Z4 O4 s3 _ ok4 ?_
          have zz4 : ∀ b o, Z1 b = some o → Z4 b = some o := fun b o h => x24.zz b o (zz b o h)
          cases eb : body s3 with
          | nx s5 =>
            rw [eb] at w2
            exact fun σ5 H5 Z5 O5 ok5 x5 k5 => ⟨Z5, O5, s5, ok5, fun b o h => x5.zz b o (zz4 b o h), w2.after (x24.trans2 x5 fun _ h => h) (k4.trans k5)⟩
          | cont s5 =>
            rw [eb] at w2
            exact fun σ5 H5 Z5 O5 ok5 x5 k5 => ⟨Z5, O5, s5, ok5, fun b o h => x5.zz b o (zz4 b o h), w2.after (x24.trans2 x5 fun _ h => h) (k4.trans k5)⟩
          | brk s5 =>
            rw [eb] at w2
            exact fun σ5 H5 Z5 O5 ok5 x5 k5 => w2 σ5 H5 Z5 O5 ok5 (x24.trans2 x5 fun _ h => h) (k4.trans k5)
          | ret d s5 =>
            rw [eb] at w2
            exact fun v σ5 H5 Z5 Od Oe q k5 => w2 v σ5 H5 Z5 Od Oe ⟨q.ok, q.rep, q.nd, q.zo, x24.trans2 q.ext fun _ h => h⟩ (k4.trans k5)
          | exc c fs s5 =>
            rw [eb] at w2
            exact fun cls dd σ5 H5 Z5 Oe q k5 => w2 cls dd σ5 H5 Z5 Oe ⟨q.ok, q.ex, x24.trans2 q.ext fun _ h => h⟩ (k4.trans k5)
          | stuck => rw [eb] at w2; exact w2.elim
    · have ei : i = ds.length := by omega
      subst ei
      rw [List.drop_length] at w2
      exact .inl ⟨wk.stop Z2 H2 zz ok2.zh, w2 σ2 H2 Z2 O2 ok2 .refl .refl⟩
def mWhile (c : Sl → R Bool) (body : Sl → RS) : Nat → Sl → RS
  | 0, _ => .stuck
  | n + 1, s => match c s with
    | .ok b s1 => if b = true then (match body s1 with
      | .nx s2 => mWhile c body n s2
      | .cont s2 => mWhile c body n s2
      | .brk s2 => .nx s2
      | .ret d s2 => .ret d s2
      | .exc c fs s2 => .exc c fs s2
      | .stuck => .stuck) else .nx s1
    | .exc c fs s1 => .exc c fs s1
    | .stuck => .stuck
theorem semS_while {tc : TT} {tb : TS} {c : Sl → R Bool} {body : Sl → RS} (n : Nat) (hc : SemT K W tc c) (hb : SemS K W pin tb body) : SemS K W pin (tWhile tc tb) (mWhile c body n) := fun σ H Z O s D ok w => by
  refine ⟨fun m σ' H' => ∃ Z' O' s', Ok K Z' H' σ' s' O' ∧ WantsS K W pin Z' H' O' σ' (mWhile c body m s') D, ⟨n, Z, O, s, ok, w⟩, ?_⟩
  rintro m σ2 H2 ⟨Z2, O2, s2, ok2, w2⟩
  cases m with
  | zero => exact w2.elim
  | succ m =>
    unfold mWhile at w2
    refine hc σ2 H2 Z2 O2 s2 _ ok2 ?_
    cases ec : c s2 with
    | stuck => rw [ec] at w2; exact w2.elim
    | exc c fs s1 => rw [ec] at w2; exact w2.ofX
    | ok b s3 =>
      rw [ec] at w2
      dsimp only at w2
      intro H3 Z3 O3 ok3 x3
      cases b with
      | false => exact w2 σ2 H3 Z3 O3 ok3 x3 .refl
      | true =>
        rw [if_pos rfl] at w2 ⊢
        refine ⟨fun σ' H' => ∃ Z' O' s', Ok K Z' H' σ' s' O' ∧ WantsS K W pin Z' H' O' σ' (mWhile c body m s') D, fun σ' H' h => ⟨m, Nat.lt_succ_self m, h⟩, ?_⟩
        refine hb σ2 H3 Z3 O3 s3 _ ok3 ?_
        cases eb : body s3 with
        | nx s5 =>
          rw [eb] at w2
          exact fun σ5 H5 Z5 O5 ok5 x5 k5 => ⟨Z5, O5, s5, ok5, w2.after (x3.trans2 x5 fun _ h => h) k5⟩
        | cont s5 =>
          rw [eb] at w2
          exact fun σ5 H5 Z5 O5 ok5 x5 k5 => ⟨Z5, O5, s5, ok5, w2.after (x3.trans2 x5 fun _ h => h) k5⟩
        | brk s5 =>
          rw [eb] at w2
          exact fun σ5 H5 Z5 O5 ok5 x5 k5 => w2 σ5 H5 Z5 O5 ok5 (x3.trans2 x5 fun _ h => h) k5
        | ret d s5 =>
          rw [eb] at w2
          exact fun v σ5 H5 Z5 Od Oe q k5 => w2 v σ5 H5 Z5 Od Oe ⟨q.ok, q.rep, q.nd, q.zo, x3.trans2 q.ext fun _ h => h⟩ k5
        | exc c fs s5 =>
          rw [eb] at w2
          exact fun cls dd σ5 H5 Z5 Oe q k5 => w2 cls dd σ5 H5 Z5 Oe ⟨q.ok, q.ex, x3.trans2 q.ext fun _ h => h⟩ k5
        | stuck => rw [eb] at w2; exact w2.elim

/-! ### comprehensions -/
def wipeS (s : Sl) : List Nat → Sl
  | [] => s
  | v :: vs => (wipeS s vs).set v none
/-- the slots of a block's own names, as they were -/
def oneS (s0 s : Sl) (v : Nat) : Sl := match s0[v]?.join with
  | some d => if imm d = true then s.set v (some d) else s.set v none
  | none => s.set v none
def backS (s0 : Sl) (s : Sl) : List Nat → Sl
  | [] => s
  | v :: vs => backS s0 (oneS s0 s v) vs
/-- all slots but these -/
def co (n : Nat) (vs : List Nat) : List Nat := (List.range n).filter fun i => decide (i ∉ vs)
theorem rep_wipe1 {i : Nat} (r : RepS K Z H s σ O) : ∃ O', RepS K Z H (s.set i none) (σ.set i none) O' ∧ (O' = O ∨ ∃ A B C, O = A ++ (C ++ B) ∧ O' = A ++ B) := by
  cases e : s[i]? with
  | none =>
    have h1 : s.length ≤ i := List.getElem?_eq_none_iff.mp e
    rw [List.set_eq_of_length_le h1, List.set_eq_of_length_le (by rw [r.len]; exact h1)]
    exact ⟨O, r, .inl rfl⟩
  | some x =>
    cases x with
    | none =>
      obtain ⟨A, B, eo, r3, _⟩ := r.free e
      refine ⟨O, ?_, .inl rfl⟩
      have q := r3 none
      have es : s.set i none = s := by
        apply List.ext_getElem?
        intro j
        by_cases h : i = j
        · subst h
          rw [List.getElem?_set_self (List.getElem?_eq_some_iff.mp e).1, e]
        · rw [List.getElem?_set_ne h]
      rw [es]; exact q
    | some d0 =>
      obtain ⟨v0, A, O1, B, q, eo, r1, r2, r3, r4⟩ := r.get e
      exact ⟨A ++ B, r3 none, .inr ⟨A, B, O1, eo, rfl⟩⟩
theorem Ok.wipe : ∀ {vs : List Nat}, Ok K Z H σ s O → ∃ O', Ok K Z H (wipe σ vs) (wipeS s vs) O' ∧ ∀ b ∈ O', b ∈ O
  | [], ok => ⟨O, ok, fun _ h => h⟩
  | v :: vs, ok => by
    obtain ⟨O1, ok1, sub⟩ := ok.wipe (vs := vs)
    obtain ⟨O2, r, q⟩ := rep_wipe1 (i := v) ok1.rep
    rcases q with rfl | ⟨A, B, C, e1, e2⟩
    · exact ⟨_, ⟨ok1.zh, r, ok1.nd, ok1.zo⟩, sub⟩
    · refine ⟨O2, ⟨ok1.zh, r, ?_, fun b hb => ok1.zo b ?_⟩, fun b hb => sub b ?_⟩
      · have := ok1.nd; rw [e1] at this; rw [e2]; grind
      · rw [e1]; rw [e2] at hb; grind
      · rw [e1]; rw [e2] at hb; grind
theorem wipe_get {i : Nat} : ∀ {vs : List Nat}, (wipe σ vs)[i]? = if i ∈ vs then (if i < σ.length then some none else none) else σ[i]?
  | [] => by simp [wipe]
  | v :: vs => by
    unfold wipe
    by_cases e : v = i
    · subst e
      rw [if_pos (by simp)]
      by_cases h : v < σ.length
      · rw [List.getElem?_set_self (by rw [wipe_length]; exact h), if_pos h]
      · rw [List.getElem?_eq_none (by rw [List.length_set, wipe_length]; omega), if_neg h]
    · rw [List.getElem?_set_ne e, wipe_get (vs := vs)]
      by_cases h : i ∈ vs
      · rw [if_pos h, if_pos (show i ∈ v :: vs by simp [h])]
      · rw [if_neg h, if_neg (show ¬ i ∈ v :: vs by simp [h]; omega)]
theorem wipe_same {vs : List Nat} {n : Nat} (hn : n = σ.length) (k : Keep (co n vs) (wipe σ vs) σ1) : wipe σ1 vs = wipe σ vs := by
  apply List.ext_getElem?
  intro i
  have hl : σ1.length = σ.length := by rw [k.1, wipe_length]
  rw [wipe_get, wipe_get, hl]
  by_cases h : i ∈ vs
  · rw [if_pos h, if_pos h]
  · rw [if_neg h, if_neg h]
    by_cases hi : i < σ.length
    · have q := k.2 i (by unfold co; rw [List.mem_filter]; exact ⟨List.mem_range.mpr (by omega), by simpa using h⟩)
      rw [q, wipe_get, if_neg h]
    · rw [List.getElem?_eq_none (by omega), List.getElem?_eq_none (by omega)]
theorem rep_back1 {s0 : Sl} {i : Nat} (r : RepS K Z H s (σ.set i none) O) (nd : O.Nodup) (h : ∀ d, s0[i]?.join = some d → imm d = true → ∃ v, σ[i]? = some (some v) ∧ Rep K Z H d v []) :
    ∃ O', RepS K Z H (oneS s0 s i) σ O' ∧ O'.Nodup ∧ ∀ b ∈ O', b ∈ O := by
  obtain ⟨O1, r1, q⟩ := rep_wipe1 (i := i) r
  rw [List.set_set] at r1
  have sub : O1.Nodup ∧ ∀ b ∈ O1, b ∈ O := by
    rcases q with rfl | ⟨A, B, C, e1, e2⟩
    · exact ⟨nd, fun _ h => h⟩
    · subst e1 e2; exact ⟨by grind, by grind⟩
  by_cases hi : i < σ.length
  · have hs : i < s.length := by have := r.len; rw [List.length_set] at this; omega
    have e : (s.set i none)[i]? = some none := List.getElem?_set_self hs
    obtain ⟨A, B, eo, r3, r4⟩ := r1.free e
    have back : (σ.set i none).set i (σ[i]?.join) = σ := by
      rw [List.set_set]
      apply List.ext_getElem?
      intro j
      by_cases h : i = j
      · subst h
        rw [List.getElem?_set_self hi, List.getElem?_eq_getElem hi]; rfl
      · rw [List.getElem?_set_ne h]
    have rn : RepS K Z H (s.set i none) σ O1 := by
      have q := r3 (σ[i]?.join)
      rw [back] at q; exact q
    unfold oneS
    cases e0 : s0[i]?.join with
    | none => exact ⟨O1, rn, sub⟩
    | some d =>
      dsimp only
      by_cases hm : imm d = true
      · rw [if_pos hm]
        obtain ⟨v, ev, rv⟩ := h d e0 hm
        have q := r4 Z H d v [] (fun _ _ h => h) (fun _ _ _ h => h) rv
        rw [List.set_set, List.set_set] at q
        rw [set_same ev] at q
        rw [eo] at sub
        exact ⟨A ++ ([] ++ B), q, sub⟩
      · rw [if_neg hm]; exact ⟨O1, rn, sub⟩
  · have hs : s.length ≤ i := by have := r.len; rw [List.length_set] at this; omega
    have e1 : oneS s0 s i = s := by
      unfold oneS
      split
      · split <;> exact List.set_eq_of_length_le hs
      · exact List.set_eq_of_length_le hs
    rw [List.set_eq_of_length_le (by omega)] at r
    rw [e1]
    exact ⟨O, r, nd, fun _ h => h⟩
theorem Ok.back {s0 : Sl} : ∀ {vs : List Nat} {s : Sl} {O : List Addr}, vs.Nodup → Ok K Z H (L2.wipe σ vs) s O → (∀ (i : Nat) (d : D), s0[i]?.join = some d → imm d = true → ∃ v, σ[i]? = some (some v) ∧ Rep K Z H d v []) →
    ∃ O', Ok K Z H σ (backS s0 s vs) O' ∧ ∀ b ∈ O', b ∈ O
  | [], s, O, _, ok, h => ⟨O, ok, fun _ h => h⟩
  | v :: vs, s, O, nd, ok, h => by
    have nd' := List.nodup_cons.mp nd
    obtain ⟨O1, r1, n1, sub⟩ := rep_back1 (s0 := s0) (σ := L2.wipe σ vs) (i := v) ok.rep ok.nd fun d e hm => by
      obtain ⟨v', e', r⟩ := h v d e hm
      exact ⟨v', by rw [wipe_get, if_neg nd'.1]; exact e', r⟩
    obtain ⟨O2, ok2, sub2⟩ := Ok.back (vs := vs) nd'.2 ⟨ok.zh, r1, n1, fun b hb => ok.zo b (sub b hb)⟩ h
    exact ⟨O2, ok2, fun b hb => sub b (sub2 b hb)⟩

def mCompLoop (vs : List Nat) (g : D → Sl → Option Sl) (t : Sl → R Bool) (m : Sl → R D) : List D → Sl → List D → R (List D)
  | [], s, acc => .ok acc s
  | d :: ds, s, acc => match g d s with
    | none => .stuck
    | some s1 => match t s1 with
      | .ok b s2 => if b = true then (match m s2 with
        | .ok y s3 => if acc.length < sizeLine then mCompLoop vs g t m ds (wipeS s3 vs) (acc ++ [y]) else .stuck
        | _ => .stuck) else mCompLoop vs g t m ds (wipeS s2 vs) acc
      | _ => .stuck
def mComp (mi : Sl → R (List D)) (vs : List Nat) (g : D → Sl → Option Sl) (t : Sl → R Bool) (m : Sl → R D) (s : Sl) : R D := match mi s with
  | .ok ds s1 => match mCompLoop vs g t m ds (wipeS s1 vs) [] with
    | .ok acc s2 => .ok (.lst acc) (backS s1 s2 vs)
    | _ => .stuck
  | .exc c fs s1 => .exc c fs s1
  | .stuck => .stuck
theorem Reps.append : ∀ {ds es : List D} {vs us : List V} {A B : List Addr}, Reps K Z H ds vs A → Reps K Z H es us B → Reps K Z H (ds ++ es) (vs ++ us) (A ++ B)
  | [], es, vs, us, A, B, h, k => by rw [h.1, h.2]; exact k
  | d :: ds, es, vs, us, A, B, h, k => by
    obtain ⟨v, vs', O1, O2, ev, eo, r1, r2⟩ := h
    subst ev eo
    exact ⟨v, vs' ++ us, O1, O2 ++ B, rfl, by rw [List.append_assoc], r1, r2.append k⟩
theorem Reps.one (r : Rep K Z H d v O) : Reps K Z H [d] [v] O := ⟨v, [], O, [], rfl, by simp, r, rfl, rfl⟩
abbrev WF : WX := fun _ _ _ _ => False
theorem semE_lc {wi : TI} {g : TG} {tt : TT} {te : TE} {vs : List Nat} {mi : Sl → R (List D)} {mg : D → Sl → Option Sl} {mt : Sl → R Bool} {me : Sl → R D} (n : Nat) (nv : vs.Nodup) (hn : ∀ (σ : L2.St) (s : Sl), σ.length = s.length → True)
    (hi : SemI K W wi mi) (hg : ∀ n, SemG K (co n vs) g mg) (ht : SemT K WF tt mt) (he : SemE K WF te me) : SemE K W (tLc wi g tt te vs) (mComp mi vs mg mt me) := fun σ H Z O s Q ok w => by
  unfold mComp at w
  refine hi σ H Z O s _ ok ?_
  cases e : mi s with
  | stuck => rw [e] at w; exact w.elim
  | exc c fs s1 => rw [e] at w; exact w
  | ok ds s1 =>
    rw [e] at w
    dsimp only at w
    intro J H1 Z1 O1 ok1 x1 wk D nD
    obtain ⟨Ow, okw, subw⟩ := ok1.wipe (vs := vs)
    have keep0 : ∀ i d, s1[i]?.join = some d → imm d = true → ∃ v, σ[i]? = some (some v) ∧ Rep K Z1 H1 d v [] := fun i d e hm => by
      obtain ⟨v, A, O1, B, q, eo, r, _⟩ := ok1.rep.get (join_some e)
      have := r.immO d v O1 hm
      subst this
      exact ⟨v, q, r⟩
    have zD : Z1 D = none := by
      cases e : Z1 D with
      | none => rfl
      | some o => rw [ok1.zh D o e] at nD; cases nD
    have nDw : D ∉ Ow := fun hb => by
      obtain ⟨o, e⟩ := okw.rep.there D hb
      rw [nD] at e; cases e
    -- the invariant
    refine ⟨fun i m H' => m = ds.length - i ∧ i ≤ ds.length ∧ ∃ Z' O' s' acc us Oa, Ok K Z' H' (wipe σ vs) s' O' ∧ (∀ b o, Z1 b = some o → Z' b = some o) ∧ H' D = some (.lst us) ∧ Reps K Z' H' acc us Oa ∧ ((D :: Oa) ++ O').Nodup ∧ (∀ b ∈ D :: Oa, Z' b = none) ∧
        Ext Z1 H1 Ow Z' H' ((D :: Oa) ++ O') ∧ ∃ accf sf, mCompLoop vs mg mt me (ds.drop i) s' acc = .ok accf sf ∧ mCompLoop vs mg mt me ds (wipeS s1 vs) [] = .ok accf sf, ?_, ?_⟩
    · cases el : mCompLoop vs mg mt me ds (wipeS s1 vs) [] with
      | stuck => rw [el] at w; exact w.elim
      | exc c fs s2 => rw [el] at w; exact w.elim
      | ok accf sf =>
        have q := Pz.new ok1.zh nD (.lst [])
        refine ⟨ds.length, by omega, Nat.zero_le _, Z1, Ow, _, [], [], [], okw.pz q, fun _ _ h => h, upd_same, ⟨rfl, rfl⟩, ?_, ?_, ?_, accf, sf, el, rfl⟩
        · exact List.nodup_cons.mpr ⟨by simpa using nDw, by simpa using okw.nd⟩
        · intro b hb
          have : b = D := by simpa using hb
          subst this; exact zD
        · have x := q.ext (O := Ow)
          exact ⟨x.zz, x.fr, fun b hb => by
            rcases List.mem_cons.mp (show b ∈ D :: Ow from hb) with rfl | hb
            · exact .inr nD
            · exact .inl hb, x.nz⟩
    · rintro i m H2 ⟨rfl, hi', Z2, O2, s2, acc, us, Oa, ok2, zz, hD, ra, nd2, zo2, ext2, accf, sf, el, elf⟩
      by_cases hlt : i < ds.length
      · have ed : ds[i]? = some ds[i] := List.getElem?_eq_getElem hlt
        obtain ⟨go, yl⟩ := wk.go Z2 H2 i _ zz ok2.zh ed
        rw [List.drop_eq_getElem_cons hlt] at el
        unfold mCompLoop at el
        refine .inr ⟨go, fun H' => ∃ Z' O' s' acc us Oa, Ok K Z' H' (wipe σ vs) s' O' ∧ (∀ b o, Z1 b = some o → Z' b = some o) ∧ H' D = some (.lst us) ∧ Reps K Z' H' acc us Oa ∧ ((D :: Oa) ++ O').Nodup ∧ (∀ b ∈ D :: Oa, Z' b = none) ∧
          Ext Z1 H1 Ow Z' H' ((D :: Oa) ++ O') ∧ ∃ accf sf, mCompLoop vs mg mt me (ds.drop (i + 1)) s' acc = .ok accf sf ∧ mCompLoop vs mg mt me ds (wipeS s1 vs) [] = .ok accf sf, ?_, ?_⟩
        · rintro H' h'
          exact ⟨ds.length - (i + 1), by omega, rfl, hlt, h'⟩
        · intro v H3 y
          obtain ⟨Z3, p, r⟩ := yl v H3 y
          have ok3 := ok2.pz p
          cases eg : mg ds[i] s2 with
          | none => rw [eg] at el; cases el
          | some s3 =>
            rw [eg] at el
            dsimp only at el
            refine hg σ.length (wipe σ vs) H3 Z3 O2 s2 _ v [] _ ok3 r ok3.nd (by simp) s3 eg fun σ4 H4 Z4 O4 ok4 x4 k4 => ?_
            have ews : wipe σ4 vs = wipe σ vs := wipe_same rfl k4
            refine ⟨ews, ht σ4 H4 Z4 O4 s3 _ ok4 ?_⟩
            have x24 : Ext Z2 H2 O2 Z4 H4 O4 := p.ext.trans2 x4 fun _ h => h
            cases et : mt s3 with
            | stuck => rw [et] at el; cases el
            | exc c fs s5 => rw [et] at el; cases el
            | ok b s5 =>
              rw [et] at el
              dsimp only at el
              intro H5 Z5 O5 ok5 x5
              have x25 : Ext Z2 H2 O2 Z5 H5 O5 := x24.trans2 x5 fun _ h => h
              have thD : ∀ b ∈ D :: Oa, ∃ o, H2 b = some o := fun b hb => by
                rcases List.mem_cons.mp hb with rfl | hb
                · exact ⟨_, hD⟩
                · exact ra.there acc us Oa b hb
              cases b with
              | false =>
                rw [if_neg Bool.false_ne_true] at el ⊢
                obtain ⟨O6, ok6, sub6⟩ := ok5.wipe (vs := vs)
                rw [ews] at ok6
                have c := carry thD nd2 zo2 x25
                refine ⟨Z5, O6, _, acc, us, Oa, ok6, fun b o h => x25.zz b o (zz b o h), c.1 D (by simp) _ hD, ra.stay x25.zz acc us Oa fun b hb => c.1 b (by simp [hb]), ?_, c.2.1, ?_, accf, sf, el, elf⟩
                · exact nodup_join (List.nodup_append.mp nd2).1 ok6.nd fun b hb hc => c.2.2 b hb (sub6 b hc)
                · exact (ext_both (O1 := []) ext2 x25).less fun b hb => by
                    rcases List.mem_append.mp hb with hb | hb
                    · exact List.mem_append_left _ hb
                    · exact List.mem_append_right _ (sub6 b hb)
              | true =>
                rw [if_pos rfl] at el ⊢
                refine he σ4 H5 Z5 O5 s5 _ ok5 ?_
                cases em : me s5 with
                | stuck => rw [em] at el; cases el
                | exc c fs s6 => rw [em] at el; cases el
                | ok yd s6 =>
                  rw [em] at el
                  dsimp only at el
                  split at el
                  · rename_i hlen
                    intro yv H6 Z6 Od Oe q
                    have x26 : Ext Z2 H2 O2 Z6 H6 (Od ++ Oe) := x25.trans2 q.ext fun _ h => h
                    have c := carry thD nd2 zo2 x26
                    have hD6 := c.1 D (by simp) _ hD
                    refine ⟨us, hD6, by rw [reps_len ra]; exact hlen, ?_⟩
                    obtain ⟨O7, ok7, sub7⟩ := q.ok.wipe (vs := vs)
                    rw [ews] at ok7
                    have nDO : D ∉ Od ++ Oe := c.2.2 D (by simp)
                    have ndDa : (D :: Oa).Nodup := (List.nodup_append.mp nd2).1
                    have nDa : D ∉ Oa := (List.nodup_cons.mp ndDa).1
                    -- the store of the new item
                    have hne : ∀ b o, b ≠ D → H6 b = some o → (upd H6 D (.lst (us ++ [yv]))) b = some o := fun b o hb h => by rw [upd_ne hb]; exact h
                    have zhD : ∀ b o, Z6 b = some o → (upd H6 D (.lst (us ++ [yv]))) b = some o := fun b o h => hne b o (fun e => by rw [e, c.2.1 D (by simp)] at h; cases h) (q.ok.zh b o h)
                    refine ⟨Z6, O7, _, acc ++ [yd], us ++ [yv], Oa ++ Od, ⟨zhD, ok7.rep.stay (fun _ _ h => h) fun b hb o h => hne b o (fun e => nDO (by rw [← e]; exact List.mem_append_right _ (sub7 b hb))) h, ok7.nd, ok7.zo⟩, fun b o h => x26.zz b o (zz b o h), upd_same, ?_, ?_, ?_, ?_, accf, sf, el, elf⟩
                    · refine Reps.append (Reps.stay x26.zz acc us Oa ra fun b hb o h => hne b o (fun e => nDa (e ▸ hb)) (c.1 b (by simp [hb]) o h)) (Reps.one (Rep.stay (fun _ _ h => h) yd yv Od q.rep fun b hb o h => hne b o (fun e => nDO (by rw [← e]; exact List.mem_append_left _ hb)) h))
                    · have a1 := c.2.2
                      have a2 := q.nd
                      have a3 : ∀ b ∈ O7, b ∈ Oe := sub7
                      have a4 := ok7.nd
                      rw [show (D :: (Oa ++ Od)) ++ O7 = (D :: Oa) ++ (Od ++ O7) by simp]
                      refine nodup_join ndDa (nodup_join (List.nodup_append.mp a2).1 a4 fun b hb hc => (List.nodup_append.mp a2).2.2 b hb b (a3 b hc) rfl) fun b hb hc => a1 b hb ?_
                      rcases List.mem_append.mp hc with h | h
                      · exact List.mem_append_left _ h
                      · exact List.mem_append_right _ (a3 b h)
                    · intro b hb
                      rw [show D :: (Oa ++ Od) = (D :: Oa) ++ Od by simp] at hb
                      rcases List.mem_append.mp hb with hb | hb
                      · exact c.2.1 b hb
                      · exact q.zo b hb
                    · have e1 : Ext Z1 H1 Ow Z6 H6 ((D :: Oa) ++ (Od ++ Oe)) := ext_both (O1 := []) ext2 x26
                      refine ⟨e1.zz, fun b o h n => ?_, fun b hb => e1.nw b ?_, e1.nz⟩
                      · refine hne b o (fun e => ?_) (e1.fr b o h n)
                        rw [e, nD] at h; cases h
                      · rw [show (D :: (Oa ++ Od)) ++ O7 = (D :: Oa) ++ (Od ++ O7) by simp] at hb
                        rcases List.mem_append.mp hb with hb | hb
                        · exact List.mem_append_left _ hb
                        · refine List.mem_append_right _ ?_
                          rcases List.mem_append.mp hb with h | h
                          · exact List.mem_append_left _ h
                          · exact List.mem_append_right _ (sub7 b h)
                  · cases el
      · have ei : i = ds.length := by omega
        subst ei
        rw [List.drop_length] at el
        unfold mCompLoop at el
        cases el
        rw [elf] at w
        refine .inl ⟨wk.stop Z2 H2 zz ok2.zh, ?_⟩
        obtain ⟨O7, ok7, sub7⟩ := ok2.back (s0 := s1) nv fun i d e hm => by
          obtain ⟨v, q, r⟩ := keep0 i d e hm
          exact ⟨v, q, r.stay zz d v [] (by simp)⟩
        refine w (.ref D) H2 Z2 (D :: Oa) O7 ⟨ok7, ⟨D, us, Oa, rfl, rfl, hD, ra⟩, ?_, zo2, ?_⟩
        · exact nodup_join (List.nodup_append.mp nd2).1 ok7.nd fun b hb hc => (List.nodup_append.mp nd2).2.2 b hb b (sub7 b hc) rfl
        · exact x1.trans2 (ext2.less fun b hb => by
            rcases List.mem_append.mp hb with hb | hb
            · exact List.mem_append_left _ hb
            · exact List.mem_append_right _ (sub7 b hb)) subw
end
end Sim

namespace Sim
open PySem PySem.Spec PyProof.Rows L2

/-! ### defs -/
inductive RF where
  | ok (d : D) (outs : List D)
  | exc (c : String) (fs : List (Str × D)) (outs : List D)
  | stuck
def outsOf (s : Sl) : List Nat → Option (List D)
  | [] => some []
  | i :: r => match s[i]?.join with
    | some d => (outsOf s r).map (d :: ·)
    | none => none
def mDef (np n : Nat) (pin : List Nat) (body : Sl → RS) (ds : List D) : RF := if ds.length = np then
    match body (ds.map some ++ List.replicate (n - np) none) with
    | .ret d s => match outsOf s pin with
      | some o => .ok d o
      | none => .stuck
    | .nx s => match outsOf s pin with
      | some o => .ok .non o
      | none => .stuck
    | .exc c fs s => match outsOf s pin with
      | some o => .exc c fs o
      | none => .stuck
    | _ => .stuck
  else .stuck
def pinV (pin : List Nat) (vs : List V) : List V := pin.map fun i => vs.getD i .non
structure Out (K : KX) (pin : List Nat) (vs : List V) (Z H : Hp) (O : List Addr) (d : D) (outs : List D) (v : V) (H' Z' : Hp) (Od Oo : List Addr) : Prop where
  zh : ∀ b o, Z' b = some o → H' b = some o
  rep : Rep K Z' H' d v Od
  reps : Reps K Z' H' outs (pinV pin vs) Oo
  nd : (Od ++ Oo).Nodup
  zo : ∀ b ∈ Od ++ Oo, Z' b = none
  ext : Ext Z H O Z' H' (Od ++ Oo)
structure OutX (K : KX) (pin : List Nat) (vs : List V) (Z H : Hp) (O : List Addr) (c : String) (fs : List (Str × D)) (outs : List D) (cls : Value) (dd : Option Addr) (H' Z' : Hp) (Oo : List Addr) : Prop where
  zh : ∀ b o, Z' b = some o → H' b = some o
  ex : ExV K Z' H' c fs cls dd
  reps : Reps K Z' H' outs (pinV pin vs) Oo
  nd : Oo.Nodup
  zo : ∀ b ∈ Oo, Z' b = none
  ext : Ext Z H O Z' H' Oo
def WantsF (K : KX) (pin : List Nat) (vs : List V) (Z H : Hp) (O : List Addr) (r : RF) (Q : VK) (E : XK) : Prop := match r with
  | .ok d outs => ∀ v H' Z' Od Oo, Out K pin vs Z H O d outs v H' Z' Od Oo → Q v H'
  | .exc c fs outs => ∀ cls dd H' Z' Oo, OutX K pin vs Z H O c fs outs cls dd H' Z' Oo → E cls dd H'
  | .stuck => False
structure In (K : KX) (np : Nat) (vs : List V) (Z H : Hp) (O : List Addr) (ds : List D) : Prop where
  zh : ∀ b o, Z b = some o → H b = some o
  reps : Reps K Z H ds vs O
  nd : O.Nodup
  zo : ∀ b ∈ O, Z b = none
  len : ds.length = np
/-- what a def promises: it does what m says -/
def SpM (K : PySem.W.Frag) (np : Nat) (pin : List Nat) (m : List D → RF) : Sp := fun vs H Q E => ∃ Z O ds, In ⟨K, none⟩ np vs Z H O ds ∧ WantsF ⟨K, none⟩ pin vs Z H O (m ds) Q E

section
variable {K : KX} {W : WX} {pin : List Nat} {Z H Z' H' Z1 H1 Z2 H2 : Hp} {σ σ1 : L2.St} {s s1 : Sl} {O Od Oe O1 O2 : List Addr} {d : D} {v : V}
theorem repS_start : ∀ {ds : List D} {vs : List V} {O : List Addr} (k : Nat), Reps K Z H ds vs O → RepS K Z H (ds.map some ++ List.replicate k none) (vs.map some ++ List.replicate k none) O
  | [], vs, O, k, h => by
    rw [h.1, h.2]
    show RepS K Z H (List.replicate k none) (List.replicate k none) []
    induction k with
    | zero => exact ⟨rfl, rfl⟩
    | succ k ih => exact ⟨none, List.replicate k none, rfl, ih⟩
  | d :: ds, vs, O, k, h => by
    obtain ⟨v, vs', O1, O2, ev, eo, r1, r2⟩ := h
    subst ev eo
    exact ⟨v, _, O1, O2, rfl, rfl, r1, repS_start k r2⟩
/-- the pinned slots' trees, taken out -/
theorem outs_reps : ∀ {pin : List Nat} {s : Sl} {σ : L2.St} {O : List Addr} {vs : List V} {o : List D}, RepS K Z H s σ O → O.Nodup → pin.Nodup → outsOf s pin = some o → (∀ i ∈ pin, σ[i]? = some (some (vs.getD i .non))) →
    ∃ Oo, Reps K Z H o (pinV pin vs) Oo ∧ Oo.Nodup ∧ ∀ b ∈ Oo, b ∈ O
  | [], s, σ, O, vs, o, r, nd, np, e, h => by
    cases e
    exact ⟨[], ⟨rfl, rfl⟩, by simp, by simp⟩
  | i :: pin, s, σ, O, vs, o, r, nd, np, e, h => by
    unfold outsOf at e
    cases ei : s[i]?.join with
    | none => rw [ei] at e; cases e
    | some d =>
      rw [ei] at e
      dsimp only at e
      cases er : outsOf s pin with
      | none => rw [er] at e; cases e
      | some o' =>
        rw [er] at e
        cases e
        obtain ⟨v, A, O1, B, q, eo, r1, r2, r3, r4⟩ := r.get (join_some ei)
        have hv := h i (by simp)
        rw [q] at hv
        have ev : v = vs.getD i .non := Option.some.inj (Option.some.inj hv)
        subst ev eo
        have np' := List.nodup_cons.mp np
        have er' : outsOf (s.set i none) pin = some o' := by
          rw [← er]
          have : ∀ (l : List Nat), i ∉ l → outsOf (s.set i none) l = outsOf s l := by
            intro l
            induction l with
            | nil => intro _; rfl
            | cons j l ih =>
              intro hj
              unfold outsOf
              rw [List.getElem?_set_ne (fun e => hj (by rw [e]; simp)), ih (fun hm => hj (by simp [hm]))]
          exact this pin np'.1
        obtain ⟨Oo, r5, n5, sub⟩ := outs_reps (pin := pin) (vs := vs) r2 (by grind) np'.2 er' fun j hj => h j (by simp [hj])
        exact ⟨O1 ++ Oo, ⟨_, _, O1, Oo, rfl, rfl, r1, r5⟩, nodup_join (by grind) n5 fun b hb hc => by
          have := sub b hc
          grind, fun b hb => by
          rcases List.mem_append.mp hb with hb | hb
          · simp [hb]
          · have := sub b hb
            grind⟩
end

section
variable {P : Program} {w : World} {K : PySem.W.Frag} {mg : Str → Option Value} {base : Heap}
/-- as FnOk, called where no repr is under way -/
structure FnG (P : Program) (w : World) (K : PySem.W.Frag) (mg : Str → Option Value) (base : Heap) (k : Nat) (f : Addr) (fd : FuncData) (ps : List Str) (sp : Sp) : Prop where
  len : ∀ vs H Q E, sp vs H Q E → vs.length = ps.length
  run : ∀ (A : Around) (fr : List Env) (st : Shared) (H : Hp) (args : Args) (us : List Value) (vs : List V) (Q : VK) (E : XK), A.guards = some [] → Room k A → Env0 P w K mg base A fr st H → BindsTo st fd args (ps.zip us) → Vals vs us → sp vs H Q E →
    codeAny (model P w) A (.call (.ref f) args) (CR (L2.CX P w) fr P w H st Q E) st
theorem FnG.mono {k j : Nat} {f : Addr} {fd : FuncData} {ps : List Str} {sp : Sp} (F : FnG P w K mg base j f fd ps sp) (h : j ≤ k) : FnG P w K mg base k f fd ps sp :=
  ⟨F.len, fun A fr st H args us vs Q E hg hr => F.run A fr st H args us vs Q E hg (hr.mono h)⟩
/-- the rule for a def's body, where the guards are known -/
theorem fnG_body {x qual : Str} {sm : Stmt} {f : Addr} {fd : FuncData} {N ps : List Str} {k : Nat} {sp : Sp} (F : Fun K x qual sm f fd) (S : FnScope N ps (defScope sm)) (len : ∀ vs H Q E, sp vs H Q E → vs.length = ps.length)
    (hb : ∀ (cdv : Value) (A : Around) (fr : List Env) (st : Shared) (H : Hp) (vs : List V) (Q : VK) (E : XK), A.guards = some [] → Room k (A.deeper (envOfC qual (defScope sm) st.heap.objs.size f cdv)) → sp vs H Q E →
      ∃ t, PSs (cxOf (L2.CX P w) P w K mg base N qual (defScope sm) f cdv A fr st H E) (defBody sm) t ∧ t { nx := fun _ H' => Q .non H', rt := Q } (L2.start N vs) H) : FnG P w K mg base (k + 1) f fd ps sp := by
  obtain ⟨c1, c2, c3, c4, c5, c6, cdv, c7, c8, rfl, atF, isCode⟩ := F.ex
  refine ⟨len, fun A fr st H args us vs Q E hg hr e0 binds rel want => ?_⟩
  have many := len _ _ _ _ want
  have inK : K.In st.heap := e0.mod.kin.keeps fun b o e => (e0.bs b o e).1
  have noLim : st.heap.NoLimit := e0.mod.nolimit.keeps fun b o e => (e0.bs b o e).1
  have kinds : ∀ y ∈ ps.zip us, (defScope sm).names.lookup y.1 = some .local ∨ ((defScope sm).names.lookup y.1 = some .cell ∧ ((cellsFrom (st.heap.objs.size + 1) (defScope sm).names []).lookup y.1).isSome = true) := by
    intro y hy
    obtain ⟨n, v⟩ := y
    exact (S.par n (List.of_mem_zip hy).1).imp id fun q => ⟨q, PySem.W.cellsFrom_some _ _ _ (.inl q)⟩
  refine codeAny_call_function hr.depth (inK _ _ atF) rfl S.co S.gen rfl (PySem.W.codeRec_of inK isCode) (binds _ _ _ _ ?_)
  refine wpAny_newFunctionEnv_cells S.kind kinds fun env he st1 made => ?_
  subst he
  refine ⟨noLim.keeps made.toInCall.keep, codeAny_func ?_⟩
  obtain ⟨t, ht, wt⟩ := hb cdv A fr st H vs Q E hg (hr.deeper _) want
  have J := inv_start (CX := L2.CX P w) (P := P) (w := w) (mg := mg) (E := E) (cd := cdv) S hr.hd e0 many rel made
  refine wpAny_mono (ht.run [] st1 (L2.start N vs) H _ J wt) (fun fl st2 done => ?_) fun _ _ z => z
  cases fl with
  | next =>
    obtain ⟨τ, H', J', q⟩ := done
    exact ⟨V.non, H', J'.os, J'.bare, J'.base, J'.hok, rfl, q⟩
  | ret u =>
    obtain ⟨v, τ, H', J', rv, q⟩ := done
    exact ⟨v, H', J'.os, J'.bare, J'.base, J'.hok, rv, q⟩
  | brk =>
    obtain ⟨_, _, _, z⟩ := done
    exact False.elim z
  | cont =>
    obtain ⟨_, _, _, z⟩ := done
    exact False.elim z
/-- a def of the text, by its mirror -/
theorem fnok_of {x qual : Str} {st : Stmt} {f : Addr} {fd : FuncData} {N ps : List Str} {k : Nat} {pin : List Nat} {mb : Sl → RS} (F : Fun K x qual st f fd) (S : FnScope N ps (defScope st)) (hpin : ∀ i ∈ pin, i < ps.length) (npin : pin.Nodup)
    (hb : ∀ (cdv : Value) (A : Around) (outer : List Env) (s : Shared) (H : Hp) (E : XK), A.guards = some [] → Room k (A.deeper (envOfC qual (defScope st) s.heap.objs.size f cdv)) →
      SimSs (cxOf (L2.CX P w) P w K mg base N qual (defScope st) f cdv A outer s H E) none (fun cls d _ H => E cls d H) pin (defBody st) mb) :
    FnG P w K mg base (k + 1) f fd ps (SpM K ps.length pin (mDef ps.length N.length pin mb)) := by
  refine fnG_body F S (fun vs H Q E h => ?_) (fun cdv A outer s H vs Q E hg hr h => ?_)
  · obtain ⟨Z, O, ds, i, _⟩ := h
    rw [reps_len i.reps, i.len]
  · obtain ⟨Z, O, ds, i, wf⟩ := h
    obtain ⟨t, ht, sem⟩ := hb cdv A outer s H E hg hr
    refine ⟨t, ht, ?_⟩
    have hl : vs.length = ps.length := by rw [reps_len i.reps, i.len]
    have ok : Ok ⟨K, none⟩ Z H (L2.start N vs) (ds.map some ++ List.replicate (N.length - ps.length) none) O := ⟨i.zh, by unfold L2.start; rw [hl]; exact repS_start _ i.reps, i.nd, i.zo⟩
    refine sem (L2.start N vs) H Z O _ _ ok ?_
    unfold mDef at wf
    rw [if_pos i.len] at wf
    have pins : ∀ σ', Keep pin (L2.start N vs) σ' → ∀ j ∈ pin, σ'[j]? = some (some (vs.getD j .non)) := fun σ' kk j hj => by
      rw [kk.2 j hj]
      unfold L2.start
      have hj' : j < vs.length := by rw [hl]; exact hpin j hj
      rw [List.getElem?_append_left (by simpa using hj'), List.getElem?_map, List.getElem?_eq_getElem hj', List.getD_eq_getElem?_getD, List.getElem?_eq_getElem hj']
      rfl
    generalize mb (ds.map some ++ List.replicate (N.length - ps.length) none) = r at wf
    cases r with
    | stuck => exact wf.elim
    | brk e => exact wf.elim
    | cont e => exact wf.elim
    | nx e =>
      dsimp only at wf
      cases eo : outsOf e pin with
      | none => rw [eo] at wf; exact wf.elim
      | some o =>
        rw [eo] at wf
        intro σ' H' Z' Oe ok' x kk
        obtain ⟨Oo, r5, n5, sub⟩ := outs_reps (vs := vs) ok'.rep ok'.nd npin eo (pins σ' kk)
        exact wf .non H' Z' [] Oo ⟨ok'.zh, ⟨rfl, rfl⟩, r5, n5, fun b hb => ok'.zo b (sub b hb), x.less sub⟩
    | ret d e =>
      dsimp only at wf
      cases eo : outsOf e pin with
      | none => rw [eo] at wf; exact wf.elim
      | some o =>
        rw [eo] at wf
        intro v σ' H' Z' Od Oe q kk
        obtain ⟨Oo, r5, n5, sub⟩ := outs_reps (vs := vs) q.ok.rep q.ok.nd npin eo (pins σ' kk)
        refine wf v H' Z' Od Oo ⟨q.ok.zh, q.rep, r5, nodup_join (List.nodup_append.mp q.nd).1 n5 fun b hb hc => (List.nodup_append.mp q.nd).2.2 b hb b (sub b hc) rfl, fun b hb => ?_, q.ext.less fun b hb => ?_⟩
        · rcases List.mem_append.mp hb with hb | hb
          · exact q.zo b hb
          · exact q.ok.zo b (sub b hb)
        · rcases List.mem_append.mp hb with hb | hb
          · exact List.mem_append_left _ hb
          · exact List.mem_append_right _ (sub b hb)
    | exc c fs e =>
      dsimp only at wf
      cases eo : outsOf e pin with
      | none => rw [eo] at wf; exact wf.elim
      | some o =>
        rw [eo] at wf
        intro cls dd σ' H' Z' Oe q kk
        obtain ⟨Oo, r5, n5, sub⟩ := outs_reps (vs := vs) q.ok.rep q.ok.nd npin eo (pins σ' kk)
        exact wf cls dd H' Z' Oo ⟨q.ok.zh, q.ex, r5, n5, fun b hb => q.ok.zo b (sub b hb), q.ext.less sub⟩
end

/-! ### calls -/
inductive AM where
  | io (i : Nat)
  | ex (m : Sl → R D)
def mArgs : List AM → Sl → R (List (Option D))
  | [], s => .ok [] s
  | .io i :: r, s => match s[i]?.join with
    | none => .stuck
    | some _ => (mArgs r s).bind fun xs s1 => .ok (none :: xs) s1
  | .ex m :: r, s => (m s).bind fun x s1 => (mArgs r s1).bind fun xs s2 => .ok (some x :: xs) s2
def takeIo : List AM → List (Option D) → Sl → Option (List D × Sl)
  | [], [], s => some ([], s)
  | .io i :: r, _ :: xs, s => match s[i]?.join with
    | some d => match takeIo r xs (s.set i none) with
      | some (ds, s') => some (d :: ds, s')
      | none => none
    | none => none
  | .ex _ :: r, some x :: xs, s => match takeIo r xs s with
    | some (ds, s') => some (x :: ds, s')
    | none => none
  | _, _, _ => none
def putIo (args : List AM) : List Nat → List D → Sl → Sl
  | p :: ps, o :: os, s => match args[p]? with
    | some (.io i) => putIo args ps os (s.set i (some o))
    | _ => putIo args ps os s
  | _, _, s => s
def mCall (pin : List Nat) (mf : List D → RF) (args : List AM) (s : Sl) : R D := (mArgs args s).bind fun xs s1 => match takeIo args xs s1 with
  | none => .stuck
  | some (ds, s2) => match mf ds with
    | .ok d outs => .ok d (putIo args pin outs s2)
    | .exc c fs outs => .exc c fs (putIo args pin outs s2)
    | .stuck => .stuck

section
variable (K : KX) (Z H : Hp)
def RepsO : List (Option D) → List V → List Addr → Prop
  | [], vs, O => vs = [] ∧ O = []
  | none :: ds, vs, O => ∃ v vs', vs = v :: vs' ∧ RepsO ds vs' O
  | some d :: ds, vs, O => ∃ v vs' O1 O2, vs = v :: vs' ∧ O = O1 ++ O2 ∧ Rep K Z H d v O1 ∧ RepsO ds vs' O2
end
def IoOk (σ : L2.St) : List AM → List V → Prop
  | .io i :: r, v :: vs => σ[i]? = some (some v) ∧ IoOk σ r vs
  | .ex _ :: r, _ :: vs => IoOk σ r vs
  | _, _ => True
section
variable {K : KX} {W : WX} {pin : List Nat} {Z H Z' H' Z1 H1 Z2 H2 : Hp} {σ σ1 : L2.St} {s s1 : Sl} {O Od Oe O1 O2 : List Addr} {d : D} {v : V}
theorem RepsO.stay (zz : ∀ b o, Z b = some o → Z' b = some o) : ∀ {ds : List (Option D)} {vs : List V} {O : List Addr}, RepsO K Z H ds vs O → (∀ b ∈ O, ∀ o, H b = some o → H' b = some o) → RepsO K Z' H' ds vs O
  | [], vs, O, h, _ => h
  | none :: ds, vs, O, h, k => by
    obtain ⟨v, vs', ev, r⟩ := h
    exact ⟨v, vs', ev, r.stay zz k⟩
  | some d :: ds, vs, O, h, k => by
    obtain ⟨v, vs', O1, O2, ev, eo, r1, r2⟩ := h
    subst eo
    exact ⟨v, vs', O1, O2, ev, rfl, r1.stay zz d v O1 fun b hb => k b (by simp [hb]), r2.stay zz fun b hb => k b (by simp [hb])⟩
structure OvO (K : KX) (Z H : Hp) (O : List Addr) (σ : L2.St) (args : List AM) (xs : List (Option D)) (e' : Sl) (v : List V) (H' : Hp) (Z' : Hp) (Od Oe : List Addr) : Prop where
  ok : Ok K Z' H' σ e' Oe
  rep : RepsO K Z' H' xs v Od
  io : IoOk σ args v
  nd : (Od ++ Oe).Nodup
  zo : ∀ b ∈ Od, Z' b = none
  ext : Ext Z H O Z' H' (Od ++ Oe)
def SemM (K : KX) (W : WX) (t : TA) (args : List AM) : Prop := ∀ σ H Z O s (Q : List V → Hp → Prop), Ok K Z H σ s O → (match mArgs args s with
  | .ok xs s1 => ∀ vs H1 Z1 Od Oe, OvO K Z H O σ args xs s1 vs H1 Z1 Od Oe → Q vs H1
  | .exc c fs e' => ∀ cls dd H' Z' Oe, Ox K Z H O σ c fs e' cls dd H' Z' Oe → W cls dd σ H'
  | .stuck => False) → t σ H Q
theorem semM_nil : SemM K W tNil [] := fun σ H Z O s Q ok w => w [] H Z [] O ⟨ok, ⟨rfl, rfl⟩, trivial, ok.nd, by simp, .refl⟩
theorem semM_io {i : Nat} {t : TA} {args : List AM} (h : SemM K W t args) : SemM K W (tCons (tVar i) t) (.io i :: args) := fun σ H Z O s Q ok w => by
  unfold mArgs at w
  cases e : s[i]?.join with
  | none => rw [e] at w; exact w.elim
  | some d =>
    rw [e] at w
    dsimp only at w
    obtain ⟨v, A, O1, B, q, eo, r, _⟩ := ok.rep.get (join_some e)
    refine ⟨v, q, h σ H Z O s _ ok ?_⟩
    cases em : mArgs args s with
    | stuck => rw [em] at w; exact w.elim
    | exc c fs e' => rw [em] at w; exact w
    | ok xs s1 =>
      rw [em] at w
      dsimp only [R.bind] at w ⊢
      exact fun vs H1 Z1 Od Oe x => w (v :: vs) H1 Z1 Od Oe ⟨x.ok, ⟨v, vs, rfl, x.rep⟩, ⟨q, x.io⟩, x.nd, x.zo, x.ext⟩
theorem semM_ex {te : TE} {t : TA} {m : Sl → R D} {args : List AM} (hm : SemE K W te m) (h : SemM K W t args) : SemM K W (tCons te t) (.ex m :: args) := fun σ H Z O s Q ok w => by
  unfold mArgs at w
  refine hm σ H Z O s _ ok ?_
  cases em : m s with
  | stuck => rw [em] at w; exact w.elim
  | exc c fs e' => rw [em] at w; exact w
  | ok x s1 =>
    rw [em] at w
    dsimp only [R.bind] at w
    intro v H1 Z1 Od Oe x1
    refine h σ H1 Z1 Oe s1 _ x1.ok ?_
    cases ea : mArgs args s1 with
    | stuck => rw [ea] at w; exact w.elim
    | exc c fs e' =>
      rw [ea] at w
      intro cls dd H2 Z2 O2 y
      exact w cls dd H2 Z2 O2 ⟨y.ok, y.ex, x1.ext.trans2 y.ext fun b hb => List.mem_append_right _ hb⟩
    | ok xs s2 =>
      rw [ea] at w
      dsimp only at w ⊢
      intro vs H2 Z2 Od2 Oe2 y
      obtain ⟨c1, c2, c3, c4⟩ := x1.then_ y.ext
      refine w (v :: vs) H2 Z2 (Od ++ Od2) Oe2 ⟨y.ok, ⟨v, vs, Od, Od2, rfl, rfl, c1, y.rep⟩, y.io, ?_, fun b hb => ?_, by rw [List.append_assoc]; exact c4⟩
      · rw [List.append_assoc]
        exact nodup_join (List.nodup_append.mp x1.nd).1 y.nd c3
      · rcases List.mem_append.mp hb with hb | hb
        · exact c2 b hb
        · exact y.zo b hb
theorem take_io : ∀ {args : List AM} {xs : List (Option D)} {s s2 : Sl} {vs : List V} {Od Oe : List Addr} {ds : List D}, takeIo args xs s = some (ds, s2) → IoOk σ args vs → RepS K Z H s σ Oe → RepsO K Z H xs vs Od → (Od ++ Oe).Nodup →
    ∃ Od' Oe', Reps K Z H ds vs Od' ∧ RepS K Z H s2 σ Oe' ∧ (Od' ++ Oe').Nodup ∧ (∀ b ∈ Od' ++ Oe', b ∈ Od ++ Oe)
  | [], [], s, s2, vs, Od, Oe, ds, e, io, r, rx, nd => by
    cases e
    rw [rx.1]
    refine ⟨[], Oe, ⟨rfl, rfl⟩, r, (List.nodup_append.mp nd).2.1, fun b hb => List.mem_append_right _ hb⟩
  | .io i :: args, x :: xs, s, s2, vs, Od, Oe, ds, e, io, r, rx, nd => by
    unfold takeIo at e
    cases ei : s[i]?.join with
    | none => rw [ei] at e; cases e
    | some d =>
      rw [ei] at e
      dsimp only at e
      cases et : takeIo args xs (s.set i none) with
      | none => rw [et] at e; cases e
      | some p =>
        obtain ⟨ds', s'⟩ := p
        rw [et] at e
        cases e
        obtain ⟨v, A, O1, B, q, eo, r1, r2, _, _⟩ := r.get (join_some ei)
        subst eo
        cases vs with
        | nil => cases x with
          | none => obtain ⟨_, _, ev, _⟩ := rx; cases ev
          | some d0 => obtain ⟨_, _, _, _, ev, _⟩ := rx; cases ev
        | cons v0 vs =>
          have ev : v0 = v := by
            have := io.1
            rw [q] at this
            exact (Option.some.inj (Option.some.inj this)).symm
          subst ev
          -- what the placeholder held is dropped
          obtain ⟨Od1, rx1, sub1, nd1⟩ : ∃ Od1, RepsO K Z H xs vs Od1 ∧ (∀ b ∈ Od1, b ∈ Od) ∧ Od1.Nodup := by
            cases x with
            | none =>
              obtain ⟨v', vs', ev, rr⟩ := rx
              cases ev
              exact ⟨Od, rr, fun _ h => h, (List.nodup_append.mp nd).1⟩
            | some d0 =>
              obtain ⟨v', vs', O3, O4, ev, eo, rr1, rr2⟩ := rx
              cases ev
              subst eo
              exact ⟨O4, rr2, fun b hb => List.mem_append_right _ hb, by grind⟩
          obtain ⟨Od', Oe', q1, q2, q3, q4⟩ := take_io et io.2 r2 rx1 (nodup_join nd1 (by grind) fun b hb hc => by
            have := sub1 b hb
            grind)
          refine ⟨O1 ++ Od', Oe', ⟨_, _, O1, Od', rfl, rfl, r1, q1⟩, q2, ?_, fun b hb => ?_⟩
          · rw [List.append_assoc]
            refine nodup_join (by grind) q3 fun b hb hc => ?_
            have := q4 b hc
            have := sub1 b
            grind
          · have := q4 b
            have := sub1 b
            grind
  | .ex m :: args, some x :: xs, s, s2, vs, Od, Oe, ds, e, io, r, rx, nd => by
    unfold takeIo at e
    cases et : takeIo args xs s with
    | none => rw [et] at e; cases e
    | some p =>
      obtain ⟨ds', s'⟩ := p
      rw [et] at e
      cases e
      obtain ⟨v, vs', O1, O2, ev, eo, r1, r2⟩ := rx
      subst ev eo
      obtain ⟨Od', Oe', q1, q2, q3, q4⟩ := take_io et io r r2 (by grind)
      refine ⟨O1 ++ Od', Oe', ⟨_, _, O1, Od', rfl, rfl, r1, q1⟩, q2, ?_, fun b hb => ?_⟩
      · rw [List.append_assoc]
        refine nodup_join (by grind) q3 fun b hb hc => ?_
        have := q4 b hc
        grind
      · have := q4 b
        grind
  | [], x :: xs, s, s2, vs, Od, Oe, ds, e, io, r, rx, nd => by cases e
  | .io i :: args, [], s, s2, vs, Od, Oe, ds, e, io, r, rx, nd => by cases e
  | .ex m :: args, [], s, s2, vs, Od, Oe, ds, e, io, r, rx, nd => by cases e
  | .ex m :: args, none :: xs, s, s2, vs, Od, Oe, ds, e, io, r, rx, nd => by cases e
theorem IoOk.get : ∀ {args : List AM} {vs : List V} {p i : Nat}, IoOk σ args vs → args.length ≤ vs.length → args[p]? = some (.io i) → σ[i]? = some (some (vs.getD p .non))
  | .io j :: args, v :: vs, 0, i, h, hl, e => by
    have : AM.io j = AM.io i := by simpa using e
    cases this
    exact h.1
  | .ex m :: args, v :: vs, 0, i, h, hl, e => by simp at e
  | .io j :: args, v :: vs, p + 1, i, h, hl, e => by
    have := IoOk.get (p := p) (i := i) h.2 (by simpa using hl) (by simpa using e)
    simpa using this
  | .ex m :: args, v :: vs, p + 1, i, h, hl, e => by
    have := IoOk.get (args := args) (vs := vs) (p := p) (i := i) h (by simpa using hl) (by simpa using e)
    simpa using this
  | _ :: _, [], _, _, _, hl, _ => by simp at hl
theorem put_io {args : List AM} {vs : List V} (io : IoOk σ args vs) (hl : args.length ≤ vs.length) : ∀ {pin : List Nat} {outs : List D} {s : Sl} {Oo Oe : List Addr}, Reps K Z H outs (pinV pin vs) Oo → Ok K Z H σ s Oe → (Oo ++ Oe).Nodup → (∀ b ∈ Oo, Z b = none) →
    ∃ O', Ok K Z H σ (putIo args pin outs s) O' ∧ ∀ b ∈ O', b ∈ Oo ++ Oe
  | [], outs, s, Oo, Oe, r, ok, nd, zo => by
    have e : putIo args [] outs s = s := by unfold putIo; cases outs <;> rfl
    rw [e]
    exact ⟨Oe, ok, fun b hb => List.mem_append_right _ hb⟩
  | p :: pin, [], s, Oo, Oe, r, ok, nd, zo => ⟨Oe, ok, fun b hb => List.mem_append_right _ hb⟩
  | p :: pin, o :: outs, s, Oo, Oe, r, ok, nd, zo => by
    obtain ⟨v, vs', O1, O2, ev, eo, r1, r2⟩ := r
    have ev1 : vs.getD p .non = v ∧ pinV pin vs = vs' := by
      have : (vs.getD p .non) :: pinV pin vs = v :: vs' := ev
      exact ⟨(List.cons.inj this).1, (List.cons.inj this).2⟩
    obtain ⟨rfl, rfl⟩ := ev1
    subst eo
    unfold putIo
    have drop : ∃ O', Ok K Z H σ (putIo args pin outs s) O' ∧ ∀ b ∈ O', b ∈ O1 ++ O2 ++ Oe := by
      obtain ⟨O', ok', sub⟩ := put_io io hl (pin := pin) r2 ok (by grind) fun b hb => zo b (by simp [hb])
      exact ⟨O', ok', fun b hb => by have := sub b hb; grind⟩
    cases ea : args[p]? with
    | none => exact drop
    | some a =>
      cases a with
      | ex m => exact drop
      | io i =>
        dsimp only
        have q := io.get hl ea
        obtain ⟨O3, ok3, sub3⟩ := ok.put (i := i) r1 (by grind) fun b hb => zo b (by simp [hb])
        rw [set_same q] at ok3
        obtain ⟨O', ok', sub⟩ := put_io io hl (pin := pin) r2 ok3 (nodup_join (by grind) ok3.nd fun b hb hc => by
          have := sub3 b hc
          grind) fun b hb => zo b (by simp [hb])
        exact ⟨O', ok', fun b hb => by
          have h1 := sub b hb
          have h2 := sub3 b
          grind⟩
theorem repsO_len : ∀ {xs : List (Option D)} {vs : List V} {O : List Addr}, RepsO K Z H xs vs O → vs.length = xs.length
  | [], vs, O, h => by rw [h.1]; rfl
  | none :: ds, vs, O, h => by
    obtain ⟨v, vs', ev, r⟩ := h
    rw [ev, List.length_cons, List.length_cons, repsO_len r]
  | some d :: ds, vs, O, h => by
    obtain ⟨v, vs', O1, O2, ev, eo, r1, r2⟩ := h
    rw [ev, List.length_cons, List.length_cons, repsO_len r2]
theorem mArgs_len : ∀ {args : List AM} {s s1 : Sl} {xs : List (Option D)}, mArgs args s = .ok xs s1 → xs.length = args.length
  | [], s, s1, xs, e => by cases e; rfl
  | .io i :: args, s, s1, xs, e => by
    unfold mArgs at e
    cases ei : s[i]?.join with
    | none => rw [ei] at e; cases e
    | some d =>
      rw [ei] at e
      dsimp only at e
      cases er : mArgs args s with
      | stuck => rw [er] at e; cases e
      | exc c fs e' => rw [er] at e; cases e
      | ok ys s2 =>
        rw [er] at e
        cases e
        rw [List.length_cons, List.length_cons, mArgs_len er]
  | .ex m :: args, s, s1, xs, e => by
    unfold mArgs at e
    cases ei : m s with
    | stuck => rw [ei] at e; cases e
    | exc c fs e' => rw [ei] at e; cases e
    | ok d s3 =>
      rw [ei] at e
      dsimp only [R.bind] at e
      cases er : mArgs args s3 with
      | stuck => rw [er] at e; cases e
      | exc c fs e' => rw [er] at e; cases e
      | ok ys s2 =>
        rw [er] at e
        cases e
        rw [List.length_cons, List.length_cons, mArgs_len er]
theorem semE_call {K : PySem.W.Frag} {np : Nat} {pin : List Nat} {mf : List D → RF} {args : List AM} {t : TA} (hnp : args.length = np) (h : SemM ⟨K, none⟩ W t args) : SemE ⟨K, none⟩ W (tCallS (SpM K np pin mf) (WE W) t) (mCall pin mf args) := fun σ H Z O s Q ok w => by
  unfold mCall at w
  refine h σ H Z O s _ ok ?_
  cases em : mArgs args s with
  | stuck => rw [em] at w; exact w.elim
  | exc c fs e' => rw [em] at w; exact w
  | ok xs s1 =>
    rw [em] at w
    dsimp only [R.bind] at w ⊢
    intro vs H1 Z1 Od Oe x
    cases et : takeIo args xs s1 with
    | none => rw [et] at w; exact w.elim
    | some p =>
      obtain ⟨ds, s2⟩ := p
      rw [et] at w
      dsimp only at w
      obtain ⟨Od', Oe', q1, q2, q3, q4⟩ := take_io et x.io x.ok.rep x.rep x.nd
      have hl : vs.length = args.length := by rw [repsO_len x.rep, mArgs_len em]
      have zo' : ∀ b ∈ Od' ++ Oe', Z1 b = none := fun b hb => by
        rcases List.mem_append.mp (q4 b hb) with h | h
        · exact x.zo b h
        · exact x.ok.zo b h
      have ext' : Ext Z H O Z1 H1 (Od' ++ Oe') := x.ext.less q4
      refine ⟨Z1, Od', ds, ⟨x.ok.zh, q1, (List.nodup_append.mp q3).1, fun b hb => zo' b (List.mem_append_left _ hb), by rw [← reps_len q1, hl, hnp]⟩, ?_⟩
      -- what stays behind in the slots waits
      have nd' : (Oe' ++ Od').Nodup := nodup_join (List.nodup_append.mp q3).2.1 (List.nodup_append.mp q3).1 fun b hb hc => (List.nodup_append.mp q3).2.2 b hc b hb rfl
      have okw : Ok ⟨K, none⟩ Z1 H1 σ s2 Oe' := ⟨x.ok.zh, q2, (List.nodup_append.mp q3).2.1, fun b hb => zo' b (List.mem_append_right _ hb)⟩
      cases ef : mf ds with
      | stuck => rw [ef] at w; exact w.elim
      | ok d outs =>
        rw [ef] at w
        intro v H2 Z2 Od2 Oo y
        have c := carry (okw.rep.there) nd' okw.zo y.ext
        have ok2 : Ok ⟨K, none⟩ Z2 H2 σ s2 Oe' := ⟨y.zh, okw.rep.stay y.ext.zz c.1, okw.nd, c.2.1⟩
        obtain ⟨O3, ok3, sub3⟩ := put_io x.io (by omega) y.reps ok2 (nodup_join (List.nodup_append.mp y.nd).2.1 ok2.nd fun b hb hc => c.2.2 b hc (List.mem_append_right _ hb)) fun b hb => y.zo b (List.mem_append_right _ hb)
        refine w v H2 Z2 Od2 O3 ⟨ok3, y.rep, nodup_join (List.nodup_append.mp y.nd).1 ok3.nd fun b hb hc => ?_, fun b hb => y.zo b (List.mem_append_left _ hb), ?_⟩
        · rcases List.mem_append.mp (sub3 b hc) with h | h
          · exact (List.nodup_append.mp y.nd).2.2 b hb b h rfl
          · exact c.2.2 b h (List.mem_append_left _ hb)
        · have e1 : Ext Z H O Z2 H2 (Oe' ++ (Od2 ++ Oo)) := ext_both (O1 := []) (ext'.less fun b hb => by simp at hb ⊢; exact hb.symm) y.ext
          exact e1.less fun b hb => by
            have := sub3 b
            grind
      | exc c fs outs =>
        rw [ef] at w
        intro cls dd H2 Z2 Oo y
        have c := carry (okw.rep.there) nd' okw.zo y.ext
        have ok2 : Ok ⟨K, none⟩ Z2 H2 σ s2 Oe' := ⟨y.zh, okw.rep.stay y.ext.zz c.1, okw.nd, c.2.1⟩
        obtain ⟨O3, ok3, sub3⟩ := put_io x.io (by omega) y.reps ok2 (nodup_join y.nd ok2.nd fun b hb hc => c.2.2 b hc hb) y.zo
        refine w cls dd H2 Z2 O3 ⟨ok3, y.ex, ?_⟩
        have e1 : Ext Z H O Z2 H2 (Oe' ++ Oo) := ext_both (O1 := []) (ext'.less fun b hb => by simp at hb ⊢; exact hb.symm) y.ext
        exact e1.less fun b hb => by
          have := sub3 b hb
          grind
end

section
variable {X : Cx} {k : Nat} {f C : Addr} {fd : FuncData} {ps : List Str} {sp : Sp} {E : L2.St → XK} {x m : Str} {p pos apos : Pos} {e o : Expr} {es : List Expr} {ta : TE} {t : TA}
theorem runG {pins : List (Addr × Obj)} {σ : L2.St} {H : Hp} {s : Shared} {Q : VK} {us : List Value} {vs : List V} (F : FnG X.prog X.w X.K X.mg X.base k f fd ps sp) (hg : X.A.guards = some []) (hr : Room k X.A) (hb : Binds X.K fd ps [])
    (hx : PassesAt (L2.CX X.prog X.w) X σ (E σ)) (I : Inv X pins σ H s) (r : Vals vs us) (h : sp vs H Q (E σ)) : wpAny (model X.prog X.w) X.A (call (.ref f) us) (EP X pins σ Q) X.xe s := by
  have bound := hb s us I.kIn (by rw [List.append_nil, ← r.length]; exact F.len _ _ _ _ h)
  rw [List.append_nil] at bound
  refine wpAny_call (codeAny_mono (F.run X.A X.stack s H ⟨us, []⟩ us vs Q (E σ) hg hr I.env0 bound r h) ?_)
  rintro (err | fl) s' out
  · exact hx pins H s err s' I out
  · cases fl <;> first | exact I.after out | exact out.elim
theorem pe_callG (F : FnG X.prog X.w X.K X.mg X.base k f fd ps sp) (hg : X.A.guards = some []) (hr : Room k X.A) (hgl : Gl X x) (hm : X.mg x = some (.ref f)) (hk : PySem.W.keepIn X.K (.ref f) = true) (hb : Binds X.K fd ps [])
    (hx : ∀ σ, PassesAt (L2.CX X.prog X.w) X σ (E σ)) (ha : PA X (e :: es) t) (hdb : (x == ("__debug__" : Str)) = false := by decide)
    (he : starEach (e :: es) X.env = (false, eval e X.env) :: starEach es X.env := by rfl) (hpl : (backTo pos (starEach es X.env)).any (·.1) = false := by rfl) : PE X (.Call (.Name x p) (e :: es) [] pos) (tCallS sp E t) :=
  ⟨fun pins s σ H Q I h => wpAny_Call_Name_kw (ld_glob I hgl hm (PySem.W.callWith_K (h₀ := X.base) I.ok.mod.kin hk (thn (ha.run pos pins s σ H _ I h) fun us s1 ⟨vs, H1, I1, r, q⟩ => ⟨I1.kIn, runG F hg hr hb (hx σ) I1 r q⟩) he hpl) hdb)⟩
theorem pe_callG0 (F : FnG X.prog X.w X.K X.mg X.base k f fd ps sp) (hg : X.A.guards = some []) (hr : Room k X.A) (hgl : Gl X x) (hm : X.mg x = some (.ref f)) (hk : PySem.W.keepIn X.K (.ref f) = true) (hb : Binds X.K fd ps [])
    (hx : ∀ σ, PassesAt (L2.CX X.prog X.w) X σ (E σ)) (hdb : (x == ("__debug__" : Str)) = false := by decide) : PE X (.Call (.Name x p) [] [] pos) (tCallS sp E tNil) :=
  ⟨fun pins s σ H Q I h => wpAny_Call_Name_kw (ld_glob I hgl hm (PySem.W.callWith_K0 I.kIn hk (runG (us := []) F hg hr hb (hx σ) I .nil h)) hdb)⟩
end
/-! ### the law's call -/
theorem law_run {P : Program} {w : World} {K : PySem.W.Frag} {mg mb : Str → Option Value} {k : Nat} {fa a : Addr} {fd : FuncData} {x : Str} {sp : Sp} {st : Shared} {vs : List Value} {ns : List Int}
    (inK : K.In st.heap) (glob : st.heap.Ns mainGlobals mg) (blt : st.heap.Ns builtinsNs mb) (isB : ∀ x : Str, x ≠ "__name__" → mb x = bootBuiltins x) (lim : st.heap.NoLimit) (gens : st.gens = #[])
    (atA : st.heap.get? a = some { cls := .type "list", data := .seq vs.toArray }) (isI : IntsAre vs ns) (hl : ns.length ≤ sizeLine) (room : Room k callerA)
    (F : ∀ base : Heap, K.In base → base.Ns mainGlobals mg → FnG P w K mg base k fa fd [x] sp) (binds : ∀ (s : Shared) (u : Value), BindsTo s fd ⟨[u], []⟩ [(x, u)])
    (want : ∀ H : Hp, Only H → SqL K H a (ns.map V.int) → sp [.ref a] H (fun v _ => v = .bl true) fun _ _ _ => False) :
    codeAny (model P w) callerA (.call (.ref fa) ⟨[.ref a], []⟩) (fun r s' => r = .ok (.ret (.bool true)) ∧ OldK st.heap s'.heap ∧ s'.os = st.os ∧ AllBare s'.gens) st := by
  have rels := vals_ints isI
  have many := isI.length
  -- whatever abstract heap tracks at most the script
  have main : ∀ H : Hp, Only H → SqL K H a (ns.map V.int) → HOk P w H st.heap → (∀ b, H b ≠ none → b = a ∧ K.lookup a = none) →
      codeAny (model P w) callerA (.call (.ref fa) ⟨[.ref a], []⟩) (fun r s' => r = .ok (.ret (.bool true)) ∧ OldK st.heap s'.heap ∧ s'.os = st.os ∧ AllBare s'.gens) st := by
    intro H only sq hok track
    have untr : ∀ {b : Addr} {o : Obj}, st.heap.get? b = some o → ¬ (b = a ∧ K.lookup a = none) → (hidT st.heap H).get? b = some o := fun {b o} e n => hidT_get e (by
      cases q : H b with
      | none => rfl
      | some u => exact absurd (track b (by rw [q]; simp)) n)
    have nsT : ∀ {b : Addr} {m : Str → Option Value}, st.heap.Ns b m → (hidT st.heap H).Ns b m := by
      rintro b m ⟨o, es, ep, e, d, r⟩
      refine ⟨o, es, ep, untr e fun z => ?_, d, r⟩
      rw [z.1, atA] at e
      cases e
      cases d
    have kT : K.In (hidT st.heap H) := fun b o e => untr (inK b o e) fun z => by rw [z.1, z.2] at e; cases e
    obtain ⟨mc, l1, l2⟩ := lim
    have modl : Mod K mg (hidT st.heap H) := ⟨kT, nsT glob, ⟨mb, nsT blt, isB⟩, ⟨mc, nsT l1, l2⟩⟩
    have e0 : Env0 P w K mg (hidT st.heap H) callerA [] st H := ⟨rfl, modl, fun b o e => of_hidT e, Nat.le_of_eq (hidT_size _ _), trivial, fun b hb => (List.not_mem_nil hb).elim, hok, .of_eq gens⟩
    refine codeAny_mono ((F _ kT (nsT glob)).run callerA [] st H ⟨[.ref a], []⟩ [.ref a] [.ref a] _ _ rfl room e0 (binds st (.ref a)) (.cons rfl .nil) (want H only sq)) ?_
    rintro (err | fl) s' out
    · obtain ⟨_, _, _, _, _, _, _, _, _, _, _, _, z⟩ := out
      exact z.elim
    · cases fl with
      | ret u =>
        obtain ⟨v, H', os, bare, un, hok2, rv, (rfl : v = .bl true)⟩ := out
        obtain rfl : u = Value.bool true := rv
        refine ⟨rfl, OldK.of_keep fun b o e => ?_, os, bare⟩
        rcases only b with n | ⟨ob, xs, z⟩
        · exact un.keep b o e n (fun z => by cases z) (by simp)
        · have e1 := (hok b _ z).1
          have e2 := (hok2 b _ (un.frzs b ob _ z)).1
          exact e2.trans (e1.symm.trans e)
      | next => exact out.elim
      | brk => exact out.elim
      | cont => exact out.elim
  cases inTop : K.lookup a with
  | some o =>
    have e := inK a o inTop
    rw [atA] at e
    cases e
    refine main (fun _ => none) (fun _ => .inl rfl) (.inr ⟨_, vs.toArray, _, inTop, rfl, rfl, rfl, ?_, by simpa using rels⟩) (fun b u z => ?_) fun b z => absurd rfl z
    · rw [List.size_toArray, many]; exact hl
    · cases z
  | none =>
    have at1 : (fun b => if b = a then some (HO.frz { cls := .type "list", data := .seq vs.toArray } (.lst (ns.map V.int))) else none : Hp) a = some (HO.frz { cls := .type "list", data := .seq vs.toArray } (.lst (ns.map V.int))) := if_pos rfl
    refine main (fun b => if b = a then some (.frz { cls := .type "list", data := .seq vs.toArray } (.lst (ns.map V.int))) else none) (fun b => ?_) (.inl (.inr ⟨_, at1⟩)) (fun b u z => ?_) fun b z => ⟨Classical.byContradiction fun hb => z (if_neg hb), inTop⟩
    · by_cases hb : b = a
      · exact .inr ⟨_, _, if_pos hb⟩
      · exact .inl (if_neg hb)
    · by_cases hb : b = a
      · subst hb
        have z' := at1.symm.trans z
        cases z'
        exact ⟨atA, by rw [List.length_map]; exact hl, vs, _, rels, atA⟩
      · have z' := (if_neg hb).symm.trans z
        cases z'
theorem walk_law {l : PySem.W.OpenLaw} {n k : Nat} {q : Program} {loose : List Str} {XP : (Str → Option Value) → Heap → Prop} {YP : World → Heap → Prop} {d : DefRec} {K : Params → PySem.W.Frag} {sp : PySem.W.Frag → Sp} {x : Str}
    (hn : l.most = some n) (hn2 : n ≤ sizeLine) (hdf : d.params.defaults = []) (hr : Room k callerA) (hY : ∀ (w : World) (h : Heap), YP w h → (K w.params).In h)
    (F : ∀ (w : World) (mg : Str → Option Value) (fa : Addr) (h : Heap), (K w.params).In h → h.Ns mainGlobals mg → mg d.name = some (.ref fa) →
      ∃ fd : FuncData, (∀ (s : Shared) (u : Value), BindsTo s fd ⟨[u], []⟩ [(x, u)]) ∧ ∀ base : Heap, (K w.params).In base → base.Ns mainGlobals mg → FnG l.prog w (K w.params) mg base k fa fd [x] (sp (K w.params)))
    (want : ∀ (K : PySem.W.Frag) (H : Hp) (a : Addr) (ns : List Int), ns.length ≤ n → Only H → SqL K H a (ns.map V.int) → sp K [.ref a] H (fun v _ => v = .bl true) fun _ _ _ => False) :
    PySem.W.WalkO q loose XP YP l.row.toRowW d [] (fun f vs => PySem.call f vs) := by
  refine Att.attach_call hn hdf fun w s₀ st mg mb fa o pm cd doc a vs ns G Y h1 h2 h3 hmg h4 h5 h6 h7 => ?_
  obtain ⟨fd, hb, hF⟩ := F w mg fa _ (hY w _ Y) G.T.g hmg
  exact law_run (hY w _ Y) G.T.g G.T.b G.T.builtins G.T.nolimit h7 h4 h5 (Nat.le_trans h6 hn2) hr hF hb fun H hO hS => want _ H a ns h6 hO hS
end Sim

namespace Sim
open PySem PySem.Spec PyProof.Rows L2

section
variable {K : KX} {W : WX} {pin : List Nat} {Z H Z' H' Z1 H1 Z2 H2 : Hp} {σ σ1 : L2.St} {s s1 : Sl} {O Od Oe O1 O2 : List Addr} {d : D} {v : V}

/-! ### ints -/
def onI (g : Int → Int → D) (a b : D) : Option D := match a, b with
  | .int i, .int j => some (g i j)
  | _, _ => none
def onIc (c : Int → Int → Prop) [∀ i j, Decidable (c i j)] (g : Int → Int → D) (a b : D) : Option D := match a, b with
  | .int i, .int j => if c i j then some (g i j) else none
  | _, _ => none
def onI1 (g : Int → D) (a : D) : Option D := match a with
  | .int i => some (g i)
  | _ => none
theorem onI_some {g : Int → Int → D} {a b z : D} (h : onI g a b = some z) : ∃ i j, a = .int i ∧ b = .int j ∧ z = g i j := by
  unfold onI at h
  split at h
  · cases h; exact ⟨_, _, rfl, rfl, rfl⟩
  · cases h
theorem onIc_some {c : Int → Int → Prop} [∀ i j, Decidable (c i j)] {g : Int → Int → D} {a b z : D} (h : onIc c g a b = some z) : ∃ i j, a = .int i ∧ b = .int j ∧ c i j ∧ z = g i j := by
  unfold onIc at h
  split at h
  · split at h
    · cases h; exact ⟨_, _, rfl, rfl, by assumption, rfl⟩
    · cases h
  · cases h
theorem onI1_some {g : Int → D} {a z : D} (h : onI1 g a = some z) : ∃ i, a = .int i ∧ z = g i := by
  unfold onI1 at h
  split at h
  · cases h; exact ⟨_, rfl, rfl⟩
  · cases h
theorem opD_I0 {g : Int → Int → Int} : OpD K (rI0 fun i j => .int (g i j)) (onI fun i j => .int (g i j)) := fun Z H dx dy z x y Ox Oy Q zh rx ry e k => by
  obtain ⟨i, j, rfl, rfl, rfl⟩ := onI_some e
  exact ⟨i, j, rx.1, ry.1, k _ H Z [] (.refl zh) ⟨rfl, rfl⟩⟩
theorem opD_B0 {g : Int → Int → Bool} : OpD K (rI0 fun i j => .bl (g i j)) (onI fun i j => .bl (g i j)) := fun Z H dx dy z x y Ox Oy Q zh rx ry e k => by
  obtain ⟨i, j, rfl, rfl, rfl⟩ := onI_some e
  exact ⟨i, j, rx.1, ry.1, k _ H Z [] (.refl zh) ⟨rfl, rfl⟩⟩
theorem opD_I {c : Int → Int → Prop} [∀ i j, Decidable (c i j)] {C : Int → Int → Prop} {g : Int → Int → Int} (hc : ∀ i j, c i j → C i j) : OpD K (rI C fun i j => .int (g i j)) (onIc c fun i j => .int (g i j)) := fun Z H dx dy z x y Ox Oy Q zh rx ry e k => by
  obtain ⟨i, j, rfl, rfl, h, rfl⟩ := onIc_some e
  exact ⟨i, j, rx.1, ry.1, hc i j h, k _ H Z [] (.refl zh) ⟨rfl, rfl⟩⟩
theorem unD_I {g : Int → Int} : UnD K (rU fun i => .int (g i)) (onI1 fun i => .int (g i)) := fun Z H dx z x Ox Q zh rx e k => by
  obtain ⟨i, rfl, rfl⟩ := onI1_some e
  exact ⟨i, rx.1, k _ H Z [] (.refl zh) ⟨rfl, rfl⟩⟩
abbrev dAdd : D → D → Option D := onI fun i j => .int (i + j)
abbrev dSub : D → D → Option D := onI fun i j => .int (i - j)
def cMul (i j : Int) : Prop := i.natAbs.log2 + j.natAbs.log2 < 1000000
instance : ∀ i j, Decidable (cMul i j) := fun i j => by unfold cMul; infer_instance
def cDiv (_ j : Int) : Prop := 0 < j ∧ j.natAbs.log2 < 9000
instance : ∀ i j, Decidable (cDiv i j) := fun i j => by unfold cDiv; infer_instance
def cPos (_ j : Int) : Prop := 0 < j
instance : ∀ i j, Decidable (cPos i j) := fun i j => by unfold cPos; infer_instance
def cPow (i j : Int) : Prop := 0 ≤ j ∧ j ≤ 1000000 ∧ i.natAbs < 2 ^ 64
instance : ∀ i j, Decidable (cPow i j) := fun i j => by unfold cPow; infer_instance
abbrev dMul : D → D → Option D := onIc cMul fun i j => .int (i * j)
abbrev dDiv : D → D → Option D := onIc cDiv fun i j => .int (i / j)
abbrev dMod : D → D → Option D := onIc cPos fun i j => .int (i % j)
abbrev dPow : D → D → Option D := onIc cPow fun i j => .int (i ^ j.toNat)
theorem opD_add : OpD K (rI0 fun i j => .int (i + j)) dAdd := opD_I0
theorem opD_sub : OpD K (rI0 fun i j => .int (i - j)) dSub := opD_I0
theorem opD_mul : OpD K (rI CMulW fun i j => .int (i * j)) dMul := opD_I fun _ _ h => h
theorem opD_div : OpD K (rI CDivW fun i j => .int (i / j)) dDiv := opD_I fun _ _ h => h
theorem opD_mod : OpD K (rI (fun _ j => 0 < j) fun i j => .int (i % j)) dMod := opD_I fun _ _ h => h
theorem opD_pow : OpD K (rI CPow fun i j => .int (i ^ j.toNat)) dPow := opD_I fun _ _ h => h
abbrev dLt : D → D → Option D := onI fun i j => .bl (decide (i < j))
abbrev dLe : D → D → Option D := onI fun i j => .bl (decide (i ≤ j))
abbrev dGt : D → D → Option D := onI fun i j => .bl (decide (j < i))
abbrev dGe : D → D → Option D := onI fun i j => .bl (decide (j ≤ i))
theorem op_lt' {X : Cx} : OpR X (compareOp .Lt) (rI0 fun i j => .bl (decide (i < j))) := opB0 fun _ _ _ _ _ _ _ h => lt_int h
theorem op_le' {X : Cx} : OpR X (compareOp .LtE) (rI0 fun i j => .bl (decide (i ≤ j))) := opB0 fun _ _ _ _ _ _ _ h => le_int h
theorem op_gt' {X : Cx} : OpR X (compareOp .Gt) (rI0 fun i j => .bl (decide (j < i))) := opB0 fun _ _ _ _ _ _ _ h => gt_int h
theorem op_ge' {X : Cx} : OpR X (compareOp .GtE) (rI0 fun i j => .bl (decide (j ≤ i))) := opB0 fun _ _ _ _ _ _ _ h => ge_int h

/-! ### == of data -/
mutual
def toP : D → Option PyData
  | .non => some .none
  | .bl b => some (.bool b)
  | .int i => some (.int i)
  | .str x => some (.str x)
  | .tup ds => (toPs ds).map .tuple
  | .lst ds => (toPs ds).map .list
  | .fls ds => (toPs ds).map .list
  | .dct _ => none
  | .fdc _ => none
  | .ins _ _ => none
  | .fin _ _ => none
  | .exn _ => none
  | .cls _ => none
  | .ty _ => none
  | .rng _ _ => none
def toPs : List D → Option (List PyData)
  | [] => some []
  | d :: ds => match toP d, toPs ds with
    | some p, some ps => some (p :: ps)
    | _, _ => none
end
mutual
theorem Rep.dp (zh : ∀ b o, Z b = some o → H b = some o) : ∀ (d : D) (v : V) (O : List Addr) (p : PyData), Rep K Z H d v O → toP d = some p → Dp K H v p
  | .non, v, O, p, r, e => by cases e; rw [r.1]; exact .non
  | .bl b, v, O, p, r, e => by cases e; rw [r.1]; exact .bl b
  | .int i, v, O, p, r, e => by cases e; rw [r.1]; exact .int i
  | .str x, v, O, p, r, e => by cases e; rw [r.1]; exact .str x
  | .tup ds, v, O, p, r, e => by
    obtain ⟨a, vs, ev, q, r⟩ := r
    unfold toP at e
    cases es : toPs ds with
    | none => rw [es] at e; cases e
    | some ps =>
      rw [es] at e
      cases e
      rw [ev]
      exact .tup (sqT_mono zh q.1) (Reps.dp zh ds vs O ps r es)
  | .lst ds, v, O, p, r, e => by
    obtain ⟨a, vs, O', ev, eo, q, r⟩ := r
    unfold toP at e
    cases es : toPs ds with
    | none => rw [es] at e; cases e
    | some ps =>
      rw [es] at e
      cases e
      rw [ev]
      exact .lst (SqL.of q) (Reps.dp zh ds vs O' ps r es)
  | .fls ds, v, O, p, r, e => by
    obtain ⟨a, vs, ev, eo, q, r⟩ := r
    unfold toP at e
    cases es : toPs ds with
    | none => rw [es] at e; cases e
    | some ps =>
      rw [es] at e
      cases e
      rw [ev]
      exact .lst (sqL_mono zh q) (Reps.dp zh ds vs O ps r es)
  | .dct _, v, O, p, r, e => by cases e
  | .fdc _, v, O, p, r, e => by cases e
  | .ins _ _, v, O, p, r, e => by cases e
  | .fin _ _, v, O, p, r, e => by cases e
  | .exn _, v, O, p, r, e => by cases e
  | .cls _, v, O, p, r, e => by cases e
  | .ty _, v, O, p, r, e => by cases e
  | .rng _ _, v, O, p, r, e => by cases e
theorem Reps.dp (zh : ∀ b o, Z b = some o → H b = some o) : ∀ (ds : List D) (vs : List V) (O : List Addr) (ps : List PyData), Reps K Z H ds vs O → toPs ds = some ps → DpAll K H vs ps
  | [], vs, O, ps, r, e => by cases e; rw [r.1]; exact .nil
  | d :: ds, vs, O, ps, r, e => by
    obtain ⟨v, vs', O1, O2, ev, eo, r1, r2⟩ := r
    unfold toPs at e
    cases e1 : toP d with
    | none => rw [e1] at e; cases e
    | some p =>
      cases e2 : toPs ds with
      | none => rw [e1, e2] at e; cases e
      | some qs =>
        rw [e1, e2] at e
        cases e
        rw [ev]
        exact .cons (Rep.dp zh d v O1 p r1 e1) (Reps.dp zh ds vs' O2 qs r2 e2)
end
def dEqB (a b : D) : Option Bool := match toP a, toP b with
  | some p, some q => if (SeqAt.shaped p && SeqAt.shaped q) = true then some (PyData.eqv p q) else none
  | _, _ => none
def dEq (a b : D) : Option D := (dEqB a b).map .bl
def dNe (a b : D) : Option D := (dEqB a b).map fun x => .bl (!x)
theorem dEqB_some {a b : D} {x : Bool} (h : dEqB a b = some x) : ∃ p q, toP a = some p ∧ toP b = some q ∧ SeqAt.shaped p = true ∧ SeqAt.shaped q = true ∧ x = PyData.eqv p q := by
  unfold dEqB at h
  split at h
  · split at h
    · rename_i p q e1 e2 hs
      cases h
      rw [Bool.and_eq_true] at hs
      exact ⟨p, q, e1, e2, hs.1, hs.2, rfl⟩
    · cases h
  · cases h
theorem opD_eq : OpD K (rEqD K) dEq := fun Z H dx dy z x y Ox Oy Q zh rx ry e k => by
  unfold dEq at e
  cases eb : dEqB dx dy with
  | none => rw [eb] at e; cases e
  | some b =>
    rw [eb] at e
    cases e
    obtain ⟨p, q, e1, e2, h1, h2, rfl⟩ := dEqB_some eb
    exact ⟨p, q, rx.dp zh dx x Ox p e1, ry.dp zh dy y Oy q e2, h1, h2, k _ H Z [] (.refl zh) ⟨rfl, rfl⟩⟩
theorem opD_ne : OpD K (rNeD K) dNe := fun Z H dx dy z x y Ox Oy Q zh rx ry e k => by
  unfold dNe at e
  cases eb : dEqB dx dy with
  | none => rw [eb] at e; cases e
  | some b =>
    rw [eb] at e
    cases e
    obtain ⟨p, q, e1, e2, h1, h2, rfl⟩ := dEqB_some eb
    exact ⟨p, q, rx.dp zh dx x Ox p e1, ry.dp zh dy y Oy q e2, h1, h2, k _ H Z [] (.refl zh) ⟨rfl, rfl⟩⟩
end
end Sim

namespace Sim
open PySem PySem.Spec PyProof.Rows L2

/-! ### in, of tuples of any data -/
section
variable {X : Cx}
def rInT (K : PySem.W.Frag) : R2 := fun x y H Q => ∃ d ds, Dp K H x d ∧ Dp K H y (.tuple ds) ∧ SeqAt.shaped d = true ∧ SeqAt.shaped (.tuple ds) = true ∧ Q (.bl (ds.any fun z => PyData.eqv z d)) H
def rNotInT (K : PySem.W.Frag) : R2 := fun x y H Q => ∃ d ds, Dp K H x d ∧ Dp K H y (.tuple ds) ∧ SeqAt.shaped d = true ∧ SeqAt.shaped (.tuple ds) = true ∧ Q (.bl (!ds.any fun z => PyData.eqv z d)) H
theorem room_tup {A : Around} {ds : List PyData} {d : PyData} (sd : SeqAt.shaped d = true) (hu : A.units + 65 < cLine) : A.units + 1 + min (PyData.depthAll ds) d.depth < cLine := by
  have h1 := SeqAt.depth_of_shaped sd
  have h2 : min (PyData.depthAll ds) d.depth ≤ d.depth := Nat.min_le_right _ _
  omega
theorem op_inT (hu : X.A.units + 65 < cLine) : OpR X (compareOp .In) (rInT X.K) := by
  rintro pins st σ H x y v u Q I rx ry ⟨d, ds, hd, he, sd, se, q⟩
  obtain ⟨_, r1⟩ := Dp.reads I d x v hd rx
  obtain ⟨_, r2⟩ := Dp.reads I (.tuple ds) y u he ry
  exact SeqAt.in_tuple_reads r2 r1 (SeqAt.canLay_of_shaped se) (SeqAt.canLay_of_shaped sd) (room_tup sd hu) ⟨.bl _, H, I, rfl, q⟩
theorem op_notInT (hu : X.A.units + 65 < cLine) : OpR X (compareOp .NotIn) (rNotInT X.K) := by
  rintro pins st σ H x y v u Q I rx ry ⟨d, ds, hd, he, sd, se, q⟩
  obtain ⟨_, r1⟩ := Dp.reads I d x v hd rx
  obtain ⟨_, r2⟩ := Dp.reads I (.tuple ds) y u he ry
  exact SeqAt.notIn_tuple_reads r2 r1 (SeqAt.canLay_of_shaped se) (SeqAt.canLay_of_shaped sd) (room_tup sd hu) ⟨.bl _, H, I, rfl, q⟩
def inTx (i j : Str) : Bool := !(Builtin.Str.occurrences j i 0 j.length 1).isEmpty
def rInX : R2 := fun x y H Q => ∃ i j, x = .str i ∧ y = .str j ∧ Q (.bl (inTx i j)) H
def rNotInX : R2 := fun x y H Q => ∃ i j, x = .str i ∧ y = .str j ∧ Q (.bl (!inTx i j)) H
def rInLT (K : PySem.W.Frag) : R2 := fun x y H Q => (rInD K x y H Q ∨ rInT K x y H Q) ∨ rInX x y H Q
def rNotInLT (K : PySem.W.Frag) : R2 := fun x y H Q => (rNotInD K x y H Q ∨ rNotInT K x y H Q) ∨ rNotInX x y H Q
theorem op_inLT (hu : X.A.units + 65 < cLine) : OpR X (compareOp .In) (rInLT X.K) := ((op_inD hu).or (op_inT hu)).or op_in_str
theorem op_notInLT (hu : X.A.units + 65 < cLine) : OpR X (compareOp .NotIn) (rNotInLT X.K) := ((op_notInD hu).or (op_notInT hu)).or op_notin_str
end
def dInB (a b : D) : Option Bool := match toP a, toP b with
  | some p, some (.list qs) => if (SeqAt.shaped p && SeqAt.shaped (.list qs)) = true then some (qs.any fun z => PyData.eqv z p) else none
  | some p, some (.tuple qs) => if (SeqAt.shaped p && SeqAt.shaped (.tuple qs)) = true then some (qs.any fun z => PyData.eqv z p) else none
  | some (.str i), some (.str j) => some (inTx i j)
  | _, _ => none
def dIn (a b : D) : Option D := (dInB a b).map .bl
def dNotIn (a b : D) : Option D := (dInB a b).map fun x => .bl (!x)
section
variable {K : KX} {W : WX} {pin : List Nat} {Z H Z' H' Z1 H1 Z2 H2 : Hp} {σ σ1 : L2.St} {s s1 : Sl} {O Od Oe O1 O2 : List Addr} {d : D} {v : V}
theorem dInB_some {a b : D} {x : Bool} (h : dInB a b = some x) : (∃ p qs, toP a = some p ∧ SeqAt.shaped p = true ∧ x = (qs.any fun z => PyData.eqv z p) ∧ ((toP b = some (.list qs) ∧ SeqAt.shaped (.list qs) = true) ∨ (toP b = some (.tuple qs) ∧ SeqAt.shaped (.tuple qs) = true))) ∨ ∃ i j, toP a = some (.str i) ∧ toP b = some (.str j) ∧ x = inTx i j := by
  unfold dInB at h
  split at h
  · split at h
    · rename_i p qs e1 e2 hs
      cases h
      rw [Bool.and_eq_true] at hs
      exact .inl ⟨p, qs, e1, hs.1, rfl, .inl ⟨e2, hs.2⟩⟩
    · cases h
  · split at h
    · rename_i p qs e1 e2 hs
      cases h
      rw [Bool.and_eq_true] at hs
      exact .inl ⟨p, qs, e1, hs.1, rfl, .inr ⟨e2, hs.2⟩⟩
    · cases h
  · rename_i i j e1 e2
    cases h
    exact .inr ⟨i, j, e1, e2, rfl⟩
  · cases h
theorem opD_in : OpD K (rInLT K) dIn := fun Z H dx dy z x y Ox Oy Q zh rx ry e k => by
  unfold dIn at e
  cases eb : dInB dx dy with
  | none => rw [eb] at e; cases e
  | some b =>
    rw [eb] at e
    cases e
    obtain ⟨p, qs, e1, h1, rfl, ⟨e2, h2⟩ | ⟨e2, h2⟩⟩ | ⟨i, j, e1, e2, rfl⟩ := dInB_some eb
    · exact .inl <| .inl ⟨p, qs, rx.dp zh dx x Ox p e1, ry.dp zh dy y Oy _ e2, h1, h2, k _ H Z [] (.refl zh) ⟨rfl, rfl⟩⟩
    · exact .inl <| .inr ⟨p, qs, rx.dp zh dx x Ox p e1, ry.dp zh dy y Oy _ e2, h1, h2, k _ H Z [] (.refl zh) ⟨rfl, rfl⟩⟩
    · exact .inr ⟨i, j, (by cases rx.dp zh dx x Ox _ e1; rfl), (by cases ry.dp zh dy y Oy _ e2; rfl), k _ H Z [] (.refl zh) ⟨rfl, rfl⟩⟩
theorem opD_notIn : OpD K (rNotInLT K) dNotIn := fun Z H dx dy z x y Ox Oy Q zh rx ry e k => by
  unfold dNotIn at e
  cases eb : dInB dx dy with
  | none => rw [eb] at e; cases e
  | some b =>
    rw [eb] at e
    cases e
    obtain ⟨p, qs, e1, h1, rfl, ⟨e2, h2⟩ | ⟨e2, h2⟩⟩ | ⟨i, j, e1, e2, rfl⟩ := dInB_some eb
    · exact .inl <| .inl ⟨p, qs, rx.dp zh dx x Ox p e1, ry.dp zh dy y Oy _ e2, h1, h2, k _ H Z [] (.refl zh) ⟨rfl, rfl⟩⟩
    · exact .inl <| .inr ⟨p, qs, rx.dp zh dx x Ox p e1, ry.dp zh dy y Oy _ e2, h1, h2, k _ H Z [] (.refl zh) ⟨rfl, rfl⟩⟩
    · exact .inr ⟨i, j, (by cases rx.dp zh dx x Ox _ e1; rfl), (by cases ry.dp zh dy y Oy _ e2; rfl), k _ H Z [] (.refl zh) ⟨rfl, rfl⟩⟩

/-! ### items, lengths, slices -/
theorem rep_seqL {ds : List D} (zh : ∀ b o, Z b = some o → H b = some o) (r : Rep K Z H (.lst ds) v O ∨ Rep K Z H (.fls ds) v O) : ∃ a vs O', v = .ref a ∧ SqL K H a vs ∧ Reps K Z H ds vs O' := by
  rcases r with ⟨a, vs, O', ev, eo, q, r⟩ | ⟨a, vs, ev, eo, q, r⟩
  · exact ⟨a, vs, O', ev, SqL.of q, r⟩
  · exact ⟨a, vs, O, ev, sqL_mono zh q, r⟩
def atD (ds : List D) (i : Int) : Option D := (ixN ds.length i).bind fun j => ds[j]?
theorem atD_atI {ds : List D} {vs : List V} {i : Int} {x : D} (r : Reps K Z H ds vs O) (h : atD ds i = some x) : ∃ u A O1 B, atI vs i = some u ∧ O = A ++ (O1 ++ B) ∧ Rep K Z H x u O1 := by
  obtain ⟨j, e1, e2⟩ := Option.bind_eq_some_iff.mp h
  obtain ⟨u, A, O1, B, e3, eo, rr⟩ := r.get e2
  refine ⟨u, A, O1, B, ?_, eo, rr⟩
  unfold atI
  rw [reps_len r, e1]
  exact e3
def dIx (a b : D) : Option D := match a, b with
  | .lst ds, .int i => atD ds i
  | .fls ds, .int i => atD ds i
  | .tup ds, .int i => atD ds i
  | .str x, .int i => if x.length ≤ sizeLine then (match atI x.cps.toList i with
    | some c => some (.str ⟨#[c]⟩)
    | none => none) else none
  | _, _ => none
/-- an item: what is said of it, wherever its owner is -/
theorem ix_reads {a b z : D} {x y : V} {Ox Oy : List Addr} (zh : ∀ b o, Z b = some o → H b = some o) (rx : Rep K Z H a x Ox) (ry : Rep K Z H b y Oy) (e : dIx a b = some z) :
    ∃ u A O1 B, Rep K Z H z u O1 ∧ (Ox = A ++ (O1 ++ B) ∨ ∃ c, Ox = c :: (A ++ (O1 ++ B))) ∧ ∀ Q : VK, Q u H → rIx K x y H Q := by
  unfold dIx at e
  split at e
  · rename_i ds i
    obtain ⟨p, vs, O', ev, eo, q, r⟩ := rx
    obtain ⟨u, A, O1, B, e1, eo1, rr⟩ := atD_atI r e
    exact ⟨u, A, O1, B, rr, .inr ⟨p, by rw [eo, eo1]⟩, fun Q h => .inl ⟨p, vs, i, u, ev, ry.1, SqL.of q, e1, h⟩⟩
  · rename_i ds i
    obtain ⟨p, vs, ev, eo, q, r⟩ := rx
    obtain ⟨u, A, O1, B, e1, eo1, rr⟩ := atD_atI r e
    exact ⟨u, A, O1, B, rr, .inl eo1, fun Q h => .inl ⟨p, vs, i, u, ev, ry.1, sqL_mono zh q, e1, h⟩⟩
  · rename_i ds i
    obtain ⟨p, vs, ev, q, r⟩ := rx
    obtain ⟨u, A, O1, B, e1, eo1, rr⟩ := atD_atI r e
    exact ⟨u, A, O1, B, rr, .inl eo1, fun Q h => .inr (.inl ⟨p, vs, i, u, ev, ry.1, sqT_mono zh q.1, e1, h⟩)⟩
  · rename_i t i
    split at e
    · rename_i hl
      split at e
      · rename_i c ec
        cases e
        exact ⟨.str ⟨#[c]⟩, [], [], [], ⟨rfl, rfl⟩, .inl rx.2, fun Q h => .inr (.inr ⟨t, i, c, rx.1, ry.1, hl, ec, h⟩)⟩
      · cases e
    · cases e
  · cases e
theorem opD_ix : OpD K (rIx K) dIx := fun Z H dx dy z x y Ox Oy Q zh rx ry e k => by
  obtain ⟨u, A, O1, B, r, _, q⟩ := ix_reads zh rx ry e
  exact q Q (k u H Z O1 (.refl zh) r)
theorem newD2_ix : NewD2 K (rIx K) dIx := fun Z H dx dy z x y Ox Oy Q zh rx ry nd zo e k => by
  obtain ⟨u, A, O1, B, r, eo, q⟩ := ix_reads zh rx ry e
  have sub : ∀ b ∈ O1, b ∈ Ox ++ Oy := by
    rcases eo with eo | ⟨c, eo⟩ <;> (rw [eo]; intro b hb; simp [hb])
  refine q Q (k u H Z O1 (.refl zh) r ?_ (fun b hb => zo b (sub b hb)) fun b hb => .inl (sub b hb))
  rcases eo with eo | ⟨c, eo⟩ <;> (rw [eo] at nd; grind)
/-- an item of what a slot holds (the index may do anything to other slots) -/
def mIxV (i : Nat) (m : Sl → R D) (s : Sl) : R D := (m s).bind fun y s1 => match s1[i]?.join with
  | some x => match dIx x y with
    | some z => if imm z = true then .ok z s1 else .stuck
    | none => .stuck
  | none => .stuck
theorem semE_ixv {i : Nat} {t : TE} {m : Sl → R D} (h : SemE K W t m) : SemE K W (tOp (rIx K) (tVar i) t) (fun s => match s[i]?.join with
    | some _ => mIxV i m s
    | none => .stuck) := fun σ H Z O s Q ok w => by
  dsimp only at w
  cases ex : s[i]?.join with
  | none => rw [ex] at w; exact w.elim
  | some x =>
    rw [ex] at w
    dsimp only at w
    unfold mIxV at w
    obtain ⟨v, A, O1, B, q, eo, r, _⟩ := ok.rep.get (join_some ex)
    refine ⟨v, q, h σ H Z O s _ ok ?_⟩
    cases e : m s with
    | stuck => rw [e] at w; exact w.elim
    | exc c fs s1 => rw [e] at w; exact w
    | ok y s1 =>
      rw [e] at w
      dsimp only [R.bind] at w
      intro u H1 Z1 Od Oe y1
      cases e2 : s1[i]?.join with
      | none => rw [e2] at w; exact w.elim
      | some x2 =>
        rw [e2] at w
        dsimp only at w
        obtain ⟨v', A', O1', B', q', eo', r', _⟩ := y1.ok.rep.get (join_some e2)
        rw [q] at q'
        cases q'
        cases ef : dIx x2 y with
        | none => rw [ef] at w; exact w.elim
        | some z =>
          rw [ef] at w
          dsimp only at w
          split at w
          · rename_i hi
            obtain ⟨uz, A2, O2, B2, rz, _, qz⟩ := ix_reads y1.ok.zh r' y1.rep ef
            have := rz.immO z uz O2 hi
            subst this
            exact qz Q (w uz H1 Z1 [] Oe ⟨y1.ok, rz, y1.ok.nd, by simp, y1.ext.less fun b hb => List.mem_append_right _ hb⟩)
          · exact w.elim
def dLen (ds : List D) : Option D := match ds with
  | [.lst xs] => some (.int xs.length)
  | [.fls xs] => some (.int xs.length)
  | [.tup xs] => some (.int xs.length)
  | [.str x] => if x.length ≤ sizeLine then some (.int x.length) else none
  | _ => none
def rLenX (K : PySem.W.Frag) : List V → Hp → VK → Prop := fun xs H Q => (∃ p ys, xs = [.ref p] ∧ (SqL K H p ys ∨ SqT K H p ys) ∧ Q (.int ys.length) H) ∨ ∃ z, xs = [.str z] ∧ z.length ≤ sizeLine ∧ Q (.int z.length) H
theorem call_lenX {X : Cx} : CallR X (.builtin "len") (rLenX X.K) := CallR.or call_len_seq call_len_str
theorem caD_len : CaD K (rLenX K) dLen := fun Z H dx z xs Ox Q zh rx e k => by
  unfold dLen at e
  split at e
  · cases e
    obtain ⟨u, rfl, r⟩ := reps_one rx
    obtain ⟨a, vs, O', ev, eo, q, r⟩ := r
    exact .inl ⟨a, vs, by rw [ev], .inl (SqL.of q), by rw [reps_len r]; exact k _ H Z [] (.refl zh) ⟨rfl, rfl⟩⟩
  · cases e
    obtain ⟨u, rfl, r⟩ := reps_one rx
    obtain ⟨a, vs, ev, eo, q, r⟩ := r
    exact .inl ⟨a, vs, by rw [ev], .inl (sqL_mono zh q), by rw [reps_len r]; exact k _ H Z [] (.refl zh) ⟨rfl, rfl⟩⟩
  · cases e
    obtain ⟨u, rfl, r⟩ := reps_one rx
    obtain ⟨a, vs, ev, q, r⟩ := r
    exact .inl ⟨a, vs, by rw [ev], .inr (sqT_mono zh q.1), by rw [reps_len r]; exact k _ H Z [] (.refl zh) ⟨rfl, rfl⟩⟩
  · split at e
    · cases e
      obtain ⟨u, rfl, r⟩ := reps_one rx
      exact .inr ⟨_, by rw [r.1], by assumption, k _ H Z [] (.refl zh) ⟨rfl, rfl⟩⟩
    · cases e
  · cases e
def rIntX : List V → Hp → VK → Prop := fun xs H Q => (∃ i, xs = [.int i] ∧ Q (.int i) H) ∨ ∃ k, xs = [.bl k] ∧ Q (.int (if k then 1 else 0)) H
def dInt (ds : List D) : Option D := match ds with
  | [.int i] => some (.int i)
  | [.bl b] => some (.int (if b then 1 else 0))
  | _ => none
theorem caD_int : CaD K rIntX dInt := fun Z H dx z xs Ox Q zh rx e k => by
  unfold dInt at e
  split at e
  · cases e
    obtain ⟨u, rfl, r⟩ := reps_one rx
    exact .inl ⟨_, by rw [r.1], k _ H Z [] (.refl zh) ⟨rfl, rfl⟩⟩
  · cases e
    obtain ⟨u, rfl, r⟩ := reps_one rx
    exact .inr ⟨_, by rw [r.1], k _ H Z [] (.refl zh) ⟨rfl, rfl⟩⟩
  · cases e
def dAbs (ds : List D) : Option D := match ds with
  | [.int i] => some (.int (if i < 0 then -i else i))
  | _ => none
theorem caD_abs : CaD K (fun xs H Q => ∃ i, xs = [.int i] ∧ Q (.int (if i < 0 then -i else i)) H) dAbs := fun Z H dx z xs Ox Q zh rx e k => by
  unfold dAbs at e
  split at e
  · cases e
    obtain ⟨u, rfl, r⟩ := reps_one rx
    exact ⟨_, by rw [r.1], k _ H Z [] (.refl zh) ⟨rfl, rfl⟩⟩
  · cases e
def dMax2 (ds : List D) : Option D := match ds with
  | [.int i, .int j] => some (.int (if j > i then j else i))
  | _ => none
theorem caD_max2 : CaD K (fun xs H Q => ∃ i j, xs = [.int i, .int j] ∧ Q (.int (if j > i then j else i)) H) dMax2 := fun Z H dx z xs Ox Q zh rx e k => by
  unfold dMax2 at e
  split at e
  · cases e
    obtain ⟨u, u', O1, O2, rfl, _, r, r'⟩ := reps_two rx
    exact ⟨_, _, by rw [r.1, r'.1], k _ H Z [] (.refl zh) ⟨rfl, rfl⟩⟩
  · cases e
/-- xs + ys, of lists -/
def dCat (a b : D) : Option D := match a, b with
  | .lst xs, .lst ys => if imms xs = true ∧ imms ys = true ∧ xs.length + ys.length ≤ sizeLine then some (.lst (xs ++ ys)) else none
  | _, _ => none
theorem imms_append : ∀ {xs ys : List D}, imms xs = true → imms ys = true → imms (xs ++ ys) = true
  | [], ys, _, h => h
  | x :: xs, ys, h, k => by
    unfold imms at h
    rw [Bool.and_eq_true] at h
    show imms (x :: (xs ++ ys)) = true
    unfold imms
    rw [Bool.and_eq_true]
    exact ⟨h.1, imms_append h.2 k⟩
theorem pz_fresh {x : Hp} (zh : ∀ b o, Z b = some o → H b = some o) {p : Addr} (n : H p = none) : Z p = none := by
  cases e : Z p with
  | none => rfl
  | some o => rw [zh p o e] at n; cases n
theorem opD_cat : OpD K rCat dCat := fun Z H dx dy z x y Ox Oy Q zh rx ry e k => by
  unfold dCat at e
  split at e
  · split at e
    · rename_i xs ys h
      cases e
      obtain ⟨a, vs, O', ev, eo, q, r⟩ := rx
      obtain ⟨b, us, O2, ev2, eo2, q2, r2⟩ := ry
      have e1 := r.immO xs vs O' h.1
      have e2 := r2.immO ys us O2 h.2.1
      subst e1 e2
      refine ⟨a, b, vs, us, ev, ev2, q, q2, by rw [reps_len r, reps_len r2]; exact h.2.2, fun p n => ?_⟩
      have pz := Pz.new zh n (.lst (vs ++ us))
      exact k _ _ _ [p] pz ⟨p, vs ++ us, [], rfl, rfl, upd_same, by simpa using (pz.reps r).append (pz.reps r2)⟩
    · cases e
  · cases e
theorem newD2_cat : NewD2 K rCat dCat := fun Z H dx dy z x y Ox Oy Q zh rx ry nd zo e k => by
  unfold dCat at e
  split at e
  · split at e
    · rename_i xs ys h
      cases e
      obtain ⟨a, vs, O', ev, eo, q, r⟩ := rx
      obtain ⟨b, us, O2, ev2, eo2, q2, r2⟩ := ry
      have e1 := r.immO xs vs O' h.1
      have e2 := r2.immO ys us O2 h.2.1
      subst e1 e2
      refine ⟨a, b, vs, us, ev, ev2, q, q2, by rw [reps_len r, reps_len r2]; exact h.2.2, fun p n => ?_⟩
      have pz := Pz.new zh n (.lst (vs ++ us))
      refine k _ _ _ [p] pz ⟨p, vs ++ us, [], rfl, rfl, upd_same, by simpa using (pz.reps r).append (pz.reps r2)⟩ (by simp) (fun b hb => ?_) fun b hb => .inr ?_
      · have : b = p := by simpa using hb
        subst this
        exact pz_fresh (x := H) zh n
      · have : b = p := by simpa using hb
        subst this
        exact n
    · cases e
  · cases e
/-- an operation that makes a new thing of pure ones -/
def mNew2 (f : D → D → Option D) (ma mb : Sl → Option D) (s : Sl) : R D := match ma s, mb s with
  | some x, some y => match f x y with
    | some z => .ok z s
    | none => .stuck
  | _, _ => .stuck
theorem semE_cat {ta tb : TE} {ma mb : Sl → Option D} (ha : SemP K ta ma) (hb : SemP K tb mb) : SemE K W (tOp rCat ta tb) (mNew2 dCat ma mb) := fun σ H Z O s Q ok w => by
  unfold mNew2 at w
  cases ea : ma s with
  | none => rw [ea] at w; exact w.elim
  | some x =>
    cases eb : mb s with
    | none => rw [ea, eb] at w; exact w.elim
    | some y =>
      rw [ea, eb] at w
      dsimp only at w
      cases ef : dCat x y with
      | none => rw [ef] at w; exact w.elim
      | some z =>
        rw [ef] at w
        dsimp only at w
        refine ha σ H Z O s _ ok x ea fun v H1 Z1 O1 p1 r1 => ?_
        refine hb σ H1 Z1 O s _ (ok.pz p1) y eb fun u H2 Z2 O2 p2 r2 => ?_
        have rx := p2.rep r1
        have p12 := p1.trans p2
        have ok2 := ok.pz p12
        unfold dCat at ef
        split at ef
        · split at ef
          · rename_i xs ys h
            cases ef
            obtain ⟨a, vs, O', ev, eo, q, r⟩ := rx
            obtain ⟨b, us, O2, ev2, eo2, q2, r2⟩ := r2
            have e1 := r.immO xs vs O' h.1
            have e2 := r2.immO ys us O2 h.2.1
            subst e1 e2
            refine ⟨a, b, vs, us, ev, ev2, q, q2, by rw [reps_len r, reps_len r2]; exact h.2.2, fun p n => ?_⟩
            have pz := Pz.new ok2.zh n (.lst (vs ++ us))
            have ok3 := ok2.pz pz
            have np : p ∉ O := fun hb => by
              obtain ⟨o, e⟩ := ok2.rep.there p hb
              rw [n] at e; cases e
            refine w _ _ Z2 [p] O ⟨ok3, ⟨p, vs ++ us, [], rfl, rfl, upd_same, by simpa using (pz.reps r).append (pz.reps r2)⟩, by simpa using ⟨np, ok3.nd⟩, fun b hb => ?_, ?_⟩
            · have : b = p := by simpa using hb
              subst this
              exact pz_fresh (x := H) ok2.zh n
            · have x := (p12.trans pz).ext (O := O)
              refine ⟨x.zz, x.fr, fun b hb => ?_, x.nz⟩
              rcases List.mem_append.mp hb with hb | hb
              · have : b = p := by simpa using hb
                subst this
                right
                cases e : H b with
                | none => rfl
                | some o => rw [p12.fr b o e] at n; cases n
              · exact .inl hb
          · cases ef
        · cases ef
end
end Sim

namespace Sim
open PySem PySem.Spec PyProof.Rows L2

section
variable {K : KX} {W : WX} {pin : List Nat} {Z H Z' H' Z1 H1 Z2 H2 : Hp} {σ σ1 : L2.St} {s s1 : Sl} {O Od Oe O1 O2 : List Addr} {d : D} {v : V}

/-! ### dicts with int and text keys -/
def keyOf : D → Option Key
  | .int i => some (.inl i)
  | .str x => some (.inr x)
  | _ => none
theorem keyOf_some {k : Key} (h : keyOf d = some k) (r : Rep K Z H d v O) : v = kV k := by
  unfold keyOf at h
  split at h
  · cases h; exact r.1
  · cases h; exact r.1
  · cases h
def valD (kvs : List (Key × D)) (k : Key) : Option D := (kvs.find? fun kv => decide (kv.1 = k)).map (·.2)
def putD (kvs : List (Key × D)) (k : Key) (d : D) : List (Key × D) := if (kvs.any fun kv => decide (kv.1 = k)) = true then kvs.map (fun kv => if kv.1 = k then (kv.1, d) else kv) else kvs ++ [(k, d)]
theorem repK_val : ∀ {kvs : List (Key × D)} {kv : List (Key × V)} {O : List Addr} (k : Key), RepK K Z H kvs kv O →
    (∀ d, valD kvs k = some d → ∃ v A O1 B, valV kv k = some v ∧ O = A ++ (O1 ++ B) ∧ Rep K Z H d v O1) ∧ (valD kvs k = none → valV kv k = none)
  | [], kv, O, k, r => by
    rw [r.1]
    exact ⟨fun d e => (by cases (show (none : Option D) = some d from e)), fun _ => rfl⟩
  | (k0, d0) :: kvs, kv, O, k, r => by
    obtain ⟨v, kv', O1, O2, ev, eo, r1, r2⟩ := r
    subst ev eo
    by_cases e : k0 = k
    · subst e
      have e1 : valD ((k0, d0) :: kvs) k0 = some d0 := by simp [valD]
      refine ⟨fun d e => ?_, fun e => by rw [e1] at e; cases e⟩
      rw [e1] at e
      cases e
      exact ⟨v, [], O1, O2, valV_pos rfl, rfl, r1⟩
    · have e1 : valD ((k0, d0) :: kvs) k = valD kvs k := by simp [valD, List.find?_cons, e]
      obtain ⟨h1, h2⟩ := repK_val k r2
      refine ⟨fun d e' => ?_, fun e' => ?_⟩
      · rw [e1] at e'
        obtain ⟨u, A, Oi, B, q1, q2, q3⟩ := h1 d e'
        subst q2
        exact ⟨u, O1 ++ A, Oi, B, by rw [valV_neg e]; exact q1, by simp, q3⟩
      · rw [e1] at e'
        rw [valV_neg e]; exact h2 e'
theorem repK_any : ∀ {kvs : List (Key × D)} {kv : List (Key × V)} {O : List Addr} (k : Key), RepK K Z H kvs kv O → (kvs.any fun x => decide (x.1 = k)) = (kv.any fun x => decide (x.1 = k))
  | [], kv, O, k, r => by rw [r.1]; rfl
  | (k0, d0) :: kvs, kv, O, k, r => by
    obtain ⟨v, kv', O1, O2, ev, eo, r1, r2⟩ := r
    subst ev
    rw [List.any_cons, List.any_cons, repK_any k r2]
theorem repK_map : ∀ {kvs : List (Key × D)} {kv : List (Key × V)} (k : Key), RepK K Z H kvs kv [] → Rep K Z H d v [] →
    RepK K Z H (kvs.map fun x => if x.1 = k then (x.1, d) else x) (kv.map fun x => if x.1 = k then (x.1, v) else x) []
  | [], kv, k, r, rd => by rw [r.1]; exact ⟨rfl, rfl⟩
  | (k0, d0) :: kvs, kv, k, r, rd => by
    obtain ⟨v0, kv', O1, O2, ev, eo, r1, r2⟩ := r
    subst ev
    have eo' : O1 = [] ∧ O2 = [] := by simpa using eo.symm
    obtain ⟨rfl, rfl⟩ := eo'
    rw [List.map_cons, List.map_cons]
    dsimp only
    by_cases e : k0 = k
    · rw [if_pos e, if_pos e]
      exact ⟨v, _, [], [], rfl, rfl, rd, repK_map k r2 rd⟩
    · rw [if_neg e, if_neg e]
      exact ⟨v0, _, [], [], rfl, rfl, r1, repK_map k r2 rd⟩
theorem repK_app : ∀ {kvs : List (Key × D)} {kv : List (Key × V)} {k : Key}, RepK K Z H kvs kv [] → Rep K Z H d v [] → RepK K Z H (kvs ++ [(k, d)]) (kv ++ [(k, v)]) []
  | [], kv, k, r, rd => by rw [r.1]; exact ⟨v, [], [], [], rfl, rfl, rd, rfl, rfl⟩
  | (k0, d0) :: kvs, kv, k, r, rd => by
    obtain ⟨v0, kv', O1, O2, ev, eo, r1, r2⟩ := r
    subst ev
    have eo' : O1 = [] ∧ O2 = [] := by simpa using eo.symm
    obtain ⟨rfl, rfl⟩ := eo'
    exact ⟨v0, _, [], [], rfl, rfl, r1, repK_app r2 rd⟩
theorem repK_put {kvs : List (Key × D)} {kv : List (Key × V)} {k : Key} (r : RepK K Z H kvs kv []) (rd : Rep K Z H d v []) : RepK K Z H (putD kvs k d) (putK kv k v) [] := by
  unfold putD putK
  rw [repK_any k r]
  by_cases h : (kv.any fun x => decide (x.1 = k)) = true
  · rw [if_pos h, if_pos h]; exact repK_map k r rd
  · rw [if_neg h, if_neg h]; exact repK_app r rd
theorem repK_len : ∀ {kvs : List (Key × D)} {kv : List (Key × V)} {O : List Addr}, RepK K Z H kvs kv O → kv.length = kvs.length
  | [], kv, O, r => by rw [r.1]; rfl
  | (k0, d0) :: kvs, kv, O, r => by
    obtain ⟨v, kv', O1, O2, ev, eo, r1, r2⟩ := r
    rw [ev, List.length_cons, List.length_cons, repK_len r2]
theorem RepK.immO : ∀ {ds : List (Key × D)} {vs : List (Key × V)} {O : List Addr}, RepK K Z H ds vs O → immK ds = true → O = []
  | [], vs, O, h, _ => h.2
  | (k0, d) :: ds, vs, O, h, k => by
    obtain ⟨v, vs', O1, O2, e, eo, r1, r2⟩ := h
    unfold immK at k
    rw [Bool.and_eq_true] at k
    rw [eo, Rep.immO d v O1 r1 k.1, RepK.immO r2 k.2]
    rfl
def dGet (a b : D) : Option D := match a with
  | .dct kvs => (keyOf b).bind (valD kvs)
  | .fdc kvs => (keyOf b).bind (valD kvs)
  | _ => none
theorem dget_reads {a b z : D} {x y : V} {Ox Oy : List Addr} (zh : ∀ b o, Z b = some o → H b = some o) (rx : Rep K Z H a x Ox) (ry : Rep K Z H b y Oy) (e : dGet a b = some z) : ∃ p u Oz, x = .ref p ∧ DGet H p y (some u) ∧ Rep K Z H z u Oz := by
  unfold dGet at e
  split at e
  · rename_i kvs
    obtain ⟨k, e1, e2⟩ := Option.bind_eq_some_iff.mp e
    obtain ⟨p, kv, O', ev, eo, q, r⟩ := rx
    obtain ⟨u, A, Oi, B, e3, e4, ru⟩ := (repK_val k r).1 z e2
    exact ⟨p, u, Oi, ev, .inl ⟨kv, k, .inl q, keyOf_some e1 ry, e3.symm⟩, ru⟩
  · rename_i kvs
    obtain ⟨k, e1, e2⟩ := Option.bind_eq_some_iff.mp e
    obtain ⟨p, kv, ev, eo, q, r⟩ := rx
    obtain ⟨u, A, Oi, B, e3, e4, ru⟩ := (repK_val k r).1 z e2
    exact ⟨p, u, Oi, ev, .inl ⟨kv, k, rd_mono zh q, keyOf_some e1 ry, e3.symm⟩, ru⟩
  · cases e
theorem semP_dget {td ty : TE} {ma mb : Sl → Option D} (ha : SemP K td ma) (hb : SemP K ty mb) : SemP K (tDGet td ty) (fun s => (ma s).bind fun x => (mb s).bind fun y => dGet x y) := fun σ H Z O s Q ok d e k => by
  obtain ⟨x, ea, e⟩ := Option.bind_eq_some_iff.mp e
  obtain ⟨y, eb, e⟩ := Option.bind_eq_some_iff.mp e
  refine ha σ H Z O s _ ok x ea fun v H1 Z1 O1 p1 r1 => ?_
  refine hb σ H1 Z1 O s _ (ok.pz p1) y eb fun w H2 Z2 O2 p2 r2 => ?_
  obtain ⟨p, u, Oz, ev, dg, rz⟩ := dget_reads p2.zh (p2.rep r1) r2 e
  exact ⟨p, u, ev, dg, k u H2 Z2 Oz (p1.trans p2) rz⟩
/-- a display: pairs of pure ones -/
def SemPP (K : KX) (trs : List (TE × TE)) (m : Sl → Option (List (Key × D))) : Prop := ∀ σ H Z O s (Q : List (V × V) → Hp → Prop), Ok K Z H σ s O → ∀ kds, m s = some kds →
  (∀ kvs H' Z', Pz Z H H' Z' → RepK K Z' H' kds kvs [] → Q (kvs.map fun kv => (kV kv.1, kv.2)) H') → tPairs trs σ H Q
theorem semPP_nil : SemPP K [] (fun _ => some []) := fun σ H Z O s Q ok kds e k => by
  cases e
  exact k [] H Z (.refl ok.zh) ⟨rfl, rfl⟩
def mPair (mk mv : Sl → Option D) (mr : Sl → Option (List (Key × D))) (s : Sl) : Option (List (Key × D)) := (mk s).bind fun a => (keyOf a).bind fun key => (mv s).bind fun d => if imm d = true then (mr s).bind fun r => some ((key, d) :: r) else none
theorem semPP_cons {tk tv : TE} {trs : List (TE × TE)} {mk mv : Sl → Option D} {mr : Sl → Option (List (Key × D))} (hk : SemP K tk mk) (hv : SemP K tv mv) (hr : SemPP K trs mr) : SemPP K ((tk, tv) :: trs) (mPair mk mv mr) := fun σ H Z O s Q ok kds e k => by
  unfold mPair at e
  obtain ⟨a, ea, e⟩ := Option.bind_eq_some_iff.mp e
  obtain ⟨key, ek, e⟩ := Option.bind_eq_some_iff.mp e
  obtain ⟨d, ed, e⟩ := Option.bind_eq_some_iff.mp e
  split at e
  · rename_i hi
    obtain ⟨r, er, e⟩ := Option.bind_eq_some_iff.mp e
    cases e
    refine hk σ H Z O s _ ok a ea fun v H1 Z1 O1 p1 r1 => ?_
    refine hv σ H1 Z1 O s _ (ok.pz p1) d ed fun w H2 Z2 O2 p2 r2 => ?_
    have eo := r2.immO d w O2 hi
    subst eo
    refine hr σ H2 Z2 O s _ (ok.pz (p1.trans p2)) r er fun kvs H3 Z3 p3 r3 => ?_
    have ev := keyOf_some ek r1
    subst ev
    exact k ((key, w) :: kvs) H3 Z3 (p1.trans (p2.trans p3)) ⟨w, kvs, [], [], rfl, rfl, p3.rep r2, r3⟩
  · cases e
def mergeD (kvs more : List (Key × D)) : List (Key × D) := more.foldl (fun acc kv => putD acc kv.1 kv.2) kvs
theorem repK_merge : ∀ {more : List (Key × D)} {mv : List (Key × V)} {kvs : List (Key × D)} {kv : List (Key × V)}, RepK K Z H more mv [] → RepK K Z H kvs kv [] → RepK K Z H (mergeD kvs more) (mergeK kv mv) []
  | [], mv, kvs, kv, h, r => by rw [h.1]; exact r
  | (k, d) :: more, mv, kvs, kv, h, r => by
    obtain ⟨v, mv', O1, O2, ev, eo, r1, r2⟩ := h
    have eo' : O1 = [] ∧ O2 = [] := by simpa using eo.symm
    obtain ⟨rfl, rfl⟩ := eo'
    subst ev
    exact repK_merge (more := more) (mv := mv') r2 (repK_put r r1)
def mDisp (m : Sl → Option (List (Key × D))) (s : Sl) : R D := match m s with
  | some kds => if kds.length ≤ 15 then .ok (.dct (mergeD [] kds)) s else .stuck
  | none => .stuck
theorem semE_disp {trs : List (TE × TE)} {m : Sl → Option (List (Key × D))} (h : SemPP K trs m) : SemE K W (tDisp trs) (mDisp m) := fun σ H Z O s Q ok w => by
  unfold mDisp at w
  intro p n
  cases e : m s with
  | none => rw [e] at w; exact w.elim
  | some kds =>
    rw [e] at w
    dsimp only at w
    split at w
    · rename_i hl
      have q := Pz.new ok.zh n (.dK [])
      refine h σ _ Z O s _ (ok.pz q) kds e fun kvs H2 Z2 p2 r2 => ?_
      have at2 : H2 p = some (.dK []) := p2.fr p _ upd_same
      refine ⟨at2, kvs, rfl, by rw [repK_len r2]; exact hl, ?_⟩
      have zp : Z p = none := pz_fresh (x := H) ok.zh n
      have zp2 : Z2 p = none := by
        cases e : Z2 p with
        | none => rfl
        | some o =>
          rcases p2.nz p (by rw [e]; simp) with q | q
          · exact absurd zp q
          · rw [upd_same] at q; cases q
      have ok2 := (ok.pz q).pz p2
      have np : p ∉ O := fun hb => by
        obtain ⟨o, e⟩ := ok.rep.there p hb
        rw [n] at e; cases e
      have keep : ∀ b o, b ≠ p → H2 b = some o → (upd H2 p (.dK (mergeK [] kvs))) b = some o := fun b o hb e => by rw [upd_ne hb]; exact e
      have zh3 : ∀ b o, Z2 b = some o → (upd H2 p (.dK (mergeK [] kvs))) b = some o := fun b o e => keep b o (fun z => by rw [z, zp2] at e; cases e) (ok2.zh b o e)
      refine w _ _ Z2 [p] O ⟨⟨zh3, ok2.rep.stay (fun _ _ h => h) fun b hb o e => keep b o (fun z => np (z ▸ hb)) e, ok2.nd, ok2.zo⟩, ⟨p, mergeK [] kvs, [], rfl, rfl, upd_same, ?_⟩, by simpa using ⟨np, ok.nd⟩, fun b hb => ?_, ?_⟩
      · exact RepK.stay (fun _ _ h => h) _ _ _ (repK_merge r2 ⟨rfl, rfl⟩) (by simp)
      · have : b = p := by simpa using hb
        subst this; exact zp2
      · have x := (q.trans p2).ext (O := O)
        refine ⟨x.zz, fun b o e hb => keep b o (fun z => by rw [z, n] at e; cases e) (x.fr b o e hb), fun b hb => ?_, x.nz⟩
        rcases List.mem_append.mp hb with hb | hb
        · have : b = p := by simpa using hb
          subst this; exact .inr n
        · exact .inl hb
    · exact w.elim
/-- x[k] = e, x a slot's dict -/
def mDPut (i : Nat) (mk : Sl → Option D) (m : Sl → R D) (s : Sl) : RS := match m s with
  | .ok d s1 => match s1[i]?.join, (mk s1).bind keyOf with
    | some (.dct kvs), some k => if imm d = true ∧ immK kvs = true ∧ kvs.length < sizeLine then .nx (s1.set i (some (.dct (putD kvs k d)))) else .stuck
    | _, _ => .stuck
  | .exc c fs s1 => .exc c fs s1
  | .stuck => .stuck
/-- a slot's own list or dict is changed in place -/
theorem Ok.change {i : Nat} {d0 d1 : D} {a : Addr} {o1 : HO} {Od : List Addr} (ok : Ok K Z H σ s Oe) (e : s[i]? = some (some d0)) (pt : ∀ v O1, Rep K Z H d0 v O1 → v = .ref a → (Od ++ O1).Nodup → ∃ O', O1 = a :: O' ∧ ∀ H', (∀ b ∈ O' ++ Od, ∀ o, H b = some o → H' b = some o) → H' a = some o1 → ∃ O2, Rep K Z H' d1 v (a :: O2) ∧ (a :: O2).Nodup ∧ ∀ b ∈ O2, b ∈ O' ++ Od)
    (ea : σ[i]? = some (some (.ref a))) (th : ∀ b ∈ Od, ∃ o, H b = some o) (nd : (Od ++ Oe).Nodup) (zo : ∀ b ∈ Od, Z b = none) : ∃ O', Ok K Z (upd H a o1) σ (s.set i (some d1)) O' ∧ Ext Z H (Od ++ Oe) Z (upd H a o1) O' := by
  obtain ⟨v, A, O1, B, q, eo, r, r2, r3, r4⟩ := ok.rep.get e
  rw [ea] at q
  cases q
  obtain ⟨O', e1, mk⟩ := pt _ _ r rfl (by grind)
  subst e1 eo
  have na : ∀ b, b ∈ A ++ B ∨ b ∈ O' ++ Od → b ≠ a := fun b hb z => by subst z; grind
  obtain ⟨O2, rn, nd2, sub⟩ := mk (upd H a o1) (fun b hb o e => by rw [upd_ne (na b (.inr hb))]; exact e) upd_same
  have za : Z a = none := ok.zo a (by simp)
  have q4 := r4 Z (upd H a o1) d1 (.ref a) (a :: O2) (fun _ _ h => h) (fun b hb o e => by rw [upd_ne (na b (.inl hb))]; exact e) rn
  rw [set_same ea] at q4
  have mem : ∀ b ∈ A ++ (a :: O2 ++ B), b ∈ Od ++ (A ++ (a :: O' ++ B)) := fun b hb => by
    have := sub b
    grind
  refine ⟨A ++ (a :: O2 ++ B), ⟨fun b o h => ?_, q4, ?_, fun b hb => ?_⟩, ⟨fun _ _ h => h, fun b o h n => ?_, fun b hb => .inl (mem b hb), fun b hb => .inl hb⟩⟩
  · rw [upd_ne (fun z => by rw [z, za] at h; cases h)]; exact ok.zh b o h
  · have : ∀ b ∈ O2, b ∉ A ∧ b ∉ B := fun b hb => by
      have := sub b hb
      grind
    grind
  · rcases List.mem_append.mp (mem b hb) with h | h
    · exact zo b h
    · exact ok.zo b h
  · rw [upd_ne (fun z => n (by rw [z]; simp))]; exact h
theorem semS_dput {i : Nat} {ty tv : TE} {mk : Sl → Option D} {m : Sl → R D} (hm : SemE K W tv m) (hk : SemP K ty mk) : SemS K W pin (sDPut (tVar i) ty tv) (mDPut i mk m) := fun σ H Z O s D ok w => by
  unfold mDPut at w
  refine hm σ H Z O s _ ok ?_
  cases em : m s with
  | stuck => rw [em] at w; exact w.elim
  | exc c fs s1 => rw [em] at w; exact w.ofX
  | ok d s1 =>
    rw [em] at w
    dsimp only at w
    intro v H1 Z1 Od Oe x
    cases e1 : s1[i]?.join with
    | none => rw [e1] at w; exact w.elim
    | some a0 =>
      cases e2 : (mk s1).bind keyOf with
      | none => rw [e1, e2] at w; cases a0 <;> exact w.elim
      | some k =>
        rw [e1, e2] at w
        cases a0 <;> try exact False.elim w
        rename_i kvs
        dsimp only at w
        split at w
        · rename_i hc
          obtain ⟨hi, hk2, hl⟩ := hc
          obtain ⟨kd, e3, e4⟩ := Option.bind_eq_some_iff.mp e2
          have eo := x.rep.immO d v Od hi
          subst eo
          obtain ⟨v0, A, O1, B, q, eo, r, _⟩ := x.ok.rep.get (join_some e1)
          refine ⟨v0, q, ?_⟩
          refine hk σ H1 Z1 Oe s1 _ x.ok kd e3 fun y H2 Z2 O2 p2 r2 => ?_
          have ok2 := x.ok.pz p2
          obtain ⟨a, kv, O', ev, eo1, qa, rk⟩ := p2.rep r
          subst ev
          have e0 := rk.immO hk2
          subst e0
          have ky := keyOf_some e4 r2
          subst ky
          refine ⟨a, _, rfl, DPut.k qa (by rw [repK_len rk]; exact hl), ?_⟩
          obtain ⟨O3, ok3, ext3⟩ := ok2.change (i := i) (d1 := .dct (putD kvs k d)) (o1 := .dK (putK kv k v)) (Od := []) (a := a) (join_some e1) (fun v' O1' r1 e _ => by
            subst e
            obtain ⟨a', kv', O'', ev', eo', qa', rk'⟩ := r1
            cases ev'
            rw [qa] at qa'
            cases qa'
            have := rk'.immO hk2
            subst this
            exact ⟨[], eo', fun H' hh ha => ⟨[], ⟨a, _, [], rfl, rfl, ha, repK_put (RepK.stay (fun _ _ h => h) _ _ _ rk' (by simp)) (Rep.stay (fun _ _ h => h) _ _ _ (p2.rep x.rep) (by simp))⟩, by simp, by simp⟩⟩) q (by simp) (by simpa using ok2.nd) (by simp)
          exact w σ _ Z2 O3 ok3 (x.ext.trans2 (p2.ext.trans2 (by simpa using ext3) fun _ h => h) fun b hb => by simpa using hb) .refl
        · exact w.elim

/-! ### lists changed in place -/
/-- x.append(e), x a slot's list -/
def mAppend (i : Nat) (m : Sl → R D) (s : Sl) : R D := match s[i]?.join with
  | some (.lst _) => (m s).bind fun d s1 => match s1[i]?.join with
    | some (.lst ds) => if ds.length < sizeLine then .ok .non (s1.set i (some (.lst (ds ++ [d])))) else .stuck
    | _ => .stuck
  | _ => .stuck
theorem semE_append {i : Nat} {t : TE} {m : Sl → R D} (h : SemE K W t m) : SemE K W (tBM K "list" rAppend (tVar i) (tCons t tNil)) (mAppend i m) := fun σ H Z O s Q ok w => by
  unfold mAppend at w
  cases e0 : s[i]?.join with
  | none => rw [e0] at w; exact w.elim
  | some x0 =>
    rw [e0] at w
    cases x0 <;> try exact False.elim w
    rename_i ds0
    dsimp only at w
    obtain ⟨v, A, O1, B, q, eo, r, _⟩ := ok.rep.get (join_some e0)
    obtain ⟨a, vs0, O', ev, eo1, q0, r0⟩ := r
    subst ev
    refine ⟨.ref a, q, .inl ⟨rfl, vs0, SqL.of q0⟩, h σ H Z O s _ ok ?_⟩
    cases em : m s with
    | stuck => rw [em] at w; exact w.elim
    | exc c fs s1 => rw [em] at w; exact w
    | ok d s1 =>
      rw [em] at w
      dsimp only [R.bind] at w
      intro y H1 Z1 Od Oe x
      cases e1 : s1[i]?.join with
      | none => rw [e1] at w; exact w.elim
      | some x1 =>
        rw [e1] at w
        cases x1 <;> try exact False.elim w
        rename_i ds
        dsimp only at w
        split at w
        · rename_i hl
          obtain ⟨v', A', O1', B', q', eo', r', _⟩ := x.ok.rep.get (join_some e1)
          rw [q] at q'
          cases q'
          obtain ⟨a', vs, O'', ev', eo1', qa, ra⟩ := r'
          cases ev'
          refine ⟨a, vs, y, rfl, rfl, qa, by rw [reps_len ra]; exact hl, ?_⟩
          obtain ⟨O3, ok3, ext3⟩ := x.ok.change (i := i) (d1 := .lst (ds ++ [d])) (o1 := .lst (vs ++ [y])) (Od := Od) (a := a) (join_some e1) (fun v' O1' r1 e nn => by
            subst e
            obtain ⟨a2, vs2, O2, ev2, eo2, qa2, ra2⟩ := r1
            cases ev2
            rw [qa] at qa2
            cases qa2
            refine ⟨O2, eo2, fun H' hh ha => ⟨O2 ++ Od, ⟨a, vs ++ [y], _, rfl, rfl, ha, ?_⟩, ?_, fun b hb => hb⟩⟩
            · exact Reps.append (Reps.stay (fun _ _ h => h) ds vs O2 ra2 fun b hb => hh b (List.mem_append_left _ hb)) (Reps.one (Rep.stay (fun _ _ h => h) d y Od x.rep fun b hb => hh b (List.mem_append_right _ hb)))
            · subst eo2; grind) q (x.rep.there d y Od) x.nd x.zo
          exact w .non _ Z1 [] O3 ⟨ok3, ⟨rfl, rfl⟩, ok3.nd, by simp, x.ext.trans2 ext3 fun _ h => h⟩
        · exact w.elim
end
end Sim

namespace Sim
open PySem PySem.Spec PyProof.Rows L2

section
variable {K : KX} {W : WX} {pin : List Nat} {Z H Z' H' Z1 H1 Z2 H2 : Hp} {σ σ1 : L2.St} {s s1 : Sl} {O Od Oe O1 O2 : List Addr} {d : D} {v : V}

/-- x.extend(e) -/
def mExtend (i : Nat) (m : Sl → R D) (s : Sl) : R D := match s[i]?.join with
  | some (.lst _) => (m s).bind fun d s1 => match s1[i]?.join, d with
    | some (.lst ds), .lst es => if ds.length + es.length ≤ sizeLine then .ok .non (s1.set i (some (.lst (ds ++ es)))) else .stuck
    | _, _ => .stuck
  | _ => .stuck
theorem semE_extend {i : Nat} {t : TE} {m : Sl → R D} (h : SemE K W t m) : SemE K W (tBM K "list" rExtend (tVar i) (tCons t tNil)) (mExtend i m) := fun σ H Z O s Q ok w => by
  unfold mExtend at w
  cases e0 : s[i]?.join with
  | none => rw [e0] at w; exact w.elim
  | some x0 =>
    rw [e0] at w
    cases x0 <;> try exact False.elim w
    rename_i ds0
    dsimp only at w
    obtain ⟨v, A, O1, B, q, eo, r, _⟩ := ok.rep.get (join_some e0)
    obtain ⟨a, vs0, O', ev, eo1, q0, r0⟩ := r
    subst ev
    refine ⟨.ref a, q, .inl ⟨rfl, vs0, SqL.of q0⟩, h σ H Z O s _ ok ?_⟩
    cases em : m s with
    | stuck => rw [em] at w; exact w.elim
    | exc c fs s1 => rw [em] at w; exact w
    | ok d s1 =>
      rw [em] at w
      dsimp only [R.bind] at w
      intro y H1 Z1 Od Oe x
      cases e1 : s1[i]?.join with
      | none => rw [e1] at w; exact w.elim
      | some x1 =>
        rw [e1] at w
        cases x1 <;> try exact False.elim w
        rename_i ds
        cases d <;> try exact False.elim w
        rename_i es
        dsimp only at w
        split at w
        · rename_i hl
          obtain ⟨v', A', O1', B', q', eo', r', _⟩ := x.ok.rep.get (join_some e1)
          rw [q] at q'
          cases q'
          obtain ⟨a', vs, O'', ev', eo1', qa, ra⟩ := r'
          cases ev'
          obtain ⟨b, us, Ob, ey, eob, qb, rb⟩ := x.rep
          subst ey eob
          refine ⟨a, b, vs, us, rfl, rfl, qa, qb, by rw [reps_len ra, reps_len rb]; exact hl, ?_⟩
          have nb : Ob.Nodup ∧ ∀ z ∈ Ob, z ∉ Oe := by have := x.nd; grind
          obtain ⟨O3, ok3, ext3⟩ := x.ok.change (i := i) (d1 := .lst (ds ++ es)) (o1 := .lst (vs ++ us)) (Od := Ob) (a := a) (join_some e1) (fun v' O1' r1 e nn => by
            subst e
            obtain ⟨a2, vs2, O2, ev2, eo2, qa2, ra2⟩ := r1
            cases ev2
            rw [qa] at qa2
            cases qa2
            refine ⟨O2, eo2, fun H' hh ha => ⟨O2 ++ Ob, ⟨a, vs ++ us, _, rfl, rfl, ha, ?_⟩, ?_, fun b hb => hb⟩⟩
            · exact Reps.append (Reps.stay (fun _ _ h => h) ds vs O2 ra2 fun b hb => hh b (List.mem_append_left _ hb)) (Reps.stay (fun _ _ h => h) es us Ob rb fun b hb => hh b (List.mem_append_right _ hb))
            · subst eo2; grind) q (rb.there es us Ob) (nodup_join nb.1 x.ok.nd nb.2) (fun z hz => x.zo z (by simp [hz]))
          exact w .non _ Z1 [] O3 ⟨ok3, ⟨rfl, rfl⟩, ok3.nd, by simp, (x.ext.less fun z hz => by grind).trans2 ext3 fun _ h => h⟩
        · exact w.elim

/-- x[k] = value, x a slot's list -/
theorem Reps.set : ∀ {ds : List D} {vs : List V} {O : List Addr} {j : Nat}, Reps K Z H ds vs O → j < ds.length → Rep K Z H d v Od → ∃ A B, (∀ b ∈ A ++ B, b ∈ O) ∧ (O.Nodup → (A ++ B).Nodup) ∧ Reps K Z H (ds.set j d) (vs.set j v) (A ++ (Od ++ B))
  | d0 :: ds, vs, O, 0, r, h, rd => by
    obtain ⟨v0, vs', O1, O2, ev, eo, r1, r2⟩ := r
    subst ev eo
    exact ⟨[], O2, fun b hb => List.mem_append_right _ (by simpa using hb), fun n => by simpa using (List.nodup_append.mp n).2.1, v, vs', Od, O2, rfl, rfl, rd, r2⟩
  | d0 :: ds, vs, O, j + 1, r, h, rd => by
    obtain ⟨v0, vs', O1, O2, ev, eo, r1, r2⟩ := r
    subst ev eo
    obtain ⟨A, B, q1, q2, q3⟩ := r2.set (j := j) (by simpa using h) rd
    refine ⟨O1 ++ A, B, fun b hb => ?_, fun n => ?_, v0, vs'.set j v, O1, A ++ (Od ++ B), rfl, by rw [List.append_assoc], r1, q3⟩
    · have := q1 b
      grind
    · have := q2 (List.nodup_append.mp n).2.1
      have q1' : ∀ b, b ∈ A ∨ b ∈ B → b ∈ O2 := fun b hb => q1 b (by simpa using hb)
      grind
def mgSetL (i : Nat) (mk : Sl → Option D) (d : D) (s : Sl) : Option Sl := match s[i]?.join, mk s with
  | some (.lst ds), some (.int k) => (ixN ds.length k).map fun j => s.set i (some (.lst (ds.set j d)))
  | _, _ => none
theorem semG_setL {i : Nat} {ti : TE} {mk : Sl → Option D} (hk : SemP K ti mk) : SemG K pin (gSub (tVar i) ti rSetL) (mgSetL i mk) := fun σ H Z O s d v Od Q ok r nd zo s' e kk => by
  unfold mgSetL at e
  cases e1 : s[i]?.join with
  | none => rw [e1] at e; cases e
  | some x1 =>
    cases e2 : mk s with
    | none => rw [e1, e2] at e; cases x1 <;> cases e
    | some y1 =>
      rw [e1, e2] at e
      cases x1 <;> try cases e
      rename_i ds
      cases y1 <;> try cases e
      rename_i k
      dsimp only at e
      cases e3 : ixN ds.length k with
      | none => rw [e3] at e; cases e
      | some j =>
        rw [e3] at e
        cases e
        obtain ⟨v0, A, O1, B, q, eo, r0, _⟩ := ok.rep.get (join_some e1)
        refine ⟨v0, q, hk σ H Z O s _ ok _ e2 fun y H1 Z1 Oy p ry => ?_⟩
        obtain ⟨a, vs, O', ev, eo1, qa, ra⟩ := p.rep r0
        subst ev
        have hj : j < ds.length := by
          unfold ixN at e3
          split at e3
          · split at e3
            · cases e3; omega
            · cases e3
          · split at e3
            · cases e3; omega
            · cases e3
        refine ⟨a, vs, k, j, rfl, ry.1, qa, by rw [reps_len ra]; exact e3, ?_⟩
        have ok1 := ok.pz p
        have zo1 : ∀ b ∈ Od, Z1 b = none := fun b hb => by
          cases e : Z1 b with
          | none => rfl
          | some o =>
            rcases p.nz b (by rw [e]; simp) with q | q
            · exact absurd (zo b hb) q
            · obtain ⟨o', e'⟩ := r.there d v Od b hb
              rw [q] at e'; cases e'
        have rd := p.rep r
        obtain ⟨O3, ok3, ext3⟩ := ok1.change (i := i) (d1 := .lst (ds.set j d)) (o1 := .lst (vs.set j v)) (Od := Od) (a := a) (join_some e1) (fun v' O1' r1 e nn => by
          subst e
          obtain ⟨a2, vs2, O2, ev2, eo2, qa2, ra2⟩ := r1
          cases ev2
          rw [qa] at qa2
          cases qa2
          subst eo2
          refine ⟨O2, rfl, fun H' hh ha => ?_⟩
          obtain ⟨A2, B2, q1, q2, q3⟩ := Reps.set (j := j) (Reps.stay (fun _ _ h => h) ds vs O2 ra2 fun b hb => hh b (List.mem_append_left _ hb)) hj (Rep.stay (fun _ _ h => h) d v Od rd fun b hb => hh b (List.mem_append_right _ hb))
          have n2 : O2.Nodup := by grind
          have := q2 n2
          have q1' : ∀ b, b ∈ A2 ∨ b ∈ B2 → b ∈ O2 := fun b hb => q1 b (by simpa using hb)
          exact ⟨A2 ++ (Od ++ B2), ⟨a, vs.set j v, _, rfl, rfl, ha, q3⟩, by grind, fun b hb => by grind⟩) q (rd.there d v Od) nd zo1
        exact kk σ _ Z1 O3 ok3 ((p.ext (O := Od ++ O)).trans2 ext3 fun _ h => h) .refl

/-! ### slices of lists -/
def cutD (xs : List D) (lo hi : Option Int) : List D := (xs.drop (HT.sIx xs.length 0 lo)).take (HT.sIx xs.length xs.length hi - HT.sIx xs.length 0 lo)
theorem Reps.take : ∀ {ds : List D} {vs : List V} (n : Nat), Reps K Z H ds vs [] → Reps K Z H (ds.take n) (vs.take n) []
  | _, _, 0, _ => by rw [List.take_zero, List.take_zero]; exact ⟨rfl, rfl⟩
  | [], vs, n + 1, h => by rw [h.1]; exact ⟨rfl, rfl⟩
  | d :: ds, vs, n + 1, h => by
    obtain ⟨v, vs', O1, O2, ev, eo, r1, r2⟩ := h
    have eo' : O1 = [] ∧ O2 = [] := by simpa using eo.symm
    obtain ⟨rfl, rfl⟩ := eo'
    rw [ev]
    exact ⟨v, _, [], [], rfl, rfl, r1, r2.take n⟩
theorem Reps.drop : ∀ {ds : List D} {vs : List V} (n : Nat), Reps K Z H ds vs [] → Reps K Z H (ds.drop n) (vs.drop n) []
  | _, _, 0, h => h
  | [], vs, n + 1, h => by rw [h.1]; exact ⟨rfl, rfl⟩
  | d :: ds, vs, n + 1, h => by
    obtain ⟨v, vs', O1, O2, ev, eo, r1, r2⟩ := h
    have eo' : O1 = [] ∧ O2 = [] := by simpa using eo.symm
    obtain ⟨rfl, rfl⟩ := eo'
    rw [ev]
    exact r2.drop n
def SemO (K : KX) (t : TO) (m : Sl → Option (Option Int)) : Prop := ∀ σ H Z O s (Q : Option Int → Hp → Prop), Ok K Z H σ s O → ∀ o, m s = some o → (∀ H' Z', Pz Z H H' Z' → Q o H') → t σ H Q
theorem semO_none : SemO K tNoPart (fun _ => some none) := fun σ H Z O s Q ok o e k => by
  cases e
  exact k H Z (.refl ok.zh)
def asI : D → Option (Option Int)
  | .int i => some (some i)
  | _ => none
theorem semO_some {t : TE} {m : Sl → Option D} (h : SemP K t m) : SemO K (tPart t) (fun s => (m s).bind asI) := fun σ H Z O s Q ok o e k => by
  obtain ⟨x, ea, e⟩ := Option.bind_eq_some_iff.mp e
  cases x <;> try cases e
  rename_i i
  exact h σ H Z O s _ ok _ ea fun v H1 Z1 Oa p r => ⟨i, r.1, k H1 Z1 p⟩
def mSlice (m : Sl → Option D) (ml mh : Sl → Option (Option Int)) (s : Sl) : R D := match m s, ml s, mh s with
  | some (.lst ds), some lo, some hi => if imms ds = true then .ok (.lst (cutD ds lo hi)) s else .stuck
  | some (.fls ds), some lo, some hi => if imms ds = true then .ok (.lst (cutD ds lo hi)) s else .stuck
  | _, _, _ => .stuck
theorem imms_take : ∀ {ds : List D} (n : Nat), imms ds = true → imms (ds.take n) = true
  | _, 0, _ => by rw [List.take_zero]; rfl
  | [], n + 1, _ => rfl
  | d :: ds, n + 1, h => by
    unfold imms at h
    rw [Bool.and_eq_true] at h
    rw [List.take_succ_cons]
    unfold imms
    rw [h.1, imms_take n h.2]; rfl
theorem semE_slice {t : TE} {tl th : TO} {m : Sl → Option D} {ml mh : Sl → Option (Option Int)} (h : SemP K t m) (hl : SemO K tl ml) (hh : SemO K th mh) : SemE K W (tSl (rSlL K) t tl th) (mSlice m ml mh) := fun σ H Z O s Q ok w => by
  have key : ∃ x ds lo hi, m s = some x ∧ (x = .lst ds ∨ x = .fls ds) ∧ ml s = some lo ∧ mh s = some hi ∧ imms ds = true ∧ mSlice m ml mh s = .ok (.lst (cutD ds lo hi)) s := by
    unfold mSlice at w ⊢
    split at w
    · rename_i ds lo hi e1 e2 e3
      by_cases hi' : imms ds = true
      · exact ⟨_, ds, lo, hi, e1, .inl rfl, e2, e3, hi', if_pos hi'⟩
      · rw [if_neg hi'] at w; exact w.elim
    · rename_i ds lo hi e1 e2 e3
      by_cases hi' : imms ds = true
      · exact ⟨_, ds, lo, hi, e1, .inr rfl, e2, e3, hi', if_pos hi'⟩
      · rw [if_neg hi'] at w; exact w.elim
    · exact w.elim
  obtain ⟨x, ds, lo, hi, e1, ex, e2, e3, him, ew⟩ := key
  rw [ew] at w
  refine h σ H Z O s _ ok x e1 fun v H1 Z1 Oa p1 r1 => ?_
  refine hl σ H1 Z1 O s _ (ok.pz p1) lo e2 fun H2 Z2 p2 => ?_
  refine hh σ H2 Z2 O s _ (ok.pz (p1.trans p2)) hi e3 fun H3 Z3 p3 => ?_
  have p := p1.trans (p2.trans p3)
  have r3 := (p2.trans p3).rep r1
  obtain ⟨a, vs, O', ev, q, r⟩ := rep_seqL (K := K) p.zh (v := v) (O := Oa) (ds := ds) (ex.imp (fun z => by rw [← z]; exact r3) (fun z => by rw [← z]; exact r3))
  have eo := r.immO ds vs O' him
  subst eo
  refine ⟨a, vs, ev, q, fun pp n => ?_⟩
  have ok3 := ok.pz p
  have pn := Pz.new ok3.zh n (.lst (cutV vs lo hi))
  have np : pp ∉ O := fun hb => by
    obtain ⟨o, e⟩ := ok3.rep.there pp hb
    rw [n] at e; cases e
  have okN := ok3.pz pn
  refine w _ _ Z3 [pp] O ⟨okN, ⟨pp, cutV vs lo hi, [], rfl, rfl, upd_same, ?_⟩, by simpa using ⟨np, okN.nd⟩, fun b hb => ?_, ?_⟩
  · have rN := pn.reps r
    generalize upd H3 pp (HO.lst (cutV vs lo hi)) = HH at rN ⊢
    unfold cutV cutD
    rw [reps_len r]
    exact (rN.drop _).take _
  · have : b = pp := by simpa using hb
    subst this; exact pz_fresh (x := H) ok3.zh n
  · have x := (p.trans pn).ext (O := O)
    refine ⟨x.zz, x.fr, fun b hb => ?_, x.nz⟩
    rcases List.mem_append.mp hb with hb | hb
    · have : b = pp := by simpa using hb
      subst this
      right
      cases e : H b with
      | none => rfl
      | some o => rw [p.fr b o e] at n; cases n
    · exact .inl hb

/-! ### tuple(x), list(x) -/
def mTuple (m : Sl → R D) (s : Sl) : R D := (m s).bind fun d s1 => match d with
  | .tup ds => .ok (.tup ds) s1
  | .lst ds => .ok (.tup ds) s1
  | .fls ds => .ok (.tup ds) s1
  | _ => .stuck
theorem semE_tuple {t : TE} {m : Sl → R D} (h : SemE K W t m) : SemE K W (tThen t (kTupN K)) (mTuple m) := fun σ H Z O s Q ok w => by
  unfold mTuple at w
  refine h σ H Z O s _ ok ?_
  cases e : m s with
  | stuck => rw [e] at w; exact w.elim
  | exc c fs s1 => rw [e] at w; exact w
  | ok d s1 =>
    rw [e] at w
    dsimp only [R.bind] at w
    intro v H1 Z1 Od Oe x
    have newT : ∀ ds vs O', v = v → Reps K Z1 H1 ds vs O' → (∀ b ∈ O', b ∈ Od) → O'.Nodup → Wants K W Z H O σ (.ok (.tup ds) s1) Q → ∀ q ar, H1 q = none → Q (.ref q) (upd H1 q (fzT ar vs)) := fun ds vs O' _ r sub n w q ar nq => by
      have pn := Pz.newZ x.ok.zh nq (fzT ar vs)
      have okN' := x.ok.pz pn
      have zo' : ∀ b ∈ O', (upd Z1 q (fzT ar vs)) b = none := fun b hb => by
        obtain ⟨o, e⟩ := r.there ds vs O' b hb
        rw [upd_ne (ne_of_none e nq)]; exact x.zo b (sub b hb)
      refine w _ _ _ O' Oe ⟨okN', ⟨q, vs, rfl, sqN_new, pn.reps r⟩, nodup_join n okN'.nd fun b hb hc => (List.nodup_append.mp x.nd).2.2 b (sub b hb) b hc rfl, zo', ?_⟩
      have t : Ext Z H O (upd Z1 q (fzT ar vs)) (upd H1 q (fzT ar vs)) (Od ++ Oe) := x.ext.trans2 (pn.ext (O := Od ++ Oe)) fun _ h => h
      exact t.less fun b hb => by
        rcases List.mem_append.mp hb with hb | hb
        · exact List.mem_append_left _ (sub b hb)
        · exact List.mem_append_right _ hb
    cases d <;> try exact False.elim w
    · rename_i ds
      obtain ⟨a, vs, ev, q, r⟩ := x.rep
      exact .inr ⟨a, vs, ev, sqT_mono x.ok.zh q.1, by rw [← ev]; exact w v H1 Z1 Od Oe ⟨x.ok, ⟨a, vs, ev, q, r⟩, x.nd, x.zo, x.ext⟩⟩
    · rename_i ds
      obtain ⟨a, vs, O', ev, eo, q, r⟩ := x.rep
      have nd := (List.nodup_append.mp x.nd).1
      rw [eo] at nd
      exact .inl ⟨a, vs, ev, SqL.of q, newT ds vs O' rfl r (fun b hb => by rw [eo]; simp [hb]) (List.nodup_cons.mp nd).2 w⟩
    · rename_i ds
      obtain ⟨a, vs, ev, eo, q, r⟩ := x.rep
      exact .inl ⟨a, vs, ev, sqL_mono x.ok.zh q, newT ds vs Od rfl r (fun b hb => hb) (List.nodup_append.mp x.nd).1 w⟩

/-! ### raise -/
def mRaise (c : String) (s : Sl) : RS := .exc c [] s
theorem semS_raise {c : String} {C : Addr} (hc : PySem.W.nsIn K mainGlobals (Str.ofString c) = some (some (.ref C))) : SemS K W pin (fun _ σ H => W (.ref C) none σ H) (mRaise c) := fun σ H Z O s D ok w =>
  w (.ref C) none σ H Z O ⟨ok, ⟨C, rfl, hc, .inl ⟨rfl, rfl⟩⟩, .refl⟩ .refl
/-- in an except suite: return e -/
def mSuite (i : Nat) (m : Sl → Option D) (fs : List (Str × D)) (s : Sl) : RS := match m (s.set i (some (.exn fs))) with
  | some d => if (imm d && noX d) = true then .ret d (s.set i none) else .stuck
  | none => .stuck
def mTry (test : String → Option Bool) (body : Sl → RS) (suite : String → List (Str × D) → Sl → RS) (s : Sl) : RS := match body s with
  | .exc c fs s1 => match test c with
    | some true => suite c fs s1
    | some false => .exc c fs s1
    | none => .stuck
  | r => r
end
section
variable {X : Cx} {W : WX} {pin : List Nat} {x n : Str} {C : Addr} {i : Nat} {body : List Stmt} {e : Expr} {np pos pos' pr : Pos} {mb : Sl → RS} {ms : String → Sl → Option D} {test : String → Option Bool}
theorem RepS.turnX {f : PySem.W.Frag} {x y : Option (V × Option Addr)} {Z H : Hp} (hx : x = none) : ∀ {s : Sl} {σ : L2.St} {O : List Addr}, RepS ⟨f, x⟩ Z H s σ O → RepS ⟨f, y⟩ Z H s σ O
  | [], σ, O, h => h
  | none :: s, σ, O, h => by
    obtain ⟨z, σ', e, r⟩ := h
    exact ⟨z, σ', e, r.turnX hx⟩
  | some d :: s, σ, O, h => by
    obtain ⟨v, σ', O1, O2, e, eo, r1, r2⟩ := h
    exact ⟨v, σ', O1, O2, e, eo, r1.turnX d v O1 (.inl hx), r2.turnX hx⟩
/-- try: body / except x as n: return e -/
theorem simS_try_as (hs : X.stack = X.env :: X.outer) (hf : X.env.frame = some X.env.locals) (hN : X.N.Nodup) (hi : X.N[i]? = some n) (hln : X.env.kindOf n = some .local) (hip : i ∉ pin) (hc : Names X x (.ref C)) (tk : Takes X W)
    (ht : ∀ c b, test c = some b → ∀ D, PySem.W.nsIn X.K mainGlobals (Str.ofString c) = some (some (.ref D)) → PySem.W.exmOne X.K (.ref D) (.ref C) = some b)
    (hb : ∀ (W' : WX) (pn : List (Addr × Obj)) (xe : Value → Shared → Prop), Takes (X.tr pn xe) W' → PassesOwn (model X.prog X.w) X.A X.env xe → SimSs (X.tr pn xe) none W' pin body mb)
    (hsu : ∀ (c : String) (D a : Addr) (oe : Obj) (dd : Option Addr) (pn : List (Addr × Obj)), PySem.W.nsIn X.K mainGlobals (Str.ofString c) = some (some (.ref D)) → Zc (.ref D) dd oe → (∃ vs, oe.data = .fields vs) → test c = some true →
      SimP (X.suite a ((a, oe) :: pn)) (some (.ref a, dd)) e (ms c)) :
    SimS X none W pin (.Try body [.ExceptHandler (some (.Name x np)) (some n) [.Return (some e) pr] pos'] [] [] pos) (mTry test mb fun c fs s => mSuite i (ms c) fs s) := by
  classical
  -- the body's reading, whatever runs around
  let tb : WX → TS := fun W' D σ H => ∀ (pn : List (Addr × Obj)) (xe : Value → Shared → Prop) (h1 : Takes (X.tr pn xe) W') (h2 : PassesOwn (model X.prog X.w) X.A X.env xe), (hb W' pn xe h1 h2).choose D σ H
  -- the suite's reading
  let ts : Addr → Value → Option Addr → TS := fun a cls dd D σ H => ∃ c E, cls = .ref E ∧ ∃ hE : PySem.W.nsIn X.K mainGlobals (Str.ofString c) = some (some (.ref E)), ∃ hT : test c = some true,
    ∀ (oe : Obj) (pn : List (Addr × Obj)) (hz : Zc (.ref E) dd oe) (hv : ∃ vs, oe.data = .fields vs), tRet (hsu c E a oe dd pn hE hz hv hT).choose D σ H
  refine ⟨_, ps_try_as (i := i) (tb := tb) (ts := ts) hs hf hN hi hln hc tk (fun W' pn xe h1 h2 => ⟨fun pins s σ H D I h => ?_⟩) (fun a oe cls dd pn hz hv => ⟨fun pins s σ H D I h => ?_⟩), fun σ H Z O s D ok w pn xe h1 h2 => ?_⟩
  · exact (hb W' pn xe h1 h2).choose_spec.1.run pins s σ H D I (h pn xe h1 h2)
  · obtain ⟨c, E, rfl, hE, hT, h⟩ := h
    exact (pss_one (ps_ret (hsu c E a oe dd pn hE hz hv hT).choose_spec.1)).run pins s σ H D I (h oe pn hz hv)
  · have sem := (hb (wAs X.K (.ref C) i ts W D) pn xe h1 h2).choose_spec.2
    refine sem σ H Z O s D ok ?_
    unfold mTry at w
    cases eb : mb s with
    | exc c fs s1 =>
      rw [eb] at w
      dsimp only at w
      intro cls dd σ1 H1 Z1 O1 q kp
      obtain ⟨E, rfl, hE, hfs⟩ := q.ex
      cases et : test c with
      | none => rw [et] at w; exact w.elim
      | some b =>
        rw [et] at w
        refine ⟨b, ht c b et E hE, fun eb => ?_, fun eb => ?_⟩
        · subst eb
          intro a na
          refine ⟨c, E, rfl, hE, et, fun oe pn' hz hv => ?_⟩
          have semP := (hsu c E a oe dd pn' hE hz hv et).choose_spec.2
          dsimp only at w
          unfold mSuite at w
          cases em : ms c (s1.set i (some (.exn fs))) with
          | none => rw [em] at w; exact w.elim
          | some d =>
            rw [em] at w
            dsimp only at w
            split at w
            · rename_i hd
              rw [Bool.and_eq_true] at hd
              -- the state with the error in its slot
              have rx : Rep ⟨X.K, some (.ref a, dd)⟩ Z1 H1 (.exn fs) (.ref a) [] := by
                refine ⟨dd, rfl, rfl, ?_⟩
                rcases hfs with h | ⟨ad, kv, e1, e2, e3⟩
                · exact .inl h
                · refine .inr ⟨ad, kv, e1, e2, ?_⟩
                  exact RepF.turnX fs kv [] e3 (.inl rfl)
              have okx : Ok ⟨X.K, some (.ref a, dd)⟩ Z1 H1 σ1 s1 O1 := ⟨q.ok.zh, q.ok.rep.turnX rfl, q.ok.nd, q.ok.zo⟩
              obtain ⟨O2, ok2, sub2⟩ := okx.put (i := i) rx (by simpa using okx.nd) (by simp)
              refine semP _ H1 Z1 O2 _ _ ok2 d em fun v H2 Z2 Od p r => ?_
              have eo := r.immO d v Od hd.1
              subst eo
              have rd : Rep ⟨X.K, none⟩ Z2 H2 d v [] := r.turnX d v [] (.inr hd.2)
              -- behind the suite the slot is empty
              have ok0 := q.ok.pz p
              obtain ⟨O3, r3, q3⟩ := rep_wipe1 (i := i) ok0.rep
              have sub3 : O3.Nodup ∧ ∀ b ∈ O3, b ∈ O1 := by
                rcases q3 with rfl | ⟨A, B, C, e1, e2⟩
                · exact ⟨ok0.nd, fun _ h => h⟩
                · have := ok0.nd
                  subst e1 e2; exact ⟨by grind, by grind⟩
              exact w v (σ1.set i none) H2 Z2 [] O3 ⟨⟨ok0.zh, r3, sub3.1, fun b hb => ok0.zo b (sub3.2 b hb)⟩, rd, by simpa using sub3.1, by simp, (q.ext.trans2 p.ext fun _ h => h).less fun b hb => sub3.2 b (by simpa using hb)⟩ (kp.trans (.set hip))
            · exact w.elim
        · subst eb
          exact w (.ref E) dd σ1 H1 Z1 O1 q kp
    | nx s1 => rw [eb] at w; exact w
    | ret d s1 => rw [eb] at w; exact w
    | brk s1 => rw [eb] at w; exact w
    | cont s1 => rw [eb] at w; exact w
    | stuck => rw [eb] at w; exact w.elim
end
end Sim

namespace Sim
open PySem PySem.Spec PyProof.Rows L2

/-! ### isinstance of the error that a suite holds -/
def rIsX (K : PySem.W.Frag) (D a : Addr) : List V → Hp → VK → Prop := fun xs H Q => rIsE K D a xs H Q ∨ ∃ (tp : Addr) (cs : List V) (us : List Value) (b : Bool), xs = [.ref a, .ref tp] ∧ SqT K H tp cs ∧ Paired ClsV cs us ∧ PySem.W.kitAny K (.ref D) us = some b ∧ Q (.bl b) H
theorem call_isX {X : Cx} {a D : Addr} {oe : Obj} {pn : List (Addr × Obj)} (C : ExcC X.K D) (hz : Zc (.ref D) none oe) (hf : ∃ vs, oe.data = .fields vs) : CallR (X.suite a ((a, oe) :: pn)) (.builtin "isinstance") (rIsX X.K D a) := by
  intro pins st σ H xs us Q I r h
  rcases h with h | ⟨tp, cs, ws, b, rfl, sq, pc, ek, q⟩
  · exact call_isE C hz hf pins st σ H xs us Q I r h
  · obtain ⟨w1, w2, rfl, r1, r2⟩ := vals2 r
    obtain rfl : w1 = Value.ref a := r1
    obtain rfl : w2 = Value.ref tp := r2
    obtain ⟨its, rv, ⟨ot, h1, h2, n, h3⟩, _⟩ := Inv.tuple (X := X.suite a ((a, oe) :: pn)) I sq
    have ei := ClsV.all pc rv
    subst ei
    obtain ⟨oc, od, dt, sl⟩ := ot
    simp only at h2 h3
    subst h2 h3
    have hget := (I.pin (a, oe) (List.mem_append.mpr (.inl List.mem_cons_self))).1
    obtain ⟨vs, hv⟩ := hf
    have J : PySem.W.InstAt st.heap a oe D none := by
      obtain ⟨c1, c2, c3, c4⟩ := oe
      obtain ⟨z1, z2⟩ := hz
      dsimp only at z1 z2 hv
      subst z1 z2 hv
      exact ⟨hget, rfl, rfl, trivial⟩
    exact PySem.W.kia_tup (PySem.W.handS_kitx_exc C.hg C.hk C.hs C.hd C.ha C.hn C.ht C.hm) I.kIn J h1 ek (fun z => nomatch z) fun tk => ⟨.bl b, H, I.kept (t' := tk) fun _ _ z => z, rfl, q⟩
/-- what is known of the classes: sub k tells whether the error's class is below the class called k -/
def clsName : D → Option String
  | .cls k => some k
  | .ty k => some k
  | _ => none
def dIsAny (sub : String → Option Bool) : List D → Option Bool
  | [] => some false
  | d :: r => (clsName d).bind fun k => (sub k).bind fun b => (dIsAny sub r).bind fun b' => some (b || b')
def dIsX (sub : String → Option Bool) (ds : List D) : Option D := match ds with
  | [.exn _, .cls k] => (sub k).map .bl
  | [.exn _, .ty k] => (sub k).map .bl
  | [.exn _, .tup cs] => (dIsAny sub cs).map .bl
  | _ => none
structure SubOk (K : PySem.W.Frag) (D : Addr) (sub : String → Option Bool) : Prop where
  own : ∀ k b, sub k = some b → ∀ C, PySem.W.nsIn K mainGlobals (Str.ofString k) = some (some (.ref C)) → PySem.W.kitOne K (.ref D) (.ref C) = some b
  blt : ∀ k b, sub k = some b → PySem.W.nsIn K mainGlobals (Str.ofString k) = some none → PySem.W.kitOne K (.ref D) (.type k) = some b
section
variable {f : PySem.W.Frag} {a D : Addr} {dd : Option Addr} {sub : String → Option Bool} {Z H : Hp}
theorem cls_val {k : String} {d : Sim.D} {v : V} {O : List Addr} {b : Bool} (sk : SubOk f D sub) (r : Rep ⟨f, some (.ref a, dd)⟩ Z H d v O) (e : clsName d = some k) (es : sub k = some b) (ht : d = .ty k → PySem.W.nsIn f mainGlobals (Str.ofString k) = some none) :
    ∃ u, ClsV v u ∧ PySem.W.kitOne f (.ref D) u = some b := by
  unfold clsName at e
  split at e
  · cases e
    obtain ⟨C, ev, _, g⟩ := r
    subst ev
    exact ⟨.ref C, .own C, sk.own _ b es C g⟩
  · cases e
    obtain rfl : v = .ty _ := r.1
    exact ⟨.type _, .ty _, sk.blt _ b es (ht rfl)⟩
  · cases e
theorem isAny_cls : ∀ {cs : List Sim.D} {vs : List V} {O : List Addr} {b : Bool}, SubOk f D sub → Reps ⟨f, some (.ref a, dd)⟩ Z H cs vs O → dIsAny sub cs = some b →
    (∀ k, Sim.D.ty k ∈ cs → PySem.W.nsIn f mainGlobals (Str.ofString k) = some none) → ∃ us, Paired ClsV vs us ∧ PySem.W.kitAny f (.ref D) us = some b
  | [], vs, O, b, _, r, e, _ => by
    cases e
    rw [r.1]
    exact ⟨[], .nil, rfl⟩
  | d :: cs, vs, O, b, sk, r, e, ht => by
    obtain ⟨v, vs', O1, O2, ev, eo, r1, r2⟩ := r
    subst ev
    unfold dIsAny at e
    obtain ⟨k, ek, e⟩ := Option.bind_eq_some_iff.mp e
    obtain ⟨b1, es, e⟩ := Option.bind_eq_some_iff.mp e
    obtain ⟨b2, er, e⟩ := Option.bind_eq_some_iff.mp e
    cases e
    obtain ⟨us, hp, hb⟩ := isAny_cls sk r2 er fun k hm => ht k (List.mem_cons_of_mem _ hm)
    obtain ⟨u, hc, hk⟩ := cls_val sk r1 ek es fun z => ht k (by rw [← z]; simp)
    exact ⟨u :: us, .cons hc hp, kitAny_cons hk (fun z => by rw [z]; simpa using hb) fun z => by rw [z]; rfl⟩
/-- tyOk: the built-in classes' names are the module's no own -/
def tyNames : List String → Sim.D → Bool
  | ns, .ty k => ns.contains k
  | _, _ => true
theorem caD_isX {ns : List String} (sk : SubOk f D sub) (hn : ∀ k ∈ ns, PySem.W.nsIn f mainGlobals (Str.ofString k) = some none) :
    CaD ⟨f, some (.ref a, dd)⟩ (rIsX f D a) (fun ds => match ds with
      | [x, .tup cs] => if cs.all (tyNames ns) = true then dIsX sub [x, .tup cs] else none
      | [x, c] => if tyNames ns c = true then dIsX sub [x, c] else none
      | _ => none) := fun Z H dx z xs Ox Q zh rx e k => by
  have tyOk : ∀ c k, tyNames ns c = true → c = Sim.D.ty k → PySem.W.nsIn f mainGlobals (Str.ofString k) = some none := fun c k h ec => by
    subst ec
    exact hn k (by simpa [tyNames] using h)
  have fin : ∀ b, Rep (⟨f, some (.ref a, dd)⟩ : KX) Z H (.bl b) (.bl b) [] := fun b => ⟨rfl, rfl⟩
  dsimp only at e
  split at e
  · rename_i x cs
    split at e
    · rename_i hcs
      unfold dIsX at e
      split at e
      · rename_i h; cases h
      · rename_i h; cases h
      · rename_i fs cs' h
        cases h
        cases eb : dIsAny sub cs with
        | none => rw [eb] at e; cases e
        | some b =>
          rw [eb] at e
          cases e
          obtain ⟨v, u, O1, O2, rfl, _, r1, r2⟩ := reps_two rx
          obtain ⟨dd', e1, _⟩ := r1
          have ev : v = .ref a := by
            have := Option.some.inj e1
            exact (Prod.mk.inj this).1.symm
          obtain ⟨tp, vs, eu, sq, rs⟩ := r2
          obtain ⟨us, hp, hb⟩ := isAny_cls sk rs eb fun k hm => tyOk _ k (List.all_eq_true.mp hcs _ hm) rfl
          exact .inr ⟨tp, vs, us, b, by rw [ev, eu], sqT_mono zh sq.1, hp, hb, k _ H Z [] (.refl zh) (fin b)⟩
      · cases e
    · cases e
  · rename_i x c hne
    split at e
    · rename_i hc
      obtain ⟨v, u, O1, O2, rfl, _, r1, r2⟩ := reps_two rx
      unfold dIsX at e
      have one : ∀ fs kk b, x = .exn fs → clsName c = some kk → sub kk = some b → z = .bl b → rIsX f D a [v, u] H Q := fun fs kk b ex ec es ez => by
        subst ex ez
        obtain ⟨dd', e1, _⟩ := r1
        have ev : v = .ref a := by
          have := Option.some.inj e1
          exact (Prod.mk.inj this).1.symm
        obtain ⟨uu, hcv, hk⟩ := cls_val sk r2 ec es fun z => tyOk _ kk hc z
        exact .inl ⟨u, uu, b, by rw [ev], fun w hw => hcv.eq hw, hk, k _ H Z [] (.refl zh) (fin b)⟩
      split at e
      · rename_i fs kk h
        cases h
        obtain ⟨b, es, ez⟩ := Option.map_eq_some_iff.mp e
        exact one fs kk b rfl rfl es ez.symm
      · rename_i fs kk h
        cases h
        obtain ⟨b, es, ez⟩ := Option.map_eq_some_iff.mp e
        exact one fs kk b rfl rfl es ez.symm
      · rename_i fs cs h
        cases h
        exact (hne _ rfl).elim
      · cases e
    · cases e
  · cases e
end

/-! ### repr of lists and tuples -/
def rReprD (K : PySem.W.Frag) : List V → Hp → VK → Prop := fun xs H Q => ∃ (a : Addr) (d : PyData), xs = [.ref a] ∧ Dp K H (.ref a) d ∧ SeqAt.shaped d = true ∧ d.showable = true ∧ d.shown.length ≤ sizeLine ∧ Q (.str d.shown) H
theorem call_reprD {X : Cx} (hg : X.A.guards = some []) (hu : X.A.units + 66 < cLine) : CallR X (.builtin "repr") (rReprD X.K) := by
  intro pins st σ H xs us Q I r h
  obtain ⟨a, d, rfl, dp, hs, sh, hl, q⟩ := h
  cases r with
  | cons r1 r2 =>
    cases r2
    obtain rfl := (show _ = Value.ref a from r1)
    obtain ⟨as, rd⟩ := Dp.reads I d (.ref a) (.ref a) dp rfl
    have hd := SeqAt.depth_of_shaped hs
    exact repr_of_reads' rd sh (fun z => by rw [PyData.hasDict_of_canLay d (SeqAt.canLay_of_shaped hs)] at z; cases z) hg (by omega) (fun _ _ e => e) (fun h' u tk hk => ⟨.str d.shown, H, I.kept (t' := tk) hk, ⟨u, rfl⟩, q⟩) hl
def dRepr (ds : List D) : Option D := match ds with
  | [.non] => none
  | [.bl _] => none
  | [.int _] => none
  | [.str _] => none
  | [d] => match toP d with
    | some p => if SeqAt.shaped p = true ∧ p.showable = true ∧ p.shown.length ≤ sizeLine then some (.str p.shown) else none
    | none => none
  | _ => none
theorem caD_repr {K : KX} : CaD K (rReprD K) dRepr := fun Z H dx z xs Ox Q zh rx e k => by
  have main : ∀ d, dx = [d] → (∀ v O p, Rep K Z H d v O → toP d = some p → ∃ a, v = .ref a) → (match toP d with | some p => if SeqAt.shaped p = true ∧ p.showable = true ∧ p.shown.length ≤ sizeLine then some (D.str p.shown) else none | none => none) = some z → rReprD K xs H Q := fun d ed isr e' => by
    subst ed
    obtain ⟨v, rfl, r⟩ := reps_one rx
    cases ep : toP d with
    | none => rw [ep] at e'; cases e'
    | some p =>
      rw [ep] at e'
      dsimp only at e'
      split at e'
      · rename_i hc
        cases e'
        obtain ⟨a, rfl⟩ := isr v Ox p r ep
        exact ⟨a, p, rfl, r.dp zh d _ Ox p ep, hc.1, hc.2.1, hc.2.2, k _ H Z [] (.refl zh) ⟨rfl, rfl⟩⟩
      · cases e'
  unfold dRepr at e
  split at e <;> try cases e
  rename_i d h1 h2 h3 h4
  refine main d rfl (fun v O p r ep => ?_) e
  cases d with
  | tup ds => obtain ⟨a, vs, ev, _⟩ := r; exact ⟨a, ev⟩
  | lst ds => obtain ⟨a, vs, O', ev, _⟩ := r; exact ⟨a, ev⟩
  | fls ds => obtain ⟨a, vs, ev, _⟩ := r; exact ⟨a, ev⟩
  | non => exact absurd rfl h1
  | bl b => exact absurd rfl (h2 b)
  | int i => exact absurd rfl (h3 i)
  | str x => exact absurd rfl (h4 x)
  | dct _ => cases ep
  | fdc _ => cases ep
  | ins _ _ => cases ep
  | fin _ _ => cases ep
  | exn _ => cases ep
  | cls _ => cases ep
  | ty _ => cases ep
  | rng _ _ => cases ep
end Sim

namespace Sim
open PySem PySem.Spec PyProof.Rows L2

/-! ### pieces of syntax and what they do, in short -/
section
variable {X : Cx} {ξ : Option (V × Option Addr)} {W : WX} {pin : List Nat} {a b c e : Expr} {es : List Expr} {pos p : Pos} {x : Str} {ma mb mc : Sl → Option D} {na nb nc : Sl → R D} {f : D → D → Option D} {r : R2}

theorem sE_P (h : SimP X ξ e ma) : SimE X ξ W e (ofP ma) := h.elim fun t q => ⟨t, q.1, semE_P q.2⟩
theorem sT_P {m : Sl → Option Bool} (h : SimPT X ξ e m) : SimT X ξ W e (ofPT m) := h.elim fun t q => ⟨t, q.1, semT_P q.2⟩
/-! names, constants -/
theorem sP_v (i : Nat) (hN : X.N[i]? = some x := by rfl) (hv : Vis X.env.scope x := by first | exact Or.inl rfl | exact Or.inr (Or.inl rfl) | exact Or.inr (Or.inr rfl)) (hd : (x == ("__debug__" : Str)) = false := by decide)
    (hcd : (x == ("__classdict__" : Str)) = false := by decide) : SimP X ξ (.Name x pos) (fun s => s[i]?.join) := ⟨_, pe_var hN hv hd hcd, semP_var⟩
theorem sE_rd (i : Nat) (hN : X.N[i]? = some x := by rfl) (hv : Vis X.env.scope x := by first | exact Or.inl rfl | exact Or.inr (Or.inl rfl) | exact Or.inr (Or.inr rfl)) (hd : (x == ("__debug__" : Str)) = false := by decide)
    (hcd : (x == ("__classdict__" : Str)) = false := by decide) : SimE X ξ W (.Name x pos) (mRd i) := ⟨_, pe_var hN hv hd hcd, semE_rd⟩
theorem sE_mv (i : Nat) (hN : X.N[i]? = some x := by rfl) (hv : Vis X.env.scope x := by first | exact Or.inl rfl | exact Or.inr (Or.inl rfl) | exact Or.inr (Or.inr rfl)) (hd : (x == ("__debug__" : Str)) = false := by decide)
    (hcd : (x == ("__classdict__" : Str)) = false := by decide) : SimE X ξ W (.Name x pos) (mMv i) := ⟨_, pe_var hN hv hd hcd, semE_mv⟩
theorem sP_int {i j} : SimP X ξ (.Constant (.int i) j pos) (fun _ => some (.int i)) := ⟨_, pe_int, semP_c fun _ _ => ⟨rfl, rfl⟩⟩
theorem sP_bl {i j} : SimP X ξ (.Constant (.bool i) j pos) (fun _ => some (.bl i)) := ⟨_, pe_bl, semP_c fun _ _ => ⟨rfl, rfl⟩⟩
theorem sP_non {j} : SimP X ξ (.Constant .none j pos) (fun _ => some .non) := ⟨_, pe_non, semP_c fun _ _ => ⟨rfl, rfl⟩⟩
theorem sP_str {i j} : SimP X ξ (.Constant (.str i) j pos) (fun _ => some (.str i)) := ⟨_, pe_str, semP_c fun _ _ => ⟨rfl, rfl⟩⟩
theorem sP_cls {C : Addr} (k : String) (hx : x = Str.ofString k) (hg : Gl X x) (hm : X.mg x = some (.ref C)) (hn : PySem.W.nsIn X.K mainGlobals x = some (some (.ref C))) (hd : (x == ("__debug__" : Str)) = false := by decide) : SimP X ξ (.Name x pos) (fun _ => some (.cls k)) :=
  ⟨_, pe_glob (v := .ref C) hg hm rfl hd, semP_c fun _ _ => ⟨C, rfl, rfl, by rw [← hx]; exact hn⟩⟩
theorem sP_ty (k : String) (hg : Gl X x) (hm : X.mg x = none) (hv : bootBuiltins x = some (.type k)) (hn : x ≠ "__name__" := by decide) (hd : (x == ("__debug__" : Str)) = false := by decide) : SimP X ξ (.Name x pos) (fun _ => some (.ty k)) :=
  ⟨_, pe_bltn (v := .ty k) hg hm hv rfl hn hd, semP_c fun _ _ => ⟨rfl, rfl⟩⟩
/-! operators -/
def two (f : D → D → Option D) (ma mb : Sl → Option D) (s : Sl) : Option D := (ma s).bind fun x => (mb s).bind fun y => f x y
theorem sP_bin {op : Operator} (o : OpR X (binaryOp op) r) (d : OpD ⟨X.K, ξ⟩ r f) (ha : SimP X ξ a ma) (hb : SimP X ξ b mb) : SimP X ξ (.BinOp a op b pos) (two f ma mb) := by
  obtain ⟨ta, pa, sa⟩ := ha
  obtain ⟨tb, pb, sb⟩ := hb
  exact ⟨_, pe_op o pa pb, semP_op d sa sb⟩
theorem sE_bin {op : Operator} (o : OpR X (binaryOp op) r) (d : NewD2 ⟨X.K, ξ⟩ r f) (ha : SimE X ξ W a na) (hb : SimE X ξ W b nb) : SimE X ξ W (.BinOp a op b pos) (m2 f na nb) := by
  obtain ⟨ta, pa, sa⟩ := ha
  obtain ⟨tb, pb, sb⟩ := hb
  exact ⟨_, pe_op o pa pb, semE_op d sa sb⟩
theorem sP_add (ha : SimP X ξ a ma) (hb : SimP X ξ b mb) : SimP X ξ (.BinOp a .Add b pos) (two dAdd ma mb) := sP_bin op_add opD_add ha hb
theorem sP_sub (ha : SimP X ξ a ma) (hb : SimP X ξ b mb) : SimP X ξ (.BinOp a .Sub b pos) (two dSub ma mb) := sP_bin op_sub opD_sub ha hb
theorem sP_mul (ha : SimP X ξ a ma) (hb : SimP X ξ b mb) : SimP X ξ (.BinOp a .Mult b pos) (two dMul ma mb) := sP_bin op_mulW opD_mul ha hb
theorem sP_div (ha : SimP X ξ a ma) (hb : SimP X ξ b mb) : SimP X ξ (.BinOp a .FloorDiv b pos) (two dDiv ma mb) := sP_bin op_fdivW opD_div ha hb
theorem sP_mod (ha : SimP X ξ a ma) (hb : SimP X ξ b mb) : SimP X ξ (.BinOp a .Mod b pos) (two dMod ma mb) := sP_bin op_mod opD_mod ha hb
theorem sP_pow (ha : SimP X ξ a ma) (hb : SimP X ξ b mb) : SimP X ξ (.BinOp a .Pow b pos) (two dPow ma mb) := sP_bin op_pow opD_pow ha hb
theorem sE_add (ha : SimE X ξ W a na) (hb : SimE X ξ W b nb) : SimE X ξ W (.BinOp a .Add b pos) (m2 (only dAdd) na nb) := sE_bin op_add (newD2_imm opD_add) ha hb
theorem sE_sub (ha : SimE X ξ W a na) (hb : SimE X ξ W b nb) : SimE X ξ W (.BinOp a .Sub b pos) (m2 (only dSub) na nb) := sE_bin op_sub (newD2_imm opD_sub) ha hb
theorem sE_mul (ha : SimE X ξ W a na) (hb : SimE X ξ W b nb) : SimE X ξ W (.BinOp a .Mult b pos) (m2 (only dMul) na nb) := sE_bin op_mulW (newD2_imm opD_mul) ha hb
theorem sE_mod (ha : SimE X ξ W a na) (hb : SimE X ξ W b nb) : SimE X ξ W (.BinOp a .Mod b pos) (m2 (only dMod) na nb) := sE_bin op_mod (newD2_imm opD_mod) ha hb
theorem sE_div (ha : SimE X ξ W a na) (hb : SimE X ξ W b nb) : SimE X ξ W (.BinOp a .FloorDiv b pos) (m2 (only dDiv) na nb) := sE_bin op_fdivW (newD2_imm opD_div) ha hb
theorem sE_cat (ha : SimP X ξ a ma) (hb : SimP X ξ b mb) : SimE X ξ W (.BinOp a .Add b pos) (mNew2 dCat ma mb) := by
  obtain ⟨ta, pa, sa⟩ := ha
  obtain ⟨tb, pb, sb⟩ := hb
  exact ⟨_, pe_op op_cat pa pb, semE_cat sa sb⟩
theorem sE_catE (ha : SimE X ξ W a na) (hb : SimE X ξ W b nb) : SimE X ξ W (.BinOp a .Add b pos) (m2 dCat na nb) := sE_bin op_cat newD2_cat ha hb
def dNeg : D → Option D := onI1 fun i => .int (-i)
def one (f : D → Option D) (ma : Sl → Option D) (s : Sl) : Option D := (ma s).bind f
theorem sP_neg (ha : SimP X ξ a ma) : SimP X ξ (.UnaryOp .USub a pos) (one dNeg ma) := ha.elim fun t q => ⟨_, pe_un un_neg q.1, semP_un unD_I q.2⟩
/-! comparisons, as values and as tests -/
theorem sP_cmp {op : CmpOp} (o : OpR X (compareOp op) r) (d : OpD ⟨X.K, ξ⟩ r f) (ha : SimP X ξ a ma) (hb : SimP X ξ b mb) (hm : behindInMarks op b = false := by first | exact nomark _ | rfl | with_unfolding_all rfl) : SimP X ξ (.Compare a [op] [b] pos) (two f ma mb) := by
  obtain ⟨ta, pa, sa⟩ := ha
  obtain ⟨tb, pb, sb⟩ := hb
  exact ⟨_, pe_cmpR o pa pb hm, semP_op d sa sb⟩
def twoB (f : D → D → Option D) (ma mb : Sl → Option D) (s : Sl) : Option Bool := (two f ma mb s).bind asB
theorem sPT_cmp {op : CmpOp} (o : OpR X (compareOp op) r) (d : OpD ⟨X.K, ξ⟩ r f) (ha : SimP X ξ a ma) (hb : SimP X ξ b mb) (hm : behindInMarks op b = false := by first | exact nomark _ | rfl | with_unfolding_all rfl) : SimPT X ξ (.Compare a [op] [b] pos) (twoB f ma mb) := by
  obtain ⟨ta, pa, sa⟩ := ha
  obtain ⟨tb, pb, sb⟩ := hb
  exact ⟨_, pt_cmpR o pa pb hm, semPT_of (semP_op d sa sb)⟩
theorem sE_cmp {op : CmpOp} (o : OpR X (compareOp op) r) (d : OpD ⟨X.K, ξ⟩ r f) (ha : SimE X ξ W a na) (hb : SimE X ξ W b nb) (hm : behindInMarks op b = false := by first | exact nomark _ | rfl | with_unfolding_all rfl) : SimE X ξ W (.Compare a [op] [b] pos) (m2 (only f) na nb) := by
  obtain ⟨ta, pa, sa⟩ := ha
  obtain ⟨tb, pb, sb⟩ := hb
  exact ⟨_, pe_cmpR o pa pb hm, semE_op (newD2_imm d) sa sb⟩
theorem sT_cmp {op : CmpOp} (o : OpR X (compareOp op) r) (d : OpD ⟨X.K, ξ⟩ r f) (ha : SimE X ξ W a na) (hb : SimE X ξ W b nb) (hm : behindInMarks op b = false := by first | exact nomark _ | rfl | with_unfolding_all rfl) : SimT X ξ W (.Compare a [op] [b] pos) (mTest (m2 (only f) na nb)) := by
  obtain ⟨ta, pa, sa⟩ := ha
  obtain ⟨tb, pb, sb⟩ := hb
  exact ⟨_, pt_cmpR o pa pb hm, semT_of (semE_op (newD2_imm d) sa sb)⟩
/-! chains -/
def chain2 (f g : D → D → Option D) (ma mb mc : Sl → Option D) (s : Sl) : Option D := (ma s).bind fun x => (mb s).bind fun y => (f x y).bind fun z => (asB z).bind fun k => if k = true then (mc s).bind fun w => g y w else some (.bl false)
def chain3 (f g h : D → D → Option D) (ma mb mc md : Sl → Option D) (s : Sl) : Option D := (ma s).bind fun x => (mb s).bind fun y => (f x y).bind fun z => (asB z).bind fun k => if k = true then
  ((mc s).bind fun w => (g y w).bind fun z2 => (asB z2).bind fun k2 => if k2 = true then (md s).bind fun u => h w u else some (.bl false)) else some (.bl false)
variable {K : KX} {ta tb tc td : TE} {g h : D → D → Option D} {r' r'' : R2}
theorem semP_chain (o : OpD K r f) (o' : OpD K r' g) (ha : SemP K ta ma) (hb : SemP K tb mb) (hc : SemP K tc mc) : SemP K (tChain r r' ta tb tc) (chain2 f g ma mb mc) := fun σ H Z O s Q ok d e k => by
  unfold chain2 at e
  obtain ⟨x, ea, e⟩ := Option.bind_eq_some_iff.mp e
  obtain ⟨y, eb, e⟩ := Option.bind_eq_some_iff.mp e
  obtain ⟨z, ef, e⟩ := Option.bind_eq_some_iff.mp e
  obtain ⟨kk, ek, e9⟩ := Option.bind_eq_some_iff.mp e
  have ez := asB_some ek
  subst ez
  refine ha σ H Z O s _ ok x ea fun v H1 Z1 O1 p1 r1 => ?_
  refine hb σ H1 Z1 O s _ (ok.pz p1) y eb fun w H2 Z2 O2 p2 r2 => ?_
  refine o Z2 H2 x y (.bl kk) v w O1 O2 _ p2.zh (p2.rep r1) r2 ef fun u H3 Z3 O3 p3 r3 => ⟨kk, r3.1, ?_⟩
  have p13 := p1.trans (p2.trans p3)
  cases kk with
  | false =>
    cases e9
    exact k _ H3 Z3 [] p13 ⟨rfl, rfl⟩
  | true =>
    rw [if_pos rfl] at e9 ⊢
    obtain ⟨q, ec, e⟩ := Option.bind_eq_some_iff.mp e9
    refine hc σ H3 Z3 O s _ (ok.pz p13) q ec fun u4 H4 Z4 O4 p4 r4 => ?_
    exact o' Z4 H4 y q d w u4 O2 O4 Q p4.zh ((p3.trans p4).rep r2) r4 e fun u5 H5 Z5 O5 p5 r5 => k u5 H5 Z5 O5 (p13.trans (p4.trans p5)) r5
theorem sP_chain {op op' : CmpOp} (o : OpR X (compareOp op) r) (d : OpD ⟨X.K, ξ⟩ r f) (o' : OpR X (compareOp op') r') (d' : OpD ⟨X.K, ξ⟩ r' g) (ha : SimP X ξ a ma) (hb : SimP X ξ b mb) (hc : SimP X ξ c mc)
    (hm : lastMarks [op, op'] [b, c] = false := by with_unfolding_all rfl) : SimP X ξ (.Compare a [op, op'] [b, c] pos) (chain2 f g ma mb mc) := by
  obtain ⟨ta, pa, sa⟩ := ha
  obtain ⟨tb, pb, sb⟩ := hb
  obtain ⟨tc, pc, sc⟩ := hc
  exact ⟨_, pe_chain o o' pa pb pc hm, semP_chain d d' sa sb sc⟩
theorem sPT_chain {op op' : CmpOp} (o : OpR X (compareOp op) r) (d : OpD ⟨X.K, ξ⟩ r f) (o' : OpR X (compareOp op') r') (d' : OpD ⟨X.K, ξ⟩ r' g) (ha : SimP X ξ a ma) (hb : SimP X ξ b mb) (hc : SimP X ξ c mc)
    (hm : lastMarks [op, op'] [b, c] = false := by with_unfolding_all rfl) : SimPT X ξ (.Compare a [op, op'] [b, c] pos) (fun s => (chain2 f g ma mb mc s).bind asB) := by
  obtain ⟨ta, pa, sa⟩ := ha
  obtain ⟨tb, pb, sb⟩ := hb
  obtain ⟨tc, pc, sc⟩ := hc
  exact ⟨_, pt_chain o o' pa pb pc hm, semPT_of (semP_chain d d' sa sb sc)⟩
/-- a op b op' c op'' d, as a test -/
def tChain3 (r r' r'' : R2) (ta tb tc td : TE) : TE := fun σ H Q => ta σ H fun x H1 => tb σ H1 fun y H2 => r x y H2 fun z H3 => ∃ k, z = .bl k ∧
  (if k = true then tc σ H3 fun w H4 => r' y w H4 fun z2 H5 => ∃ k2, z2 = .bl k2 ∧ (if k2 = true then td σ H5 fun u H6 => r'' w u H6 Q else Q (.bl false) H5) else Q (.bl false) H3)
theorem pt_chain3 {d : Expr} {op op' op'' : CmpOp} (ho : OpR X (compareOp op) r) (ho' : OpR X (compareOp op') r') (ho'' : OpR X (compareOp op'') r'') (ha : PE X a ta) (hb : PE X b tb) (hc : PE X c tc) (hd : PE X d td)
    (hm : lastMarks [op, op', op''] [b, c, d] = false := by with_unfolding_all rfl) : PT X (.Compare a [op, op', op''] [b, c, d] pos) (tTest (tChain3 r r' r'' ta tb tc td)) := by
  refine ⟨fun pins st σ H Q I want => ?_⟩
  refine isTrue_chain (thn (ha.run pins st σ H _ I want) fun v1 s1 ⟨x1, H1, I1, q1, want⟩ => test_link (thn (hb.run pins s1 σ H1 _ I1 want) fun v2 s2 ⟨x2, H2, I2, q2, want⟩ =>
    thn (ho pins s2 σ H2 x1 x2 v1 v2 _ I2 q1 q2 want) fun v3 s3 ⟨x3, H3, I3, q3, k3, e3, want⟩ => ?_)) hm
  subst e3
  cases q3
  refine wpAny_truthy_bool ?_
  cases k3 with
  | false =>
    obtain ⟨k', e', want⟩ := want
    cases e'
    exact ite_ff ⟨H3, I3, want⟩
  | true =>
    refine ite_tt (test_link (thn (hc.run pins s3 σ H3 _ I3 want) fun v4 s4 ⟨x4, H4, I4, q4, want⟩ => thn (ho' pins s4 σ H4 x2 x4 v2 v4 _ I4 q2 q4 want) fun v5 s5 ⟨x5, H5, I5, q5, k5, e5, want⟩ => ?_))
    subst e5
    cases q5
    refine wpAny_truthy_bool ?_
    cases k5 with
    | false =>
      obtain ⟨k', e', want⟩ := want
      cases e'
      exact ite_ff ⟨H5, I5, want⟩
    | true =>
      refine ite_tt (test_last (thn (hd.run pins s5 σ H5 _ I5 want) fun v6 s6 ⟨x6, H6, I6, q6, want⟩ => thn (ho'' pins s6 σ H6 x4 x6 v4 v6 _ I6 q4 q6 want) fun v7 s7 ⟨x7, H7, I7, q7, k7, e7, want⟩ => ?_))
      subst e7
      cases q7
      exact wpAny_truthy_bool ⟨H7, I7, want⟩
theorem semP_chain3 {md : Sl → Option D} (o : OpD K r f) (o' : OpD K r' g) (o'' : OpD K r'' h) (ha : SemP K ta ma) (hb : SemP K tb mb) (hc : SemP K tc mc) (hd : SemP K td md) : SemP K (tChain3 r r' r'' ta tb tc td) (chain3 f g h ma mb mc md) := fun σ H Z O s Q ok d e k => by
  unfold chain3 at e
  obtain ⟨x, ea, e⟩ := Option.bind_eq_some_iff.mp e
  obtain ⟨y, eb, e⟩ := Option.bind_eq_some_iff.mp e
  obtain ⟨z, ef, e⟩ := Option.bind_eq_some_iff.mp e
  obtain ⟨kk, ek, e9⟩ := Option.bind_eq_some_iff.mp e
  have ez := asB_some ek
  subst ez
  refine ha σ H Z O s _ ok x ea fun v H1 Z1 O1 p1 r1 => ?_
  refine hb σ H1 Z1 O s _ (ok.pz p1) y eb fun w H2 Z2 O2 p2 r2 => ?_
  refine o Z2 H2 x y (.bl kk) v w O1 O2 _ p2.zh (p2.rep r1) r2 ef fun u H3 Z3 O3 p3 r3 => ⟨kk, r3.1, ?_⟩
  have p13 := p1.trans (p2.trans p3)
  cases kk with
  | false =>
    cases e9
    exact k _ H3 Z3 [] p13 ⟨rfl, rfl⟩
  | true =>
    rw [if_pos rfl] at e9 ⊢
    obtain ⟨q, ec, e⟩ := Option.bind_eq_some_iff.mp e9
    obtain ⟨z2, eg, e⟩ := Option.bind_eq_some_iff.mp e
    obtain ⟨k2, ek2, e8⟩ := Option.bind_eq_some_iff.mp e
    have ez := asB_some ek2
    subst ez
    refine hc σ H3 Z3 O s _ (ok.pz p13) q ec fun u4 H4 Z4 O4 p4 r4 => ?_
    refine o' Z4 H4 y q (.bl k2) w u4 O2 O4 _ p4.zh ((p3.trans p4).rep r2) r4 eg fun u5 H5 Z5 O5 p5 r5 => ⟨k2, r5.1, ?_⟩
    have p15 := p13.trans (p4.trans p5)
    cases k2 with
    | false =>
      cases e8
      exact k _ H5 Z5 [] p15 ⟨rfl, rfl⟩
    | true =>
      rw [if_pos rfl] at e8 ⊢
      obtain ⟨q6, e6, e⟩ := Option.bind_eq_some_iff.mp e8
      refine hd σ H5 Z5 O s _ (ok.pz p15) q6 e6 fun u6 H6 Z6 O6 p6 r6 => ?_
      exact o'' Z6 H6 q q6 d u4 u6 O4 O6 Q p6.zh ((p5.trans p6).rep r4) r6 e fun u7 H7 Z7 O7 p7 r7 => k u7 H7 Z7 O7 (p15.trans (p6.trans p7)) r7
theorem sPT_chain3 {d : Expr} {md : Sl → Option D} {op op' op'' : CmpOp} (o : OpR X (compareOp op) r) (d1 : OpD ⟨X.K, ξ⟩ r f) (o' : OpR X (compareOp op') r') (d2 : OpD ⟨X.K, ξ⟩ r' g) (o'' : OpR X (compareOp op'') r'') (d3 : OpD ⟨X.K, ξ⟩ r'' h)
    (ha : SimP X ξ a ma) (hb : SimP X ξ b mb) (hc : SimP X ξ c mc) (hd : SimP X ξ d md) (hm : lastMarks [op, op', op''] [b, c, d] = false := by with_unfolding_all rfl) : SimPT X ξ (.Compare a [op, op', op''] [b, c, d] pos) (fun s => (chain3 f g h ma mb mc md s).bind asB) := by
  obtain ⟨ta, pa, sa⟩ := ha
  obtain ⟨tb, pb, sb⟩ := hb
  obtain ⟨tc, pc, sc⟩ := hc
  obtain ⟨td, pd, sd⟩ := hd
  exact ⟨_, pt_chain3 o o' o'' pa pb pc pd hm, semPT_of (semP_chain3 d1 d2 d3 sa sb sc sd)⟩
end
end Sim

namespace Sim
open PySem PySem.Spec PyProof.Rows L2

section
variable {X : Cx} {ξ : Option (V × Option Addr)} {W : WX} {pin : List Nat} {a b c e : Expr} {es rest : List Expr} {pos p : Pos} {x : Str} {ma mb mc : Sl → Option D} {na nb nc : Sl → R D} {f : D → D → Option D} {r : R2}
variable {K : KX} {ta tb tc td : TE} {tA tB' : TT} {pa pb : Sl → Option Bool} {qa qb : Sl → R Bool}

/-! ### and, or, not: values -/
def andV (ma mb : Sl → Option D) (s : Sl) : Option D := (ma s).bind fun x => (asB x).bind fun k => if k = true then mb s else some (.bl false)
def orV (ma mb : Sl → Option D) (s : Sl) : Option D := (ma s).bind fun x => (asB x).bind fun k => if k = true then some (.bl true) else mb s
def notV (ma : Sl → Option D) (s : Sl) : Option D := (ma s).bind fun x => (asB x).bind fun k => some (.bl (!k))
theorem semP_and (ha : SemP K ta ma) (hb : SemP K tb mb) : SemP K (tAndV ta tb) (andV ma mb) := fun σ H Z O s Q ok d e0 k => by
  unfold andV at e0
  obtain ⟨x, e1, e2⟩ := Option.bind_eq_some_iff.mp e0
  obtain ⟨kk, e3, e4⟩ := Option.bind_eq_some_iff.mp e2
  have ez := asB_some e3
  subst ez
  refine ha σ H Z O s _ ok _ e1 fun v H1 Z1 O1 p1 r1 => ⟨kk, r1.1, ?_⟩
  cases kk with
  | true =>
    rw [if_pos rfl] at e4 ⊢
    exact hb σ H1 Z1 O s _ (ok.pz p1) d e4 fun w H2 Z2 O2 p2 r2 => k w H2 Z2 O2 (p1.trans p2) r2
  | false =>
    cases e4
    exact k _ H1 Z1 [] p1 ⟨rfl, rfl⟩
theorem semP_or (ha : SemP K ta ma) (hb : SemP K tb mb) : SemP K (tOrV ta tb) (orV ma mb) := fun σ H Z O s Q ok d e0 k => by
  unfold orV at e0
  obtain ⟨x, e1, e2⟩ := Option.bind_eq_some_iff.mp e0
  obtain ⟨kk, e3, e4⟩ := Option.bind_eq_some_iff.mp e2
  have ez := asB_some e3
  subst ez
  refine ha σ H Z O s _ ok _ e1 fun v H1 Z1 O1 p1 r1 => ⟨kk, r1.1, ?_⟩
  cases kk with
  | false =>
    rw [if_neg Bool.false_ne_true] at e4 ⊢
    exact hb σ H1 Z1 O s _ (ok.pz p1) d e4 fun w H2 Z2 O2 p2 r2 => k w H2 Z2 O2 (p1.trans p2) r2
  | true =>
    cases e4
    exact k _ H1 Z1 [] p1 ⟨rfl, rfl⟩
theorem semP_not (ha : SemP K ta ma) : SemP K (tNotV ta) (notV ma) := fun σ H Z O s Q ok d e0 k => by
  unfold notV at e0
  obtain ⟨x, e1, e2⟩ := Option.bind_eq_some_iff.mp e0
  obtain ⟨kk, e3, e4⟩ := Option.bind_eq_some_iff.mp e2
  have ez := asB_some e3
  subst ez
  cases e4
  exact ha σ H Z O s _ ok _ e1 fun v H1 Z1 O1 p1 r1 => ⟨kk, r1.1, k _ H1 Z1 [] p1 ⟨rfl, rfl⟩⟩
theorem sP_b1 {op} (ha : SimP X ξ a ma) : SimP X ξ (.BoolOp op [a] pos) ma := ha.elim fun t q => ⟨_, pe_one q.1, q.2⟩
theorem sP_and (ha : SimP X ξ a ma) (hb : SimP X ξ (.BoolOp .And (b :: rest) pos) mb) : SimP X ξ (.BoolOp .And (a :: b :: rest) pos) (andV ma mb) := by
  obtain ⟨t1, p1, s1⟩ := ha
  obtain ⟨t2, p2, s2⟩ := hb
  exact ⟨_, pe_and p1 p2, semP_and s1 s2⟩
theorem sP_or (ha : SimP X ξ a ma) (hb : SimP X ξ (.BoolOp .Or (b :: rest) pos) mb) : SimP X ξ (.BoolOp .Or (a :: b :: rest) pos) (orV ma mb) := by
  obtain ⟨t1, p1, s1⟩ := ha
  obtain ⟨t2, p2, s2⟩ := hb
  exact ⟨_, pe_or p1 p2, semP_or s1 s2⟩
theorem sP_not (ha : SimP X ξ a ma) : SimP X ξ (.UnaryOp .Not a pos) (notV ma) := ha.elim fun t q => ⟨_, pe_not q.1, semP_not q.2⟩
/-! effectful ones -/
def mAndV (na nb : Sl → R D) (s : Sl) : R D := (na s).bind fun x s1 => match asB x with
  | some k => if k = true then nb s1 else .ok (.bl false) s1
  | none => .stuck
def mOrV (na nb : Sl → R D) (s : Sl) : R D := (na s).bind fun x s1 => match asB x with
  | some k => if k = true then .ok (.bl true) s1 else nb s1
  | none => .stuck
def mNotV (na : Sl → R D) (s : Sl) : R D := (na s).bind fun x s1 => match asB x with
  | some k => .ok (.bl (!k)) s1
  | none => .stuck
theorem Wants.then_ {Z H Z1 H1 : Hp} {σ : L2.St} {O Od Oe : List Addr} {Q : VK} {s1 : Sl} {d : D} {v : V} {rr : R D} (w : Wants K W Z H O σ rr Q) (q : Ov K Z H O σ d s1 v H1 Z1 Od Oe) : Wants K W Z1 H1 Oe σ rr Q := by
  cases rr with
  | ok d' e' => exact fun v' H' Z' Od' Oe' x => w v' H' Z' Od' Oe' ⟨x.ok, x.rep, x.nd, x.zo, q.ext.trans2 x.ext fun b hb => List.mem_append_right _ hb⟩
  | exc c fs e' => exact fun cls dd H' Z' Oe' x => w cls dd H' Z' Oe' ⟨x.ok, x.ex, q.ext.trans2 x.ext fun b hb => List.mem_append_right _ hb⟩
  | stuck => exact w
theorem semE_and (ha : SemE K W ta na) (hb : SemE K W tb nb) : SemE K W (tAndV ta tb) (mAndV na nb) := fun σ H Z O s Q ok w => by
  unfold mAndV at w
  refine ha σ H Z O s _ ok ?_
  cases ea : na s with
  | stuck => rw [ea] at w; exact w.elim
  | exc c fs s1 => rw [ea] at w; exact w
  | ok x s1 =>
    rw [ea] at w
    dsimp only [R.bind] at w
    intro v H1 Z1 Od Oe q
    cases eb : asB x with
    | none => rw [eb] at w; exact w.elim
    | some k =>
      rw [eb] at w
      dsimp only at w
      have ez := asB_some eb
      subst ez
      refine ⟨k, q.rep.1, ?_⟩
      cases k with
      | true => exact hb σ H1 Z1 Oe s1 Q q.ok (Wants.then_ (rr := nb s1) w q)
      | false => exact w (.bl false) H1 Z1 [] Oe ⟨q.ok, ⟨rfl, rfl⟩, q.ok.nd, by simp, q.ext.less fun b hb => List.mem_append_right _ hb⟩
theorem semE_or (ha : SemE K W ta na) (hb : SemE K W tb nb) : SemE K W (tOrV ta tb) (mOrV na nb) := fun σ H Z O s Q ok w => by
  unfold mOrV at w
  refine ha σ H Z O s _ ok ?_
  cases ea : na s with
  | stuck => rw [ea] at w; exact w.elim
  | exc c fs s1 => rw [ea] at w; exact w
  | ok x s1 =>
    rw [ea] at w
    dsimp only [R.bind] at w
    intro v H1 Z1 Od Oe q
    cases eb : asB x with
    | none => rw [eb] at w; exact w.elim
    | some k =>
      rw [eb] at w
      dsimp only at w
      have ez := asB_some eb
      subst ez
      refine ⟨k, q.rep.1, ?_⟩
      cases k with
      | false => exact hb σ H1 Z1 Oe s1 Q q.ok (Wants.then_ (rr := nb s1) w q)
      | true => exact w (.bl true) H1 Z1 [] Oe ⟨q.ok, ⟨rfl, rfl⟩, q.ok.nd, by simp, q.ext.less fun b hb => List.mem_append_right _ hb⟩
theorem semE_not (ha : SemE K W ta na) : SemE K W (tNotV ta) (mNotV na) := fun σ H Z O s Q ok w => by
  unfold mNotV at w
  refine ha σ H Z O s _ ok ?_
  cases ea : na s with
  | stuck => rw [ea] at w; exact w.elim
  | exc c fs s1 => rw [ea] at w; exact w
  | ok x s1 =>
    rw [ea] at w
    dsimp only [R.bind] at w
    intro v H1 Z1 Od Oe q
    cases eb : asB x with
    | none => rw [eb] at w; exact w.elim
    | some k =>
      rw [eb] at w
      have ez := asB_some eb
      subst ez
      exact ⟨k, q.rep.1, w _ H1 Z1 [] Oe ⟨q.ok, ⟨rfl, rfl⟩, q.ok.nd, by simp, q.ext.less fun b hb => List.mem_append_right _ hb⟩⟩
theorem sE_b1 {op} (ha : SimE X ξ W a na) : SimE X ξ W (.BoolOp op [a] pos) na := ha.elim fun t q => ⟨_, pe_one q.1, q.2⟩
theorem sE_and (ha : SimE X ξ W a na) (hb : SimE X ξ W (.BoolOp .And (b :: rest) pos) nb) : SimE X ξ W (.BoolOp .And (a :: b :: rest) pos) (mAndV na nb) := by
  obtain ⟨t1, p1, s1⟩ := ha
  obtain ⟨t2, p2, s2⟩ := hb
  exact ⟨_, pe_and p1 p2, semE_and s1 s2⟩
theorem sE_or (ha : SimE X ξ W a na) (hb : SimE X ξ W (.BoolOp .Or (b :: rest) pos) nb) : SimE X ξ W (.BoolOp .Or (a :: b :: rest) pos) (mOrV na nb) := by
  obtain ⟨t1, p1, s1⟩ := ha
  obtain ⟨t2, p2, s2⟩ := hb
  exact ⟨_, pe_or p1 p2, semE_or s1 s2⟩
theorem sE_not (ha : SimE X ξ W a na) : SimE X ξ W (.UnaryOp .Not a pos) (mNotV na) := ha.elim fun t q => ⟨_, pe_not q.1, semE_not q.2⟩

/-! ### and, or, not: tests -/
def mAndT (qa qb : Sl → R Bool) (s : Sl) : R Bool := (qa s).bind fun k s1 => if k = true then qb s1 else .ok false s1
def mOrT (qa qb : Sl → R Bool) (s : Sl) : R Bool := (qa s).bind fun k s1 => if k = true then .ok true s1 else qb s1
def mNotT (qa : Sl → R Bool) (s : Sl) : R Bool := (qa s).bind fun k s1 => .ok (!k) s1
theorem WantsT.then_ {Z H Z1 H1 : Hp} {σ : L2.St} {O Oe : List Addr} {Q : Bool → Hp → Prop} {rr : R Bool} (w : WantsT K W Z H O σ rr Q) (q : Ext Z H O Z1 H1 Oe) : WantsT K W Z1 H1 Oe σ rr Q := by
  cases rr with
  | ok d' e' => exact fun H' Z' Oe' x y => w H' Z' Oe' x (q.trans2 y fun b hb => hb)
  | exc c fs e' => exact fun cls dd H' Z' Oe' x => w cls dd H' Z' Oe' ⟨x.ok, x.ex, q.trans2 x.ext fun b hb => hb⟩
  | stuck => exact w
theorem semT_and (ha : SemT K W tA qa) (hb : SemT K W tB' qb) : SemT K W (tAnd tA tB') (mAndT qa qb) := fun σ H Z O s Q ok w => by
  unfold mAndT at w
  refine ha σ H Z O s _ ok ?_
  cases ea : qa s with
  | stuck => rw [ea] at w; exact w.elim
  | exc c fs s1 => rw [ea] at w; exact w
  | ok k s1 =>
    rw [ea] at w
    dsimp only [R.bind] at w
    intro H1 Z1 Oe ok1 x1
    cases k with
    | true => exact hb σ H1 Z1 Oe s1 Q ok1 (WantsT.then_ (rr := qb s1) w x1)
    | false => exact w H1 Z1 Oe ok1 x1
theorem semT_or (ha : SemT K W tA qa) (hb : SemT K W tB' qb) : SemT K W (tOr tA tB') (mOrT qa qb) := fun σ H Z O s Q ok w => by
  unfold mOrT at w
  refine ha σ H Z O s _ ok ?_
  cases ea : qa s with
  | stuck => rw [ea] at w; exact w.elim
  | exc c fs s1 => rw [ea] at w; exact w
  | ok k s1 =>
    rw [ea] at w
    dsimp only [R.bind] at w
    intro H1 Z1 Oe ok1 x1
    cases k with
    | false => exact hb σ H1 Z1 Oe s1 Q ok1 (WantsT.then_ (rr := qb s1) w x1)
    | true => exact w H1 Z1 Oe ok1 x1
theorem semT_not (ha : SemT K W tA qa) : SemT K W (tNot tA) (mNotT qa) := fun σ H Z O s Q ok w => by
  unfold mNotT at w
  refine ha σ H Z O s _ ok ?_
  cases ea : qa s with
  | stuck => rw [ea] at w; exact w.elim
  | exc c fs s1 => rw [ea] at w; exact w
  | ok k s1 =>
    rw [ea] at w
    exact fun H1 Z1 Oe ok1 x1 => w H1 Z1 Oe ok1 x1
def SimW (X : Cx) (ξ : Option (V × Option Addr)) (W : WX) (e : Expr) (m : Sl → R Bool) : Prop := ∃ t : TT, PW X e t ∧ SemT ⟨X.K, ξ⟩ W t m
theorem sT_W (h : SimW X ξ W e qa) : SimT X ξ W e qa := h.elim fun t q => ⟨t, q.1.pt, q.2⟩
theorem sW_and1 (h : SimT X ξ W a qa) : SimW X ξ W (.BoolOp .And [a] pos) qa := h.elim fun t q => ⟨t, pw_and1 q.1, q.2⟩
theorem sW_or1 (h : SimT X ξ W a qa) : SimW X ξ W (.BoolOp .Or [a] pos) qa := h.elim fun t q => ⟨t, pw_or1 q.1, q.2⟩
theorem sW_and (ha : SimT X ξ W a qa) (hb : SimW X ξ W (.BoolOp .And (b :: rest) pos) qb) : SimW X ξ W (.BoolOp .And (a :: b :: rest) pos) (mAndT qa qb) := by
  obtain ⟨t1, p1, s1⟩ := ha
  obtain ⟨t2, p2, s2⟩ := hb
  exact ⟨_, pw_and p1 p2, semT_and s1 s2⟩
theorem sW_or (ha : SimT X ξ W a qa) (hb : SimW X ξ W (.BoolOp .Or (b :: rest) pos) qb) : SimW X ξ W (.BoolOp .Or (a :: b :: rest) pos) (mOrT qa qb) := by
  obtain ⟨t1, p1, s1⟩ := ha
  obtain ⟨t2, p2, s2⟩ := hb
  exact ⟨_, pw_or p1 p2, semT_or s1 s2⟩
theorem sT_not (h : SimT X ξ W a qa) : SimT X ξ W (.UnaryOp .Not a pos) (mNotT qa) := h.elim fun t q => ⟨_, pt_not q.1, semT_not q.2⟩
/-- a value that is a bool, as a test -/
theorem sT_E (h : SimE X ξ W e na) (he : ∀ whole, isTrue e X.env whole = (do let v ← whole; standAt e.pos; holding [v] (truthy v)) := by intro _; rfl) : SimT X ξ W e (mTest na) := h.elim fun t q => ⟨_, pt_val q.1 he, semT_of q.2⟩
/-- truth -/
def truB : D → Option Bool
  | .non => some false
  | .bl b => some b
  | .int i => some (i != 0)
  | .str y => if y.length ≤ sizeLine then some ((y.length : Int) != 0) else none
  | .tup ds => some (!ds.isEmpty)
  | .lst ds => some (!ds.isEmpty)
  | .fls ds => some (!ds.isEmpty)
  | _ => none
theorem emp_len {α β : Type} {as : List α} {bs : List β} (h : as.length = bs.length) : (!as.isEmpty) = !bs.isEmpty := by
  cases as <;> cases bs <;> simp at h ⊢
theorem semPT_tru (h : SemP K ta ma) : SemPT K (fun σ H Q => ta σ H fun x H' => ∃ k, TruV K x H' k ∧ Q k H') (fun s => (ma s).bind truB) := fun σ H Z O s Q ok bb e0 k => by
  obtain ⟨x, e1, e2⟩ := Option.bind_eq_some_iff.mp e0
  refine h σ H Z O s _ ok x e1 fun v H1 Z1 O1 p1 r1 => ⟨bb, ?_, k H1 Z1 p1⟩
  cases x <;> try cases e2
  · rw [r1.1]; rfl
  · rw [r1.1]; rfl
  · rw [r1.1]; rfl
  · rename_i y
    have e2' : (if y.length ≤ sizeLine then some ((y.length : Int) != 0) else none) = some bb := e2
    split at e2'
    · cases e2'; rw [r1.1]; exact ⟨by assumption, rfl⟩
    · cases e2'
  · obtain ⟨a, vs, ev, q, r⟩ := r1
    rw [ev]
    exact .inr (.inl ⟨vs, sqT_mono p1.zh q.1, emp_len (reps_len r).symm⟩)
  · obtain ⟨a, vs, O', ev, eo, q, r⟩ := r1
    rw [ev]
    exact .inl ⟨vs, SqL.of q, emp_len (reps_len r).symm⟩
  · obtain ⟨a, vs, ev, eo, q, r⟩ := r1
    rw [ev]
    exact .inl ⟨vs, sqL_mono p1.zh q, emp_len (reps_len r).symm⟩
theorem sPT_tru (h : SimP X ξ a ma) (he : ∀ whole, isTrue a X.env whole = (do let v ← whole; standAt a.pos; holding [v] (truthy v)) := by intro _; rfl) : SimPT X ξ a (fun s => (ma s).bind truB) := h.elim fun t q => ⟨_, pt_truth q.1 he, semPT_tru q.2⟩
/-! ### x if c else y -/
def mIfV (c : Sl → R Bool) (na nb : Sl → R D) (s : Sl) : R D := (c s).bind fun k s1 => if k = true then na s1 else nb s1
theorem semE_if (hc : SemT K W tA qa) (ha : SemE K W ta na) (hb : SemE K W tb nb) : SemE K W (tIf tA ta tb) (mIfV qa na nb) := fun σ H Z O s Q ok w => by
  unfold mIfV at w
  refine hc σ H Z O s _ ok ?_
  cases ea : qa s with
  | stuck => rw [ea] at w; exact w.elim
  | exc c fs s1 => rw [ea] at w; exact w
  | ok k s1 =>
    rw [ea] at w
    dsimp only [R.bind] at w
    intro H1 Z1 Oe ok1 x1
    have q : Ov K Z H O σ .non s1 .non H1 Z1 [] Oe := ⟨ok1, ⟨rfl, rfl⟩, ok1.nd, by simp, x1⟩
    cases k with
    | true => exact ha σ H1 Z1 Oe s1 Q ok1 (Wants.then_ (rr := na s1) w q)
    | false => exact hb σ H1 Z1 Oe s1 Q ok1 (Wants.then_ (rr := nb s1) w q)
theorem sE_if (hc : SimT X ξ W c qa) (ha : SimE X ξ W a na) (hb : SimE X ξ W b nb) : SimE X ξ W (.IfExp c a b pos) (mIfV qa na nb) := by
  obtain ⟨t0, p0, s0⟩ := hc
  obtain ⟨t1, p1, s1⟩ := ha
  obtain ⟨t2, p2, s2⟩ := hb
  exact ⟨_, pe_ifExp p0 p1 p2, semE_if s0 s1 s2⟩

/-! ### displays, items -/
theorem sPA_nil : SimPA X ξ [] (fun _ => some []) := ⟨_, pa_nil, semPA_nil⟩
def consP (ma : Sl → Option D) (mr : Sl → Option (List D)) (s : Sl) : Option (List D) := (ma s).bind fun x => (mr s).bind fun xs => some (x :: xs)
theorem sPA_cons {mr : Sl → Option (List D)} (ha : SimP X ξ a ma) (hr : SimPA X ξ es mr) (hst : starEach (a :: es) X.env = (false, eval a X.env) :: starEach es X.env := by rfl) : SimPA X ξ (a :: es) (consP ma mr) := by
  obtain ⟨t1, p1, s1⟩ := ha
  obtain ⟨t2, p2, s2⟩ := hr
  exact ⟨_, pa_cons p1 p2 hst, semPA_cons s1 s2⟩
def tupP (ms : Sl → Option (List D)) (s : Sl) : Option D := (ms s).bind mkTup
def lstP (ms : Sl → Option (List D)) (s : Sl) : Option D := (ms s).bind mkLst
theorem sP_tup {k} {ms : Sl → Option (List D)} (h : SimPA X ξ es ms) : SimP X ξ (.Tuple es k pos) (tupP ms) := h.elim fun t q => ⟨_, pe_tupN q.1, semP_tup q.2⟩
theorem sP_lst {ms : Sl → Option (List D)} (h : SimPA X ξ es ms) : SimP X ξ (.List es pos) (lstP ms) := h.elim fun t q => ⟨_, pe_lst q.1, semP_lst q.2⟩
theorem sA_nil : SimA X ξ W [] (fun s => .ok [] s) := ⟨_, pa_nil, semA_nil⟩
theorem sA_cons {mr : Sl → R (List D)} (ha : SimE X ξ W a na) (hr : SimA X ξ W es mr) (hst : starEach (a :: es) X.env = (false, eval a X.env) :: starEach es X.env := by rfl) : SimA X ξ W (a :: es) (mCons na mr) := by
  obtain ⟨t1, p1, s1⟩ := ha
  obtain ⟨t2, p2, s2⟩ := hr
  exact ⟨_, pa_cons p1 p2 hst, semA_cons s1 s2⟩
theorem sE_tup {k} {ms : Sl → R (List D)} (h : SimA X ξ W es ms) : SimE X ξ W (.Tuple es k pos) (mApp mkTup ms) := h.elim fun t q => ⟨_, pe_tupN q.1, semE_tup q.2⟩
theorem sE_lst {ms : Sl → R (List D)} (h : SimA X ξ W es ms) : SimE X ξ W (.List es pos) (mApp mkLst ms) := h.elim fun t q => ⟨_, pe_lst q.1, semE_lst q.2⟩
theorem sP_ix (ha : SimP X ξ a ma) (hb : SimP X ξ b mb) (hs : PlainIx b := by exact fun _ _ => rfl) : SimP X ξ (.Subscript a b pos) (two dIx ma mb) := by
  obtain ⟨t1, p1, s1⟩ := ha
  obtain ⟨t2, p2, s2⟩ := hb
  exact ⟨_, pe_ix ix_seq p1 p2 hs, semP_op opD_ix s1 s2⟩
theorem sE_ix (ha : SimE X ξ W a na) (hb : SimE X ξ W b nb) (hs : PlainIx b := by exact fun _ _ => rfl) : SimE X ξ W (.Subscript a b pos) (m2 dIx na nb) := by
  obtain ⟨t1, p1, s1⟩ := ha
  obtain ⟨t2, p2, s2⟩ := hb
  exact ⟨_, pe_ix ix_seq p1 p2 hs, semE_op newD2_ix s1 s2⟩
def mIxv (i : Nat) (m : Sl → R D) (s : Sl) : R D := match s[i]?.join with
  | some _ => mIxV i m s
  | none => .stuck
theorem sE_ixv (i : Nat) {p0 : Pos} (hb : SimE X ξ W b nb) (hN : X.N[i]? = some x := by rfl) (hv : Vis X.env.scope x := by first | exact Or.inl rfl | exact Or.inr (Or.inl rfl) | exact Or.inr (Or.inr rfl)) (hs : PlainIx b := by exact fun _ _ => rfl) (hd : (x == ("__debug__" : Str)) = false := by decide)
    (hcd : (x == ("__classdict__" : Str)) = false := by decide) : SimE X ξ W (.Subscript (.Name x p0) b pos) (mIxv i nb) := by
  obtain ⟨t2, p2, s2⟩ := hb
  exact ⟨_, pe_ix ix_seq (pe_var hN hv hd hcd) p2 hs, semE_ixv s2⟩
theorem sP_dget (hu : X.A.units + 1 < cLine) (ha : SimP X ξ a ma) (hb : SimP X ξ b mb) (hs : NoSl b := by exact fun _ _ => rfl) : SimP X ξ (.Subscript a b pos) (two dGet ma mb) := by
  obtain ⟨t1, p1, s1⟩ := ha
  obtain ⟨t2, p2, s2⟩ := hb
  exact ⟨_, pe_dget hu p1 p2 hs, semP_dget s1 s2⟩
/-! ### dict displays -/
def SimPP (X : Cx) (ξ : Option (V × Option Addr)) (pos : Pos) (ks : List (Option Expr)) (vs : List Expr) (m : Sl → Option (List (Key × D))) : Prop := ∃ trs, PPs X pos ks vs trs ∧ SemPP ⟨X.K, ξ⟩ trs m
theorem sPP_nil : SimPP X ξ pos [] [] (fun _ => some []) := ⟨_, pps_nil, semPP_nil⟩
theorem sPP_cons {ks : List (Option Expr)} {vs : List Expr} {mr : Sl → Option (List (Key × D))} (ha : SimP X ξ a ma) (hb : SimP X ξ b mb) (hr : SimPP X ξ pos ks vs mr) : SimPP X ξ pos (some a :: ks) (b :: vs) (mPair ma mb mr) := by
  obtain ⟨t1, p1, s1⟩ := ha
  obtain ⟨t2, p2, s2⟩ := hb
  obtain ⟨t3, p3, s3⟩ := hr
  exact ⟨_, pps_cons p1 p2 p3, semPP_cons s1 s2 s3⟩
theorem sE_disp {ks : List (Option Expr)} {vs : List Expr} {m : Sl → Option (List (Key × D))} (h : SimPP X ξ pos ks vs m) (hall : ks.all (·.isSome) = true := by rfl) (hl : ks.length = vs.length := by rfl) (h0 : ks ≠ [] := by exact fun z => nomatch z) (h15 : ks.length ≤ 15 := by decide) :
    SimE X ξ W (.Dict ks vs pos) (mDisp m) := h.elim fun t q => ⟨_, pe_disp q.1 hall hl h0 h15, semE_disp q.2⟩
end
end Sim

namespace Sim
open PySem PySem.Spec PyProof.Rows L2

/-! ### a loop without a count -/
section
variable {c : Sl → R Bool} {body : Sl → RS}
theorem mWhile_more : ∀ {n : Nat} {s : Sl} (k : Nat), mWhile c body n s ≠ .stuck → mWhile c body (n + k) s = mWhile c body n s
  | 0, s, k, h => (h rfl).elim
  | n + 1, s, k, h => by
    have e : n + 1 + k = (n + k) + 1 := by omega
    rw [e]
    unfold mWhile at h ⊢
    cases ec : c s with
    | stuck => rfl
    | exc => rfl
    | ok b s1 =>
      rw [ec] at h
      dsimp only at h ⊢
      by_cases hb : b = true
      · rw [if_pos hb] at h ⊢
        rw [if_pos hb]
        cases eb : body s1 with
        | nx s2 => rw [eb] at h; exact mWhile_more k h
        | cont s2 => rw [eb] at h; exact mWhile_more k h
        | _ => rfl
      · rw [if_neg hb, if_neg hb]
end
open Classical in
noncomputable def mWhl (c : Sl → R Bool) (body : Sl → RS) (s : Sl) : RS := if h : ∃ n, mWhile c body n s ≠ .stuck then mWhile c body h.choose s else .stuck
theorem mWhl_of {c : Sl → R Bool} {body : Sl → RS} {s : Sl} (n : Nat) (h : mWhile c body n s ≠ .stuck) : mWhl c body s = mWhile c body n s := by
  unfold mWhl
  have hx : ∃ n, mWhile c body n s ≠ .stuck := ⟨n, h⟩
  rw [dif_pos hx]
  have h2 := hx.choose_spec
  have a := mWhile_more n h2
  have b := mWhile_more hx.choose h
  rw [← a, ← b, Nat.add_comm]
theorem semS_whl {K : KX} {W : WX} {pin : List Nat} {tc : TT} {tb : TS} {c : Sl → R Bool} {body : Sl → RS} (hc : SemT K W tc c) (hb : SemS K W pin tb body) : SemS K W pin (tWhile tc tb) (mWhl c body) := fun σ H Z O s D ok w => by
  unfold mWhl at w
  by_cases h : ∃ n, mWhile c body n s ≠ .stuck
  · rw [dif_pos h] at w
    exact semS_while h.choose hc hb σ H Z O s D ok w
  · rw [dif_neg h] at w
    exact w.elim

section
variable {X : Cx} {ξ : Option (V × Option Addr)} {W : WX} {pin : List Nat} {a b c e : Expr} {es : List Expr} {pos p : Pos} {x : Str} {ma mb mc : Sl → Option D} {na nb nc : Sl → R D}

/-! ### built-in calls -/
def caP (f : List D → Option D) (ms : Sl → Option (List D)) (s : Sl) : Option D := (ms s).bind f
theorem sP_callB {id : String} {r : List V → Hp → VK → Prop} {f : List D → Option D} {ms : Sl → Option (List D)} (hc : CallR X (.builtin id) r) (hd : CaD ⟨X.K, ξ⟩ r f) (hv : bootBuiltins x = some (.builtin id)) (hg : Gl X x) (hm : X.mg x = none) (ha : SimPA X ξ (e :: es) ms)
    (hn : x ≠ "__name__" := by decide) (hdb : (x == ("__debug__" : Str)) = false := by decide) (he : starEach (e :: es) X.env = (false, eval e X.env) :: starEach es X.env := by rfl) (hpl : (backTo pos (starEach es X.env)).any (·.1) = false := by rfl) :
    SimP X ξ (.Call (.Name x p) (e :: es) [] pos) (caP f ms) := ha.elim fun t q => ⟨_, pe_callB hc hg hm hv q.1 hn hdb he hpl, semP_call hd q.2⟩
theorem sE_callB {id : String} {r : List V → Hp → VK → Prop} {f : List D → Option D} {ms : Sl → R (List D)} (hc : CallR X (.builtin id) r) (hd : CaD ⟨X.K, ξ⟩ r f) (hv : bootBuiltins x = some (.builtin id)) (hg : Gl X x) (hm : X.mg x = none) (ha : SimA X ξ W (e :: es) ms)
    (hn : x ≠ "__name__" := by decide) (hdb : (x == ("__debug__" : Str)) = false := by decide) (he : starEach (e :: es) X.env = (false, eval e X.env) :: starEach es X.env := by rfl) (hpl : (backTo pos (starEach es X.env)).any (·.1) = false := by rfl) :
    SimE X ξ W (.Call (.Name x p) (e :: es) [] pos) (mApp (only1 f) ms) := ha.elim fun t q => ⟨_, pe_callB hc hg hm hv q.1 hn hdb he hpl, semE_app (newD_imm hd) q.2⟩
theorem sP_len {ms : Sl → Option (List D)} (hg : Gl X "len") (hm : X.mg "len" = none) (ha : SimPA X ξ (e :: es) ms) (he : starEach (e :: es) X.env = (false, eval e X.env) :: starEach es X.env := by rfl) (hpl : (backTo pos (starEach es X.env)).any (·.1) = false := by rfl) :
    SimP X ξ (.Call (.Name "len" p) (e :: es) [] pos) (caP dLen ms) := sP_callB call_lenX caD_len boot_len hg hm ha (by decide) (by decide) he hpl
theorem sP_abs {ms : Sl → Option (List D)} (hg : Gl X "abs") (hm : X.mg "abs" = none) (ha : SimPA X ξ (e :: es) ms) (he : starEach (e :: es) X.env = (false, eval e X.env) :: starEach es X.env := by rfl) (hpl : (backTo pos (starEach es X.env)).any (·.1) = false := by rfl) :
    SimP X ξ (.Call (.Name "abs" p) (e :: es) [] pos) (caP dAbs ms) := sP_callB call_abs caD_abs boot_abs hg hm ha (by decide) (by decide) he hpl
theorem sP_max {ms : Sl → Option (List D)} (hc : X.calm = true) (hg : Gl X "max") (hm : X.mg "max" = none) (ha : SimPA X ξ (e :: es) ms) (he : starEach (e :: es) X.env = (false, eval e X.env) :: starEach es X.env := by rfl) (hpl : (backTo pos (starEach es X.env)).any (·.1) = false := by rfl) :
    SimP X ξ (.Call (.Name "max" p) (e :: es) [] pos) (caP dMax2 ms) := sP_callB (call_max2 hc) caD_max2 boot_max hg hm ha (by decide) (by decide) he hpl
theorem sP_repr {ms : Sl → Option (List D)} (gd : X.A.guards = some []) (hu : X.A.units + 66 < cLine) (hg : Gl X "repr") (hm : X.mg "repr" = none) (ha : SimPA X ξ (e :: es) ms) (he : starEach (e :: es) X.env = (false, eval e X.env) :: starEach es X.env := by rfl) (hpl : (backTo pos (starEach es X.env)).any (·.1) = false := by rfl) :
    SimP X ξ (.Call (.Name "repr" p) (e :: es) [] pos) (caP dRepr ms) := sP_callB (call_reprD gd hu) caD_repr boot_repr hg hm ha (by decide) (by decide) he hpl
theorem sP_int' {ms : Sl → Option (List D)} (hg : Gl X "int") (hm : X.mg "int" = none) (ha : SimPA X ξ (e :: es) ms) (he : starEach (e :: es) X.env = (false, eval e X.env) :: starEach es X.env := by rfl) (hpl : (backTo pos (starEach es X.env)).any (·.1) = false := by rfl) :
    SimP X ξ (.Call (.Name "int" p) (e :: es) [] pos) (caP dInt ms) := ha.elim fun t q => ⟨_, pe_callTy call_int1 hg hm boot_int q.1 (by decide) (by decide) he hpl, semP_call caD_int q.2⟩
theorem sE_len {ms : Sl → R (List D)} (hg : Gl X "len") (hm : X.mg "len" = none) (ha : SimA X ξ W (e :: es) ms) (he : starEach (e :: es) X.env = (false, eval e X.env) :: starEach es X.env := by rfl) (hpl : (backTo pos (starEach es X.env)).any (·.1) = false := by rfl) :
    SimE X ξ W (.Call (.Name "len" p) (e :: es) [] pos) (mApp (only1 dLen) ms) := sE_callB call_lenX caD_len boot_len hg hm ha (by decide) (by decide) he hpl
theorem sE_abs {ms : Sl → R (List D)} (hg : Gl X "abs") (hm : X.mg "abs" = none) (ha : SimA X ξ W (e :: es) ms) (he : starEach (e :: es) X.env = (false, eval e X.env) :: starEach es X.env := by rfl) (hpl : (backTo pos (starEach es X.env)).any (·.1) = false := by rfl) :
    SimE X ξ W (.Call (.Name "abs" p) (e :: es) [] pos) (mApp (only1 dAbs) ms) := sE_callB call_abs caD_abs boot_abs hg hm ha (by decide) (by decide) he hpl
theorem sE_repr {ms : Sl → R (List D)} (gd : X.A.guards = some []) (hu : X.A.units + 66 < cLine) (hg : Gl X "repr") (hm : X.mg "repr" = none) (ha : SimA X ξ W (e :: es) ms) (he : starEach (e :: es) X.env = (false, eval e X.env) :: starEach es X.env := by rfl) (hpl : (backTo pos (starEach es X.env)).any (·.1) = false := by rfl) :
    SimE X ξ W (.Call (.Name "repr" p) (e :: es) [] pos) (mApp (only1 dRepr) ms) := sE_callB (call_reprD gd hu) caD_repr boot_repr hg hm ha (by decide) (by decide) he hpl
theorem sE_int {ms : Sl → R (List D)} (hg : Gl X "int") (hm : X.mg "int" = none) (ha : SimA X ξ W (e :: es) ms) (he : starEach (e :: es) X.env = (false, eval e X.env) :: starEach es X.env := by rfl) (hpl : (backTo pos (starEach es X.env)).any (·.1) = false := by rfl) :
    SimE X ξ W (.Call (.Name "int" p) (e :: es) [] pos) (mApp (only1 dInt) ms) := ha.elim fun t q => ⟨_, pe_callTy call_int1 hg hm boot_int q.1 (by decide) (by decide) he hpl, semE_app (newD_imm caD_int) q.2⟩
/-! ### tuple(..), slices, the list's methods -/
theorem sE_tuple (hg : Gl X "tuple") (hm : X.mg "tuple" = none) (ha : SimE X ξ W a na) (he : starEach [a] X.env = (false, eval a X.env) :: starEach [] X.env := by rfl) : SimE X ξ W (.Call (.Name "tuple" p) [a] [] pos) (mTuple na) :=
  ha.elim fun t q => ⟨_, pe_tupleN hg hm q.1 he, semE_tuple q.2⟩
def SimO (X : Cx) (ξ : Option (V × Option Addr)) (o : Option Expr) (m : Sl → Option (Option Int)) : Prop := ∃ t : TO, PO X o t ∧ SemO ⟨X.K, ξ⟩ t m
def partO (ma : Sl → Option D) (s : Sl) : Option (Option Int) := (ma s).bind asI
theorem sO_none : SimO X ξ none (fun _ => some none) := ⟨_, po_none, semO_none⟩
theorem sO_some (h : SimP X ξ a ma) : SimO X ξ (some a) (partO ma) := h.elim fun t q => ⟨_, po_some q.1, semO_some q.2⟩
theorem sE_slice {lo hi : Option Expr} {ml mh : Sl → Option (Option Int)} {p2 : Pos} (h : SimP X ξ a ma) (hl : SimO X ξ lo ml) (hh : SimO X ξ hi mh) : SimE X ξ W (.Subscript a (.Slice lo hi none p2) pos) (mSlice ma ml mh) := by
  obtain ⟨t, p1, s1⟩ := h
  obtain ⟨tl, p2, s2⟩ := hl
  obtain ⟨th, p3, s3⟩ := hh
  exact ⟨_, pe_slice sl_list p1 p2 p3, semE_slice s1 s2 s3⟩
theorem sE_append (i : Nat) {p0 apos : Pos} (ha : SimE X ξ W a na) (hN : X.N[i]? = some x := by rfl) (hv : Vis X.env.scope x := by first | exact Or.inl rfl | exact Or.inr (Or.inl rfl) | exact Or.inr (Or.inr rfl))
    (hd : (x == ("__debug__" : Str)) = false := by decide) (hcd : (x == ("__classdict__" : Str)) = false := by decide) (hst : starEach [a] X.env = (false, eval a X.env) :: starEach [] X.env := by rfl)
    (hbase : attributeBase (.Name x p0) "append" X.env (eval (.Name x p0) X.env) = eval (.Name x p0) X.env := by rfl)
    (hfew : ((backTo pos (starEach [a] X.env)).all (fun x => !x.1) && (backToKw pos (keywordEach [] X.env)).all (fun x => x.1.isSome)
      && decide ([a].length + ([] : List Keyword).length + (if ([] : List Keyword).isEmpty then 0 else 1) < 30)) = true := by rfl)
    (hline : (apos.endLine == pos.line) = true := by rfl) (hplain : (backTo pos (starEach [] X.env)).any (·.1) = false := by rfl) :
    SimE X ξ W (.Call (.Attribute (.Name x p0) "append" apos) [a] [] pos) (mAppend i na) := ha.elim fun t q => ⟨_, pe_bm PySem.F.plainAttrs_list PySem.F.slot_list_append PySem.F.type_list_append mt_append (pe_var hN hv hd hcd) (pa_cons q.1 pa_nil hst) hbase hfew hline hst hplain, semE_append q.2⟩
theorem sE_extend (i : Nat) {p0 apos : Pos} (ha : SimE X ξ W a na) (hN : X.N[i]? = some x := by rfl) (hv : Vis X.env.scope x := by first | exact Or.inl rfl | exact Or.inr (Or.inl rfl) | exact Or.inr (Or.inr rfl))
    (hd : (x == ("__debug__" : Str)) = false := by decide) (hcd : (x == ("__classdict__" : Str)) = false := by decide) (hst : starEach [a] X.env = (false, eval a X.env) :: starEach [] X.env := by rfl)
    (hbase : attributeBase (.Name x p0) "extend" X.env (eval (.Name x p0) X.env) = eval (.Name x p0) X.env := by rfl)
    (hfew : ((backTo pos (starEach [a] X.env)).all (fun x => !x.1) && (backToKw pos (keywordEach [] X.env)).all (fun x => x.1.isSome)
      && decide ([a].length + ([] : List Keyword).length + (if ([] : List Keyword).isEmpty then 0 else 1) < 30)) = true := by rfl)
    (hline : (apos.endLine == pos.line) = true := by rfl) (hplain : (backTo pos (starEach [] X.env)).any (·.1) = false := by rfl) :
    SimE X ξ W (.Call (.Attribute (.Name x p0) "extend" apos) [a] [] pos) (mExtend i na) := ha.elim fun t q => ⟨_, pe_bm PySem.F.plainAttrs_list PySem.F.slot_list_extend PySem.F.type_list_extend mt_extend (pe_var hN hv hd hcd) (pa_cons q.1 pa_nil hst) hbase hfew hline hst hplain, semE_extend q.2⟩

/-! ### calls of the text's own defs -/
def SimM (X : Cx) (W : WX) (es : List Expr) (args : List AM) : Prop := ∃ t : TA, PA X es t ∧ SemM ⟨X.K, none⟩ W t args
theorem sM_nil : SimM X W [] [] := ⟨_, pa_nil, semM_nil⟩
theorem sM_ex {args : List AM} (ha : SimE X none W a na) (hr : SimM X W es args) (hst : starEach (a :: es) X.env = (false, eval a X.env) :: starEach es X.env := by rfl) : SimM X W (a :: es) (.ex na :: args) := by
  obtain ⟨t1, p1, s1⟩ := ha
  obtain ⟨t2, p2, s2⟩ := hr
  exact ⟨_, pa_cons p1 p2 hst, semM_ex s1 s2⟩
theorem sM_io (i : Nat) {args : List AM} (hr : SimM X W es args) (hN : X.N[i]? = some x := by rfl) (hv : Vis X.env.scope x := by first | exact Or.inl rfl | exact Or.inr (Or.inl rfl) | exact Or.inr (Or.inr rfl)) (hd : (x == ("__debug__" : Str)) = false := by decide)
    (hcd : (x == ("__classdict__" : Str)) = false := by decide) (hst : starEach (.Name x p :: es) X.env = (false, eval (.Name x p) X.env) :: starEach es X.env := by rfl) : SimM X W (.Name x p :: es) (.io i :: args) := by
  obtain ⟨t2, p2, s2⟩ := hr
  exact ⟨_, pa_cons (pe_var hN hv hd hcd) p2 hst, semM_io s2⟩
/-- the def called x does what mf says -/
def Does (P : Program) (w : World) (K : PySem.W.Frag) (mg : Str → Option Value) (base : Heap) (k : Nat) (x : Str) (np : Nat) (pin : List Nat) (mf : List D → RF) : Prop :=
  ∃ (f : Addr) (fd : FuncData) (ps : List Str), FnG P w K mg base k f fd ps (SpM K np pin mf) ∧ mg x = some (.ref f) ∧ PySem.W.keepIn K (.ref f) = true ∧ Binds K fd ps []
theorem Does.mono {P : Program} {w : World} {K : PySem.W.Frag} {mg : Str → Option Value} {base : Heap} {j k : Nat} {np : Nat} {mf : List D → RF} (h : Does P w K mg base j x np pin mf) (hj : j ≤ k) : Does P w K mg base k x np pin mf := by
  obtain ⟨f, fd, ps, F, q⟩ := h
  exact ⟨f, fd, ps, F.mono hj, q⟩
theorem sE_call {k np : Nat} {pins : List Nat} {mf : List D → RF} {args : List AM} (d : Does X.prog X.w X.K X.mg X.base k x np pins mf) (hr : Room k X.A) (gd : X.A.guards = some []) (hgl : Gl X x) (tk : Takes X W) (ha : SimM X W (e :: es) args) (hl : args.length = np := by rfl)
    (hdb : (x == ("__debug__" : Str)) = false := by decide) (he : starEach (e :: es) X.env = (false, eval e X.env) :: starEach es X.env := by rfl) (hpl : (backTo pos (starEach es X.env)).any (·.1) = false := by rfl) :
    SimE X none W (.Call (.Name x p) (e :: es) [] pos) (mCall pins mf args) := by
  obtain ⟨f, fd, ps, F, h1, h2, h3⟩ := d
  obtain ⟨t, p1, s1⟩ := ha
  exact ⟨_, pe_callG F gd hr hgl h1 h2 h3 (passAt tk) p1 hdb he hpl, semE_call hl s1⟩
theorem sE_call0 {k : Nat} {pins : List Nat} {mf : List D → RF} (d : Does X.prog X.w X.K X.mg X.base k x 0 pins mf) (hr : Room k X.A) (gd : X.A.guards = some []) (hgl : Gl X x) (tk : Takes X W) (hdb : (x == ("__debug__" : Str)) = false := by decide) :
    SimE X none W (.Call (.Name x p) [] [] pos) (mCall pins mf []) := by
  obtain ⟨f, fd, ps, F, h1, h2, h3⟩ := d
  exact ⟨_, pe_callG0 F gd hr hgl h1 h2 h3 (passAt tk) hdb, semE_call rfl semM_nil⟩
end
end Sim

namespace Sim
open PySem PySem.Spec PyProof.Rows L2

section
variable {X : Cx} {ξ : Option (V × Option Addr)} {W : WX} {pin : List Nat} {a b c e tg it : Expr} {es : List Expr} {pos p : Pos} {x : Str} {ma mb mc : Sl → Option D} {na nb nc : Sl → R D} {st : Stmt} {sts : List Stmt} {m n : Sl → RS}

/-! ### targets -/
def SimG (X : Cx) (ξ : Option (V × Option Addr)) (P : List Nat → Prop) (tg : Expr) (m : D → Sl → Option Sl) : Prop := ∃ g : TG, PG X tg g ∧ ∀ pin, P pin → SemG ⟨X.K, ξ⟩ pin g m
def SimGs (X : Cx) (ξ : Option (V × Option Addr)) (P : List Nat → Prop) (tg : List Expr) (m : List D → Sl → Option Sl) : Prop := ∃ g : TGs, PGs X tg g ∧ ∀ pin, P pin → SemGs ⟨X.K, ξ⟩ pin g m
variable {Pn : List Nat → Prop}
theorem sG_name (i : Nat) (hN : X.N.Nodup) (hp : ∀ pin, Pn pin → i ∉ pin) (hi : X.N[i]? = some x := by rfl) (hx : Loc X.env.scope x := by first | exact .inl rfl | exact .inr rfl) (hf : X.fn x = true ∨ X.env.scope.names.lookup x = some .local := by first | exact .inl rfl | exact .inr rfl) : SimG X ξ Pn (.Name x pos) (mgName i) :=
  ⟨_, pg_name hN hi hx hf, fun pin h => semG_name (hp pin h)⟩
theorem sGs_nil : SimGs X ξ Pn [] mgNil := ⟨_, pgs_nil, fun _ _ => semGs_nil⟩
theorem sGs_cons {m : D → Sl → Option Sl} {n : List D → Sl → Option Sl} (h1 : SimG X ξ Pn e m) (h2 : SimGs X ξ Pn es n) (hs : (assignEach (e :: es) X.env).map (·.2) = assign e X.env :: (assignEach es X.env).map (·.2) := by rfl) : SimGs X ξ Pn (e :: es) (mgCons m n) := by
  obtain ⟨g, p1, s1⟩ := h1
  obtain ⟨u, p2, s2⟩ := h2
  exact ⟨_, pgs_cons p1 p2 hs, fun pin h => semGs_cons (s1 pin h) (s2 pin h)⟩
theorem sG_tup (k : Nat) {m : List D → Sl → Option Sl} {kk : Nat} (hc : X.calm = true) (h : SimGs X ξ Pn es m) (hn : (assignEach es X.env).length = k := by rfl) (hst : (assignEach es X.env).findIdx? (·.1) = none := by rfl) : SimG X ξ Pn (.Tuple es kk pos) (mgTup k m) := by
  obtain ⟨g, p1, s1⟩ := h
  exact ⟨_, pg_tup hc p1 hn hst, fun pin h => semG_tup (s1 pin h)⟩
/-! ### what is walked -/
def SimI (X : Cx) (ξ : Option (V × Option Addr)) (W : WX) (tg it : Expr) (m : Sl → R (List D)) : Prop := ∃ t : TI, PI X tg it t ∧ SemI ⟨X.K, ξ⟩ W t m
theorem sI_seq (h : SimE X ξ W it na) : SimI X ξ W tg it (mItems na) := h.elim fun t q => ⟨_, pi_seq q.1, semI_seq q.2⟩
theorem mCons_len {na : Sl → R D} {mr : Sl → R (List D)} {k : Nat} (h : ∀ s ds s1, mr s = .ok ds s1 → ds.length = k) : ∀ s ds s1, mCons na mr s = .ok ds s1 → ds.length = k + 1 := fun s ds s1 e => by
  unfold mCons at e
  cases ea : na s with
  | stuck => rw [ea] at e; cases e
  | exc => rw [ea] at e; cases e
  | ok d s2 =>
    rw [ea] at e
    dsimp only [R.bind] at e
    cases er : mr s2 with
    | stuck => rw [er] at e; cases e
    | exc => rw [er] at e; cases e
    | ok r s3 =>
      rw [er] at e
      cases e
      rw [List.length_cons, h _ _ _ er]
theorem sI_range1 (hg : Gl X "range") (hm : X.mg "range" = none) (h : SimE X ξ W a na) (hst : starEach [a] X.env = (false, eval a X.env) :: starEach [] X.env := by rfl) (hs : starEach [a] X.env = [(false, eval a X.env)] := by rfl) :
    SimI X ξ W tg (.Call (.Name "range" p) [a] [] pos) (mRange (mCons na fun s => .ok [] s)) := h.elim fun t q =>
  ⟨_, pi_range1 hg hm (pa_cons q.1 pa_nil hst) hs, semI_range1 (semA_cons q.2 semA_nil) (mCons_len fun s ds s1 e => by cases e; rfl)⟩
theorem sI_range2 (hg : Gl X "range") (hm : X.mg "range" = none) (h : SimE X ξ W a na) (h2 : SimE X ξ W b nb) (hst : starEach [a, b] X.env = (false, eval a X.env) :: starEach [b] X.env := by rfl) (hst2 : starEach [b] X.env = (false, eval b X.env) :: starEach [] X.env := by rfl)
    (hs : starEach [a, b] X.env = [(false, eval a X.env), (false, eval b X.env)] := by rfl) (hs2 : starEach [b] X.env = [(false, eval b X.env)] := by rfl) :
    SimI X ξ W tg (.Call (.Name "range" p) [a, b] [] pos) (mRange (mCons na (mCons nb fun s => .ok [] s))) := by
  obtain ⟨t1, p1, s1⟩ := h
  obtain ⟨t2, p2, s2⟩ := h2
  exact ⟨_, pi_range2 hg hm (pa_cons p1 (pa_cons p2 pa_nil hst2) hst) hs hs2, semI_range2 (semA_cons s1 (semA_cons s2 semA_nil)) (mCons_len (mCons_len fun s ds s1 e => by cases e; rfl))⟩

/-! ### statements -/
theorem sSs_nil : SimSs X ξ W pin [] mNext := ⟨_, pss_nil, semS_next⟩
theorem sSs_cons (h1 : SimS X ξ W pin st m) (h2 : SimSs X ξ W pin sts n) : SimSs X ξ W pin (st :: sts) (mSeq m n) := by
  obtain ⟨t1, p1, s1⟩ := h1
  obtain ⟨t2, p2, s2⟩ := h2
  exact ⟨_, pss_cons p1 p2, semS_seq s1 s2⟩
theorem sSs_one (h1 : SimS X ξ W pin st m) : SimSs X ξ W pin [st] m := h1.elim fun t q => ⟨_, pss_one q.1, q.2⟩
theorem sS_pass : SimS X ξ W pin (.Pass pos) mNext := ⟨_, ps_pass, semS_next⟩
theorem sS_doc {y : Str} {j p2} : SimS X ξ W pin (.Expr (.Constant (.str y) j p2) pos) mNext := ⟨_, ps_doc, semS_next⟩
theorem sS_brk : SimS X ξ W pin (.Break pos) mBrk := ⟨_, ps_break, semS_brk⟩
theorem sS_cont : SimS X ξ W pin (.Continue pos) mCont := ⟨_, ps_continue, semS_cont⟩
theorem sS_expr (h : SimE X ξ W e na) (hs : swapsWith e none pos.line X.env = pure false := by rfl) : SimS X ξ W pin (.Expr e pos) (mExpr na) := h.elim fun t q => ⟨_, ps_expr q.1 hs, semS_expr q.2⟩
theorem sS_ret (h : SimE X ξ W e na) : SimS X ξ W pin (.Return (some e) pos) (mRet na) := h.elim fun t q => ⟨_, ps_ret q.1, semS_ret q.2⟩
theorem sS_retN : SimS X ξ W pin (.Return none pos) mRetN := ⟨_, ps_retN, semS_retN⟩
theorem sS_if {qc : Sl → R Bool} {s1 s2 : List Stmt} (hc : SimT X ξ W c qc) (h1 : SimSs X ξ W pin s1 m) (h2 : SimSs X ξ W pin s2 n) : SimS X ξ W pin (.If c s1 s2 pos) (mIf qc m n) := by
  obtain ⟨t0, p0, r0⟩ := hc
  obtain ⟨t1, p1, r1⟩ := h1
  obtain ⟨t2, p2, r2⟩ := h2
  exact ⟨_, ps_if p0 p1 p2, semS_if r0 r1 r2⟩
theorem sS_set (i : Nat) {p' : Pos} (hN : X.N.Nodup) (hip : i ∉ pin) (h : SimE X ξ W e na) (hi : X.N[i]? = some x := by rfl) (hx : Loc X.env.scope x := by first | exact .inl rfl | exact .inr rfl) (hs : swapsWith e (some (.Name x p')) pos.line X.env = pure false := by rfl)
    (hf : X.fn x = true ∨ X.env.scope.names.lookup x = some .local := by first | exact .inl rfl | exact .inr rfl) : SimS X ξ W pin (.Assign [.Name x p'] e pos) (mAsg na (mgName i)) := h.elim fun t q => ⟨_, ps_set hN hi hx q.1 hs hf, semS_asg q.2 (semG_name hip)⟩
theorem sS_asg {mg : D → Sl → Option Sl} (h : SimE X ξ W e na) (hg : SimG X ξ (· = pin) tg mg) (hs : swapsWithSole [tg] e pos.line X.env = pure false := by rfl) (hw : swappedStores [tg] e X.env = pure none := by rfl)
    (h1 : (assignEach [tg] X.env).map (·.2) = [assign tg X.env] := by rfl) : SimS X ξ W pin (.Assign [tg] e pos) (mAsg na mg) := by
  obtain ⟨t, p1, s1⟩ := h
  obtain ⟨g, p2, s2⟩ := hg
  exact ⟨_, ps_asg p1 p2 hs hw h1, semS_asg s1 (s2 pin rfl)⟩
theorem sS_dput (i : Nat) {p0 p' : Pos} (hu : X.A.units + 1 < cLine) (hk : SimP X ξ a ma) (h : SimE X ξ W e na) (hN : X.N[i]? = some x := by rfl) (hv : Vis X.env.scope x := by first | exact Or.inl rfl | exact Or.inr (Or.inl rfl) | exact Or.inr (Or.inr rfl))
    (hd : (x == ("__debug__" : Str)) = false := by decide) (hcd : (x == ("__classdict__" : Str)) = false := by decide) (hs : swapsWith e (some (.Subscript (.Name x p0) a p')) pos.line X.env = pure false := by rfl) : SimS X ξ W pin (.Assign [.Subscript (.Name x p0) a p'] e pos) (mDPut i ma na) := by
  obtain ⟨t1, p1, s1⟩ := hk
  obtain ⟨t2, p2, s2⟩ := h
  exact ⟨_, ps_dput hu (pe_var hN hv hd hcd) p1 p2 hs, semS_dput s2 s1⟩
theorem sS_for {qi : Sl → R (List D)} {mg : D → Sl → Option Sl} {body : List Stmt} (hp : PassesOwn (model X.prog X.w) X.A X.env X.xe) (hc : X.calm = true) (hi : SimI X ξ W tg it qi) (hg : SimG X ξ (· = pin) tg mg) (hb : SimSs X ξ W pin body m)
    (hs : ∀ x, foldedSetIterable it X.env x = pure x := by intro _; rfl) : SimS X ξ W pin (.For tg it body [] pos) (mFor qi mg m) := by
  obtain ⟨t1, p1, s1⟩ := hi
  obtain ⟨t2, p2, s2⟩ := hg
  obtain ⟨t3, p3, s3⟩ := hb
  exact ⟨_, ps_for hp hc p1 p2 p3 hs, semS_for s1 (s2 pin rfl) s3⟩
theorem sS_while {qc : Sl → R Bool} {body : List Stmt} (hp : PassesOwn (model X.prog X.w) X.A X.env X.xe) (hc : SimT X ξ W c qc) (hb : SimSs X ξ W pin body m) : SimS X ξ W pin (.While c body [] pos) (mWhl qc m) := by
  obtain ⟨t1, p1, s1⟩ := hc
  obtain ⟨t3, p3, s3⟩ := hb
  exact ⟨_, ps_while hp p1 p3, semS_whl s1 s3⟩
theorem sS_aug (i : Nat) {p' : Pos} {op : Operator} {ti : TIp} {f : D → D → Option D} (hN : X.N.Nodup) (hip : i ∉ pin) (ho : PIp X op ti) (hd : IpD ⟨X.K, ξ⟩ ti f) (h : SimE X ξ W e na) (hi : X.N[i]? = some x := by rfl) (hx : Loc X.env.scope x := by first | exact .inl rfl | exact .inr rfl)
    (hf : X.fn x = true ∨ X.env.scope.names.lookup x = some .local := by first | exact .inl rfl | exact .inr rfl) : SimS X ξ W pin (.AugAssign (.Name x p') op e pos) (mAug i f na) := h.elim fun t q => ⟨_, ps_aug hN hi hx q.1 ho hf, semS_aug hip q.2 hd⟩
/-- raise Own("..") -/
theorem sS_raise {C : Addr} {y msg : Str} (k : String) {j : Nat} {p0 p2 pc : Pos} (hc : X.calm = true) (tk : Takes X W) (hk : Str.ofString k = y) (hn : PySem.W.nsIn X.K mainGlobals y = some (some (.ref C)))
    (he : PMk X (.Call (.Name y p0) [.Constant (.str msg) j p2] [] pc) (fun _ H Q => Q (.ref C) none H)) : SimS X none W pin (.Raise (some (.Call (.Name y p0) [.Constant (.str msg) j p2] [] pc)) none pos) (mRaise k) :=
  ⟨_, ps_raise hc tk he, semS_raise (by rw [hk]; exact hn)⟩

/-! ### comprehensions -/
def SimTs (X : Cx) (ξ : Option (V × Option Addr)) (W : WX) (cs : List Expr) (m : Sl → R Bool) : Prop := ∃ t : TT, PTs X cs t ∧ SemT ⟨X.K, ξ⟩ W t m
theorem sTs_nil : SimTs X ξ W [] (fun s => .ok true s) := ⟨_, pts_nil, fun σ H Z O s Q ok w => w H Z O ok .refl⟩
theorem sTs_one {qc : Sl → R Bool} (h : SimT X ξ W c qc) : SimTs X ξ W [c] qc := h.elim fun t q => ⟨_, pts_one q.1, q.2⟩
section
variable {scope : Scope} {own : List (Str × Nat)} {elt : Expr} {ifs : List Expr} {mi : Sl → R (List D)} {mg : D → Sl → Option Sl} {mt : Sl → R Bool} {me : Sl → R D}
abbrev Blk := Shared × Hp × Addr × List (Str × Addr) × List Addr
abbrev bcx (X : Cx) (scope : Scope) (q : Blk) : Cx := X.blk q.1 q.2.1 scope (compEnvC scope q.2.2.2.1 q.2.2.1 X.env) q.2.2.2.2
theorem lc_parts (hg : ∀ q : Blk, SimG (bcx X scope q) ξ (fun pin => ∃ n, pin = co n (own.map (·.2))) tg mg) (ht : ∀ q : Blk, SimTs (bcx X scope q) ξ WF ifs mt) (he : ∀ q : Blk, SimE (bcx X scope q) ξ WF elt me) :
    ∃ (g : TG) (tt : TT) (te : TE), (∀ q : Blk, PG (bcx X scope q) tg g) ∧ (∀ q : Blk, PTs (bcx X scope q) ifs tt) ∧ (∀ q : Blk, PE (bcx X scope q) elt te) ∧ (∀ n, SemG ⟨X.K, ξ⟩ (co n (own.map (·.2))) g mg) ∧ SemT ⟨X.K, ξ⟩ WF tt mt ∧ SemE ⟨X.K, ξ⟩ WF te me := by
  classical
  refine ⟨fun v σ H Q => ∀ q, (hg q).choose v σ H Q, fun σ H Q => ∀ q, (ht q).choose σ H Q, fun σ H Q => ∀ q, (he q).choose σ H Q, fun q => ⟨fun pins s σ H v u Q I r h => ?_⟩, fun q => ⟨fun pins s σ H Q I h => ?_⟩, fun q => ⟨fun pins s σ H Q I h => ?_⟩,
    fun n σ H Z O s d v Od Q ok r nd zo s' e k q => ?_, fun σ H Z O s Q ok w q => ?_, fun σ H Z O s Q ok w q => ?_⟩
  · exact (hg q).choose_spec.1.run pins s σ H v u Q I r (h q)
  · exact (ht q).choose_spec.1.run pins s σ H Q I (h q)
  · exact (he q).choose_spec.1.run pins s σ H Q I (h q)
  · exact (hg q).choose_spec.2 _ ⟨n, rfl⟩ σ H Z O s d v Od Q ok r nd zo s' e k
  · exact (ht q).choose_spec.2 σ H Z O s Q ok w
  · exact (he q).choose_spec.2 σ H Z O s Q ok w
theorem sE_lc (hc : X.calm = true) (hN : X.N.Nodup) (own : List (Str × Nat)) (nv : (own.map (·.2)).Nodup) (ok : BlkOk X.N X.env.scope scope own) (hi : SimI X ξ W tg it mi)
    (hg : ∀ q : Blk, SimG (bcx X scope q) ξ (fun pin => ∃ n, pin = co n (own.map (·.2))) tg mg) (ht : ∀ q : Blk, SimTs (bcx X scope q) ξ WF ifs mt) (he : ∀ q : Blk, SimE (bcx X scope q) ξ WF elt me) (hs : ∀ x, foldedSetIterable it X.env x = pure x := by intro _; rfl) :
    SimE X ξ W (.ListComp elt [⟨tg, it, ifs, 0⟩] scope pos) (mComp mi (own.map (·.2)) mg mt me) := by
  obtain ⟨wi, p0, s0⟩ := hi
  obtain ⟨g, tt, te, p1, p2, p3, s1, s2, s3⟩ := lc_parts hg ht he
  exact ⟨_, pe_lc hc hN p0 ok (fun s H C cl fp => p1 (s, H, C, cl, fp)) (fun s H C cl fp => p2 (s, H, C, cl, fp)) (fun s H C cl fp => p3 (s, H, C, cl, fp)) hs, semE_lc 0 nv (fun _ _ _ => trivial) s0 s1 s2 s3⟩
/-- y = [..], y a name of the def's own -/
theorem sS_setLc (i : Nat) {y : Str} {py spos : Pos} (hc : X.calm = true) (hN : X.N.Nodup) (hip : i ∉ pin) (own : List (Str × Nat)) (nv : (own.map (·.2)).Nodup) (ok : BlkOk X.N X.env.scope scope own) (hi : SimI X ξ W tg it mi)
    (hg : ∀ q : Blk, SimG (bcx X scope q) ξ (fun pin => ∃ n, pin = co n (own.map (·.2))) tg mg) (ht : ∀ q : Blk, SimTs (bcx X scope q) ξ WF ifs mt) (he : ∀ q : Blk, SimE (bcx X scope q) ξ WF elt me)
    (hsw : swapsWith (.ListComp elt [⟨tg, it, ifs, 0⟩] scope pos) (some (.Name y py)) spos.line X.env = pure true := by rfl) (hy : X.N[i]? = some y := by rfl) (hyl : X.env.scope.names.lookup y = some .local := by rfl) (hs : ∀ x, foldedSetIterable it X.env x = pure x := by intro _; rfl) :
    SimS X ξ W pin (.Assign [.Name y py] (.ListComp elt [⟨tg, it, ifs, 0⟩] scope pos) spos) (mAsg (mComp mi (own.map (·.2)) mg mt me) (mgName i)) := by
  obtain ⟨wi, p0, s0⟩ := hi
  obtain ⟨g, tt, te, p1, p2, p3, s1, s2, s3⟩ := lc_parts hg ht he
  exact ⟨_, ps_setLc hc hN hy hyl hsw p0 ok (fun s H C cl fp => p1 (s, H, C, cl, fp)) (fun s H C cl fp => p2 (s, H, C, cl, fp)) (fun s H C cl fp => p3 (s, H, C, cl, fp)) hs, semS_asg (semE_lc 0 nv (fun _ _ _ => trivial) s0 s1 s2 s3) (semG_name hip)⟩
end
end
end Sim

namespace Sim
open PySem PySem.Spec PyProof.Rows L2

section
variable {K : KX} {W : WX} {pin : List Nat} {Z H Z' H' Z1 H1 Z2 H2 : Hp} {σ σ1 σ2 : L2.St} {s s1 s2 : Sl} {O Od Oe O1 O2 Ow Oa : List Addr} {d : D} {v : V} {D0 : Addr} {acc : List D} {us : List V}

/-- the state, with the list at D0 that is being made -/
structure AccOk (K : KX) (Z1 H1 : Hp) (Ow : List Addr) (D0 : Addr) (σ : L2.St) (s : Sl) (acc : List D) (H' Z' : Hp) (O' : List Addr) (us : List V) (Oa : List Addr) : Prop where
  ok : Ok K Z' H' σ s O'
  zz : ∀ b o, Z1 b = some o → Z' b = some o
  hD : H' D0 = some (.lst us)
  ra : Reps K Z' H' acc us Oa
  nd : ((D0 :: Oa) ++ O').Nodup
  zo : ∀ b ∈ D0 :: Oa, Z' b = none
  ext : Ext Z1 H1 Ow Z' H' ((D0 :: Oa) ++ O')
theorem AccOk.th (a : AccOk K Z1 H1 Ow D0 σ s acc H Z O us Oa) : ∀ b ∈ D0 :: Oa, ∃ o, H b = some o := fun b hb => by
  rcases List.mem_cons.mp hb with rfl | hb
  · exact ⟨_, a.hD⟩
  · exact a.ra.there acc us Oa b hb
theorem AccOk.move (a : AccOk K Z1 H1 Ow D0 σ s acc H Z O us Oa) (ok : Ok K Z2 H2 σ2 s2 O2) (x : Ext Z H O Z2 H2 O2) : AccOk K Z1 H1 Ow D0 σ2 s2 acc H2 Z2 O2 us Oa := by
  have c := carry a.th a.nd a.zo x
  exact ⟨ok, fun b o h => x.zz b o (a.zz b o h), c.1 D0 (by simp) _ a.hD, a.ra.stay x.zz acc us Oa fun b hb => c.1 b (by simp [hb]), nodup_join (List.nodup_append.mp a.nd).1 ok.nd c.2.2, c.2.1, ext_both (O1 := []) a.ext x⟩
theorem AccOk.wipe {vs : List Nat} (a : AccOk K Z1 H1 Ow D0 σ s acc H Z O us Oa) : ∃ O', AccOk K Z1 H1 Ow D0 (L2.wipe σ vs) (wipeS s vs) acc H Z O' us Oa := by
  obtain ⟨O6, ok6, sub6⟩ := a.ok.wipe (vs := vs)
  exact ⟨O6, ok6, a.zz, a.hD, a.ra, nodup_join (List.nodup_append.mp a.nd).1 ok6.nd fun b hb hc => (List.nodup_append.mp a.nd).2.2 b hb b (sub6 b hc) rfl, a.zo, a.ext.less fun b hb => by
    rcases List.mem_append.mp hb with hb | hb
    · exact List.mem_append_left _ hb
    · exact List.mem_append_right _ (sub6 b hb)⟩
theorem AccOk.push {yd : D} {yv : V} (nD : H1 D0 = none) (a : AccOk K Z1 H1 Ow D0 σ s acc H Z O us Oa) (q : Ov K Z H O σ2 yd s2 yv H2 Z2 Od Oe) : H2 D0 = some (.lst us) ∧ AccOk K Z1 H1 Ow D0 σ2 s2 (acc ++ [yd]) (upd H2 D0 (.lst (us ++ [yv]))) Z2 Oe (us ++ [yv]) (Oa ++ Od) := by
  have c := carry a.th a.nd a.zo q.ext
  have hD6 := c.1 D0 (by simp) _ a.hD
  have nDO : D0 ∉ Od ++ Oe := c.2.2 D0 (by simp)
  have ndDa : (D0 :: Oa).Nodup := (List.nodup_append.mp a.nd).1
  have nDa : D0 ∉ Oa := (List.nodup_cons.mp ndDa).1
  have hne : ∀ b o, b ≠ D0 → H2 b = some o → (upd H2 D0 (.lst (us ++ [yv]))) b = some o := fun b o hb h => by rw [upd_ne hb]; exact h
  have zhD : ∀ b o, Z2 b = some o → (upd H2 D0 (.lst (us ++ [yv]))) b = some o := fun b o h => hne b o (fun e => by rw [e, c.2.1 D0 (by simp)] at h; cases h) (q.ok.zh b o h)
  have es : (D0 :: (Oa ++ Od)) ++ Oe = (D0 :: Oa) ++ (Od ++ Oe) := by simp
  refine ⟨hD6, ⟨zhD, q.ok.rep.stay (fun _ _ h => h) fun b hb o h => hne b o (fun e => nDO (by rw [← e]; exact List.mem_append_right _ hb)) h, q.ok.nd, q.ok.zo⟩, fun b o h => q.ext.zz b o (a.zz b o h), upd_same, ?_, ?_, ?_, ?_⟩
  · exact Reps.append (Reps.stay q.ext.zz acc us Oa a.ra fun b hb o h => hne b o (fun e => nDa (e ▸ hb)) (c.1 b (by simp [hb]) o h)) (Reps.one (Rep.stay (fun _ _ h => h) yd yv Od q.rep fun b hb o h => hne b o (fun e => nDO (by rw [← e]; exact List.mem_append_left _ hb)) h))
  · rw [es]
    exact nodup_join ndDa q.nd c.2.2
  · intro b hb
    rw [show D0 :: (Oa ++ Od) = (D0 :: Oa) ++ Od by simp] at hb
    rcases List.mem_append.mp hb with hb | hb
    · exact c.2.1 b hb
    · exact q.zo b hb
  · have e1 : Ext Z1 H1 Ow Z2 H2 ((D0 :: Oa) ++ (Od ++ Oe)) := ext_both (O1 := []) a.ext q.ext
    refine ⟨e1.zz, fun b o h n => ?_, fun b hb => e1.nw b (by rw [es] at hb; exact hb), e1.nz⟩
    refine hne b o (fun e => ?_) (e1.fr b o h n)
    rw [e, nD] at h; cases h
/-- one clause, from some state on -/
theorem acc_loop {J : It} {ds : List D} {Z0 : Hp} {g : TG} {tt : TT} {te : TE} {vs : List Nat} {mg : D → Sl → Option Sl} {mt : Sl → R Bool} {me : Sl → R D} {acc' : List D} {s' : Sl} {Fin : Hp → Prop} (nD : H1 D0 = none) (wk : Wlk K Z0 J ds) (hg : ∀ n, SemG K (co n vs) g mg) (ht : SemT K WF tt mt) (he : SemE K WF te me)
    (a : AccOk K Z1 H1 Ow D0 (L2.wipe σ vs) s acc H Z O us Oa) (z0 : ∀ b o, Z0 b = some o → Z b = some o) (el : mCompLoop vs mg mt me ds s acc = .ok acc' s')
    (fin : ∀ H' Z' O' us' Oa', AccOk K Z1 H1 Ow D0 (L2.wipe σ vs) s' acc' H' Z' O' us' Oa' → (∀ b o, Z0 b = some o → Z' b = some o) → Fin H') :
    ∃ W1 : Nat → Nat → Hp → Prop, (∃ m, W1 0 m H) ∧ ∀ j k H, W1 j k H → (J.stop j H ∧ Fin H) ∨ (J.go j H ∧ ∃ Nx1 : Hp → Prop, (∀ H', Nx1 H' → ∃ k', k' < k ∧ W1 (j + 1) k' H') ∧ ∀ x H', J.yld j H x H' → g x (L2.wipe σ vs) H' fun σ3 H5 => L2.wipe σ3 vs = L2.wipe σ vs ∧ tt σ3 H5 fun b H6 =>
        if b = true then te σ3 H6 fun y H7 => ∃ acc, H7 D0 = some (.lst acc) ∧ acc.length < sizeLine ∧ Nx1 (upd H7 D0 (.lst (acc ++ [y]))) else Nx1 H6) := by
  refine ⟨fun i m H' => m = ds.length - i ∧ i ≤ ds.length ∧ ∃ s2 acc2 Z' O' us Oa, AccOk K Z1 H1 Ow D0 (L2.wipe σ vs) s2 acc2 H' Z' O' us Oa ∧ (∀ b o, Z0 b = some o → Z' b = some o) ∧ mCompLoop vs mg mt me (ds.drop i) s2 acc2 = .ok acc' s', ⟨ds.length, by omega, Nat.zero_le _, s, acc, Z, O, us, Oa, a, z0, el⟩, ?_⟩
  rintro i m H2 ⟨rfl, hi', s2, acc2, Z2, O2, us2, Oa2, a2, z2, el2⟩
  by_cases hlt : i < ds.length
  · have ed : ds[i]? = some ds[i] := List.getElem?_eq_getElem hlt
    obtain ⟨go, yl⟩ := wk.go Z2 H2 i _ z2 a2.ok.zh ed
    rw [List.drop_eq_getElem_cons hlt] at el2
    unfold mCompLoop at el2
    refine .inr ⟨go, fun H' => ∃ s2 acc2 Z' O' us Oa, AccOk K Z1 H1 Ow D0 (L2.wipe σ vs) s2 acc2 H' Z' O' us Oa ∧ (∀ b o, Z0 b = some o → Z' b = some o) ∧ mCompLoop vs mg mt me (ds.drop (i + 1)) s2 acc2 = .ok acc' s', fun H' h' => ⟨ds.length - (i + 1), by omega, rfl, hlt, h'⟩, fun v H3 y => ?_⟩
    obtain ⟨Z3, p, r⟩ := yl v H3 y
    have ok3 := a2.ok.pz p
    cases eg : mg ds[i] s2 with
    | none => rw [eg] at el2; cases el2
    | some s3 =>
      rw [eg] at el2
      dsimp only at el2
      refine hg σ.length (L2.wipe σ vs) H3 Z3 O2 s2 _ v [] _ ok3 r ok3.nd (by simp) s3 eg fun σ4 H4 Z4 O4 ok4 x4 k4 => ?_
      have ews : L2.wipe σ4 vs = L2.wipe σ vs := wipe_same rfl k4
      refine ⟨ews, ht σ4 H4 Z4 O4 s3 _ ok4 ?_⟩
      have x24 : Ext Z2 H2 O2 Z4 H4 O4 := p.ext.trans2 x4 fun _ h => h
      cases et : mt s3 with
      | stuck => rw [et] at el2; cases el2
      | exc c fs s5 => rw [et] at el2; cases el2
      | ok b s5 =>
        rw [et] at el2
        dsimp only at el2
        intro H5 Z5 O5 ok5 x5
        have x25 : Ext Z2 H2 O2 Z5 H5 O5 := x24.trans2 x5 fun _ h => h
        have a5 := a2.move ok5 x25
        have z5 : ∀ b o, Z0 b = some o → Z5 b = some o := fun b o h => x25.zz b o (z2 b o h)
        cases b with
        | false =>
          rw [if_neg Bool.false_ne_true] at el2 ⊢
          obtain ⟨O6, a6⟩ := a5.wipe (vs := vs)
          rw [ews] at a6
          exact ⟨_, _, Z5, O6, us2, Oa2, a6, z5, el2⟩
        | true =>
          rw [if_pos rfl] at el2 ⊢
          refine he σ4 H5 Z5 O5 s5 _ ok5 ?_
          cases em : me s5 with
          | stuck => rw [em] at el2; cases el2
          | exc c fs s6 => rw [em] at el2; cases el2
          | ok yd s6 =>
            rw [em] at el2
            dsimp only at el2
            split at el2
            · rename_i hlen
              intro yv H6 Z6 Od Oe q
              obtain ⟨hD6, a6⟩ := a5.push nD q
              refine ⟨us2, hD6, by rw [reps_len a2.ra]; exact hlen, ?_⟩
              obtain ⟨O7, a7⟩ := a6.wipe (vs := vs)
              rw [ews] at a7
              exact ⟨_, _, Z6, O7, _, _, a7, fun b o h => q.ext.zz b o (z5 b o h), el2⟩
            · cases el2
  · have ei : i = ds.length := by omega
    subst ei
    rw [List.drop_length] at el2
    unfold mCompLoop at el2
    cases el2
    exact .inl ⟨wk.stop Z2 H2 z2 a2.ok.zh, fin H2 Z2 O2 us2 Oa2 a2 z2⟩
def mCompLoop2 (vs vs1 : List Nat) (g : D → Sl → Option Sl) (t : Sl → R Bool) (mi1 : Sl → R (List D)) (g1 : D → Sl → Option Sl) (t1 : Sl → R Bool) (m : Sl → R D) : List D → Sl → List D → R (List D)
  | [], s, acc => .ok acc s
  | d :: ds, s, acc => match g d s with
    | none => .stuck
    | some s1 => match t s1 with
      | .ok b s2 => if b = true then (match mi1 s2 with
        | .ok ds1 s3 => match mCompLoop vs1 g1 t1 m ds1 (wipeS s3 vs1) acc with
          | .ok acc' s4 => mCompLoop2 vs vs1 g t mi1 g1 t1 m ds (wipeS s4 vs) acc'
          | _ => .stuck
        | _ => .stuck) else mCompLoop2 vs vs1 g t mi1 g1 t1 m ds (wipeS s2 vs) acc
      | _ => .stuck
def mComp2 (mi : Sl → R (List D)) (vs vs1 : List Nat) (g : D → Sl → Option Sl) (t : Sl → R Bool) (mi1 : Sl → R (List D)) (g1 : D → Sl → Option Sl) (t1 : Sl → R Bool) (m : Sl → R D) (s : Sl) : R D := match mi s with
  | .ok ds s1 => match mCompLoop2 vs vs1 g t mi1 g1 t1 m ds (wipeS s1 vs) [] with
    | .ok acc s2 => .ok (.lst acc) (backS s1 s2 vs)
    | _ => .stuck
  | .exc c fs s1 => .exc c fs s1
  | .stuck => .stuck
theorem wipe_wipe {vs vs1 : List Nat} (h : ∀ i ∈ vs1, i ∈ vs) : L2.wipe (L2.wipe σ vs1) vs = L2.wipe σ vs := by
  apply List.ext_getElem?
  intro i
  rw [wipe_get, wipe_get, wipe_length, wipe_get]
  by_cases e : i ∈ vs
  · rw [if_pos e, if_pos e]
  · rw [if_neg e, if_neg e, if_neg fun m => e (h i m)]
theorem semE_lc2 {wi wi1 : TI} {g g1 : TG} {tt tt1 : TT} {te : TE} {vs vs1 : List Nat} {mi mi1 : Sl → R (List D)} {mg mg1 : D → Sl → Option Sl} {mt mt1 : Sl → R Bool} {me : Sl → R D} (nv : vs.Nodup) (sub : ∀ i ∈ vs1, i ∈ vs)
    (hi : SemI K W wi mi) (hg : ∀ n, SemG K (co n vs) g mg) (ht : SemT K WF tt mt) (hi1 : SemI K WF wi1 mi1) (hg1 : ∀ n, SemG K (co n vs1) g1 mg1) (ht1 : SemT K WF tt1 mt1) (he : SemE K WF te me) : SemE K W (tLc2 wi g tt wi1 g1 tt1 te vs vs1) (mComp2 mi vs vs1 mg mt mi1 mg1 mt1 me) := fun σ H Z O s Q ok w => by
  unfold mComp2 at w
  refine hi σ H Z O s _ ok ?_
  cases e : mi s with
  | stuck => rw [e] at w; exact w.elim
  | exc c fs s1 => rw [e] at w; exact w
  | ok ds s1 =>
    rw [e] at w
    dsimp only at w
    intro J H1 Z1 O1 ok1 x1 wk D0 nD
    obtain ⟨Ow, okw, subw⟩ := ok1.wipe (vs := vs)
    have keep0 : ∀ i d, s1[i]?.join = some d → imm d = true → ∃ v, σ[i]? = some (some v) ∧ Rep K Z1 H1 d v [] := fun i d e hm => by
      obtain ⟨v, A, O1, B, q, eo, r, _⟩ := ok1.rep.get (join_some e)
      have := r.immO d v O1 hm
      subst this
      exact ⟨v, q, r⟩
    have zD : Z1 D0 = none := by
      cases e : Z1 D0 with
      | none => rfl
      | some o => rw [ok1.zh D0 o e] at nD; cases nD
    have nDw : D0 ∉ Ow := fun hb => by
      obtain ⟨o, e⟩ := okw.rep.there D0 hb
      rw [nD] at e; cases e
    cases el : mCompLoop2 vs vs1 mg mt mi1 mg1 mt1 me ds (wipeS s1 vs) [] with
    | stuck => rw [el] at w; exact w.elim
    | exc c fs s2 => rw [el] at w; exact w.elim
    | ok accf sf =>
      rw [el] at w
      refine ⟨fun i m H' => m = ds.length - i ∧ i ≤ ds.length ∧ ∃ s2 acc2 Z' O' us Oa, AccOk K Z1 H1 Ow D0 (L2.wipe σ vs) s2 acc2 H' Z' O' us Oa ∧ mCompLoop2 vs vs1 mg mt mi1 mg1 mt1 me (ds.drop i) s2 acc2 = .ok accf sf, ⟨ds.length, by omega, Nat.zero_le _, _, [], Z1, Ow, [], [], ?_, el⟩, ?_⟩
      · have q := Pz.new ok1.zh nD (.lst [])
        refine ⟨okw.pz q, fun _ _ h => h, upd_same, ⟨rfl, rfl⟩, List.nodup_cons.mpr ⟨by simpa using nDw, by simpa using okw.nd⟩, fun b hb => ?_, ?_⟩
        · have : b = D0 := by simpa using hb
          subst this; exact zD
        · have x := q.ext (O := Ow)
          exact ⟨x.zz, x.fr, fun b hb => by
            rcases List.mem_cons.mp (show b ∈ D0 :: Ow from hb) with rfl | hb
            · exact .inr nD
            · exact .inl hb, x.nz⟩
      · rintro i m H2 ⟨rfl, hi', s2, acc2, Z2, O2, us2, Oa2, a2, el2⟩
        by_cases hlt : i < ds.length
        · have ed : ds[i]? = some ds[i] := List.getElem?_eq_getElem hlt
          obtain ⟨go, yl⟩ := wk.go Z2 H2 i _ a2.zz a2.ok.zh ed
          rw [List.drop_eq_getElem_cons hlt] at el2
          unfold mCompLoop2 at el2
          refine .inr ⟨go, fun H' => ∃ s2 acc2 Z' O' us Oa, AccOk K Z1 H1 Ow D0 (L2.wipe σ vs) s2 acc2 H' Z' O' us Oa ∧ mCompLoop2 vs vs1 mg mt mi1 mg1 mt1 me (ds.drop (i + 1)) s2 acc2 = .ok accf sf, fun H' h' => ⟨ds.length - (i + 1), by omega, rfl, hlt, h'⟩, fun v H3 y => ?_⟩
          obtain ⟨Z3, p, r⟩ := yl v H3 y
          have ok3 := a2.ok.pz p
          cases eg : mg ds[i] s2 with
          | none => rw [eg] at el2; cases el2
          | some s3 =>
            rw [eg] at el2
            dsimp only at el2
            refine hg σ.length (L2.wipe σ vs) H3 Z3 O2 s2 _ v [] _ ok3 r ok3.nd (by simp) s3 eg fun σ4 H4 Z4 O4 ok4 x4 k4 => ?_
            have ews : L2.wipe σ4 vs = L2.wipe σ vs := wipe_same rfl k4
            refine ⟨ews, ht σ4 H4 Z4 O4 s3 _ ok4 ?_⟩
            have x24 : Ext Z2 H2 O2 Z4 H4 O4 := p.ext.trans2 x4 fun _ h => h
            cases et : mt s3 with
            | stuck => rw [et] at el2; cases el2
            | exc c fs s5 => rw [et] at el2; cases el2
            | ok b s5 =>
              rw [et] at el2
              dsimp only at el2
              intro H5 Z5 O5 ok5 x5
              have x25 : Ext Z2 H2 O2 Z5 H5 O5 := x24.trans2 x5 fun _ h => h
              have a5 := a2.move ok5 x25
              cases b with
              | false =>
                rw [if_neg Bool.false_ne_true] at el2 ⊢
                obtain ⟨O6, a6⟩ := a5.wipe (vs := vs)
                rw [ews] at a6
                exact ⟨_, _, Z5, O6, us2, Oa2, a6, el2⟩
              | true =>
                rw [if_pos rfl] at el2 ⊢
                refine hi1 σ4 H5 Z5 O5 s5 _ ok5 ?_
                cases em : mi1 s5 with
                | stuck => rw [em] at el2; cases el2
                | exc c fs s6 => rw [em] at el2; cases el2
                | ok ds1 s6 =>
                  rw [em] at el2
                  dsimp only at el2
                  intro J1 H6 Z6 O6 ok6 x6 wk1
                  obtain ⟨O7, a7⟩ := (a5.move ok6 x6).wipe (vs := vs1)
                  cases ec : mCompLoop vs1 mg1 mt1 me ds1 (wipeS s6 vs1) acc2 with
                  | stuck => rw [ec] at el2; cases el2
                  | exc c fs s8 => rw [ec] at el2; cases el2
                  | ok acc8 s8 =>
                    rw [ec] at el2
                    dsimp only at el2
                    refine acc_loop nD wk1 hg1 ht1 he a7 (fun _ _ h => h) ec fun H8 Z8 O8 us8 Oa8 a8 _ => ?_
                    obtain ⟨O9, a9⟩ := a8.wipe (vs := vs)
                    rw [wipe_wipe sub, ews] at a9
                    exact ⟨_, _, Z8, O9, us8, Oa8, a9, el2⟩
        · have ei : i = ds.length := by omega
          subst ei
          rw [List.drop_length] at el2
          unfold mCompLoop2 at el2
          cases el2
          refine .inl ⟨wk.stop Z2 H2 a2.zz a2.ok.zh, ?_⟩
          obtain ⟨O7, ok7, sub7⟩ := a2.ok.back (s0 := s1) nv fun i d e hm => by
            obtain ⟨v, q, r⟩ := keep0 i d e hm
            exact ⟨v, q, r.stay a2.zz d v [] (by simp)⟩
          refine w (.ref D0) H2 Z2 (D0 :: Oa2) O7 ⟨ok7, ⟨D0, us2, Oa2, rfl, rfl, a2.hD, a2.ra⟩, ?_, a2.zo, ?_⟩
          · exact nodup_join (List.nodup_append.mp a2.nd).1 ok7.nd fun b hb hc => (List.nodup_append.mp a2.nd).2.2 b hb b (sub7 b hc) rfl
          · exact x1.trans2 (a2.ext.less fun b hb => by
              rcases List.mem_append.mp hb with hb | hb
              · exact List.mem_append_left _ hb
              · exact List.mem_append_right _ (sub7 b hb)) subw
end
section
variable {X : Cx} {ξ : Option (V × Option Addr)} {W : WX} {pin : List Nat} {tg it tg1 it1 elt : Expr} {ifs ifs1 : List Expr} {pos : Pos} {scope : Scope} {mi mi1 : Sl → R (List D)} {mg mg1 : D → Sl → Option Sl} {mt mt1 : Sl → R Bool} {me : Sl → R D}
theorem lc2_parts {own : List (Str × Nat)} {vs1 : List Nat} (hi1 : ∀ q : Blk, SimI (bcx X scope q) ξ WF tg1 it1 mi1) (hg1 : ∀ q : Blk, SimG (bcx X scope q) ξ (fun pin => ∃ n, pin = co n vs1) tg1 mg1) (ht1 : ∀ q : Blk, SimTs (bcx X scope q) ξ WF ifs1 mt1) :
    ∃ (wi : TI) (g : TG) (tt : TT), (∀ q : Blk, PI (bcx X scope q) tg1 it1 wi) ∧ (∀ q : Blk, PG (bcx X scope q) tg1 g) ∧ (∀ q : Blk, PTs (bcx X scope q) ifs1 tt) ∧ SemI ⟨X.K, ξ⟩ WF wi mi1 ∧ (∀ n, SemG ⟨X.K, ξ⟩ (co n vs1) g mg1) ∧ SemT ⟨X.K, ξ⟩ WF tt mt1 := by
  classical
  refine ⟨fun σ H Q => ∀ q, (hi1 q).choose σ H Q, fun v σ H Q => ∀ q, (hg1 q).choose v σ H Q, fun σ H Q => ∀ q, (ht1 q).choose σ H Q, fun q => ⟨fun pins s σ H R I h => ?_⟩, fun q => ⟨fun pins s σ H v u Q I r h => ?_⟩, fun q => ⟨fun pins s σ H Q I h => ?_⟩,
    fun σ H Z O s Q ok w q => ?_, fun n σ H Z O s d v Od Q ok r nd zo s' e k q => ?_, fun σ H Z O s Q ok w q => ?_⟩
  · exact (hi1 q).choose_spec.1.run pins s σ H R I (h q)
  · exact (hg1 q).choose_spec.1.run pins s σ H v u Q I r (h q)
  · exact (ht1 q).choose_spec.1.run pins s σ H Q I (h q)
  · exact (hi1 q).choose_spec.2 σ H Z O s Q ok w
  · exact (hg1 q).choose_spec.2 _ ⟨n, rfl⟩ σ H Z O s d v Od Q ok r nd zo s' e k
  · exact (ht1 q).choose_spec.2 σ H Z O s Q ok w
theorem sE_lc2 (hc : X.calm = true) (hN : X.N.Nodup) (own : List (Str × Nat)) (vs1 : List Nat) (nv : (own.map (·.2)).Nodup) (hv : ∀ i ∈ vs1, i ∈ own.map (·.2)) (ok : BlkOk X.N X.env.scope scope own) (hi : SimI X ξ W tg it mi)
    (hg : ∀ q : Blk, SimG (bcx X scope q) ξ (fun pin => ∃ n, pin = co n (own.map (·.2))) tg mg) (ht : ∀ q : Blk, SimTs (bcx X scope q) ξ WF ifs mt) (hi1 : ∀ q : Blk, SimI (bcx X scope q) ξ WF tg1 it1 mi1) (hg1 : ∀ q : Blk, SimG (bcx X scope q) ξ (fun pin => ∃ n, pin = co n vs1) tg1 mg1) (ht1 : ∀ q : Blk, SimTs (bcx X scope q) ξ WF ifs1 mt1)
    (he : ∀ q : Blk, SimE (bcx X scope q) ξ WF elt me) (hs : ∀ x, foldedSetIterable it X.env x = pure x := by intro _; rfl) (hs1 : ∀ env x, foldedSetIterable it1 env x = pure x := by intro _ _; rfl) :
    SimE X ξ W (.ListComp elt [⟨tg, it, ifs, 0⟩, ⟨tg1, it1, ifs1, 0⟩] scope pos) (mComp2 mi (own.map (·.2)) vs1 mg mt mi1 mg1 mt1 me) := by
  obtain ⟨wi, p0, s0⟩ := hi
  obtain ⟨g, tt, te, p1, p2, p3, s1, s2, s3⟩ := lc_parts hg ht he
  obtain ⟨wi1, g1, tt1, p4, p5, p6, s4, s5, s6⟩ := lc2_parts (own := own) hi1 hg1 ht1
  exact ⟨_, pe_lc2 hc hN p0 ok hv (fun s H C cl fp => p1 (s, H, C, cl, fp)) (fun s H C cl fp => p2 (s, H, C, cl, fp)) (fun s H C cl fp => p4 (s, H, C, cl, fp)) (fun s H C cl fp => p5 (s, H, C, cl, fp)) (fun s H C cl fp => p6 (s, H, C, cl, fp)) (fun s H C cl fp => p3 (s, H, C, cl, fp)) hs hs1,
    semE_lc2 nv hv s0 s1 s2 s4 s5 s6 s3⟩
theorem sS_setLc2 (i : Nat) {y : Str} {py spos : Pos} (hc : X.calm = true) (hN : X.N.Nodup) (hip : i ∉ pin) (own : List (Str × Nat)) (vs1 : List Nat) (nv : (own.map (·.2)).Nodup) (hv : ∀ i ∈ vs1, i ∈ own.map (·.2)) (ok : BlkOk X.N X.env.scope scope own) (hi : SimI X ξ W tg it mi)
    (hg : ∀ q : Blk, SimG (bcx X scope q) ξ (fun pin => ∃ n, pin = co n (own.map (·.2))) tg mg) (ht : ∀ q : Blk, SimTs (bcx X scope q) ξ WF ifs mt) (hi1 : ∀ q : Blk, SimI (bcx X scope q) ξ WF tg1 it1 mi1) (hg1 : ∀ q : Blk, SimG (bcx X scope q) ξ (fun pin => ∃ n, pin = co n vs1) tg1 mg1) (ht1 : ∀ q : Blk, SimTs (bcx X scope q) ξ WF ifs1 mt1)
    (he : ∀ q : Blk, SimE (bcx X scope q) ξ WF elt me) (hsw : swapsWith (.ListComp elt [⟨tg, it, ifs, 0⟩, ⟨tg1, it1, ifs1, 0⟩] scope pos) (some (.Name y py)) spos.line X.env = pure true := by rfl) (hy : X.N[i]? = some y := by rfl) (hyl : X.env.scope.names.lookup y = some .local := by rfl)
    (hs : ∀ x, foldedSetIterable it X.env x = pure x := by intro _; rfl) (hs1 : ∀ env x, foldedSetIterable it1 env x = pure x := by intro _ _; rfl) :
    SimS X ξ W pin (.Assign [.Name y py] (.ListComp elt [⟨tg, it, ifs, 0⟩, ⟨tg1, it1, ifs1, 0⟩] scope pos) spos) (mAsg (mComp2 mi (own.map (·.2)) vs1 mg mt mi1 mg1 mt1 me) (mgName i)) := by
  obtain ⟨wi, p0, s0⟩ := hi
  obtain ⟨g, tt, te, p1, p2, p3, s1, s2, s3⟩ := lc_parts hg ht he
  obtain ⟨wi1, g1, tt1, p4, p5, p6, s4, s5, s6⟩ := lc2_parts (own := own) hi1 hg1 ht1
  exact ⟨_, ps_setLc2 hc hN hy hyl hsw p0 ok hv (fun s H C cl fp => p1 (s, H, C, cl, fp)) (fun s H C cl fp => p2 (s, H, C, cl, fp)) (fun s H C cl fp => p4 (s, H, C, cl, fp)) (fun s H C cl fp => p5 (s, H, C, cl, fp)) (fun s H C cl fp => p6 (s, H, C, cl, fp)) (fun s H C cl fp => p3 (s, H, C, cl, fp)) hs hs1,
    semS_asg (semE_lc2 nv hv s0 s1 s2 s4 s5 s6 s3) (semG_name hip)⟩
end
end Sim

namespace Sim
open PySem PySem.Spec PyProof.Rows L2

section
variable {K : KX} {W : WX} {pin : List Nat} {Z H Z' H' Z1 H1 Z2 H2 : Hp} {σ σ1 : L2.St} {s s1 : Sl} {O Od Oe O1 O2 : List Addr} {d : D} {v : V} {r r' : R2} {f g : D → D → Option D}

/-! ### what is made anew of pure ones -/
def FrD (K : KX) (r : R2) (f : D → D → Option D) : Prop := ∀ Z H dx dy z x y Ox Oy (Q : VK), (∀ b o, Z b = some o → H b = some o) → Rep K Z H dx x Ox → Rep K Z H dy y Oy → f dx dy = some z →
  (∀ v H' Z' Od, Pz Z H H' Z' → Rep K Z' H' z v Od → Od.Nodup → (∀ b ∈ Od, H b = none ∧ Z' b = none) → Q v H') → r x y H Q
def orD (f g : D → D → Option D) (a b : D) : Option D := match f a b with
  | some z => some z
  | none => g a b
theorem OpD.or (h : OpD K r f) (h' : OpD K r' g) : OpD K (fun x y H Q => r x y H Q ∨ r' x y H Q) (orD f g) := fun Z H dx dy z x y Ox Oy Q zh rx ry e k => by
  unfold orD at e
  cases ef : f dx dy with
  | some z' => rw [ef] at e; cases e; exact .inl (h Z H dx dy z x y Ox Oy Q zh rx ry ef k)
  | none => rw [ef] at e; exact .inr (h' Z H dx dy z x y Ox Oy Q zh rx ry e k)
theorem FrD.or (h : FrD K r f) (h' : FrD K r' g) : FrD K (fun x y H Q => r x y H Q ∨ r' x y H Q) (orD f g) := fun Z H dx dy z x y Ox Oy Q zh rx ry e k => by
  unfold orD at e
  cases ef : f dx dy with
  | some z' => rw [ef] at e; cases e; exact .inl (h Z H dx dy z x y Ox Oy Q zh rx ry ef k)
  | none => rw [ef] at e; exact .inr (h' Z H dx dy z x y Ox Oy Q zh rx ry e k)
theorem frD_imm (o : OpD K r f) : FrD K r (only f) := fun Z H dx dy z x y Ox Oy Q zh rx ry e k => by
  unfold only at e
  cases ef : f dx dy with
  | none => rw [ef] at e; cases e
  | some z' =>
    rw [ef] at e
    dsimp only at e
    split at e
    · rename_i hi
      cases e
      refine o Z H dx dy z x y Ox Oy Q zh rx ry ef fun v H' Z' Od p r => ?_
      have eo := r.immO z v Od hi
      subst eo
      exact k v H' Z' [] p r (by simp) (by simp)
    · cases e
theorem frD_cat : FrD K rCat dCat := fun Z H dx dy z x y Ox Oy Q zh rx ry e k => by
  unfold dCat at e
  split at e
  · split at e
    · rename_i xs ys h
      cases e
      obtain ⟨a, vs, O', ev, eo, q, r⟩ := rx
      obtain ⟨b, us, O2, ev2, eo2, q2, r2⟩ := ry
      have e1 := r.immO xs vs O' h.1
      have e2 := r2.immO ys us O2 h.2.1
      subst e1 e2
      refine ⟨a, b, vs, us, ev, ev2, q, q2, by rw [reps_len r, reps_len r2]; exact h.2.2, fun p n => ?_⟩
      have pz := Pz.new zh n (.lst (vs ++ us))
      refine k _ _ _ [p] pz ⟨p, vs ++ us, [], rfl, rfl, upd_same, by simpa using (pz.reps r).append (pz.reps r2)⟩ (by simp) fun b hb => ?_
      have : b = p := by simpa using hb
      subst this
      exact ⟨n, pz_fresh (x := H) zh n⟩
    · cases e
  · cases e
theorem FrD.new2 (h : FrD K r f) : NewD2 K r f := fun Z H dx dy z x y Ox Oy Q zh rx ry nd zo e k =>
  h Z H dx dy z x y Ox Oy Q zh rx ry e fun v H' Z' Od p r n q => k v H' Z' Od p r n (fun b hb => (q b hb).2) fun b hb => .inr (q b hb).1
theorem ovs_nil (ok : Ok K Z H σ s O) : Ovs K Z H O σ [] s [] H Z [] O := ⟨ok, ⟨rfl, rfl⟩, ok.nd, by simp, .refl⟩
theorem ov_fresh (ok : Ok K Z H σ s O) (p : Pz Z H H2 Z2) (r : Rep K Z2 H2 d v Od) (nd : Od.Nodup) (q : ∀ b ∈ Od, H b = none ∧ Z2 b = none) : Ov K Z H O σ d s v H2 Z2 Od O :=
  ov_pz (ovs_nil ok) p r nd (fun b hb => (q b hb).2) fun b hb => .inr (q b hb).1
theorem Pz.fresh (p : Pz Z H H1 Z1) {b : Addr} (h : H1 b = none) : H b = none := by
  cases e : H b with
  | none => rfl
  | some o => rw [p.fr b o e] at h; cases h
theorem semE_fr {ta tb : TE} {ma mb : Sl → Option D} (o : FrD K r f) (ha : SemP K ta ma) (hb : SemP K tb mb) : SemE K W (tOp r ta tb) (mNew2 f ma mb) := fun σ H Z O s Q ok w => by
  unfold mNew2 at w
  cases ea : ma s with
  | none => rw [ea] at w; exact w.elim
  | some x =>
    cases eb : mb s with
    | none => rw [ea, eb] at w; exact w.elim
    | some y =>
      rw [ea, eb] at w
      dsimp only at w
      cases ef : f x y with
      | none => rw [ef] at w; exact w.elim
      | some z =>
        rw [ef] at w
        dsimp only at w
        refine ha σ H Z O s _ ok x ea fun v H1 Z1 O1 p1 r1 => ?_
        refine hb σ H1 Z1 O s _ (ok.pz p1) y eb fun u H2 Z2 O2 p2 r2 => ?_
        have p12 := p1.trans p2
        refine o Z2 H2 x y z v u O1 O2 Q p12.zh (p2.rep r1) r2 ef fun v' H3 Z3 Od p3 r3 nd q => ?_
        exact w v' H3 Z3 Od O (ov_fresh ok (p12.trans p3) r3 nd fun b hb => ⟨p12.fresh (q b hb).1, (q b hb).2⟩)
/-! ### + -/
def rStrC : R2 := fun x y H Q => ∃ i j, x = .str i ∧ y = .str j ∧ i.length + j.length ≤ sizeLine ∧ Q (.str (i ++ j)) H
def dStrC (a b : D) : Option D := match a, b with
  | .str x, .str y => if x.length + y.length ≤ sizeLine then some (.str (x ++ y)) else none
  | _, _ => none
theorem opD_strC : OpD K rStrC dStrC := fun Z H dx dy z x y Ox Oy Q zh rx ry e k => by
  unfold dStrC at e
  split at e
  · split at e
    · rename_i hl
      cases e
      exact ⟨_, _, rx.1, ry.1, hl, k _ H Z [] (.refl zh) ⟨rfl, rfl⟩⟩
    · cases e
  · cases e
def dTupC (a b : D) : Option D := match a, b with
  | .tup xs, .tup ys => if xs.length + ys.length ≤ sizeLine then some (.tup (xs ++ ys)) else none
  | _, _ => none
theorem opD_tupC : OpD K (rCatN K.f) dTupC := fun Z H dx dy z x y Ox Oy Q zh rx ry e k => by
  unfold dTupC at e
  split at e
  · split at e
    · rename_i xs ys hl
      cases e
      obtain ⟨a, vs, ev, q, r⟩ := rx
      obtain ⟨b, us, ev2, q2, r2⟩ := ry
      have l1 := reps_len r
      have l2 := reps_len r2
      refine ⟨a, b, vs, us, ev, ev2, sqT_mono zh q.1, sqT_mono zh q2.1, by omega, fun e => ?_, fun _ e => ?_, fun _ _ p ar n => ?_⟩
      · have : xs = [] := List.length_eq_zero_iff.mp (by rw [← l1, e]; rfl)
        subst this
        exact k _ H Z Oy (.refl zh) ⟨b, us, rfl, q2, r2⟩
      · have : ys = [] := List.length_eq_zero_iff.mp (by rw [← l2, e]; rfl)
        subst this
        rw [List.append_nil] at k
        exact k _ H Z Ox (.refl zh) ⟨a, vs, rfl, q, r⟩
      · have pz := Pz.newZ zh n (fzT ar (vs ++ us))
        exact k _ _ _ (Ox ++ Oy) pz ⟨p, vs ++ us, rfl, sqN_new, (pz.reps r).append (pz.reps r2)⟩
    · cases e
  · cases e
def rPl (K : PySem.W.Frag) : R2 := fun x y H Q => rI0 (fun i j => .int (i + j)) x y H Q ∨ (rStrC x y H Q ∨ rCatN K x y H Q)
def rPlE (K : PySem.W.Frag) : R2 := fun x y H Q => rPl K x y H Q ∨ rCat x y H Q
def dPl : D → D → Option D := orD dAdd (orD dStrC dTupC)
def dPlE : D → D → Option D := orD (only dPl) dCat
theorem op_pl {X : Cx} : OpR X (binaryOp .Add) (rPl X.K) := op_add.or (op_add_str.or op_catN)
theorem op_plE {X : Cx} : OpR X (binaryOp .Add) (rPlE X.K) := op_pl.or op_cat
theorem opD_pl : OpD K (rPl K.f) dPl := opD_add.or (opD_strC.or opD_tupC)
theorem frD_pl : FrD K (rPlE K.f) dPlE := (frD_imm opD_pl).or frD_cat
/-! ### slices -/
def FrSl (K : KX) (r : V → Option Int → Option Int → Hp → VK → Prop) (f : D → Option Int → Option Int → Option D) : Prop := ∀ Z H dx z x Ox lo hi (Q : VK), (∀ b o, Z b = some o → H b = some o) → Rep K Z H dx x Ox → f dx lo hi = some z →
  (∀ v H' Z' Od, Pz Z H H' Z' → Rep K Z' H' z v Od → Od.Nodup → (∀ b ∈ Od, H b = none ∧ Z' b = none) → Q v H') → r x lo hi H Q
def rSlD (K : PySem.W.Frag) : V → Option Int → Option Int → Hp → VK → Prop := fun x lo hi H Q => rSlL K x lo hi H Q ∨ (rSlN K x lo hi H Q ∨ rSlS x lo hi H Q)
theorem sl_all' {X : Cx} : SlR X (rSlD X.K) := sl_list.or (sl_tupN.or sl_str)
def dSl (a : D) (lo hi : Option Int) : Option D := match a with
  | .lst ds => if imms ds = true then some (.lst (cutD ds lo hi)) else none
  | .fls ds => if imms ds = true then some (.lst (cutD ds lo hi)) else none
  | .tup ds => if imms ds = true then some (.tup (cutD ds lo hi)) else none
  | .str x => if x.length ≤ sizeLine then some (.str (cutS x lo hi)) else none
  | _ => none
theorem reps_cut {ds : List D} {vs : List V} (lo hi : Option Int) (r : Reps K Z H ds vs []) : Reps K Z H (cutD ds lo hi) (cutV vs lo hi) [] := by
  unfold cutV cutD
  rw [reps_len r]
  exact (r.drop _).take _
theorem slL_of {ds : List D} {x : V} {lo hi : Option Int} {Q : VK} (zh : ∀ b o, Z b = some o → H b = some o) (rx : Rep K Z H (.lst ds) x O ∨ Rep K Z H (.fls ds) x O) (him : imms ds = true)
    (k : ∀ v H' Z' Od, Pz Z H H' Z' → Rep K Z' H' (.lst (cutD ds lo hi)) v Od → Od.Nodup → (∀ b ∈ Od, H b = none ∧ Z' b = none) → Q v H') : rSlL K.f x lo hi H Q := by
  obtain ⟨a, vs, O', ev, q, r⟩ := rep_seqL zh rx
  have eo := r.immO ds vs O' him
  subst eo
  refine ⟨a, vs, ev, q, fun p n => ?_⟩
  have pn := Pz.new zh n (.lst (cutV vs lo hi))
  refine k _ _ Z [p] pn ⟨p, cutV vs lo hi, [], rfl, rfl, upd_same, reps_cut lo hi (pn.reps r)⟩ (by simp) fun b hb => ?_
  have : b = p := by simpa using hb
  subst this
  exact ⟨n, pz_fresh (x := H) zh n⟩
theorem frSl_all : FrSl K (rSlD K.f) dSl := fun Z H dx z x Ox lo hi Q zh rx e k => by
  unfold dSl at e
  split at e
  · split at e
    · rename_i him
      cases e
      exact .inl (slL_of zh (.inl rx) him k)
    · cases e
  · split at e
    · rename_i him
      cases e
      exact .inl (slL_of zh (.inr rx) him k)
    · cases e
  · split at e
    · rename_i ds him
      cases e
      obtain ⟨a, vs, ev, q, r⟩ := rx
      have eo := r.immO ds vs Ox him
      subst eo
      refine .inr (.inl ⟨a, vs, ev, sqT_mono zh q.1, fun hw => ?_, fun hw p ar n => ?_⟩)
      · have ec : cutD ds lo hi = ds := by
          unfold cutD
          rw [← reps_len r, hw.1, hw.2, List.drop_zero, Nat.sub_zero, reps_len r, List.take_length]
        rw [ec] at k
        exact k _ H Z [] (.refl zh) ⟨a, vs, rfl, q, r⟩ (by simp) (by simp)
      · have pn := Pz.newZ zh n (fzT ar (cutV vs lo hi))
        exact k _ _ _ [] pn ⟨p, cutV vs lo hi, rfl, sqN_new, reps_cut lo hi (pn.reps r)⟩ (by simp) (by simp)
    · cases e
  · split at e
    · rename_i y hl
      cases e
      exact .inr (.inr ⟨_, rx.1, hl, k _ H Z [] (.refl zh) ⟨rfl, rfl⟩ (by simp) (by simp)⟩)
    · cases e
  · cases e
def mSl (m : Sl → Option D) (ml mh : Sl → Option (Option Int)) (s : Sl) : R D := match m s, ml s, mh s with
  | some x, some lo, some hi => match dSl x lo hi with
    | some z => .ok z s
    | none => .stuck
  | _, _, _ => .stuck
theorem semE_sl {t : TE} {tl th : TO} {m : Sl → Option D} {ml mh : Sl → Option (Option Int)} (h : SemP K t m) (hl : SemO K tl ml) (hh : SemO K th mh) : SemE K W (tSl (rSlD K.f) t tl th) (mSl m ml mh) := fun σ H Z O s Q ok w => by
  have key : ∃ x lo hi z, m s = some x ∧ ml s = some lo ∧ mh s = some hi ∧ dSl x lo hi = some z ∧ mSl m ml mh s = .ok z s := by
    unfold mSl at w ⊢
    split at w
    · rename_i x lo hi e1 e2 e3
      cases ez : dSl x lo hi with
      | none => rw [ez] at w; exact w.elim
      | some z => exact ⟨x, lo, hi, z, e1, e2, e3, ez, by simp only [ez]⟩
    · exact w.elim
  obtain ⟨x, lo, hi, z, e1, e2, e3, ez, ew⟩ := key
  rw [ew] at w
  refine h σ H Z O s _ ok x e1 fun v H1 Z1 Oa p1 r1 => ?_
  refine hl σ H1 Z1 O s _ (ok.pz p1) lo e2 fun H2 Z2 p2 => ?_
  refine hh σ H2 Z2 O s _ (ok.pz (p1.trans p2)) hi e3 fun H3 Z3 p3 => ?_
  have p := p1.trans (p2.trans p3)
  exact frSl_all Z3 H3 x z v Oa lo hi Q p.zh ((p2.trans p3).rep r1) ez fun v' H4 Z4 Od p4 r4 nd q => w v' H4 Z4 Od O (ov_fresh ok (p.trans p4) r4 nd fun b hb => ⟨p.fresh (q b hb).1, (q b hb).2⟩)
end
section
variable {X : Cx} {ξ : Option (V × Option Addr)} {W : WX} {a b : Expr} {pos : Pos} {ma mb : Sl → Option D} {na nb : Sl → R D}
theorem sP_plus (ha : SimP X ξ a ma) (hb : SimP X ξ b mb) : SimP X ξ (.BinOp a .Add b pos) (two dPl ma mb) := sP_bin op_pl opD_pl ha hb
theorem sE_plus (ha : SimE X ξ W a na) (hb : SimE X ξ W b nb) : SimE X ξ W (.BinOp a .Add b pos) (m2 dPlE na nb) := sE_bin op_plE frD_pl.new2 ha hb
theorem sE_plusP (ha : SimP X ξ a ma) (hb : SimP X ξ b mb) : SimE X ξ W (.BinOp a .Add b pos) (mNew2 dPlE ma mb) := by
  obtain ⟨ta, pa, sa⟩ := ha
  obtain ⟨tb, pb, sb⟩ := hb
  exact ⟨_, pe_op op_plE pa pb, semE_fr frD_pl sa sb⟩
theorem sE_sl {lo hi : Option Expr} {ml mh : Sl → Option (Option Int)} {p2 : Pos} (h : SimP X ξ a ma) (hl : SimO X ξ lo ml) (hh : SimO X ξ hi mh) : SimE X ξ W (.Subscript a (.Slice lo hi none p2) pos) (mSl ma ml mh) := by
  obtain ⟨t, p1, s1⟩ := h
  obtain ⟨tl, p2, s2⟩ := hl
  obtain ⟨th, p3, s3⟩ := hh
  exact ⟨_, pe_slice sl_all' p1 p2 p3, semE_sl s1 s2 s3⟩
end
end Sim

namespace Sim
open PySem PySem.Spec PyProof.Rows L2

/-! ### short words for generated texts -/
def vP (i : Nat) (s : Sl) : Option D := s[i]?.join
def cP (d : D) (_ : Sl) : Option D := some d
def nilP (_ : Sl) : Option (List D) := some []
def nilA (s : Sl) : R (List D) := .ok [] s
def yesT (s : Sl) : R Bool := .ok true s
def noO (_ : Sl) : Option (Option Int) := some none
def ppN (_ : Sl) : Option (List (Key × D)) := some []
def chT (m : Sl → Option D) (s : Sl) : Option Bool := (m s).bind asB
def trT (m : Sl → Option D) (s : Sl) : Option Bool := (m s).bind truB
theorem co_not {n i : Nat} {vs : List Nat} (h : i ∈ vs) : i ∉ co n vs := fun m => by
  unfold co at m
  rw [List.mem_filter] at m
  simp [h] at m
theorem pin_eq {i : Nat} {pin : List Nat} (h : i ∉ pin) : ∀ p, p = pin → i ∉ p := fun p e => by rw [e]; exact h
theorem pin_co {i : Nat} {vs : List Nat} (h : i ∈ vs) : ∀ p, (∃ n, p = co n vs) → i ∉ p := fun p ⟨n, e⟩ => by rw [e]; exact co_not h
section
variable {X : Cx} {ξ : Option (V × Option Addr)} {W : WX} {pin : List Nat} {a b e : Expr} {pos : Pos} {ma mb : Sl → Option D} {na nb : Sl → R D} {x : Str}
theorem sG_setL (i : Nat) {Pn : List Nat → Prop} {p0 : Pos} (hk : SimP X ξ a ma) (hN : X.N[i]? = some x := by rfl) (hv : Vis X.env.scope x := by first | exact Or.inl rfl | exact Or.inr (Or.inl rfl) | exact Or.inr (Or.inr rfl)) (hd : (x == ("__debug__" : Str)) = false := by decide)
    (hcd : (x == ("__classdict__" : Str)) = false := by decide)
    (ha : ∀ v, assign (.Subscript (.Name x p0) a pos) X.env v = (do
      let ov ← holding [v] (eval (.Name x p0) X.env)
      let iv ← holding [v, ov] (eval a X.env)
      standAt pos
      holding [v, ov, iv] (setItem ov iv v)
      release [v, ov, iv] []) := by intro _; rfl) : SimG X ξ Pn (.Subscript (.Name x p0) a pos) (mgSetL i ma) := hk.elim fun t q => ⟨_, pg_sub (pe_var hN hv hd hcd) q.1 set_list ha, fun pin _ => semG_setL q.2⟩
def dIaI (g : Int → Int → Int) (a b : D) : Option D := match a, b with
  | .int i, .int j => some (.int (g i j))
  | _, _ => none
theorem ipD_I {K : KX} {g : Int → Int → Int} : IpD K (ipI g) (dIaI g) := fun Z H dx dy z x y Ox Oy Q zh rx ry e k => by
  unfold dIaI at e
  split at e
  · cases e
    exact ⟨_, _, rx.1, ry.1, k _ ⟨rfl, rfl⟩⟩
  · cases e
end
/-- an error class of the text's own, below ValueError -/
structure Cls (K : PySem.W.Frag) (mg : Str → Option Value) (y : Str) (C : Addr) : Prop where
  ns : PySem.W.nsIn K mainGlobals y = some (some (.ref C))
  gl : mg y = some (.ref C)
  kp : PySem.W.keepIn K (.ref C) = true
  ex : PySem.W.excIn K C [.type "ValueError", .type "Exception", .type "BaseException", .type "object"] "ValueError.__new__" = true
  sb : PySem.W.subIn K (.ref C) (.type "BaseException") = some true
  ty : PySem.W.typeIn K (.ref C) = some (.type "type")
section
variable {X : Cx} {W : WX} {pin : List Nat} {pos : Pos}
theorem raise_of {C : Addr} {y msg : Str} {k : String} {j : Nat} {p0 p2 pc : Pos} (c : Cls X.K X.mg y C) (hc : X.calm = true) (tk : Takes X W) (hk : Str.ofString k = y) (hg : Gl X y) (hdb : (y == ("__debug__" : Str)) = false := by decide) : SimS X none W pin (.Raise (some (.Call (.Name y p0) [.Constant (.str msg) j p2] [] pc)) none pos) (mRaise k) :=
  sS_raise k hc tk hk c.ns (pmk_own PySem.F.excBase_ValueError c.ex c.gl c.kp (raises_own c.sb c.ty) hg hdb)
end
theorem units_of {k : Nat} {A : Around} (r : Room k A) : A.units + 200 < cLine := by
  have := r.un
  omega
end Sim

namespace Sim
open PySem PySem.Spec PyProof.Rows L2

theorem un64 {n : Nat} (h : n + 200 < cLine) : n + 64 < cLine := by omega
theorem un65 {n : Nat} (h : n + 200 < cLine) : n + 65 < cLine := by omega
theorem un66 {n : Nat} (h : n + 200 < cLine) : n + 66 < cLine := by omega
theorem un1 {n : Nat} (h : n + 200 < cLine) : n + 1 < cLine := by omega

/-! ### isinstance of what a suite holds -/
def dIsI (ns : List String) (sub : String → Option Bool) (ds : List D) : Option D := match ds with
  | [x, .tup cs] => if cs.all (tyNames ns) = true then dIsX sub [x, .tup cs] else none
  | [x, c] => if tyNames ns c = true then dIsX sub [x, c] else none
  | _ => none
def isP (i : Nat) (f : List D → Option D) (ms : Sl → Option (List D)) (s : Sl) : Option D := match s[i]?.join with
  | some (.exn []) => (ms s).bind f
  | _ => none
section
variable {X : Cx} {a D : Addr} {oe : Obj} {dd : Option Addr} {pn : List (Addr × Obj)} {e : Expr} {es : List Expr} {p pos : Pos} {sub : String → Option Bool} {ns : List String} {ms : Sl → Option (List Sim.D)}
theorem sP_is (i : Nat) (hz : Zc (.ref D) dd oe) (hf : ∃ vs, oe.data = .fields vs) (EC : ExcC X.K D) (sk : SubOk X.K D sub) (hn : ∀ k ∈ ns, PySem.W.nsIn X.K mainGlobals (Str.ofString k) = some none) (hg : Gl (X.suite a ((a, oe) :: pn)) "isinstance") (hm : X.mg "isinstance" = none)
    (ha : SimPA (X.suite a ((a, oe) :: pn)) (some (.ref a, dd)) (e :: es) ms) (he : starEach (e :: es) (X.suite a ((a, oe) :: pn)).env = (false, eval e (X.suite a ((a, oe) :: pn)).env) :: starEach es (X.suite a ((a, oe) :: pn)).env := by rfl)
    (hpl : (backTo pos (starEach es (X.suite a ((a, oe) :: pn)).env)).any (·.1) = false := by rfl) : SimP (X.suite a ((a, oe) :: pn)) (some (.ref a, dd)) (.Call (.Name "isinstance" p) (e :: es) [] pos) (isP i (dIsI ns sub) ms) := by
  cases dd with
  | none =>
    have base := sP_callB (X := X.suite a ((a, oe) :: pn)) (ξ := some (.ref a, none)) (pos := pos) (p := p) (call_isX EC hz hf) (caD_isX (f := X.K) (a := a) (dd := none) (ns := ns) sk hn) PyProof.Rows.boot_isinstance hg hm ha (by decide) (by decide) he hpl
    obtain ⟨t, q, sm⟩ := base
    refine ⟨t, q, fun σ H Z O s Q ok d ed k => ?_⟩
    unfold isP at ed
    split at ed
    · exact sm σ H Z O s Q ok d ed k
    · cases ed
  | some d0 =>
    refine ⟨fun _ _ _ => False, ⟨fun _ _ _ _ _ _ h => h.elim⟩, fun σ H Z O s Q ok d ed k => ?_⟩
    unfold isP at ed
    split at ed
    · rename_i hi
      obtain ⟨v, A, O1, B, q, eo, r, _⟩ := ok.rep.get (join_some hi)
      obtain ⟨dd', e1, _, h⟩ := r
      have e2 : some d0 = dd' := (Prod.mk.inj (Option.some.inj e1)).2
      subst e2
      rcases h with ⟨_, h⟩ | ⟨_, _, ⟨h, _⟩, _⟩
      · cases h
      · exact h rfl
    · cases ed
end
/-- what is caught by the class called y, by a table of the classes -/
def Catches (K : PySem.W.Frag) (tab : String → String → Option Bool) (y : String) (C : Addr) : Prop := ∀ c b, tab c y = some b → ∀ D, PySem.W.nsIn K mainGlobals (Str.ofString c) = some (some (.ref D)) → PySem.W.exmOne K (.ref D) (.ref C) = some b
def Below (K : PySem.W.Frag) (tab : String → String → Option Bool) (y : String) : Prop := ∀ c, tab c y = some true → ∀ D, PySem.W.nsIn K mainGlobals (Str.ofString c) = some (some (.ref D)) → ExcC K D ∧ SubOk K D (tab c)
def tabOf (l : List (String × List (String × Bool))) (c k : String) : Option Bool := (l.lookup c).bind fun r => r.lookup k
end Sim

namespace Sim
open PySem PySem.Spec PyProof.Rows L2

/-! ### tables of classes -/
theorem lookup_mem {α : Type} {k : String} {b : α} : ∀ {l : List (String × α)}, l.lookup k = some b → (k, b) ∈ l
  | [], h => by cases h
  | (k', b') :: l, h => by
    unfold List.lookup at h
    split at h
    · rename_i e
      cases h
      have : k = k' := by simpa using e
      rw [this]; simp
    · exact List.mem_cons_of_mem _ (lookup_mem h)
theorem tabOf_some {l : List (String × List (String × Bool))} {c k : String} {b : Bool} (h : tabOf l c k = some b) : ∃ r, l.lookup c = some r ∧ r.lookup k = some b := Option.bind_eq_some_iff.mp h
theorem catches_of {K : PySem.W.Frag} {l : List (String × List (String × Bool))} {y : String} {C : Addr} (h : ∀ p ∈ l, ∀ b, p.2.lookup y = some b → ∃ D, PySem.W.nsIn K mainGlobals (Str.ofString p.1) = some (some (.ref D)) ∧ PySem.W.exmOne K (.ref D) (.ref C) = some b) : Catches K (tabOf l) y C := fun c b e D hD => by
  obtain ⟨r, e1, e2⟩ := tabOf_some e
  obtain ⟨D', h1, h2⟩ := h (c, r) (lookup_mem e1) b e2
  have z := hD.symm.trans h1
  cases z
  exact h2
def KOk (K : PySem.W.Frag) (D : Addr) (q : String × Bool) : Prop :=
  (∃ C, PySem.W.nsIn K mainGlobals (Str.ofString q.1) = some (some (.ref C)) ∧ PySem.W.kitOne K (.ref D) (.ref C) = some q.2) ∨ (PySem.W.nsIn K mainGlobals (Str.ofString q.1) = some none ∧ PySem.W.kitOne K (.ref D) (.type q.1) = some q.2)
theorem below_of {K : PySem.W.Frag} {l : List (String × List (String × Bool))} {y : String} (h : ∀ p ∈ l, p.2.lookup y = some true → ∃ D, PySem.W.nsIn K mainGlobals (Str.ofString p.1) = some (some (.ref D)) ∧ ExcC K D ∧ ∀ q ∈ p.2, KOk K D q) : Below K (tabOf l) y := fun c e D hD => by
  obtain ⟨r, e1, e2⟩ := tabOf_some e
  obtain ⟨D', h1, h2, h3⟩ := h (c, r) (lookup_mem e1) e2
  have z := hD.symm.trans h1
  cases z
  refine ⟨h2, fun k b ek C hC => ?_, fun k b ek hk => ?_⟩
  · obtain ⟨r', e1', e2'⟩ := tabOf_some ek
    rw [e1] at e1'
    cases e1'
    rcases h3 _ (lookup_mem e2') with ⟨C', g1, g2⟩ | ⟨g1, g2⟩
    · have z := hC.symm.trans g1
      cases z
      exact g2
    · have z := hC.symm.trans g1
      cases z
  · obtain ⟨r', e1', e2'⟩ := tabOf_some ek
    rw [e1] at e1'
    cases e1'
    rcases h3 _ (lookup_mem e2') with ⟨C', g1, g2⟩ | ⟨g1, g2⟩
    · have z := hk.symm.trans g1
      cases z
    · exact g2
section
variable {K : PySem.W.Frag} {C D : Addr} {b : Bool} {T : String}
theorem cls_of (i : PySem.W.isClsIn K C = true) (ty : PySem.W.typeIn K (.ref C) = some (.type "type")) {t : Value} (su : PySem.W.subIn K t (.ref C) = some b) : PySem.W.kitCls K t (.ref C) = some b := by
  have i' : (PySem.W.clsIn K C).isSome = true := i
  have e2 : ((PySem.W.clsIn K C).isSome && PySem.W.typeIn K (.ref C) == some (.type "type")) = true := by rw [i', ty]; rfl
  show (if ((PySem.W.clsIn K C).isSome && PySem.W.typeIn K (.ref C) == some (.type "type")) = true then _ else none) = _
  rw [if_pos e2]
  exact su
theorem exm_of (i : PySem.W.isClsIn K C = true) (ty : PySem.W.typeIn K (.ref C) = some (.type "type")) (sb : PySem.W.subIn K (.ref C) (.type "BaseException") = some true) (su : PySem.W.subIn K (.ref D) (.ref C) = some b) : PySem.W.exmOne K (.ref D) (.ref C) = some b := by
  unfold PySem.W.exmOne
  rw [sb]
  exact cls_of i ty su
theorem kit_ref (i : PySem.W.isClsIn K C = true) (ty : PySem.W.typeIn K (.ref C) = some (.type "type")) (su0 : PySem.W.subIn K (.ref C) (.ref C) = some true) (su : PySem.W.subIn K (.ref D) (.ref C) = some b) : PySem.W.kitOne K (.ref D) (.ref C) = some b := by
  unfold PySem.W.kitOne
  by_cases h : (Value.ref D == Value.ref C) = true
  · rw [if_pos h]
    have e : D = C := by simpa using h
    subst e
    rw [su0] at su
    exact su
  · rw [if_neg h]
    exact cls_of i ty su
theorem kit_typ (hm : PySem.W.kitMeta T = true) (su : PySem.W.subIn K (.ref D) (.type T) = some b) : PySem.W.kitOne K (.ref D) (.type T) = some b := by
  unfold PySem.W.kitOne
  rw [if_neg (by intro h; cases (show (Value.ref D == Value.type T) = false from rfl).symm.trans h)]
  show (if PySem.W.kitMeta T = true then _ else none) = _
  rw [if_pos hm]
  exact su
end
/-! ### the end -/
theorem law_want {n : Nat} {mf : List D → RF} (h : ∀ ns : List Int, ns.length ≤ n → ∃ outs, mf [.fls (ns.map D.int)] = .ok (.bl true) outs) (K : PySem.W.Frag) (H : Hp) (a : Addr) (ns : List Int) (hl : ns.length ≤ n) (_ : Only H) (hS : SqL K H a (ns.map V.int)) :
    SpM K 1 [] mf [.ref a] H (fun v _ => v = .bl true) fun _ _ _ => False := by
  obtain ⟨outs, e⟩ := h ns hl
  have allI : ∀ l : List Int, Reps ⟨K, none⟩ H H (l.map D.int) (l.map V.int) [] := fun l => by
    induction l with
    | nil => exact ⟨rfl, rfl⟩
    | cons i l ih => exact ⟨.int i, l.map V.int, [], [], rfl, rfl, ⟨rfl, rfl⟩, ih⟩
  refine ⟨H, [], [.fls (ns.map D.int)], ⟨fun _ _ h => h, ⟨.ref a, [], [], [], rfl, rfl, ⟨a, ns.map V.int, rfl, rfl, hS, allI ns⟩, rfl, rfl⟩, List.nodup_nil, by simp, rfl⟩, ?_⟩
  rw [e]
  exact fun v H' Z' Od Oo o => o.rep.1
end Sim

namespace Sim
open PySem PySem.Spec PyProof.Rows L2

/-! ### what a mirror gives -/
/-- behind one turn: the next one's wish I, or P of the whole -/
def Turn (I : Sl → Prop) (P : RS → Prop) : RS → Prop
  | .nx s => I s
  | .cont s => I s
  | .brk s => P (.nx s)
  | .ret d s => P (.ret d s)
  | .exc c fs s => P (.exc c fs s)
  | .stuck => False
theorem loop_post {g : D → Sl → Option Sl} {body : Sl → RS} {P : RS → Prop} (I : Nat → Sl → Prop) : ∀ {ds : List D} {s : Sl} (k : Nat), (∀ i d s, ds[i]? = some d → I (k + i) s → ∃ s1, g d s = some s1 ∧ Turn (I (k + i + 1)) P (body s1)) → (∀ s, I (k + ds.length) s → P (.nx s)) → I k s → P (mLoop g body ds s)
  | [], s, k, st, fin, h => fin s h
  | d :: ds, s, k, st, fin, h => by
    obtain ⟨s1, e, t⟩ := st 0 d s rfl h
    unfold mLoop
    rw [e]
    dsimp only
    have st' : ∀ i d s, ds[i]? = some d → I (k + 1 + i) s → ∃ s1, g d s = some s1 ∧ Turn (I (k + 1 + i + 1)) P (body s1) := fun i d s q hi => by
      have := st (i + 1) d s (by simpa using q) (by rw [show k + (i + 1) = k + 1 + i by omega]; exact hi)
      rw [show k + (i + 1) = k + 1 + i by omega] at this
      exact this
    have fin' : ∀ s, I (k + 1 + ds.length) s → P (.nx s) := fun s h => fin s (by rw [List.length_cons, show k + (ds.length + 1) = k + 1 + ds.length by omega]; exact h)
    cases eb : body s1 with
    | nx s2 => rw [eb] at t; exact loop_post I (k + 1) st' fin' t
    | cont s2 => rw [eb] at t; exact loop_post I (k + 1) st' fin' t
    | brk s2 => rw [eb] at t; exact t
    | ret d s2 => rw [eb] at t; exact t
    | exc c fs s2 => rw [eb] at t; exact t
    | stuck => rw [eb] at t; exact t.elim
theorem loop_list {g : D → Sl → Option Sl} {body : Sl → RS} {P : RS → Prop} {ds : List D} {s : Sl} (I : Nat → Sl → Prop) (st : ∀ i d s, ds[i]? = some d → I i s → ∃ s1, g d s = some s1 ∧ Turn (I (i + 1)) P (body s1)) (fin : ∀ s, I ds.length s → P (.nx s)) (h : I 0 s) : P (mLoop g body ds s) :=
  loop_post I 0 (fun i d s q hi => by rw [Nat.zero_add] at hi ⊢; exact st i d s q hi) (fun s h => fin s (by simpa using h)) h
theorem rangeD_get {lo : Int} {n i : Nat} {d : D} (h : (rangeD lo n)[i]? = some d) : i < n ∧ d = .int (lo + i) := by
  unfold rangeD at h
  rw [List.getElem?_map] at h
  cases e : (List.range n)[i]? with
  | none => rw [e] at h; cases h
  | some j =>
    rw [e] at h
    cases h
    obtain ⟨h1, h2⟩ := List.getElem?_eq_some_iff.mp e
    rw [List.getElem_range] at h2
    subst h2
    exact ⟨by simpa using h1, rfl⟩
theorem loop_range {g : D → Sl → Option Sl} {body : Sl → RS} {P : RS → Prop} {lo : Int} {n : Nat} {s : Sl} (I : Nat → Sl → Prop) (st : ∀ i s, i < n → I i s → ∃ s1, g (.int (lo + i)) s = some s1 ∧ Turn (I (i + 1)) P (body s1)) (fin : ∀ s, I n s → P (.nx s)) (h : I 0 s) : P (mLoop g body (rangeD lo n) s) :=
  loop_list I (fun i d s q hi => by
    obtain ⟨h1, rfl⟩ := rangeD_get q
    exact st i s h1 hi) (fun s h => fin s (by simpa [rangeD] using h)) h
theorem dEq_int (a b : Int) : dEq (.int a) (.int b) = some (.bl (decide (a = b))) := by
  have h : dEqB (.int a) (.int b) = some (decide (a = b)) := by
    unfold dEqB toP
    dsimp only
    rw [if_pos (by rfl)]
    congr 1
  unfold dEq
  rw [h]; rfl
theorem mFor_range1 {a : Sl → R D} {g : D → Sl → Option Sl} {body : Sl → RS} {s s1 : Sl} {n : Int} (h : a s = .ok (.int n) s1) (hb : n.natAbs < 2 ^ 60) : mFor (mRange (mCons a nilA)) g body s = mLoop g body (rangeD 0 n.toNat) s1 := by
  unfold mFor mRange mCons nilA
  rw [h]
  show (match (match rngOf [.int n] with | some l => R.ok l s1 | none => .stuck) with | .ok ds s1 => mLoop g body ds s1 | .exc c fs s1 => .exc c fs s1 | .stuck => .stuck) = _
  have e : rngOf [.int n] = some (rangeD 0 n.toNat) := by
    unfold rngOf rng1
    exact if_pos hb
  rw [e]
theorem mFor_rangeC {g : D → Sl → Option Sl} {body : Sl → RS} {s : Sl} {n : Int} (hb : n.natAbs < 2 ^ 60) : mFor (mRange (mCons (ofP (cP (.int n))) nilA)) g body s = mLoop g body (rangeD 0 n.toNat) s := mFor_range1 (a := ofP (cP (.int n))) (s1 := s) (n := n) rfl hb
theorem mFor_range2 {a b : Sl → R D} {g : D → Sl → Option Sl} {body : Sl → RS} {s s1 s2 : Sl} {i j : Int} (h : a s = .ok (.int i) s1) (h2 : b s1 = .ok (.int j) s2) (hb : i.natAbs < 2 ^ 60 ∧ j.natAbs < 2 ^ 60) : mFor (mRange (mCons a (mCons b nilA))) g body s = mLoop g body (rangeD i (j - i).toNat) s2 := by
  unfold mFor mRange mCons nilA
  rw [h]
  dsimp only [R.bind]
  rw [h2]
  show (match (match rngOf [.int i, .int j] with | some l => R.ok l s2 | none => .stuck) with | .ok ds s1 => mLoop g body ds s1 | .exc c fs s1 => .exc c fs s1 | .stuck => .stuck) = _
  have e : rngOf [.int i, .int j] = some (rangeD i (j - i).toNat) := by
    unfold rngOf rng2
    exact if_pos hb
  rw [e]
theorem mFor_items {a : Sl → R D} {g : D → Sl → Option Sl} {body : Sl → RS} {s s1 : Sl} {d : D} {ds : List D} (h : a s = .ok d s1) (hi : itemsOf (frz d) = some ds) : mFor (mItems a) g body s = mLoop g body ds s1 := by
  unfold mFor mItems
  rw [h]
  dsimp only [R.bind]
  rw [hi]
theorem frzs_int (xs : List Int) : frzs (xs.map D.int) = xs.map D.int := by
  induction xs with
  | nil => rfl
  | cons x xs ih => simp [frzs, frz, ih]
theorem imms_int (xs : List Int) : imms (xs.map D.int) = true := by
  induction xs with
  | nil => rfl
  | cons x xs ih => simp [imms, imm, ih]
theorem cutD_int (xs : List Int) (lo hi : Option Int) : ∃ ys : List Int, ys.length ≤ xs.length ∧ cutD (xs.map D.int) lo hi = ys.map D.int := by
  unfold cutD
  refine ⟨(xs.drop (HT.sIx (xs.map D.int).length 0 lo)).take (HT.sIx (xs.map D.int).length (xs.map D.int).length hi - HT.sIx (xs.map D.int).length 0 lo), ?_, by rw [List.map_take, List.map_drop]⟩
  rw [List.length_take, List.length_drop]
  omega
end Sim

namespace Sim
open PySem PySem.Spec PyProof.Rows L2

/-! ### what is not read (never to be come to) -/
def stkE (_ : Sl) : R D := .stuck
def stkS (_ : Sl) : RS := .stuck
section
variable {X : Cx} {ξ : Option (V × Option Addr)} {W : WX} {pin : List Nat} {e : Expr} {st : Stmt} {sts : List Stmt}
theorem sE_stk : SimE X ξ W e stkE := ⟨fun _ _ _ => False, ⟨fun _ _ _ _ _ _ h => h.elim⟩, fun _ _ _ _ _ _ _ w => w.elim⟩
theorem sS_stk : SimS X ξ W pin st stkS := ⟨fun _ _ _ => False, ⟨fun _ _ _ _ _ _ h => h.elim⟩, fun _ _ _ _ _ _ _ w => w.elim⟩
theorem sSs_stk : SimSs X ξ W pin sts stkS := ⟨fun _ _ _ => False, ⟨fun _ _ _ _ _ _ h => h.elim⟩, fun _ _ _ _ _ _ _ w => w.elim⟩
end

/-! ### is None, is not None -/
def isNonD : D → Bool
  | .non => true
  | _ => false
def dIsN (a b : D) : Option D := match a, b with
  | .exn _, _ => none
  | a, .non => some (.bl (isNonD a))
  | _, _ => none
def dNotN (a b : D) : Option D := match a, b with
  | .exn _, _ => none
  | a, .non => some (.bl (!isNonD a))
  | _, _ => none
section
variable {K : KX} {Z H : Hp}
theorem rep_isNon {d : D} {v : V} {O : List Addr} (r : Rep K Z H d v O) (h : ∀ fs, d ≠ .exn fs) : decide (v = .non) = isNonD d := by
  cases d with
  | non => rw [r.1]; rfl
  | bl b => rw [r.1]; rfl
  | int b => rw [r.1]; rfl
  | str b => rw [r.1]; rfl
  | tup ds => obtain ⟨a, vs, rfl, _⟩ := r; rfl
  | lst ds => obtain ⟨a, vs, O', rfl, _⟩ := r; rfl
  | fls ds => obtain ⟨a, vs, rfl, _⟩ := r; rfl
  | dct ds => obtain ⟨a, vs, O', rfl, _⟩ := r; rfl
  | fdc ds => obtain ⟨a, vs, rfl, _⟩ := r; rfl
  | ins c fs => obtain ⟨a, dx, C, kv, O', rfl, _⟩ := r; rfl
  | fin c fs => obtain ⟨a, dx, C, kv, rfl, _⟩ := r; rfl
  | cls c => obtain ⟨C, rfl, _⟩ := r; rfl
  | ty n => rw [r.1]; rfl
  | rng _ _ => obtain ⟨a, rfl, _⟩ := r; rfl
  | exn fs => exact (h fs rfl).elim
def rIsN' : R2 := fun x y H Q => y = .non ∧ Q (.bl (decide (x = .non))) H
def rNotN' : R2 := fun x y H Q => y = .non ∧ Q (.bl (!decide (x = .non))) H
theorem op_isN' {X : Cx} : OpR X (compareOp .Is) rIsN' := op_isN
theorem op_notN' {X : Cx} : OpR X (compareOp .IsNot) rNotN' := op_notN
theorem opD_isN : OpD K rIsN' dIsN := fun Z H dx dy z x y Ox Oy Q zh rx ry e k => by
  unfold dIsN at e
  split at e
  · cases e
  · rename_i h
    cases e
    exact ⟨ry.1, by rw [rep_isNon rx fun fs e => h fs e]; exact k _ H Z [] (.refl zh) ⟨rfl, rfl⟩⟩
  · cases e
theorem opD_notN : OpD K rNotN' dNotN := fun Z H dx dy z x y Ox Oy Q zh rx ry e k => by
  unfold dNotN at e
  split at e
  · cases e
  · rename_i h
    cases e
    exact ⟨ry.1, by rw [rep_isNon rx fun fs e => h fs e]; exact k _ H Z [] (.refl zh) ⟨rfl, rfl⟩⟩
  · cases e
end

/-! ### all, any, sum of lists -/
def blsOf : List D → Option (List Bool)
  | [] => some []
  | .bl b :: ds => (blsOf ds).map (b :: ·)
  | _ => none
def intsOf : List D → Option (List Int)
  | [] => some []
  | .int b :: ds => (intsOf ds).map (b :: ·)
  | _ => none
theorem blsOf_some : ∀ {ds : List D} {bs : List Bool}, blsOf ds = some bs → ds = bs.map D.bl
  | [], bs, h => by cases h; rfl
  | d :: ds, bs, h => by
    unfold blsOf at h
    split at h
    · rename_i e; cases e
    · rename_i b ds' e
      cases e
      obtain ⟨cs, e1, rfl⟩ := Option.map_eq_some_iff.mp h
      rw [blsOf_some e1]; rfl
    · cases h
theorem intsOf_some : ∀ {ds : List D} {bs : List Int}, intsOf ds = some bs → ds = bs.map D.int
  | [], bs, h => by cases h; rfl
  | d :: ds, bs, h => by
    unfold intsOf at h
    split at h
    · rename_i e; cases e
    · rename_i b ds' e
      cases e
      obtain ⟨cs, e1, rfl⟩ := Option.map_eq_some_iff.mp h
      rw [intsOf_some e1]; rfl
    · cases h
theorem blsOf_map (bs : List Bool) : blsOf (bs.map D.bl) = some bs := by
  induction bs with
  | nil => rfl
  | cons b bs ih => simp only [List.map_cons, blsOf, ih, Option.map_some]
theorem intsOf_map (bs : List Int) : intsOf (bs.map D.int) = some bs := by
  induction bs with
  | nil => rfl
  | cons b bs ih => simp only [List.map_cons, intsOf, ih, Option.map_some]
section
variable {K : KX} {Z H : Hp}
theorem reps_bls : ∀ {bs : List Bool} {vs : List V} {O : List Addr}, Reps K Z H (bs.map D.bl) vs O → vs = bs.map V.bl
  | [], vs, O, h => h.1
  | b :: bs, vs, O, h => by
    obtain ⟨v, vs', O1, O2, e, eo, r1, r2⟩ := h
    rw [e, r1.1, reps_bls r2]; rfl
theorem reps_ints : ∀ {bs : List Int} {vs : List V} {O : List Addr}, Reps K Z H (bs.map D.int) vs O → vs = bs.map V.int
  | [], vs, O, h => h.1
  | b :: bs, vs, O, h => by
    obtain ⟨v, vs', O1, O2, e, eo, r1, r2⟩ := h
    rw [e, r1.1, reps_ints r2]; rfl
end
def listOf : List D → Option (List D)
  | [.lst ds] => some ds
  | [.fls ds] => some ds
  | _ => none
def dAll (ds : List D) : Option D := (listOf ds).bind fun l => (blsOf l).map fun bs => .bl (bs.all id)
def dAny (ds : List D) : Option D := (listOf ds).bind fun l => (blsOf l).map fun bs => .bl (bs.any id)
def dSum (ds : List D) : Option D := (listOf ds).bind fun l => (intsOf l).map fun bs => .int bs.sum
section
variable {K : KX} {Z H : Hp}
theorem listOf_rep (zh : ∀ b o, Z b = some o → H b = some o) {ds l : List D} {xs : List V} {O : List Addr} (r : Reps K Z H ds xs O) (e : listOf ds = some l) : ∃ a vs O', xs = [.ref a] ∧ SqL K H a vs ∧ Reps K Z H l vs O' := by
  unfold listOf at e
  split at e
  · cases e
    obtain ⟨v, ex, r1⟩ := reps_one r
    obtain ⟨a, vs, O', ev, q, r2⟩ := rep_seqL zh (.inl r1)
    exact ⟨a, vs, O', by rw [ex, ev], q, r2⟩
  · cases e
    obtain ⟨v, ex, r1⟩ := reps_one r
    obtain ⟨a, vs, O', ev, q, r2⟩ := rep_seqL zh (.inr r1)
    exact ⟨a, vs, O', by rw [ex, ev], q, r2⟩
  · cases e
theorem caD_all : CaD K (rAll K.f) dAll := fun Z H dx z xs Ox Q zh rx e k => by
  obtain ⟨l, e1, e⟩ := Option.bind_eq_some_iff.mp e
  obtain ⟨bs, e2, rfl⟩ := Option.map_eq_some_iff.mp e
  obtain ⟨a, vs, O', ev, q, r⟩ := listOf_rep zh rx e1
  rw [blsOf_some e2] at r
  rw [reps_bls r] at q
  exact ⟨a, bs, ev, q, k _ H Z [] (.refl zh) ⟨rfl, rfl⟩⟩
theorem caD_any : CaD K (rAny K.f) dAny := fun Z H dx z xs Ox Q zh rx e k => by
  obtain ⟨l, e1, e⟩ := Option.bind_eq_some_iff.mp e
  obtain ⟨bs, e2, rfl⟩ := Option.map_eq_some_iff.mp e
  obtain ⟨a, vs, O', ev, q, r⟩ := listOf_rep zh rx e1
  rw [blsOf_some e2] at r
  rw [reps_bls r] at q
  exact ⟨a, bs, ev, q, k _ H Z [] (.refl zh) ⟨rfl, rfl⟩⟩
theorem caD_sum : CaD K (rSum K.f) dSum := fun Z H dx z xs Ox Q zh rx e k => by
  obtain ⟨l, e1, e⟩ := Option.bind_eq_some_iff.mp e
  obtain ⟨bs, e2, rfl⟩ := Option.map_eq_some_iff.mp e
  obtain ⟨a, vs, O', ev, q, r⟩ := listOf_rep zh rx e1
  rw [intsOf_some e2] at r
  rw [reps_ints r] at q
  exact ⟨a, bs, ev, q, k _ H Z [] (.refl zh) ⟨rfl, rfl⟩⟩
end
section
variable {X : Cx} {ξ : Option (V × Option Addr)} {W : WX} {e : Expr} {es : List Expr} {p pos : Pos}
theorem sE_all {ms : Sl → R (List D)} (hc : X.calm = true) (hg : Gl X "all") (hm : X.mg "all" = none) (ha : SimA X ξ W (e :: es) ms) (he : starEach (e :: es) X.env = (false, eval e X.env) :: starEach es X.env := by rfl) (hpl : (backTo pos (starEach es X.env)).any (·.1) = false := by rfl) :
    SimE X ξ W (.Call (.Name "all" p) (e :: es) [] pos) (mApp (only1 dAll) ms) := sE_callB (cr_all hc) caD_all (by decide +kernel) hg hm ha (by decide) (by decide) he hpl
theorem sE_any {ms : Sl → R (List D)} (hc : X.calm = true) (hg : Gl X "any") (hm : X.mg "any" = none) (ha : SimA X ξ W (e :: es) ms) (he : starEach (e :: es) X.env = (false, eval e X.env) :: starEach es X.env := by rfl) (hpl : (backTo pos (starEach es X.env)).any (·.1) = false := by rfl) :
    SimE X ξ W (.Call (.Name "any" p) (e :: es) [] pos) (mApp (only1 dAny) ms) := sE_callB (cr_any hc) caD_any (by decide +kernel) hg hm ha (by decide) (by decide) he hpl
theorem sE_sum {ms : Sl → R (List D)} (hc : X.calm = true) (hg : Gl X "sum") (hm : X.mg "sum" = none) (ha : SimA X ξ W (e :: es) ms) (he : starEach (e :: es) X.env = (false, eval e X.env) :: starEach es X.env := by rfl) (hpl : (backTo pos (starEach es X.env)).any (·.1) = false := by rfl) :
    SimE X ξ W (.Call (.Name "sum" p) (e :: es) [] pos) (mApp (only1 dSum) ms) := sE_callB (cr_sum hc) caD_sum (by decide +kernel) hg hm ha (by decide) (by decide) he hpl
end

/-! ### the module's constants -/
section
variable {X : Cx} {ξ : Option (V × Option Addr)} {x : Str} {pos : Pos}
theorem sP_cint {i : Int} {t : Tok} (hg : Gl X x) (hm : X.mg x = some (.int i t)) (hd : (x == ("__debug__" : Str)) = false := by decide) : SimP X ξ (.Name x pos) (fun _ => some (.int i)) :=
  ⟨_, pe_glob (v := .int i) hg hm ⟨t, rfl⟩ hd, semP_c fun _ _ => ⟨rfl, rfl⟩⟩
theorem sP_cstr {i : Str} {t : Tok} (hg : Gl X x) (hm : X.mg x = some (.str i t)) (hd : (x == ("__debug__" : Str)) = false := by decide) : SimP X ξ (.Name x pos) (fun _ => some (.str i)) :=
  ⟨_, pe_glob (v := .str i) hg hm ⟨t, rfl⟩ hd, semP_c fun _ _ => ⟨rfl, rfl⟩⟩
/-- a written value -/
def KRep (K : PySem.W.Frag) (d : D) (u : Value) : Prop := ∃ v, RelV v u ∧ ∀ (ξ : Option (V × Option Addr)) (Z H : Hp), Rep ⟨K, ξ⟩ Z H d v []
def KReps (K : PySem.W.Frag) (ds : List D) (us : List Value) : Prop := ∃ vs, Vals vs us ∧ ∀ (ξ : Option (V × Option Addr)) (Z H : Hp), Reps ⟨K, ξ⟩ Z H ds vs []
theorem sP_con {d : D} {u : Value} (hg : Gl X x) (hm : X.mg x = some u) (r : KRep X.K d u) (hd : (x == ("__debug__" : Str)) = false := by decide) : SimP X ξ (.Name x pos) (fun _ => some d) := by
  obtain ⟨v, rv, rr⟩ := r
  exact ⟨_, pe_glob (v := v) hg hm rv hd, semP_c fun Z H => rr ξ Z H⟩
variable {K : PySem.W.Frag} {ds : List D} {us : List Value} {d : D} {u : Value}
theorem kr_int {i : Int} {t : Tok} : KRep K (.int i) (.int i t) := ⟨.int i, ⟨t, rfl⟩, fun _ _ _ => ⟨rfl, rfl⟩⟩
theorem kr_str {i : Str} {t : Tok} : KRep K (.str i) (.str i t) := ⟨.str i, ⟨t, rfl⟩, fun _ _ _ => ⟨rfl, rfl⟩⟩
theorem krs_nil : KReps K [] [] := ⟨[], .nil, fun _ _ _ => ⟨rfl, rfl⟩⟩
theorem krs_cons (h : KRep K d u) (r : KReps K ds us) : KReps K (d :: ds) (u :: us) := by
  obtain ⟨v, rv, rr⟩ := h
  obtain ⟨vs, rvs, rrs⟩ := r
  exact ⟨v :: vs, .cons rv rvs, fun ξ Z H => ⟨v, vs, [], [], rfl, rfl, rr ξ Z H, rrs ξ Z H⟩⟩
theorem kr_tup {a : Addr} {o : Obj} {its : Array Value} {n : Nat} (hk : K.lookup a = some o) (hc : o.cls = .type "tuple") (hn : o.dict = none) (hd : o.data = .seq its n) (hz : its.size ≤ sizeLine) (r : KReps K ds its.toList) : KRep K (.tup ds) (.ref a) := by
  obtain ⟨vs, rvs, rrs⟩ := r
  exact ⟨.ref a, rfl, fun ξ Z H => ⟨a, vs, rfl, ⟨.inr ⟨o, its, n, hk, hc, hd, hz, rvs⟩, .inr ⟨o, hk, hn⟩⟩, rrs ξ Z H⟩⟩
end

/-! ### f-texts; raise Own(f'..') -/
def fmtP (ma : Sl → Option D) (s : Sl) : Option D := (ma s).bind fun d => match d with
  | .str y => if y.length ≤ sizeLine then some (.str y) else none
  | .int i => if i.natAbs.log2 < 1920 then some (.str (toString i)) else none
  | _ => none
def joinGo : List (Sl → Option D) → Str → Sl → Option Str
  | [], acc, _ => some acc
  | m :: ms, acc, s => (m s).bind fun d => match d with
    | .str y => if (acc ++ y).length ≤ sizeLine then joinGo ms (acc ++ y) s else none
    | _ => none
def joinP (ms : List (Sl → Option D)) (s : Sl) : Option D := (joinGo ms Str.empty s).map .str
def mRaiseP (c : String) (ma : Sl → Option D) (s : Sl) : RS := match ma s with
  | some _ => .exc c [] s
  | none => .stuck
section
variable {X : Cx} {ξ : Option (V × Option Addr)} {W : WX} {pin : List Nat} {e : Expr} {es : List Expr} {pos : Pos} {ma : Sl → Option D} {ms : List (Sl → Option D)}
def SimJ (X : Cx) (ξ : Option (V × Option Addr)) (es : List Expr) (ms : List (Sl → Option D)) : Prop := ∃ ts, PJ X es ts ∧ ∀ acc σ H Z O s (Q : Str → Hp → Prop), Ok ⟨X.K, ξ⟩ Z H σ s O → ∀ out, joinGo ms acc s = some out → (∀ H' Z', Pz Z H H' Z' → Q out H') → tJs ts acc σ H Q
theorem sJ_nil : SimJ X ξ [] [] := ⟨[], .nil, fun acc σ H Z O s Q ok out e k => by cases e; exact k H Z (.refl ok.zh)⟩
theorem sJ_cons (h : SimP X ξ e ma) (r : SimJ X ξ es ms) : SimJ X ξ (e :: es) (ma :: ms) := by
  obtain ⟨t, p, q⟩ := h
  obtain ⟨ts, ps, qs⟩ := r
  refine ⟨t :: ts, .cons p ps, fun acc σ H Z O s Q ok out ee k => ?_⟩
  unfold joinGo at ee
  obtain ⟨d, ed, ee⟩ := Option.bind_eq_some_iff.mp ee
  refine q σ H Z O s _ ok d ed fun v H1 Z1 O1 p1 r1 => ?_
  split at ee
  · rename_i y
    split at ee
    · rename_i hl
      exact ⟨y, r1.1, hl, qs (acc ++ y) σ H1 Z1 O s Q (ok.pz p1) out ee fun H2 Z2 p2 => k H2 Z2 (p1.trans p2)⟩
    · cases ee
  · cases ee
theorem sP_fmt (h : SimP X ξ e ma) : SimP X ξ (.FormattedValue e (-1) none pos) (fmtP ma) := by
  obtain ⟨t, p, q⟩ := h
  refine ⟨_, pe_fmt p, fun σ H Z O s Q ok d ed k => ?_⟩
  unfold fmtP at ed
  obtain ⟨d0, e0, ed⟩ := Option.bind_eq_some_iff.mp ed
  refine q σ H Z O s _ ok d0 e0 fun v H1 Z1 O1 p1 r1 => ?_
  split at ed
  · rename_i y
    split at ed
    · rename_i hl
      cases ed
      exact .inl ⟨y, r1.1, hl, k _ H1 Z1 [] p1 ⟨rfl, rfl⟩⟩
    · cases ed
  · rename_i i
    split at ed
    · rename_i hl
      cases ed
      exact .inr ⟨i, r1.1, hl, k _ H1 Z1 [] p1 ⟨rfl, rfl⟩⟩
    · cases ed
  · cases ed
theorem sP_joined {e2 : Expr} (h : SimJ X ξ (e :: e2 :: es) ms) : SimP X ξ (.JoinedStr (e :: e2 :: es) pos) (joinP ms) := by
  obtain ⟨ts, p, q⟩ := h
  refine ⟨_, pe_joined p, fun σ H Z O s Q ok d ed k => ?_⟩
  unfold joinP at ed
  obtain ⟨out, eo, rfl⟩ := Option.map_eq_some_iff.mp ed
  exact q Str.empty σ H Z O s _ ok out eo fun H' Z' p => k _ H' Z' [] p ⟨rfl, rfl⟩
theorem raise_ofP {C : Addr} {y : Str} {k : String} {p0 pc : Pos} (c : Cls X.K X.mg y C) (hc : X.calm = true) (tk : Takes X W) (hk : Str.ofString k = y) (hg : Gl X y) (h : SimP X none e ma) (hs : starEach [e] X.env = (false, eval e X.env) :: starEach [] X.env := by rfl) (hdb : (y == ("__debug__" : Str)) = false := by decide) :
    SimS X none W pin (.Raise (some (.Call (.Name y p0) [e] [] pc)) none pos) (mRaiseP k ma) := by
  obtain ⟨t, p, q⟩ := h
  refine ⟨_, ps_raise hc tk (SkE.pmk_own1 PySem.F.excBase_ValueError c.ex c.gl c.kp (raises_own c.sb c.ty) hg p hs hdb), fun σ H Z O s D ok w => ?_⟩
  unfold mRaiseP at w
  cases em : ma s with
  | none => rw [em] at w; exact w.elim
  | some d =>
    rw [em] at w
    refine q σ H Z O s _ ok d em fun v H1 Z1 O1 p1 r1 => ?_
    exact w (.ref C) none σ H1 Z1 O ⟨ok.pz p1, ⟨C, rfl, by rw [hk]; exact c.ns, .inl ⟨rfl, rfl⟩⟩, p1.ext⟩ .refl
end
end Sim

set_option maxHeartbeats 1000000
namespace Sim
open PySem PySem.Spec PyProof.Rows L2

/-! ### t[::-1] -/
section
variable {prog : Program} {w : World} {A : Around} {E : Value → Shared → Prop} {s : Shared}
theorem placesRev (n : Nat) : Builtin.Slice.slicePlaces ((n : Int) - 1) (-1) (-1) = n := by
  unfold Builtin.Slice.slicePlaces
  have h1 : ¬ ((-1 : Int) > 0) := by omega
  simp only [h1, if_false]
  split
  · simp only [Int.neg_neg, Int.ediv_one]; omega
  · omega
theorem sliceAppliedRev {sl : Addr} {t : Tok} {n : Nat} {Q : Int × Int × Nat → Shared → Prop} (hs : s.heap.IsSliceOf sl .none .none (.int (-1) t)) (h : Q ((n : Int) - 1, -1, n) s) : wpAny (model prog w) A (Builtin.Slice.sliceApplied (.ref sl) (pure (n : Int))) Q E s := by
  obtain ⟨os, hos, hcs, hds⟩ := id hs
  unfold Builtin.Slice.sliceApplied Builtin.Slice.sliceFields
  refine wpAny_bind (wpAny_bind (wpAny_field hos hds (x := .none) rfl (wpAny_bind (wpAny_field hos hds (x := .none) rfl (wpAny_bind (wpAny_field hos hds (x := .int (-1) t) rfl (wpAny_pure ?_)))))))
  refine wpAny_bind (slicePart_int ?_)
  show wpAny _ _ (if ((-1 : Int) == 0) = true then _ else _) _ _ s
  rw [if_neg (by decide)]
  refine wpAny_bind (slicePart_none (wpAny_bind (slicePart_none (wpAny_bind (wpAny_pure ?_)))))
  show wpAny _ _ (pure (((n : Int) - 1), (-1 : Int), Builtin.Slice.slicePlaces ((n : Int) - 1) (-1) (-1))) _ _ s
  rw [placesRev]
  exact wpAny_pure h
theorem pickRev (xs : Array Value) : ((List.range xs.size).filterMap fun (m : Nat) => xs[(((xs.size : Nat) : Int) - 1 + (m : Int) * -1).toNat]?).toArray = xs.toList.reverse.toArray := by
  congr 1
  apply List.ext_getElem?
  intro i
  have key : ∀ n, n ≤ xs.size → ((List.range n).filterMap fun (m : Nat) => xs[(((xs.size : Nat) : Int) - 1 + (m : Int) * -1).toNat]?) = xs.toList.reverse.take n := by
    intro n
    induction n with
    | zero => intro _; simp
    | succ n ih =>
      intro hn
      rw [List.range_succ, List.filterMap_append, ih (by omega)]
      have e : (((xs.size : Nat) : Int) - 1 + (n : Int) * -1).toNat = xs.size - 1 - n := by omega
      have hlt : xs.size - 1 - n < xs.size := by omega
      have hn2 : n < xs.toList.reverse.length := by simp; omega
      rw [List.take_succ_eq_append_getElem hn2]
      congr 1
      simp only [List.filterMap_cons, List.filterMap_nil, e, Array.getElem?_eq_getElem hlt]
      simp [List.getElem_reverse]
  rw [key xs.size (Nat.le_refl _)]
  rw [show xs.toList.reverse.take xs.size = xs.toList.reverse from List.take_of_length_le (by simp)]
theorem getItem_tupleRev {t sl : Addr} {items : Array Value} {tk : Tok} {Q : Value → Shared → Prop} (ht : IsTup s.heap t items) (hs : s.heap.IsSliceOf sl .none .none (.int (-1) tk))
    (h : Q (.ref s.heap.objs.size) { s with heap := s.heap.push { cls := .type "tuple", data := .seq items.toList.reverse.toArray } }) (hsz : items.size ≤ sizeLine) : wpAny (model prog w) A (getItem (.ref t) (.ref sl)) Q E s := by
  have htake : sizeOk (.seq items.toList.reverse.toArray) := by
    show items.toList.reverse.toArray.size ≤ sizeLine
    rw [List.size_toArray, List.length_reverse, Array.length_toList]
    exact hsz
  obtain ⟨os, hos, hcs, hds⟩ := id hs
  have hTs : s.TypeIs (.ref sl) "slice" := ⟨os, hos, hcs⟩
  unfold getItem
  try with_reducible refine wpAny_holding ?_
  first | refine wpAny_bind (wpAny_pure ?_) | skip
  refine wpAny_bind (wpAny_sequenceKey ht.typeIs (by decide) ?_)
  refine wpAny_bind (wpAny_callSpecial?_slot (name := Str.ofString "__getitem__") ht.typeIs PyProof.Rows.slot_tuple_getitem
    (wpAny_call_entry PyProof.Rows.slot_tuple_getitem ht.typeIs entry_tuple_getitem ?_ (args_tuple_getitem _ _)))
  show wpAny _ _ (Builtin.Tuple.tupleItemsOf (.ref t) >>= _) _ _ s
  refine wpAny_bind (tupleItemsOf_ ht ?_)
  refine wpAny_bind (wpAny_typeOf hTs ?_)
  rw [if_pos (by decide)]
  refine wpAny_bind (sliceAppliedRev hs ?_)
  have hno : ¬ (((((items.size : Nat) : Int) - 1) == 0 && (-1 : Int) == 1 && items.size == items.size) = true) := by simp
  show wpAny _ _ (if ((((items.size : Nat) : Int) - 1) == 0 && (-1 : Int) == 1 && items.size == items.size) = true then _ else _) _ _ s
  rw [if_neg hno, pickRev]
  first
    | exact wpAny_bind (m := Builtin.Tuple.tupleExact _) (wpAny_newObj_type (wpAny_pure ⟨_, rfl, wpAny_pure h⟩) htake)
    | exact wpAny_bind (m := Builtin.Tuple.tupleExact _) (wpAny_newObj_type (wpAny_bind (wpAny_pure (wpAny_pure ⟨_, rfl, wpAny_pure h⟩))) htake)
    | exact wpAny_bind (wpAny_bind (m := Builtin.Tuple.tupleExact _) (wpAny_newObj_type (wpAny_pure (wpAny_pure ⟨_, rfl, wpAny_pure h⟩)) htake))
    | exact wpAny_bind (wpAny_bind (m := Builtin.Tuple.tupleExact _) (wpAny_newObj_type (wpAny_pure ⟨_, rfl, wpAny_pure h⟩) htake))
end
section
variable {X : Cx}
def tRevLGoal (K : PySem.W.Frag) (x : V) (H1 : Hp) (Q : VK) : Prop := ∃ a xs, x = .ref a ∧ SqL K H1 a xs ∧ ∀ p, H1 p = none → Q (.ref p) (upd H1 p (.lst xs.reverse))
def tRevT (K : PySem.W.Frag) (te : TE) : TE := fun σ H Q => te σ H fun x H1 => ∃ a xs, x = .ref a ∧ SqT K H1 a xs ∧ ∀ p ar, H1 p = none → Q (.ref p) (upd H1 p (fzT ar xs.reverse))
theorem pe_revT {e : Expr} {te : TE} {k : Nat} {p1 p2 p3 pos : Pos} (he : PE X e te) : PE X (.Subscript e (.Slice none none (some (.UnaryOp .USub (.Constant (.int 1) k p1) p2)) p3) pos) (tRevT X.K te) := by
  refine ⟨fun pins s σ H Q I h => ?_⟩
  refine Subscript_ (thn (he.run pins s σ H _ I h) fun v s1 ⟨x, H1, I1, r1, q1⟩ => ?_)
  obtain ⟨a, xs, ex, hx, q⟩ := q1
  subst ex
  cases r1
  have hst : PO X (some (.UnaryOp .USub (.Constant (.int 1) k p1) p2)) (tPart (tUn (rU fun i => .int (-i)) (tC (.int 1)))) := po_some (pe_un un_neg pe_int)
  refine wpAny_Slice (thn (po_none.run pins s1 σ H1 (fun o H2 => o = none ∧ H2 = H1) I1 ⟨rfl, rfl⟩) fun vl s2 ⟨l, H2, I2, pl, el, e2⟩ => ?_)
  subst el e2
  refine thn (po_none.run pins s2 σ H2 (fun o H3 => o = none ∧ H3 = H2) I2 ⟨rfl, rfl⟩) fun vu s3 ⟨u, H3, I3, pu, eu, e3⟩ => ?_
  subst eu e3
  refine thn (hst.run pins s3 σ H3 (fun o H4 => o = some (-1) ∧ H4 = H3) I3 ⟨1, rfl, -1, rfl, rfl, rfl⟩) fun vs s4 ⟨o, H4, I4, ps, eo, e4⟩ => ?_
  subst eo e4
  have I5 : Inv X pins σ H4 { s4 with heap := s4.heap.push { cls := .type "slice", data := .fields #[vl, vu, vs] } } := I4.kept (t' := s4.toks) fun b ob q => Heap.get?_push_of_some _ q
  obtain ⟨its, r, ht, hz⟩ := I5.tuple hx
  have hlen := r.length
  cases pl
  cases pu
  cases ps with
  | int i tk =>
  show wpAny (model X.prog X.w) X.A (subscriptTail e (.Slice none none (some (.UnaryOp .USub (.Constant (.int 1) k p1) p2)) p3) (.ref a) (.ref s4.heap.objs.size)) (EP X pins σ Q) X.xe _
  refine tail_any (ops := [.ref a, .ref s4.heap.objs.size]) ht.typeIs (PyProof.Rows.slot_tuple_getitem.lookup) ?_ (by with_unfolding_all rfl)
  refine getItem_tupleRev ht (Heap.IsSliceOf.new _ _ _ _) ?_ (by rw [List.size_toArray]; omega)
  exact newN (t' := s4.toks) I5 r.reverse (by rw [List.length_reverse]; exact hz) q
end
def dRevT : D → Option D
  | .tup ds => if imms ds = true then some (.tup ds.reverse) else none
  | _ => none
def dRevL : D → Option D
  | .lst ds => if imms ds = true then some (.lst ds.reverse) else none
  | .fls ds => if imms ds = true then some (.lst ds.reverse) else none
  | _ => none
def mRev (f : D → Option D) (ma : Sl → R D) (s : Sl) : R D := (ma s).bind fun x s1 => match f x with
  | some d => .ok d s1
  | none => .stuck
section
variable {K : KX} {W : WX} {Z H : Hp}
theorem reps_rev : ∀ {ds : List D} {vs : List V}, Reps K Z H ds vs [] → Reps K Z H ds.reverse vs.reverse []
  | [], vs, r => by rw [r.1]; exact ⟨rfl, rfl⟩
  | d :: ds, vs, r => by
    obtain ⟨v, vs', O1, O2, e, eo, r1, r2⟩ := r
    have e1 : O1 = [] := (List.append_eq_nil_iff.mp eo.symm).1
    have e2 : O2 = [] := (List.append_eq_nil_iff.mp eo.symm).2
    subst e e1 e2
    rw [List.reverse_cons, List.reverse_cons]
    have := (reps_rev r2).append (es := [d]) (us := [v]) (B := []) ⟨v, [], [], [], rfl, rfl, r1, rfl, rfl⟩
    simpa using this
theorem ov_one {O Od Oe : List Addr} {σ : L2.St} {d : D} {e' : Sl} {v : V} {H' Z' : Hp} (q : Ov K Z H O σ d e' v H' Z' Od Oe) : Ovs K Z H O σ [d] e' [v] H' Z' Od Oe := ⟨q.ok, ⟨v, [], Od, [], rfl, by simp, q.rep, rfl, rfl⟩, q.nd, q.zo, q.ext⟩
theorem semE_revT {t : TE} {m : Sl → R D} (h : SemE K W t m) : SemE K W (tRevT K.f t) (mRev dRevT m) := fun σ H Z O s Q ok w => by
  unfold mRev at w
  refine h σ H Z O s _ ok ?_
  cases ea : m s with
  | stuck => rw [ea] at w; exact w.elim
  | exc c fs e' => rw [ea] at w; exact w
  | ok x s1 =>
    rw [ea] at w
    dsimp only [R.bind] at w
    intro v H1 Z1 Od Oe q
    cases ef : dRevT x with
    | none => rw [ef] at w; exact w.elim
    | some z =>
      rw [ef] at w
      dsimp only at w
      unfold dRevT at ef
      split at ef
      · split at ef
        · rename_i ds hi
          cases ef
          obtain ⟨a, vs, ev, qq, r⟩ := q.rep
          have eo := r.immO ds vs Od hi
          subst eo
          refine ⟨a, vs, ev, sqT_mono q.ok.zh qq.1, fun p ar n => ?_⟩
          have pz := Pz.newZ q.ok.zh n (fzT ar vs.reverse)
          exact w _ _ _ [] Oe (ov_pz (ov_one q) pz ⟨p, vs.reverse, rfl, sqN_new, reps_rev (pz.reps r)⟩ (by simp) (by simp) (by simp))
        · cases ef
      · cases ef
theorem semE_revL {t : TE} {m : Sl → R D} (h : SemE K W t m) : SemE K W (tRevL K.f t) (mRev dRevL m) := fun σ H Z O s Q ok w => by
  unfold mRev at w
  refine h σ H Z O s _ ok ?_
  cases ea : m s with
  | stuck => rw [ea] at w; exact w.elim
  | exc c fs e' => rw [ea] at w; exact w
  | ok x s1 =>
    rw [ea] at w
    dsimp only [R.bind] at w
    intro v H1 Z1 Od Oe q
    cases ef : dRevL x with
    | none => rw [ef] at w; exact w.elim
    | some z =>
      rw [ef] at w
      dsimp only at w
      have key : ∀ ds, (Rep K Z1 H1 (.lst ds) v Od ∨ Rep K Z1 H1 (.fls ds) v Od) → imms ds = true → z = .lst ds.reverse → tRevLGoal K.f v H1 Q := fun ds rr hi ez => by
        subst ez
        obtain ⟨a, vs, O', ev, qq, r⟩ := rep_seqL q.ok.zh rr
        have eo := r.immO ds vs O' hi
        subst eo
        refine ⟨a, vs, ev, qq, fun p n => ?_⟩
        have pz := Pz.new q.ok.zh n (.lst vs.reverse)
        exact w _ _ _ [p] Oe (ov_pz (ov_one q) pz ⟨p, vs.reverse, [], rfl, rfl, upd_same, reps_rev (pz.reps r)⟩ (by simp) (fun b hb => by
          have : b = p := by simpa using hb
          subst this
          exact pz_fresh (x := H1) q.ok.zh n) fun b hb => by
          have : b = p := by simpa using hb
          subst this
          exact .inr n)
      unfold dRevL at ef
      split at ef
      · split at ef
        · cases ef; exact key _ (.inl q.rep) (by assumption) rfl
        · cases ef
      · split at ef
        · cases ef; exact key _ (.inr q.rep) (by assumption) rfl
        · cases ef
      · cases ef
end
section
variable {X : Cx} {ξ : Option (V × Option Addr)} {W : WX} {a : Expr} {na : Sl → R D} {k : Nat} {p1 p2 p3 pos : Pos}
theorem sE_revT (h : SimE X ξ W a na) : SimE X ξ W (.Subscript a (.Slice none none (some (.UnaryOp .USub (.Constant (.int 1) k p1) p2)) p3) pos) (mRev dRevT na) := h.elim fun t q => ⟨_, pe_revT q.1, semE_revT q.2⟩
theorem sE_revL (h : SimE X ξ W a na) : SimE X ξ W (.Subscript a (.Slice none none (some (.UnaryOp .USub (.Constant (.int 1) k p1) p2)) p3) pos) (mRev dRevL na) := h.elim fun t q => ⟨_, pe_revL q.1, semE_revL q.2⟩
end

/-! ### zip of tuples -/
open RZ in
def mZip (ms : Sl → R (List D)) (s : Sl) : R (List D) := (ms s).bind fun ds s1 => match ds with
  | [.tup xs, .tup ys] => if imms xs = true ∧ imms ys = true then .ok ((xs.zip ys).map fun p => D.tup [p.1, p.2]) s1 else .stuck
  | _ => .stuck
section
variable {K : KX} {W : WX} {Z H : Hp}
theorem imms_zip : ∀ {xs ys : List D}, imms xs = true → imms ys = true → imms ((xs.zip ys).map fun p => D.tup [p.1, p.2]) = true
  | [], ys, _, _ => rfl
  | x :: xs, [], _, _ => rfl
  | x :: xs, y :: ys, h, k => by
    unfold imms at h k
    rw [Bool.and_eq_true] at h k
    show (imm (D.tup [x, y]) && imms ((xs.zip ys).map fun p => D.tup [p.1, p.2])) = true
    rw [imms_zip h.2 k.2, Bool.and_true]
    show (imm x && (imm y && true)) = true
    rw [h.1, k.1]; rfl
theorem walks_zipT {a b : Addr} {vs us : List V} {xs ys : List D} (q : SqT K Z a vs) (r : Reps K Z H xs vs []) (hi : imms xs = true) (q2 : SqT K Z b us) (r2 : Reps K Z H ys us []) (hi2 : imms ys = true) (zh : ∀ b o, Z b = some o → H b = some o) :
    Wlk K Z (ItzN K a b) ((xs.zip ys).map fun p => D.tup [p.1, p.2]) := by
  have l1 := reps_len r
  have l2 := reps_len r2
  refine ⟨imms_zip hi hi2, fun Z2 H2 i d z2 h2 e => ?_, fun Z2 H2 z2 h2 => ?_⟩
  · rw [List.getElem?_map] at e
    obtain ⟨⟨x, y⟩, e9, rfl⟩ := Option.map_eq_some_iff.mp e
    rw [List.getElem?_zip_eq_some] at e9
    obtain ⟨v, A, Oi, B, e1, e2, ri⟩ := r.get e9.1
    obtain ⟨u, A2, Oi2, B2, e12, e22, ri2⟩ := r2.get e9.2
    have eo : Oi = [] := by
      have : A ++ (Oi ++ B) = [] := e2.symm
      simp at this
      exact this.2.1
    have eo2 : Oi2 = [] := by
      have : A2 ++ (Oi2 ++ B2) = [] := e22.symm
      simp at this
      exact this.2.1
    subst eo eo2
    have s1 : SqT K H2 a vs := sqT_mono (fun b o h => h2 b o (z2 b o h)) q
    have s2 : SqT K H2 b us := sqT_mono (fun b o h => h2 b o (z2 b o h)) q2
    refine ⟨⟨vs, us, v, u, s1, s2, e1, e12⟩, fun w H3 yy => ?_⟩
    obtain ⟨T, x', y', ar, ew, hT, eH, h1, h2'⟩ := yy
    have ex : x' = v := by have := h1 vs s1; rw [e1] at this; exact (Option.some.inj this).symm
    have ey : y' = u := by have := h2' us s2; rw [e12] at this; exact (Option.some.inj this).symm
    subst ex ey ew eH
    have pz := Pz.newZ h2 hT (fzT ar [x', y'])
    refine ⟨_, pz, ⟨T, [x', y'], rfl, sqN_new, ⟨x', [y'], [], [], rfl, rfl, pz.rep (ri.stay z2 x x' [] (by simp)), ⟨y', [], [], [], rfl, rfl, pz.rep (ri2.stay z2 y y' [] (by simp)), rfl, rfl⟩⟩⟩⟩
  · refine ⟨vs, us, sqT_mono (fun b o h => h2 b o (z2 b o h)) q, sqT_mono (fun b o h => h2 b o (z2 b o h)) q2, ?_⟩
    rw [List.length_map, List.length_zip, l1, l2]
    omega
theorem semI_zip {t : TA} {m : Sl → R (List D)} (h : SemA K W t m) : SemI K W (iZipN K.f t) (mZip m) := fun σ H Z O s Q ok w => by
  unfold mZip at w
  refine h σ H Z O s _ ok ?_
  cases e : m s with
  | stuck => rw [e] at w; exact w.elim
  | exc c fs s1 => rw [e] at w; exact w
  | ok ds s1 =>
    rw [e] at w
    dsimp only [R.bind] at w
    intro v H1 Z1 Od Oe x
    split at w
    · rename_i xs ys
      split at w
      · rename_i hi
        obtain ⟨v1, v2, O1, O2, ev, eo, r1, r2⟩ := reps_two x.rep
        obtain ⟨a, vs, ea, qa, ra⟩ := r1
        obtain ⟨b, us, eb, qb, rb⟩ := r2
        have e1 := ra.immO xs vs O1 hi.1
        have e2 := rb.immO ys us O2 hi.2
        subst e1 e2
        exact ⟨a, b, vs, us, by rw [ev, ea, eb], sqT_mono x.ok.zh qa.1, sqT_mono x.ok.zh qb.1, w _ H1 Z1 Oe x.ok (x.ext.less fun b hb => List.mem_append_right _ hb) (walks_zipT qa.1 ra hi.1 qb.1 rb hi.2 x.ok.zh)⟩
      · exact w.elim
    · exact w.elim
end
section
variable {X : Cx} {ξ : Option (V × Option Addr)} {W : WX} {a b : Expr} {ms : Sl → R (List D)} {p tpos pos : Pos} {elts : List Expr} {kk : Nat}
theorem sI_zip (hg : Gl X "zip") (hm : X.mg "zip" = none) (h : SimA X ξ W [a, b] ms) (hs : starEach [a, b] X.env = (false, eval a X.env) :: starEach [b] X.env := by rfl) (hpl : (backTo pos (starEach [b] X.env)).any (·.1) = false := by rfl) :
    SimI X ξ W (.Tuple elts kk tpos) (.Call (.Name "zip" p) [a, b] [] pos) (mZip ms) := h.elim fun t q => ⟨_, pi_zipN hg hm q.1 hs hpl, semI_zip q.2⟩
end

/-! ### isinstance(x, bool) -/
def dIsB (ds : List D) : Option D := match ds with
  | [.bl _, .ty "bool"] => some (.bl true)
  | [.int _, .ty "int"] => some (.bl true)
  | [.str _, .ty "str"] => some (.bl true)
  | _ => none
theorem caD_isB {K : KX} : CaD K (rIsi K.f) dIsB := fun Z H dx z xs Ox Q zh rx e k => by
  have same : ∀ T : String, PySem.W.kitOne K.f (.type T) (.type T) = some true := fun T => if_pos (beq_self_eq_true _)
  unfold dIsB at e
  split at e
  · cases e
    obtain ⟨v, u, O1, O2, rfl, _, r1, r2⟩ := reps_two rx
    exact ⟨v, u, .type "bool", .type "bool", true, rfl, by rw [r2.1]; exact .ty _, by rw [r1.1]; exact .base (.bl _), same _, k _ H Z [] (.refl zh) ⟨rfl, rfl⟩⟩
  · cases e
    obtain ⟨v, u, O1, O2, rfl, _, r1, r2⟩ := reps_two rx
    exact ⟨v, u, .type "int", .type "int", true, rfl, by rw [r2.1]; exact .ty _, by rw [r1.1]; exact .base (.int _), same _, k _ H Z [] (.refl zh) ⟨rfl, rfl⟩⟩
  · cases e
    obtain ⟨v, u, O1, O2, rfl, _, r1, r2⟩ := reps_two rx
    exact ⟨v, u, .type "str", .type "str", true, rfl, by rw [r2.1]; exact .ty _, by rw [r1.1]; exact .base (.str _), same _, k _ H Z [] (.refl zh) ⟨rfl, rfl⟩⟩
  · cases e
section
variable {X : Cx} {ξ : Option (V × Option Addr)} {W : WX} {e : Expr} {es : List Expr} {p pos : Pos}
theorem sP_isB {ms : Sl → Option (List D)} (hg : Gl X "isinstance") (hm : X.mg "isinstance" = none) (ha : SimPA X ξ (e :: es) ms) (he : starEach (e :: es) X.env = (false, eval e X.env) :: starEach es X.env := by rfl) (hpl : (backTo pos (starEach es X.env)).any (·.1) = false := by rfl) :
    SimP X ξ (.Call (.Name "isinstance" p) (e :: es) [] pos) (caP dIsB ms) := sP_callB call_isi caD_isB PyProof.Rows.boot_isinstance hg hm ha (by decide) (by decide) he hpl
theorem sE_isB {ms : Sl → R (List D)} (hg : Gl X "isinstance") (hm : X.mg "isinstance" = none) (ha : SimA X ξ W (e :: es) ms) (he : starEach (e :: es) X.env = (false, eval e X.env) :: starEach es X.env := by rfl) (hpl : (backTo pos (starEach es X.env)).any (·.1) = false := by rfl) :
    SimE X ξ W (.Call (.Name "isinstance" p) (e :: es) [] pos) (mApp (only1 dIsB) ms) := sE_callB call_isi caD_isB PyProof.Rows.boot_isinstance hg hm ha (by decide) (by decide) he hpl
end

/-! ### t * n -/
def dRepT (a b : D) : Option D := match a, b with
  | .tup xs, .int k => if imms xs = true ∧ xs ≠ [] ∧ 2 ≤ k ∧ k ≤ 1000 ∧ xs.length ≤ 1000 then some (.tup (List.replicate k.toNat xs).flatten) else none
  | _, _ => none
section
variable {K : KX} {Z H : Hp}
theorem reps_flat {ds : List D} {vs : List V} (r : Reps K Z H ds vs []) : ∀ n, Reps K Z H (List.replicate n ds).flatten (List.replicate n vs).flatten []
  | 0 => ⟨rfl, rfl⟩
  | n + 1 => by
    rw [List.replicate_succ, List.replicate_succ, List.flatten_cons, List.flatten_cons]
    simpa using r.append (reps_flat r n)
theorem opD_repT : OpD K (rRepN K.f) dRepT := fun Z H dx dy z x y Ox Oy Q zh rx ry e k => by
  unfold dRepT at e
  split at e
  · split at e
    · rename_i xs n h
      cases e
      obtain ⟨a, vs, ev, q, r⟩ := rx
      have eo := r.immO xs vs Ox h.1
      subst eo
      have l := reps_len r
      refine ⟨a, n, vs, ev, ry.1, sqT_mono zh q.1, fun e => h.2.1 (List.length_eq_zero_iff.mp (by rw [← l, e]; rfl)), h.2.2.1, h.2.2.2.1, by rw [l]; exact h.2.2.2.2, fun p ar nn => ?_⟩
      have pz := Pz.newZ zh nn (fzT ar (List.replicate n.toNat vs).flatten)
      exact k _ _ _ [] pz ⟨p, _, rfl, sqN_new, reps_flat (pz.reps r) _⟩
    · cases e
  · cases e
end
theorem tuple_mul1 (l : Addr) (items : Array Value) (n : Nat) (dd : Option Addr) (sl : Array (Option Value)) (u : Tok) :
    Meets (Builtin.«tuple.__mul__» ⟨[.ref l, .int 1 u], []⟩) (fun _ R s => s.heap.get? l = some { cls := .type "tuple", dict := dd, data := .seq items n, slots := sl } ∧
      R (.ok (.ret (Value.ref l))) { s with toks := s.toks }) :=
  .of_wp fun prog w A R s h => by
    obtain ⟨hp, g, d, tk, os⟩ := s
    obtain ⟨hl, h⟩ := h
    have f1 := AutoSeq1.idx_int
    wp_walk using wpAny_loadPart' hl
    repeat (first
      | (refine wpAny_ite_false (decide_eq_false (by decide)) ?_; wp_walk using wpAny_loadPart' hl)
      | (refine wpAny_ite_true (decide_eq_true (by simp)) ?_; wp_walk using wpAny_loadPart' hl))
    exact ⟨_, rfl, h⟩
def rRepOne (K : PySem.W.Frag) : R2 := fun x y H Q => ∃ l xs, x = .ref l ∧ y = .int 1 ∧ SqT K H l xs ∧ Q (.ref l) H
section
variable {X : Cx}
theorem op_repOne : OpR X (binaryOp .Mult) (rRepOne X.K) := by
  intro pins s σ H x y v u Q I rx ry h
  obtain ⟨l, xs, rfl, rfl, hT, q⟩ := h
  cases rx
  obtain ⟨t, rfl⟩ := ry
  obtain ⟨its, r, ⟨⟨cls, dd, data, sl⟩, ho, hc, n, hd⟩, hs⟩ := I.tuple hT
  simp only at hc hd
  subst hc hd
  refine wpAny_binaryOp_repeat_ref (T := "tuple") (U := "int") (by decide) ⟨_, ho, rfl⟩ (fun s' => typeIs_int s' 1 t) noFill_tuple_mul F.fills_int_mul F.slot_int_rmul repeat_tuple F.slot_int_index.lookup
    (call_meets F.slot_int_rmul (typeIs_int s 1 t) F.entry_int_rmul (F.args_int_rmul_2 _ _) (int_rmul_tuple 1 t l its.toArray n dd sl)
      ⟨ho, rfl, ⟨_, ho, rfl⟩, call_meets F.slot_tuple_mul ⟨_, ho, rfl⟩ F.entry_tuple_mul (F.args_tuple_mul_2 _ _) (tuple_mul1 l its.toArray n dd sl t) ⟨ho, ?_⟩⟩)
  exact ⟨.ref l, H, I, rfl, q⟩
end
def dRepOne (a b : D) : Option D := match a, b with
  | .tup xs, .int k => if imms xs = true ∧ k = 1 then some (.tup xs) else none
  | _, _ => none
theorem opD_repOne {K : KX} : OpD K (rRepOne K.f) dRepOne := fun Z H dx dy z x y Ox Oy Q zh rx ry e k => by
  unfold dRepOne at e
  split at e
  · split at e
    · rename_i xs n h
      cases e
      obtain ⟨a, vs, ev, q, r⟩ := rx
      have eo := r.immO xs vs Ox h.1
      subst eo
      have hn := ry.1
      rw [h.2] at hn
      exact ⟨a, vs, ev, hn, sqT_mono zh q.1, k _ H Z [] (.refl zh) ⟨a, vs, rfl, q, r⟩⟩
    · cases e
  · cases e
def rMulX (K : PySem.W.Frag) : R2 := fun x y H Q => (rI CMulW (fun i j => .int (i * j)) x y H Q ∨ rRepN K x y H Q) ∨ rRepOne K x y H Q
def dMulX : D → D → Option D := orD (orD dMul dRepT) dRepOne
theorem op_mulX {X : Cx} : OpR X (binaryOp .Mult) (rMulX X.K) := (op_mulW.or op_repN).or op_repOne
theorem opD_mulX {K : KX} : OpD K (rMulX K.f) dMulX := (opD_mul.or opD_repT).or opD_repOne
section
variable {X : Cx} {ξ : Option (V × Option Addr)} {W : WX} {a b : Expr} {pos : Pos} {ma mb : Sl → Option D} {na nb : Sl → R D}
theorem sP_mulX (ha : SimP X ξ a ma) (hb : SimP X ξ b mb) : SimP X ξ (.BinOp a .Mult b pos) (two dMulX ma mb) := sP_bin op_mulX opD_mulX ha hb
theorem sE_mulX (ha : SimE X ξ W a na) (hb : SimE X ξ W b nb) : SimE X ξ W (.BinOp a .Mult b pos) (m2 (only dMulX) na nb) := sE_bin op_mulX (newD2_imm opD_mulX) ha hb
end

/-! ### list + list, whoever holds them -/
theorem list_addS (l : Addr) (items : Array Value) (n : Nat) (dd : Option Addr) (sl : Array (Option Value)) (b : Addr) (items2 : Array Value) (n2 : Nat) (dd2 : Option Addr) (sl2 : Array (Option Value)) (hc0 : items.size + items2.size ≤ sizeLine) :
    Meets (Builtin.«list.__add__» ⟨[.ref l, .ref b], []⟩) (fun _ R s => s.heap.get? l = some { cls := .type "list", dict := dd, data := .seq items n, slots := sl } ∧ s.heap.get? b = some { cls := .type "list", dict := dd2, data := .seq items2 n2, slots := sl2 } ∧
      R (.ok (.ret (Value.ref s.heap.objs.size))) { s with heap := s.heap.push { cls := Value.type "list", data := Data.seq (items ++ items2) }, toks := s.toks }) :=
  .of_wp fun prog w A R s h => by
    obtain ⟨hp, g, d, tk, os⟩ := s; obtain ⟨hl, hb, h⟩ := h
    have f1 := AutoSeq1.idx_int; have f2 := AutoSeq1.sub_tuple_tuple; have f3 := AutoSeq1.sub_list_list; have f4 := AutoSeq1.sub_tuple_list; have f5 := AutoSeq1.sub_list_tuple
    wp_walk using wpAny_loadPart' hl, wpAny_loadPart' hb
    exact ⟨_, rfl, h⟩
def rCatL (K : PySem.W.Frag) : R2 := fun x y H Q => ∃ l b xs zs, x = .ref l ∧ y = .ref b ∧ SqL K H l xs ∧ SqL K H b zs ∧ xs.length + zs.length ≤ sizeLine ∧ ∀ p, H p = none → Q (.ref p) (upd H p (.lst (xs ++ zs)))
theorem op_catL {X : Cx} : OpR X (binaryOp .Add) (rCatL X.K) := by
  intro pins s σ H x y v u Q I rx ry h
  obtain ⟨l, b, xs, zs, rfl, rfl, hH, hB, hz, q⟩ := h
  cases rx
  cases ry
  obtain ⟨its, r, ⟨⟨c1, d1, t1, s1⟩, n1, e1, hc1, hd1, ht1⟩, z1⟩ := I.list hH
  obtain ⟨its2, r2, ⟨⟨c2, d2, t2, s2⟩, n2, e2, hc2, hd2, ht2⟩, z2⟩ := I.list hB
  simp only at hc1 ht1 hc2 ht2
  subst hc1 ht1 hc2 ht2
  have l1 := r.length
  have l2 := r2.length
  refine concat_meets ⟨_, e1, rfl⟩ ⟨_, e2, rfl⟩ noFill_list_add seq_list_add PySem.F.slot_list_add PySem.F.entry_list_add (PySem.F.args_list_add_2 _ _) (list_addS l its.toArray n1 d1 s1 b its2.toArray n2 d2 s2 (by rw [List.size_toArray, List.size_toArray]; omega)) ⟨e1, e2, ?_⟩
  have ea : its.toArray ++ its2.toArray = (its ++ its2).toArray := by simp
  rw [ea]
  exact ⟨.ref _, _, I.lnew (t' := s.toks) (r.append r2) (by rw [List.length_append]; omega), rfl, q _ I.fresh⟩
def lisD : D → Option (List D)
  | .lst ds => some ds
  | .fls ds => some ds
  | _ => none
def dCatL (a b : D) : Option D := (lisD a).bind fun xs => (lisD b).bind fun ys => if imms xs = true ∧ imms ys = true ∧ xs.length + ys.length ≤ sizeLine then some (.lst (xs ++ ys)) else none
section
variable {K : KX} {Z H : Hp}
theorem lisD_rep (zh : ∀ b o, Z b = some o → H b = some o) {d : D} {v : V} {O : List Addr} {l : List D} (r : Rep K Z H d v O) (e : lisD d = some l) (hi : imms l = true) : ∃ a vs, v = .ref a ∧ SqL K H a vs ∧ Reps K Z H l vs [] := by
  have : Rep K Z H (.lst l) v O ∨ Rep K Z H (.fls l) v O := by
    unfold lisD at e
    split at e
    · cases e; exact .inl r
    · cases e; exact .inr r
    · cases e
  obtain ⟨a, vs, O', ev, q, r⟩ := rep_seqL zh this
  have eo := r.immO l vs O' hi
  subst eo
  exact ⟨a, vs, ev, q, r⟩
theorem frD_catL : FrD K (rCatL K.f) dCatL := fun Z H dx dy z x y Ox Oy Q zh rx ry e k => by
  unfold dCatL at e
  obtain ⟨xs, e1, e⟩ := Option.bind_eq_some_iff.mp e
  obtain ⟨ys, e2, e⟩ := Option.bind_eq_some_iff.mp e
  split at e
  · rename_i h
    cases e
    obtain ⟨a, vs, ev, q, r⟩ := lisD_rep zh rx e1 h.1
    obtain ⟨b, us, ev2, q2, r2⟩ := lisD_rep zh ry e2 h.2.1
    refine ⟨a, b, vs, us, ev, ev2, q, q2, by rw [reps_len r, reps_len r2]; exact h.2.2, fun p n => ?_⟩
    have pz := Pz.new zh n (.lst (vs ++ us))
    refine k _ _ _ [p] pz ⟨p, vs ++ us, [], rfl, rfl, upd_same, by simpa using (pz.reps r).append (pz.reps r2)⟩ (by simp) fun b hb => ?_
    have : b = p := by simpa using hb
    subst this
    exact ⟨n, pz_fresh (x := H) zh n⟩
  · cases e
end
def rPlF (K : PySem.W.Frag) : R2 := fun x y H Q => rPl K x y H Q ∨ rCatL K x y H Q
def dPlF : D → D → Option D := orD (only dPl) dCatL
theorem op_plF {X : Cx} : OpR X (binaryOp .Add) (rPlF X.K) := op_pl.or op_catL
theorem frD_plF {K : KX} : FrD K (rPlF K.f) dPlF := (frD_imm opD_pl).or frD_catL
section
variable {X : Cx} {ξ : Option (V × Option Addr)} {W : WX} {a b : Expr} {pos : Pos} {ma mb : Sl → Option D} {na nb : Sl → R D}
theorem sE_plF (ha : SimE X ξ W a na) (hb : SimE X ξ W b nb) : SimE X ξ W (.BinOp a .Add b pos) (m2 dPlF na nb) := sE_bin op_plF frD_plF.new2 ha hb
theorem sE_plFP (ha : SimP X ξ a ma) (hb : SimP X ξ b mb) : SimE X ξ W (.BinOp a .Add b pos) (mNew2 dPlF ma mb) := by
  obtain ⟨ta, pa, sa⟩ := ha
  obtain ⟨tb, pb, sb⟩ := hb
  exact ⟨_, pe_op op_plF pa pb, semE_fr frD_plF sa sb⟩
end
end Sim

/-! Sim: a try with several clauses, each with a name for its error. -/
namespace Sim
open PySem PySem.Spec PyProof.Rows L2
abbrev Clause := Value × Nat × (Addr → Value → Option Addr → TS)
/-- the clauses' wishes, one behind the other -/
def wEach (K : PySem.W.Frag) (Wo : WX) (D : Ends) : List Clause → WX
  | [] => Wo
  | q :: r => wAs K q.1 q.2.1 q.2.2 (wEach K Wo D r) D
inductive Clauses (X : Cx) : List ExceptHandler → List Clause → Prop
  | none : Clauses X [] []
  | more {x n : Str} {c : Value} {i : Nat} {t : Addr → Value → Option Addr → TS} {s₀ : Stmt} {su : List Stmt} {p1 p2 : Pos} {hds : List ExceptHandler} {l : List Clause}
      (at_ : X.N[i]? = some n) (loc : X.env.kindOf n = some .local) (nm : Names X x c)
      (does : ∀ (a : Addr) (o : Obj) (k : Value) (d : Option Addr) (pn : List (Addr × Obj)), Zc k d o → (∃ vs, o.data = .fields vs) → PSs (X.suite a ((a, o) :: pn)) (s₀ :: su) (t a k d))
      (rest : Clauses X hds l) : Clauses X (.ExceptHandler (some (.Name x p1)) (some n) (s₀ :: su) p2 :: hds) ((c, i, t) :: l)
section
variable {X : Cx} {body : List Stmt} {hd : ExceptHandler} {hds : List ExceptHandler} {l : List Clause} {pos : Pos} {tb : WX → TS} {Wo : WX}
theorem ps_try_each (st : X.stack = X.env :: X.outer) (fr : X.env.frame = some X.env.locals) (nd : X.N.Nodup) (tk : Takes X Wo)
    (bd : ∀ (W : WX) (pn : List (Addr × Obj)) (xe : Value → Shared → Prop), Takes (X.tr pn xe) W → PassesOwn (model X.prog X.w) X.A X.env xe → PSs (X.tr pn xe) body (tb W))
    (cl : Clauses X (hd :: hds) l) : PS X (.Try body (hd :: hds) [] [] pos) (fun D σ H => tb (wEach X.K Wo D l) D σ H) := by
  refine ⟨fun pins s σ H D I hyp => ?_⟩
  have okI := I.ok
  have frs' : X.A.frames = some (X.env :: X.outer) := by rw [okI.frames, st]
  refine wpAny_Try_except ?_
  let caught : Value → Shared → Prop := fun e s₁ => wpAny (model X.prog X.w) X.A (noteFrame e X.env) (fun _ s₂ => wpAny (model X.prog X.w) X.A (setFlight e none)
    (fun _ s₃ => wpAny (model X.prog X.w) X.A (handleBy e X.env (hd :: hds)) (SP X pins D) X.xe s₃) X.xe s₂) X.xe s₁
  refine wpAny_mono ((bd (wEach X.K Wo D l) (X.pn ++ pins) caught (fun u s' xx => ?_) PassesOwn.looking).run [] s σ H D (I.toTry _) hyp) (fun f s1 done => ?_) (fun e s1 he => he)
  · obtain ⟨a, B, sI, pinsB, τ, G, k, d, rfl, JB, nb, up, sky, na, os, ag, want⟩ := xx
    have J : Inv X pins τ G sI := JB.ofTry okI
    have sk : Sky B (X.env :: X.outer) a (Zc k d) X.env.locals s'.heap := st ▸ sky
    show wpAny (model X.prog X.w) X.A (noteFrame (.ref a) X.env) _ _ _
    refine Sky.land Zc.steady frs' fr sk fun hp land rise => ?_
    have JL : Inv X pins τ G { s' with heap := hp } := J.landed nb land.1 (up.trans rise) os ag
    obtain ⟨o1, vs1, at1, z1, f1⟩ := land.there
    have apart : ∀ {h : Heap} {o : Obj} {vs : Array Value}, h.FunFrames B (X.env :: X.outer) → h.get? a = some o → o.data = .fields vs → a ∉ frs (X.env :: X.outer) := by
      intro h o vs ff e1 e2 hm
      obtain ⟨_, o', e3, e4⟩ := ff.mem hm
      rw [e1] at e3
      cases e3
      exact e4 _ e2
    have nofr := apart land.2.2.1 at1 f1
    have nL : a ≠ X.env.locals := fun z => nofr (List.mem_filterMap.mpr ⟨X.env, by simp, by rw [fr, z]⟩)
    have nF : a ∉ X.fs := fun hm => by
      obtain ⟨e, he, q⟩ := List.mem_filterMap.mp hm
      exact nofr (List.mem_filterMap.mpr ⟨e, by simp [he], q⟩)
    have S1 := JL.suite at1 f1 na nL nF
    have each : ∀ {hs : List ExceptHandler} {m : List Clause}, Clauses X hs m → wEach X.K Wo D m k d τ G → wpAny (model X.prog X.w) X.A (handleBy (.ref a) X.env hs) (SP X pins D) X.xe { s' with heap := hp } := by
      intro hs m cm
      induction cm with
      | none =>
        intro want
        refine wpAny_handleBy_nil ?_
        obtain ⟨-, -, -, o2, vs2, T2, -, -, at2, -, f2, g2, -⟩ := id land
        unfold PySem.passOn
        refine wpAny_bind (wpAny_field at2 f2 g2 ?_)
        rw [if_neg (show ¬ ((Value.ref T2 == Value.none) = true) by simp)]
        have away : wpAny (model X.prog X.w) X.A (setFlight (.ref a) X.env.frame) (fun _ s4 => wpAny (model X.prog X.w) X.A (throw (.ref a) : Sem Flow) (SP X pins D) X.xe s4) X.xe { s' with heap := hp } := by
          rw [fr]
          refine HandSPX.setFlight_upZ land fun h4 in4 up4 => wpAny_throw (tk _ _ ?_)
          exact ⟨a, B, sI, pins, τ, G, k, d, rfl, J, nb, (up.trans rise).trans up4, .inr (.inr (by rw [st]; exact in4)), na, os, ag, want⟩
        first
          | exact wpAny_bind (wpAny_pure (wpAny_bind away))
          | exact wpAny_bind away
      | @more x n c i t s₀ su p1 p2 hs2 m2 at_ loc nm does rest ih =>
        intro want
        obtain ⟨b, isb, yes, no⟩ := want
        refine wpAny_handleBy_cons (codeAny_handlers_test ?_) (by intro q; cases q)
        have looks : PySem.W.Looks (model X.prog X.w) hp (typeOf (.ref a)) k := fun A Q E s g q => wpAny_typeOf_ref (g _ _ at1) (by rw [z1.1]; exact q)
        have match_ := PySem.W.exm_one (M := model X.prog X.w) (JL.kIn) looks isb
        have named : ∀ {Q : Value → Shared → Prop} {E : Value → Shared → Prop}, Q c { s' with heap := hp } → wpAny (model X.prog X.w) (X.A.mark (some (.ref a))) (eval (.Name x p1) X.env) Q E { s' with heap := hp } := by
          intro Q E q
          obtain ⟨gl, nodbg, own | ⟨notown, bi, nn⟩⟩ := nm
          · exact ld_glob (X := X.suite a ((a, o1) :: (X.pn ++ pins))) S1 gl own q nodbg
          · exact ld_blt (X := X.suite a ((a, o1) :: (X.pn ++ pins))) S1 gl notown bi q nn nodbg
        refine named (match_.here ?_)
        cases b with
        | false =>
          show wpAny _ X.A (handleBy (.ref a) X.env hs2) _ _ _
          exact ih (no rfl)
        | true =>
          refine codeAny_handlers_suite_as ?_
          refine HandSPX.lands_againZ land fun h4 land4 up4 => ?_
          have J4 : Inv X pins τ G { s' with heap := h4 } := J.landed nb land4.1 ((up.trans rise).trans up4) os ag
          obtain ⟨o4, vs4, at4, z4, f4⟩ := land4.there
          have S4 := J4.suite at4 f4 na nL nF
          refine store_ok (X := X.suite a ((a, o4) :: (X.pn ++ pins))) (v := .ref a) S4 nd at_ (.inl loc) rfl (fun s5 S5 => ?_) (.inr loc)
          refine wpAny_mono ((does a o4 k d (X.pn ++ pins) z4 ⟨_, f4⟩).run [] s5 _ G _ S5 (yes rfl a na)) (fun f s6 done => ?_) (fun _ _ z => z.elim)
          have fin : ∀ {ρ : L2.St} {E : Hp} {Q : Shared → Prop}, Inv (X.suite a ((a, o4) :: (X.pn ++ pins))) [] ρ E s6 → (∀ s7, Inv X pins (ρ.set i none) E s7 → Q s7) → wpAny (model X.prog X.w) X.A (do bindName X.env n .none; unbindBehindTheSuite X.env n p2) (fun _ s7 => Q s7) X.xe s6 := by
            intro ρ E Q S6 hq
            exact gone_ok (S6.unsuite okI) nd at_ loc hq
          cases f with
          | ret u =>
            obtain ⟨v6, ρ, E, S6, r6, q6⟩ := done
            exact fin S6 fun s7 J7 => ⟨_, _, _, J7, r6, q6⟩
          | next => obtain ⟨ρ, E, S6, q6⟩ := done; exact fin S6 fun s7 J7 => ⟨_, _, J7, q6⟩
          | brk => obtain ⟨ρ, E, S6, q6⟩ := done; exact fin S6 fun s7 J7 => ⟨_, _, J7, q6⟩
          | cont => obtain ⟨ρ, E, S6, q6⟩ := done; exact fin S6 fun s7 J7 => ⟨_, _, J7, q6⟩
    exact each cl want
  · cases f with
    | ret u => obtain ⟨v, τ, G, J, r, q⟩ := done; exact ⟨v, τ, G, J.ofTry okI, r, q⟩
    | next => obtain ⟨τ, G, J, q⟩ := done; exact wpAny_execs_nil ⟨τ, G, J.ofTry okI, q⟩
    | brk => obtain ⟨τ, G, J, q⟩ := done; exact ⟨τ, G, J.ofTry okI, q⟩
    | cont => obtain ⟨τ, G, J, q⟩ := done; exact ⟨τ, G, J.ofTry okI, q⟩
end
/-! ### mirrors -/
abbrev MCl := (String → Option Bool) × (String → List (Str × D) → Sl → RS)
def mClauses : List MCl → String → List (Str × D) → Sl → RS
  | [], c, fs, s => .exc c fs s
  | q :: r, c, fs, s => match q.1 c with
    | some true => q.2 c fs s
    | some false => mClauses r c fs s
    | none => .stuck
def mTryL (l : List MCl) (body : Sl → RS) (s : Sl) : RS := match body s with
  | .exc c fs s1 => mClauses l c fs s1
  | r => r
def SimCl (X : Cx) (W : WX) (pin : List Nat) (hds : List ExceptHandler) (ms : List MCl) : Prop := ∃ l, Clauses X hds l ∧ ∀ (D : Ends) (c : String) (fs : List (Str × Sim.D)) (s1 : Sl) (cls : Value) (dd : Option Addr) (σ σ1 : L2.St) (H H1 Z Z1 : Hp) (O O1 : List Addr),
  Ox ⟨X.K, none⟩ Z H O σ1 c fs s1 cls dd H1 Z1 O1 → Keep pin σ σ1 → WantsS ⟨X.K, none⟩ W pin Z H O σ (mClauses ms c fs s1) D → wEach X.K W D l cls dd σ1 H1
section
variable {X : Cx} {W : WX} {pin : List Nat} {x n : Str} {C : Addr} {i : Nat} {body : List Stmt} {e : Expr} {np pos pos' pr : Pos} {mb : Sl → RS} {m : String → Sl → Option D} {test : String → Option Bool} {hd : ExceptHandler} {hds : List ExceptHandler} {ms : List MCl}
theorem simCl_nil : SimCl X W pin [] [] := ⟨[], .none, fun D c fs s1 cls dd σ σ1 H H1 Z Z1 O O1 q kp w => w cls dd σ1 H1 Z1 O1 q kp⟩
theorem simCl_cons (hi : X.N[i]? = some n) (hln : X.env.kindOf n = some .local) (hip : i ∉ pin) (hc : Names X x (.ref C))
    (ht : ∀ c b, test c = some b → ∀ D, PySem.W.nsIn X.K mainGlobals (Str.ofString c) = some (some (.ref D)) → PySem.W.exmOne X.K (.ref D) (.ref C) = some b)
    (hsu : ∀ (c : String) (D a : Addr) (oe : Obj) (dd : Option Addr) (pn : List (Addr × Obj)), PySem.W.nsIn X.K mainGlobals (Str.ofString c) = some (some (.ref D)) → Zc (.ref D) dd oe → (∃ vs, oe.data = .fields vs) → test c = some true →
      SimP (X.suite a ((a, oe) :: pn)) (some (.ref a, dd)) e (m c))
    (rest : SimCl X W pin hds ms) : SimCl X W pin (.ExceptHandler (some (.Name x np)) (some n) [.Return (some e) pr] pos' :: hds) ((test, fun c fs s => mSuite i (m c) fs s) :: ms) := by
  classical
  obtain ⟨l, cl, sem⟩ := rest
  let ts : Addr → Value → Option Addr → TS := fun a cls dd D σ H => ∃ c E, cls = .ref E ∧ ∃ hE : PySem.W.nsIn X.K mainGlobals (Str.ofString c) = some (some (.ref E)), ∃ hT : test c = some true,
    ∀ (oe : Obj) (pn : List (Addr × Obj)) (hz : Zc (.ref E) dd oe) (hv : ∃ vs, oe.data = .fields vs), tRet (hsu c E a oe dd pn hE hz hv hT).choose D σ H
  refine ⟨(.ref C, i, ts) :: l, .more hi hln hc (fun a oe cls dd pn hz hv => ⟨fun pins s σ H D I h => ?_⟩) cl, fun D c fs s1 cls dd σ σ1 H H1 Z Z1 O O1 q kp w => ?_⟩
  · obtain ⟨c, E, rfl, hE, hT, h⟩ := h
    exact (pss_one (ps_ret (hsu c E a oe dd pn hE hz hv hT).choose_spec.1)).run pins s σ H D I (h oe pn hz hv)
  · obtain ⟨E, rfl, hE, hfs⟩ := id q.ex
    unfold mClauses at w
    dsimp only at w
    cases et : test c with
    | none => rw [et] at w; exact w.elim
    | some b =>
      rw [et] at w
      refine ⟨b, ht c b et E hE, fun eb => ?_, fun eb => ?_⟩
      · subst eb
        intro a na
        refine ⟨c, E, rfl, hE, et, fun oe pn' hz hv => ?_⟩
        have semP := (hsu c E a oe dd pn' hE hz hv et).choose_spec.2
        dsimp only at w
        unfold mSuite at w
        cases em : m c (s1.set i (some (.exn fs))) with
        | none => rw [em] at w; exact w.elim
        | some d =>
          rw [em] at w
          dsimp only at w
          split at w
          · rename_i hd
            rw [Bool.and_eq_true] at hd
            have rx : Rep ⟨X.K, some (.ref a, dd)⟩ Z1 H1 (.exn fs) (.ref a) [] := by
              refine ⟨dd, rfl, rfl, ?_⟩
              rcases hfs with h | ⟨ad, kv, e1, e2, e3⟩
              · exact .inl h
              · exact .inr ⟨ad, kv, e1, e2, RepF.turnX fs kv [] e3 (.inl rfl)⟩
            have okx : Ok ⟨X.K, some (.ref a, dd)⟩ Z1 H1 σ1 s1 O1 := ⟨q.ok.zh, q.ok.rep.turnX rfl, q.ok.nd, q.ok.zo⟩
            obtain ⟨O2, ok2, sub2⟩ := okx.put (i := i) rx (by simpa using okx.nd) (by simp)
            refine semP _ H1 Z1 O2 _ _ ok2 d em fun v H2 Z2 Od p r => ?_
            have eo := r.immO d v Od hd.1
            subst eo
            have rd : Rep ⟨X.K, none⟩ Z2 H2 d v [] := r.turnX d v [] (.inr hd.2)
            have ok0 := q.ok.pz p
            obtain ⟨O3, r3, q3⟩ := rep_wipe1 (i := i) ok0.rep
            have sub3 : O3.Nodup ∧ ∀ b ∈ O3, b ∈ O1 := by
              rcases q3 with rfl | ⟨A, B, C, e1, e2⟩
              · exact ⟨ok0.nd, fun _ h => h⟩
              · have := ok0.nd
                subst e1 e2; exact ⟨by grind, by grind⟩
            exact w v (σ1.set i none) H2 Z2 [] O3 ⟨⟨ok0.zh, r3, sub3.1, fun b hb => ok0.zo b (sub3.2 b hb)⟩, rd, by simpa using sub3.1, by simp, (q.ext.trans2 p.ext fun _ h => h).less fun b hb => sub3.2 b (by simpa using hb)⟩ (kp.trans (.set hip))
          · exact w.elim
      · subst eb
        exact sem D c fs s1 (.ref E) dd σ σ1 H H1 Z Z1 O O1 q kp w
/-- try: body / several clauses, each except x as n: return e -/
theorem simS_try_each (hs : X.stack = X.env :: X.outer) (hf : X.env.frame = some X.env.locals) (hN : X.N.Nodup) (tk : Takes X W)
    (hb : ∀ (W' : WX) (pn : List (Addr × Obj)) (xe : Value → Shared → Prop), Takes (X.tr pn xe) W' → PassesOwn (model X.prog X.w) X.A X.env xe → SimSs (X.tr pn xe) none W' pin body mb)
    (hc : SimCl X W pin (hd :: hds) ms) : SimS X none W pin (.Try body (hd :: hds) [] [] pos) (mTryL ms mb) := by
  classical
  obtain ⟨l, cl, semC⟩ := hc
  let tb : WX → TS := fun W' D σ H => ∀ (pn : List (Addr × Obj)) (xe : Value → Shared → Prop) (h1 : Takes (X.tr pn xe) W') (h2 : PassesOwn (model X.prog X.w) X.A X.env xe), (hb W' pn xe h1 h2).choose D σ H
  refine ⟨_, ps_try_each (tb := tb) hs hf hN tk (fun W' pn xe h1 h2 => ⟨fun pins s σ H D I h => ?_⟩) cl, fun σ H Z O s D ok w pn xe h1 h2 => ?_⟩
  · exact (hb W' pn xe h1 h2).choose_spec.1.run pins s σ H D I (h pn xe h1 h2)
  · have sem := (hb (wEach X.K W D l) pn xe h1 h2).choose_spec.2
    refine sem σ H Z O s D ok ?_
    unfold mTryL at w
    cases eb : mb s with
    | exc c fs s1 =>
      rw [eb] at w
      exact fun cls dd σ1 H1 Z1 O1 q kp => semC D c fs s1 cls dd σ σ1 H H1 Z Z1 O O1 q kp w
    | nx s1 => rw [eb] at w; exact w
    | ret d s1 => rw [eb] at w; exact w
    | brk s1 => rw [eb] at w; exact w
    | cont s1 => rw [eb] at w; exact w
    | stuck => rw [eb] at w; exact w.elim
end
end Sim

/-! Sim: a def that calls itself; isinstance of built-in types; max, min, sorted of whole numbers; pop; {}; tuple(range(..)). -/
namespace Sim
open PySem PySem.Spec PyProof.Rows L2
theorem fnG_stuck {P : Program} {w : World} {K : PySem.W.Frag} {mg : Str → Option Value} {base : Heap} {k : Nat} {f : Addr} {fd : FuncData} {ps : List Str} {np : Nat} {pin : List Nat} : FnG P w K mg base k f fd ps (SpM K np pin (fun _ => RF.stuck)) :=
  ⟨fun vs H Q E h => by obtain ⟨_, _, _, _, x⟩ := h; exact x.elim, fun A fr st H args us vs Q E _ _ _ _ _ h => by obtain ⟨_, _, _, _, x⟩ := h; exact x.elim⟩
/-! ### isinstance -/
def kinds : List String := ["bool", "int", "str", "tuple", "list", "NoneType"]
def tyN : D → Option String
  | .bl _ => some "bool"
  | .int _ => some "int"
  | .str _ => some "str"
  | .tup _ => some "tuple"
  | .lst _ => some "list"
  | .fls _ => some "list"
  | .non => some "NoneType"
  | _ => none
def isKind (t T : String) : Bool := t == T || (t == "bool" && T == "int")
theorem kit_kinds {K : PySem.W.Frag} : ∀ t ∈ kinds, ∀ T ∈ kinds, PySem.W.kitOne K (.type t) (.type T) = some (isKind t T) := by
  intro t ht T hT
  simp only [kinds, List.mem_cons, List.not_mem_nil, or_false] at ht hT
  rcases ht with rfl | rfl | rfl | rfl | rfl | rfl <;> rcases hT with rfl | rfl | rfl | rfl | rfl | rfl <;> kernel_rfl
def dIsT (ds : List D) : Option D := match ds with
  | [x, .ty T] => (tyN x).bind fun t => if T ∈ kinds then some (.bl (isKind t T)) else none
  | _ => none
theorem tyN_kinds {x : D} {t : String} (h : tyN x = some t) : t ∈ kinds := by
  cases x <;> simp [tyN] at h <;> subst h <;> simp [kinds]
theorem tyN_is {K : KX} {Z H : Hp} {x : D} {t : String} {v : V} {O : List Addr} (zh : ∀ b o, Z b = some o → H b = some o) (h : tyN x = some t) (r : Rep K Z H x v O) : TyX K.f H v (.type t) := by
  have tupT : ∀ {a : Addr} {vs : List V}, SqT K.f H a vs → TyX K.f H (.ref a) (.type "tuple") := fun {a vs} q => by
    rcases q with (e | ⟨o, e⟩) | ⟨o, its, n, e, c, _⟩
    · exact .base (.tup e)
    · exact .fTuple e
    · exact .kTuple e c
  have lstT : ∀ {a : Addr} {vs : List V}, SqL K.f H a vs → TyX K.f H (.ref a) (.type "list") := fun {a vs} q => by
    rcases q with (e | ⟨o, e⟩) | ⟨o, its, n, e, c, _⟩
    · exact .base (.lst e)
    · exact .base (.frz e)
    · exact .kList e c
  cases x with
  | bl b => cases h; rw [r.1]; exact .base (.bl _)
  | int b => cases h; rw [r.1]; exact .base (.int _)
  | str b => cases h; rw [r.1]; exact .base (.str _)
  | non => cases h; rw [r.1]; exact .base .non
  | tup ds =>
    cases h
    obtain ⟨a, vs, ev, q, _⟩ := r
    rw [ev]; exact tupT (sqT_mono zh q.1)
  | lst ds =>
    cases h
    obtain ⟨a, vs, O', ev, eo, q, _⟩ := r
    rw [ev]; exact lstT (SqL.of q)
  | fls ds =>
    cases h
    obtain ⟨a, vs, ev, eo, q, _⟩ := r
    rw [ev]; exact lstT (sqL_mono zh q)
  | _ => cases h
theorem caD_isT {K : KX} : CaD K (rIsi K.f) dIsT := fun Z H dx z xs Ox Q zh rx e k => by
  unfold dIsT at e
  split at e
  · rename_i x T
    obtain ⟨t, e1, e⟩ := Option.bind_eq_some_iff.mp e
    split at e
    · rename_i hT
      cases e
      obtain ⟨v, u, O1, O2, rfl, _, r1, r2⟩ := reps_two rx
      exact ⟨v, u, .type t, .type T, isKind t T, rfl, by rw [r2.1]; exact .ty _, tyN_is zh e1 r1, kit_kinds t (tyN_kinds e1) T hT, k _ H Z [] (.refl zh) ⟨rfl, rfl⟩⟩
    · cases e
  · cases e
section
variable {X : Cx} {ξ : Option (V × Option Addr)} {W : WX} {e : Expr} {es : List Expr} {p pos : Pos}
theorem sP_isT {ms : Sl → Option (List D)} (hg : Gl X "isinstance") (hm : X.mg "isinstance" = none) (ha : SimPA X ξ (e :: es) ms) (he : starEach (e :: es) X.env = (false, eval e X.env) :: starEach es X.env := by rfl) (hpl : (backTo pos (starEach es X.env)).any (·.1) = false := by rfl) :
    SimP X ξ (.Call (.Name "isinstance" p) (e :: es) [] pos) (caP dIsT ms) := sP_callB call_isi caD_isT PyProof.Rows.boot_isinstance hg hm ha (by decide) (by decide) he hpl
theorem sE_isT {ms : Sl → R (List D)} (hg : Gl X "isinstance") (hm : X.mg "isinstance" = none) (ha : SimA X ξ W (e :: es) ms) (he : starEach (e :: es) X.env = (false, eval e X.env) :: starEach es X.env := by rfl) (hpl : (backTo pos (starEach es X.env)).any (·.1) = false := by rfl) :
    SimE X ξ W (.Call (.Name "isinstance" p) (e :: es) [] pos) (mApp (only1 dIsT) ms) := sE_callB call_isi caD_isT PyProof.Rows.boot_isinstance hg hm ha (by decide) (by decide) he hpl
end
/-! ### max, min -/
def maxI : List Int → Option Int
  | [] => none
  | x :: xs => match maxI xs with
    | none => some x
    | some y => some (if x ≤ y then y else x)
def minI : List Int → Option Int
  | [] => none
  | x :: xs => match minI xs with
    | none => some x
    | some y => some (if y ≤ x then y else x)
theorem maxI_is : ∀ {xs : List Int} {m : Int}, maxI xs = some m → m ∈ xs ∧ ∀ y ∈ xs, y ≤ m
  | x :: xs, m, h => by
    unfold maxI at h
    cases e : maxI xs with
    | none =>
      rw [e] at h
      cases h
      cases xs with
      | nil => simp
      | cons z zs =>
        unfold maxI at e
        split at e <;> cases e
    | some y =>
      rw [e] at h
      cases h
      obtain ⟨h1, h2⟩ := maxI_is e
      split
      · exact ⟨by simp [h1], fun z hz => by rcases List.mem_cons.mp hz with rfl | hz; (· assumption); exact h2 z hz⟩
      · exact ⟨by simp, fun z hz => by rcases List.mem_cons.mp hz with rfl | hz; (· exact Int.le_refl _); have := h2 z hz; omega⟩
theorem minI_is : ∀ {xs : List Int} {m : Int}, minI xs = some m → m ∈ xs ∧ ∀ y ∈ xs, m ≤ y
  | x :: xs, m, h => by
    unfold minI at h
    cases e : minI xs with
    | none =>
      rw [e] at h
      cases h
      cases xs with
      | nil => simp
      | cons z zs =>
        unfold minI at e
        split at e <;> cases e
    | some y =>
      rw [e] at h
      cases h
      obtain ⟨h1, h2⟩ := minI_is e
      split
      · exact ⟨by simp [h1], fun z hz => by rcases List.mem_cons.mp hz with rfl | hz; (· assumption); exact h2 z hz⟩
      · exact ⟨by simp, fun z hz => by rcases List.mem_cons.mp hz with rfl | hz; (· exact Int.le_refl _); have := h2 z hz; omega⟩
theorem maxI_some {xs : List Int} (h : xs ≠ []) : ∃ m, maxI xs = some m := by
  cases xs with
  | nil => exact absurd rfl h
  | cons x xs => unfold maxI; split <;> exact ⟨_, rfl⟩
theorem minI_some {xs : List Int} (h : xs ≠ []) : ∃ m, minI xs = some m := by
  cases xs with
  | nil => exact absurd rfl h
  | cons x xs => unfold minI; split <;> exact ⟨_, rfl⟩
def dMaxI (ds : List D) : Option D := match ds with
  | [.int i, .int j] => some (.int (if j > i then j else i))
  | ds => (listOf ds).bind fun l => (intsOf l).bind fun ns => (maxI ns).map .int
def dMinI (ds : List D) : Option D := match ds with
  | [.int i, .int j] => some (.int (if j < i then j else i))
  | ds => (listOf ds).bind fun l => (intsOf l).bind fun ns => (minI ns).map .int
def rMaxX (K : PySem.W.Frag) : List V → Hp → VK → Prop := fun vs H Q => (∃ i j, vs = [.int i, .int j] ∧ Q (.int (if j > i then j else i)) H) ∨ rMax K vs H Q
def rMinX (K : PySem.W.Frag) : List V → Hp → VK → Prop := fun vs H Q => (∃ i j, vs = [.int i, .int j] ∧ Q (.int (if j < i then j else i)) H) ∨ rMin K vs H Q
theorem caD_max {K : KX} : CaD K (rMaxX K.f) dMaxI := fun Z H dx z xs Ox Q zh rx e k => by
  unfold dMaxI at e
  split at e
  · cases e
    obtain ⟨v, u, O1, O2, rfl, _, r1, r2⟩ := reps_two rx
    exact .inl ⟨_, _, by rw [r1.1, r2.1], k _ H Z [] (.refl zh) ⟨rfl, rfl⟩⟩
  · obtain ⟨l, e1, e⟩ := Option.bind_eq_some_iff.mp e
    obtain ⟨ns, e2, e⟩ := Option.bind_eq_some_iff.mp e
    obtain ⟨m, e3, rfl⟩ := Option.map_eq_some_iff.mp e
    obtain ⟨a, vs, O', ev, q, r⟩ := listOf_rep zh rx e1
    rw [intsOf_some e2] at r
    rw [reps_ints r] at q
    obtain ⟨h1, h2⟩ := maxI_is e3
    refine .inr ⟨a, ns, ev, q, List.length_pos_of_mem h1, fun m' g1 g2 => ?_⟩
    have : m' = m := Int.le_antisymm (h2 m' g1) (g2 m h1)
    subst this
    exact k _ H Z [] (.refl zh) ⟨rfl, rfl⟩
theorem caD_min {K : KX} : CaD K (rMinX K.f) dMinI := fun Z H dx z xs Ox Q zh rx e k => by
  unfold dMinI at e
  split at e
  · cases e
    obtain ⟨v, u, O1, O2, rfl, _, r1, r2⟩ := reps_two rx
    exact .inl ⟨_, _, by rw [r1.1, r2.1], k _ H Z [] (.refl zh) ⟨rfl, rfl⟩⟩
  · obtain ⟨l, e1, e⟩ := Option.bind_eq_some_iff.mp e
    obtain ⟨ns, e2, e⟩ := Option.bind_eq_some_iff.mp e
    obtain ⟨m, e3, rfl⟩ := Option.map_eq_some_iff.mp e
    obtain ⟨a, vs, O', ev, q, r⟩ := listOf_rep zh rx e1
    rw [intsOf_some e2] at r
    rw [reps_ints r] at q
    obtain ⟨h1, h2⟩ := minI_is e3
    refine .inr ⟨a, ns, ev, q, List.length_pos_of_mem h1, fun m' g1 g2 => ?_⟩
    have : m' = m := Int.le_antisymm (g2 m h1) (h2 m' g1)
    subst this
    exact k _ H Z [] (.refl zh) ⟨rfl, rfl⟩
theorem cr_maxX {X : Cx} (hc : X.calm = true) : CallR X (.builtin "max") (rMaxX X.K) := fun pins s σ H vs us Q I r h => h.elim (call_max2 hc pins s σ H vs us Q I r) (cr_max hc pins s σ H vs us Q I r)
theorem cr_minX {X : Cx} (hc : X.calm = true) : CallR X (.builtin "min") (rMinX X.K) := fun pins s σ H vs us Q I r h => h.elim (call_min2 hc pins s σ H vs us Q I r) (cr_min hc pins s σ H vs us Q I r)
/-! ### sorted -/
def dSorted (ds : List D) : Option D := (listOf ds).bind fun l => (intsOf l).bind fun ns => if ns.length < 64 then some (.fls ((ns.mergeSort fun a b => decide (a ≤ b)).map .int)) else none
theorem sort_one {xs ys : List Int} (p : ys.Perm xs) (h : ys.Pairwise (· ≤ ·)) : ys = xs.mergeSort fun a b => decide (a ≤ b) := by
  refine List.Perm.eq_of_pairwise (le := fun a b : Int => a ≤ b) (fun a b _ _ h1 h2 => Int.le_antisymm h1 h2) h ?_ (p.trans (List.mergeSort_perm xs _).symm)
  have := List.pairwise_mergeSort (le := fun a b : Int => decide (a ≤ b)) (fun a b c h1 h2 => by simp at h1 h2 ⊢; omega) (fun a b => by simp; omega) xs
  exact this.imp fun h => by simpa using h
theorem caD_sorted {K : KX} : CaD K (rSorted K.f) dSorted := fun Z H dx z xs Ox Q zh rx e k => by
  obtain ⟨l, e1, e⟩ := Option.bind_eq_some_iff.mp e
  obtain ⟨ns, e2, e⟩ := Option.bind_eq_some_iff.mp e
  split at e
  · rename_i hl
    cases e
    obtain ⟨a, vs, O', ev, q, r⟩ := listOf_rep zh rx e1
    rw [intsOf_some e2] at r
    rw [reps_ints r] at q
    refine ⟨a, ns, ev, q, hl, fun ns' p g1 g2 np => ?_⟩
    have := sort_one g1 g2
    subst this
    have pz := Pz.newZ zh np (.lst ((ns.mergeSort fun a b => decide (a ≤ b)).map V.int))
    have ri : ∀ (is : List Int), Reps K (upd Z p (.lst ((ns.mergeSort fun a b => decide (a ≤ b)).map V.int))) (upd H p (.lst ((ns.mergeSort fun a b => decide (a ≤ b)).map V.int))) (is.map D.int) (is.map V.int) [] := fun is => by
      induction is with
      | nil => exact ⟨rfl, rfl⟩
      | cons i is ih => exact ⟨.int i, is.map V.int, [], [], rfl, rfl, ⟨rfl, rfl⟩, ih⟩
    exact k _ _ _ [] pz ⟨p, _, rfl, rfl, .inl (.inl upd_same), ri _⟩
  · cases e
section
variable {X : Cx} {ξ : Option (V × Option Addr)} {W : WX} {e : Expr} {es : List Expr} {p pos : Pos}
theorem sE_max {ms : Sl → R (List D)} (hc : X.calm = true) (hg : Gl X "max") (hm : X.mg "max" = none) (ha : SimA X ξ W (e :: es) ms) (he : starEach (e :: es) X.env = (false, eval e X.env) :: starEach es X.env := by rfl) (hpl : (backTo pos (starEach es X.env)).any (·.1) = false := by rfl) :
    SimE X ξ W (.Call (.Name "max" p) (e :: es) [] pos) (mApp (only1 dMaxI) ms) := sE_callB (cr_maxX hc) caD_max (by decide +kernel) hg hm ha (by decide) (by decide) he hpl
theorem sE_min {ms : Sl → R (List D)} (hc : X.calm = true) (hg : Gl X "min") (hm : X.mg "min" = none) (ha : SimA X ξ W (e :: es) ms) (he : starEach (e :: es) X.env = (false, eval e X.env) :: starEach es X.env := by rfl) (hpl : (backTo pos (starEach es X.env)).any (·.1) = false := by rfl) :
    SimE X ξ W (.Call (.Name "min" p) (e :: es) [] pos) (mApp (only1 dMinI) ms) := sE_callB (cr_minX hc) caD_min (by decide +kernel) hg hm ha (by decide) (by decide) he hpl
theorem sE_sorted {ms : Sl → R (List D)} (hg : Gl X "sorted") (hm : X.mg "sorted" = none) (ha : SimA X ξ W (e :: es) ms) (he : starEach (e :: es) X.env = (false, eval e X.env) :: starEach es X.env := by rfl) (hpl : (backTo pos (starEach es X.env)).any (·.1) = false := by rfl) :
    SimE X ξ W (.Call (.Name "sorted" p) (e :: es) [] pos) (mApp (only1 dSorted) ms) := sE_callB cr_sorted caD_sorted (by decide +kernel) hg hm ha (by decide) (by decide) he hpl
end
end Sim

/-! Sim: pop, {}, tuple(range(..)). -/
namespace Sim
open PySem PySem.Spec PyProof.Rows L2
/-! ### pop, of a list of things that own nothing -/
def mPop (i : Nat) (s : Sl) : R D := match s[i]?.join with
  | some (.lst ds) => if imms ds = true then (match ds[ds.length - 1]? with
    | some d => .ok d (s.set i (some (.lst ds.dropLast)))
    | none => .stuck) else .stuck
  | _ => .stuck
section
variable {K : KX} {W : WX} {Z H : Hp}
theorem reps_dropLast : ∀ {ds : List D} {vs : List V}, Reps K Z H ds vs [] → Reps K Z H ds.dropLast vs.dropLast []
  | [], vs, r => by rw [r.1]; exact ⟨rfl, rfl⟩
  | [d], vs, r => by
    obtain ⟨v, e, _⟩ := reps_one r
    rw [e]; exact ⟨rfl, rfl⟩
  | d :: e :: ds, vs, r => by
    obtain ⟨v, vs', O1, O2, ev, eo, r1, r2⟩ := r
    obtain ⟨rfl, rfl⟩ := List.append_eq_nil_iff.mp eo.symm
    have l := reps_len r2
    have ih := reps_dropLast r2
    cases vs' with
    | nil => simp at l
    | cons w ws =>
      rw [ev]
      exact ⟨v, (w :: ws).dropLast, [], [], rfl, rfl, r1, ih⟩
theorem semE_pop {i : Nat} : SemE K W (tBM0 K.f "list" rPop (tVar i)) (mPop i) := fun σ H Z O s Q ok w => by
  unfold mPop at w
  cases e0 : s[i]?.join with
  | none => rw [e0] at w; exact w.elim
  | some x0 =>
    rw [e0] at w
    cases x0 <;> try exact False.elim w
    rename_i ds
    dsimp only at w
    split at w
    · rename_i hi
      cases e1 : ds[ds.length - 1]? with
      | none => rw [e1] at w; exact w.elim
      | some d =>
        rw [e1] at w
        dsimp only at w
        obtain ⟨v, A, O1, B, q, eo, r, _⟩ := ok.rep.get (join_some e0)
        obtain ⟨a, vs, O', ev, eo1, qa, ra⟩ := r
        subst ev
        have en := ra.immO ds vs O' hi
        subst en
        obtain ⟨y, A2, O2, B2, hy, eo2, ry⟩ := ra.get e1
        have on : O2 = [] := by
          have := congrArg List.length eo2
          simp at this
          exact List.eq_nil_of_length_eq_zero (by omega)
        subst on
        refine ⟨.ref a, q, .inl ⟨rfl, vs, SqL.of qa⟩, a, vs, y, rfl, rfl, qa, by rw [reps_len ra]; exact hy, ?_⟩
        obtain ⟨O3, ok3, ext3⟩ := ok.change (i := i) (d1 := .lst ds.dropLast) (o1 := .lst vs.dropLast) (Od := []) (a := a) (join_some e0) (fun v' O1' r1 e nn => by
          subst e
          obtain ⟨a2, vs2, O2, ev2, eo2, qa2, ra2⟩ := r1
          cases ev2
          rw [qa] at qa2
          cases qa2
          refine ⟨O2, eo2, fun H' hh ha => ⟨[], ⟨a, vs.dropLast, [], rfl, rfl, ha, ?_⟩, by simp, by simp⟩⟩
          have en2 := ra2.immO ds vs O2 hi
          subst en2
          exact Reps.stay (fun _ _ h => h) _ _ _ (reps_dropLast ra2) (by simp)) q (by simp) (by simpa using ok.nd) (by simp)
        exact w y _ Z [] O3 ⟨ok3, Rep.stay (fun _ _ h => h) d y [] ry (by simp), by simpa using ok3.nd, by simp, by simpa using ext3⟩
    · exact w.elim
end
section
variable {X : Cx} {ξ : Option (V × Option Addr)} {W : WX} {x : Str} {pos : Pos}
theorem sE_pop (i : Nat) {p0 apos : Pos} (hN : X.N[i]? = some x := by rfl) (hv : Vis X.env.scope x := by first | exact Or.inl rfl | exact Or.inr (Or.inl rfl) | exact Or.inr (Or.inr rfl))
    (hd : (x == ("__debug__" : Str)) = false := by decide) (hcd : (x == ("__classdict__" : Str)) = false := by decide)
    (hbase : attributeBase (.Name x p0) "pop" X.env (eval (.Name x p0) X.env) = eval (.Name x p0) X.env := by rfl) (hline : (apos.endLine == pos.line) = true := by rfl) :
    SimE X ξ W (.Call (.Attribute (.Name x p0) "pop" apos) [] [] pos) (mPop i) := ⟨_, pe_bm0 PySem.F.plainAttrs_list PySem.F.slot_list_pop PySem.F.type_list_pop mt_pop (pe_var hN hv hd hcd) hbase hline, semE_pop⟩
end
theorem RgOk.of_le' {n : Int} (h : n.natAbs ≤ 1000000) : RgOk 0 n := ⟨by omega, by omega, by omega, by omega, by omega⟩
/-! ### {} -/
def mDict0 (s : Sl) : R D := .ok (.dct []) s
section
variable {K : KX} {W : WX} {X : Cx} {ξ : Option (V × Option Addr)} {pos p : Pos} {a : Expr} {na : Sl → R D} {p2 : Pos}
theorem semE_dnew : SemE K W tDNewK mDict0 := fun σ H Z O s Q ok w p n => by
  have q := Pz.new ok.zh n (.dK [])
  have zp : Z p = none := pz_fresh (x := H) ok.zh n
  have np : p ∉ O := fun hb => by
    obtain ⟨o, e⟩ := ok.rep.there p hb
    rw [n] at e; cases e
  have x := q.ext (O := O)
  refine w (.ref p) _ Z [p] O ⟨ok.pz q, ⟨p, [], [], rfl, rfl, upd_same, ⟨rfl, rfl⟩⟩, by simpa using ⟨np, ok.nd⟩, fun b hb => ?_, ⟨x.zz, x.fr, fun b hb => ?_, x.nz⟩⟩
  · have : b = p := by simpa using hb
    subst this; exact zp
  · rcases List.mem_append.mp hb with hb | hb
    · have : b = p := by simpa using hb
      subst this; exact .inr n
    · exact .inl hb
theorem sE_dnew : SimE X ξ W (.Dict [] [] pos) mDict0 := ⟨_, pe_dnewK, semE_dnew⟩
/-! ### tuple(range(n)) -/
def mTupR (m : Sl → R D) (s : Sl) : R D := (m s).bind fun d s1 => match d with
  | .int n => if n.natAbs ≤ 1000000 then .ok (.tup (rangeD 0 n.toNat)) s1 else .stuck
  | _ => .stuck
theorem reps_nat {Z H : Hp} : ∀ l : List Nat, Reps K Z H (l.map fun (i : Nat) => D.int (0 + (i : Int))) (l.map fun (i : Nat) => V.int (0 + (i : Int))) []
  | [] => ⟨rfl, rfl⟩
  | i :: l => ⟨.int (0 + (i : Int)), _, [], [], rfl, rfl, ⟨rfl, rfl⟩, reps_nat l⟩
theorem semE_tupR {t : TE} {m : Sl → R D} (h : SemE K W t m) : SemE K W (tTupRgN (tRg1 t)) (mTupR m) := fun σ H Z O s Q ok w => by
  unfold mTupR at w
  refine h σ H Z O s _ ok ?_
  cases e : m s with
  | stuck => rw [e] at w; exact w.elim
  | exc c fs s1 => rw [e] at w; exact w
  | ok d s1 =>
    rw [e] at w
    dsimp only [R.bind] at w
    intro v H1 Z1 Od Oe x
    cases d <;> try exact False.elim w
    rename_i n
    dsimp only at w
    split at w
    · rename_i hn
      refine ⟨n, x.rep.1, Sim.RgOk.of_le' hn, fun q ar nq => ?_⟩
      have pn := Pz.newZ x.ok.zh nq (fzT ar (rgV 0 n))
      have hr : Reps K (upd Z1 q (fzT ar (rgV 0 n))) (upd H1 q (fzT ar (rgV 0 n))) (rangeD 0 n.toNat) (rgV 0 n) [] := by
        unfold rangeD rgV
        rw [Int.sub_zero]
        exact reps_nat _
      have t := x.ext.trans2 (pn.ext (O := Od ++ Oe)) fun _ h => h
      exact w (.ref q) _ _ [] Oe ⟨x.ok.pz pn, ⟨q, rgV 0 n, rfl, sqN_new, hr⟩, by simpa using (List.nodup_append.mp x.nd).2.1, by simp, t.less fun b hb => List.mem_append_right _ (by simpa using hb)⟩
    · exact w.elim
theorem sE_tupR {pr pr2 : Pos} (hc : X.calm = true) (hg : Gl X "tuple") (hm : X.mg "tuple" = none) (hg2 : Gl X "range") (hm2 : X.mg "range" = none) (ha : SimE X ξ W a na) (n1 : starEach [a] X.env = (false, eval a X.env) :: starEach [] X.env := by rfl)
    (n2 : starEach [.Call (.Name "range" pr) [a] [] pr2] X.env = (false, eval (.Call (.Name "range" pr) [a] [] pr2) X.env) :: starEach [] X.env := by rfl) : SimE X ξ W (.Call (.Name "tuple" p) [.Call (.Name "range" pr) [a] [] pr2] [] pos) (mTupR na) :=
  ha.elim fun t q => ⟨_, pe_tupRgN hc hg hm (prg_1 hg2 hm2 q.1 n1) n2, semE_tupR q.2⟩
end
end Sim

/-! Sim: and, or, xor, shifts of whole numbers. -/
namespace Sim
open PySem PySem.Spec PyProof.Rows L2
def dBand : D → D → Option D := onI fun i j => .int (Builtin.bitAnd i j)
def dBor : D → D → Option D := onI fun i j => .int (Builtin.bitOr i j)
def dBxor : D → D → Option D := onI fun i j => .int (Builtin.bitXor i j)
def dShl : D → D → Option D := onIc cPow fun i j => .int (i * 2 ^ j.toNat)
def dShr : D → D → Option D := onIc (fun _ j => 0 ≤ j) fun i j => .int (i / 2 ^ j.toNat)
section
variable {K : KX}
theorem opD_band : OpD K (rI0 fun i j => .int (Builtin.bitAnd i j)) dBand := opD_I0
theorem opD_bor : OpD K (rI0 fun i j => .int (Builtin.bitOr i j)) dBor := opD_I0
theorem opD_bxor : OpD K (rI0 fun i j => .int (Builtin.bitXor i j)) dBxor := opD_I0
theorem opD_shl : OpD K (rI CPow fun i j => .int (i * 2 ^ j.toNat)) dShl := opD_I fun _ _ h => h
theorem opD_shr : OpD K (rI (fun _ j => 0 ≤ j) fun i j => .int (i / 2 ^ j.toNat)) dShr := opD_I fun _ _ h => h
end
section
variable {X : Cx} {ξ : Option (V × Option Addr)} {W : WX} {a b : Expr} {pos : Pos} {ma mb : Sl → Option D} {na nb : Sl → R D}
theorem sP_band (ha : SimP X ξ a ma) (hb : SimP X ξ b mb) : SimP X ξ (.BinOp a .BitAnd b pos) (two dBand ma mb) := sP_bin op_and opD_band ha hb
theorem sP_bor (ha : SimP X ξ a ma) (hb : SimP X ξ b mb) : SimP X ξ (.BinOp a .BitOr b pos) (two dBor ma mb) := sP_bin op_or opD_bor ha hb
theorem sP_bxor (ha : SimP X ξ a ma) (hb : SimP X ξ b mb) : SimP X ξ (.BinOp a .BitXor b pos) (two dBxor ma mb) := sP_bin op_xor opD_bxor ha hb
theorem sP_shl (ha : SimP X ξ a ma) (hb : SimP X ξ b mb) : SimP X ξ (.BinOp a .LShift b pos) (two dShl ma mb) := sP_bin op_shl opD_shl ha hb
theorem sP_shr (ha : SimP X ξ a ma) (hb : SimP X ξ b mb) : SimP X ξ (.BinOp a .RShift b pos) (two dShr ma mb) := sP_bin op_shr opD_shr ha hb
theorem sE_band (ha : SimE X ξ W a na) (hb : SimE X ξ W b nb) : SimE X ξ W (.BinOp a .BitAnd b pos) (m2 (only dBand) na nb) := sE_bin op_and (newD2_imm opD_band) ha hb
theorem sE_bor (ha : SimE X ξ W a na) (hb : SimE X ξ W b nb) : SimE X ξ W (.BinOp a .BitOr b pos) (m2 (only dBor) na nb) := sE_bin op_or (newD2_imm opD_bor) ha hb
theorem sE_bxor (ha : SimE X ξ W a na) (hb : SimE X ξ W b nb) : SimE X ξ W (.BinOp a .BitXor b pos) (m2 (only dBxor) na nb) := sE_bin op_xor (newD2_imm opD_bxor) ha hb
theorem sE_shl (ha : SimE X ξ W a na) (hb : SimE X ξ W b nb) : SimE X ξ W (.BinOp a .LShift b pos) (m2 (only dShl) na nb) := sE_bin op_shl (newD2_imm opD_shl) ha hb
theorem sE_shr (ha : SimE X ξ W a na) (hb : SimE X ξ W b nb) : SimE X ξ W (.BinOp a .RShift b pos) (m2 (only dShr) na nb) := sE_bin op_shr (newD2_imm opD_shr) ha hb
end
/-! |=, &= -/
section
variable {X : Cx}
theorem pip_of {op : Operator} {g : Int → Int → Int} (o : OpR X (inplaceOp op) (rI0 fun i j => .int (g i j))) : PIp X op (ipI g) := by
  intro pins s σ H x y v u Q I r1 r2 h
  exact o pins s σ H x y v u Q I r1 r2 h
theorem ip_bor : PIp X .BitOr (ipI fun i j => Builtin.bitOr i j) := pip_of iop_or
theorem ip_band : PIp X .BitAnd (ipI fun i j => Builtin.bitAnd i j) := pip_of iop_and
end
/-! ### list(x) -/
def dListOf (ds : List D) : Option D := match ds with
  | [.tup l] => if imms l = true then some (.lst l) else none
  | [.lst l] => if imms l = true then some (.lst l) else none
  | [.fls l] => if imms l = true then some (.lst l) else none
  | _ => none
def rListOf (K : PySem.W.Frag) : List V → Hp → VK → Prop := fun xs H Q => ∃ p ys, xs = [.ref p] ∧ (SqL K H p ys ∨ SqT K H p ys) ∧ ∀ l, H l = none → Q (.ref l) (upd H l (.lst ys))
theorem newD_listOf {K : KX} : NewD K (rListOf K.f) dListOf := fun Z H dx z xs Ox Q zh rx nd zo e k => by
  have fin : ∀ (a : Addr) (vs : List V) (l : List D), Reps K Z H l vs [] → some (D.lst l) = some z → ∀ p, H p = none → Q (.ref p) (upd H p (.lst vs)) := fun a vs l r ez p np => by
    cases ez
    have zp : Z p = none := pz_fresh (x := H) zh np
    refine k (.ref p) _ Z [p] (Pz.new zh np (.lst vs)) ⟨p, vs, [], rfl, rfl, upd_same, Reps.stay (fun _ _ h => h) l vs [] r (by simp)⟩ (by simp) (fun b hb => ?_) (fun b hb => .inr ?_)
    · rw [List.mem_singleton.mp hb]; exact zp
    · rw [List.mem_singleton.mp hb]; exact np
  unfold dListOf at e
  split at e
  · split at e
    · rename_i l hi
      obtain ⟨v, ex, r⟩ := reps_one rx
      obtain ⟨a, vs, ev, q, r⟩ := r
      have en := r.immO l vs Ox hi
      subst en
      exact ⟨a, vs, by rw [ex, ev], .inr (sqT_mono zh q.1), fin a vs l r e⟩
    · cases e
  · split at e
    · rename_i l hi
      obtain ⟨v, ex, r⟩ := reps_one rx
      obtain ⟨a, vs, O', ev, eo, q, r⟩ := r
      have en := r.immO l vs O' hi
      subst en
      exact ⟨a, vs, by rw [ex, ev], .inl (SqL.of q), fin a vs l r e⟩
    · cases e
  · split at e
    · rename_i l hi
      obtain ⟨v, ex, r⟩ := reps_one rx
      obtain ⟨a, vs, ev, eo, q, r⟩ := r
      have en := r.immO l vs Ox hi
      subst en
      exact ⟨a, vs, by rw [ex, ev], .inl (sqL_mono zh q), fin a vs l r e⟩
    · cases e
  · cases e
section
variable {X : Cx} {ξ : Option (V × Option Addr)} {W : WX} {e : Expr} {es : List Expr} {p pos : Pos}
theorem sE_list {ms : Sl → R (List D)} (hg : Gl X "list") (hm : X.mg "list" = none) (ha : SimA X ξ W (e :: es) ms) (he : starEach (e :: es) X.env = (false, eval e X.env) :: starEach es X.env := by rfl) (hpl : (backTo pos (starEach es X.env)).any (·.1) = false := by rfl) :
    SimE X ξ W (.Call (.Name "list" p) (e :: es) [] pos) (mApp dListOf ms) := ha.elim fun t q => ⟨_, pe_callTy (call_list_of (X := X)) hg hm boot_list q.1 (by decide) (by decide) he hpl, semE_app (newD_listOf (K := ⟨X.K, ξ⟩)) q.2⟩
end
end Sim

/-! Sim: a dict of the module with text keys: x in D, D[x]. -/
namespace Sim
open PySem PySem.Spec PyProof.Rows L2
abbrev Tab := List (Str × Option D)
def dTabIn (t : Tab) : D → Option D
  | .str z => (t.lookup z).map fun o => .bl o.isSome
  | _ => none
def dTabGet (t : Tab) : D → Option D
  | .str z => (t.lookup z).bind id
  | _ => none
/-- what the dict at ad says of the words of the table -/
def TabK (K : PySem.W.Frag) (ad : Addr) (t : Tab) : Prop := ∀ z o, t.lookup z = some o → match o with
  | none => PySem.W.nsIn K ad z = some none
  | some d => ∃ u, PySem.W.nsIn K ad z = some (some u) ∧ KRep K d u
theorem tabK_nil {K : PySem.W.Frag} {ad : Addr} : TabK K ad [] := fun z o h => by cases h
theorem tabK_no {K : PySem.W.Frag} {ad : Addr} {x : Str} {t : Tab} (h : PySem.W.nsIn K ad x = some none) (r : TabK K ad t) : TabK K ad ((x, none) :: t) := fun z o e => by
  rw [List.lookup_cons] at e
  split at e
  · rename_i q
    cases e
    have : z = x := by simpa using q
    rw [this]; exact h
  · exact r z o e
theorem tabK_yes {K : PySem.W.Frag} {ad : Addr} {x : Str} {t : Tab} {d : D} {u : Value} (h : PySem.W.nsIn K ad x = some (some u)) (k : KRep K d u) (r : TabK K ad t) : TabK K ad ((x, some d) :: t) := fun z o e => by
  rw [List.lookup_cons] at e
  split at e
  · rename_i q
    cases e
    have : z = x := by simpa using q
    rw [this]; exact ⟨u, h, k⟩
  · exact r z o e
section
variable {X : Cx} {ξ : Option (V × Option Addr)} {W : WX} {a : Expr} {p pos : Pos} {ma : Sl → Option D} {x : Str} {ad : Addr} {es : Array DictEntry} {n : Nat} {t : Tab}
theorem semP_tabIn {K : PySem.W.Frag} {ta : TE} (tk : TabK K ad t) (sa : SemP ⟨K, ξ⟩ ta ma) : SemP ⟨K, ξ⟩ (tOp (fun x y H Q => ∃ (z : Str) (r : Option Value), x = .str z ∧ y = .ref ad ∧ PySem.W.nsIn K ad z = some r ∧ Q (.bl r.isSome) H) ta (tC (.ref ad))) (one (dTabIn t) ma) := fun σ H Z O s Q ok d e k => by
  obtain ⟨dx, ex, e⟩ := Option.bind_eq_some_iff.mp e
  refine sa σ H Z O s _ ok dx ex fun v H1 Z1 O1 p1 r1 => ?_
  cases dx with
  | str z =>
    obtain ⟨o, el, ed⟩ := Option.map_eq_some_iff.mp e
    cases ed
    have h := tk z o el
    cases o with
    | none => exact ⟨z, none, r1.1, rfl, h, k _ H1 Z1 [] p1 ⟨rfl, rfl⟩⟩
    | some d =>
      obtain ⟨u, hu, _⟩ := h
      exact ⟨z, some u, r1.1, rfl, hu, k _ H1 Z1 [] p1 ⟨rfl, rfl⟩⟩
  | _ => cases e
def oneB (f : D → Option D) (ma : Sl → Option D) (s : Sl) : Option Bool := (one f ma s).bind asB
theorem sP_tabIn (hg : Gl X x) (hm : X.mg x = some (.ref ad)) (dk : KDict X.K X.w ad es n) (tk : TabK X.K ad t) (ha : SimP X ξ a ma) (hd : (x == ("__debug__" : Str)) = false := by decide) (hm2 : behindInMarks .In (.Name x p) = false := by first | exact nomark _ | rfl | with_unfolding_all rfl) :
    SimP X ξ (.Compare a [.In] [.Name x p] pos) (one (dTabIn t) ma) := by
  obtain ⟨ta, pa, sa⟩ := ha
  exact ⟨_, pe_cmpR (op_in_kd dk) pa (pe_glob (v := .ref ad) hg hm rfl hd) hm2, semP_tabIn tk sa⟩
theorem sPT_tabIn (hg : Gl X x) (hm : X.mg x = some (.ref ad)) (dk : KDict X.K X.w ad es n) (tk : TabK X.K ad t) (ha : SimP X ξ a ma) (hd : (x == ("__debug__" : Str)) = false := by decide) (hm2 : behindInMarks .In (.Name x p) = false := by first | exact nomark _ | rfl | with_unfolding_all rfl) :
    SimPT X ξ (.Compare a [.In] [.Name x p] pos) (oneB (dTabIn t) ma) := by
  obtain ⟨ta, pa, sa⟩ := ha
  exact ⟨_, pt_cmpR (op_in_kd dk) pa (pe_glob (v := .ref ad) hg hm rfl hd) hm2, semPT_of (semP_tabIn tk sa)⟩
theorem sP_tabGet (hg : Gl X x) (hm : X.mg x = some (.ref ad)) (dk : KDict X.K X.w ad es n) (tk : TabK X.K ad t) (ha : SimP X ξ a ma) (hd : (x == ("__debug__" : Str)) = false := by decide) (hs : NoSl a := by exact fun _ _ => rfl) :
    SimP X ξ (.Subscript (.Name x p) a pos) (one (dTabGet t) ma) := by
  obtain ⟨ta, pa, sa⟩ := ha
  refine ⟨_, pe_ix ix_kdict (pe_glob (v := .ref ad) hg hm rfl hd) pa hs, fun σ H Z O s Q ok d e k => ?_⟩
  obtain ⟨dx, ex, e⟩ := Option.bind_eq_some_iff.mp e
  refine sa σ H Z O s _ ok dx ex fun v H1 Z1 O1 p1 r1 => ?_
  cases dx with
  | str z =>
    obtain ⟨o, el, ed⟩ := Option.bind_eq_some_iff.mp e
    cases o with
    | none => cases ed
    | some d' =>
      cases ed
      obtain ⟨u, hu, v', rv, rr⟩ := tk z (some d) el
      exact ⟨ad, z, v', rfl, r1.1, ⟨es, n, u, dk.at_, dk.lit, hu, rv⟩, k v' H1 Z1 [] p1 (rr ξ Z1 H1)⟩
  | _ => cases e
end
end Sim

/-! Sim: x[i][j] = v, of a list of lists of things that own nothing. -/
namespace Sim
open PySem PySem.Spec PyProof.Rows L2
section
variable {K : KX} {W : WX} {pin : List Nat} {Z H Z' H' : Hp} {σ : L2.St} {s : Sl} {O : List Addr}
/-- one thing of a list, and how another stands in its place -/
theorem Reps.getPut : ∀ {ds : List D} {vs : List V} {O : List Addr} {i : Nat} {d : D}, Reps K Z H ds vs O → ds[i]? = some d → ∃ v A O1 B, vs[i]? = some v ∧ O = A ++ (O1 ++ B) ∧ Rep K Z H d v O1 ∧
    ∀ (H' : Hp) (d' : D) (O1' : List Addr), (∀ b ∈ A ++ B, ∀ o, H b = some o → H' b = some o) → Rep K Z H' d' v O1' → Reps K Z H' (ds.set i d') vs (A ++ (O1' ++ B))
  | d0 :: ds, vs, O, 0, d, h, e => by
    obtain ⟨v, vs', O1, O2, ev, eo, r1, r2⟩ := h
    have e0 : d0 = d := by simpa using e
    subst e0 ev eo
    exact ⟨v, [], O1, O2, rfl, rfl, r1, fun H' d' O1' hh r => ⟨v, vs', O1', O2, rfl, rfl, r, Reps.stay (fun _ _ h => h) ds vs' O2 r2 fun b hb => hh b (by simpa using hb)⟩⟩
  | d0 :: ds, vs, O, i + 1, d, h, e => by
    obtain ⟨v, vs', O1, O2, ev, eo, r1, r2⟩ := h
    obtain ⟨u, A, O3, B, e1, e2, r3, put⟩ := Reps.getPut (i := i) r2 (by simpa using e)
    subst ev eo e2
    refine ⟨u, O1 ++ A, O3, B, by simpa using e1, by simp, r3, fun H' d' O1' hh r => ?_⟩
    refine ⟨v, vs', O1, A ++ (O1' ++ B), rfl, by simp, Rep.stay (fun _ _ h => h) d0 v O1 r1 fun b hb => hh b (by simp [hb]), ?_⟩
    exact put H' d' O1' (fun b hb => hh b (by rcases List.mem_append.mp hb with hb | hb <;> simp [hb])) r
theorem reps_set0 : ∀ {ds : List D} {vs : List V} {k : Nat} {d : D} {v : V}, Reps K Z H ds vs [] → Rep K Z H d v [] → Reps K Z H (ds.set k d) (vs.set k v) []
  | [], vs, k, d, v, r, _ => by rw [r.1]; exact ⟨rfl, rfl⟩
  | d0 :: ds, vs, k, d, v, r, rd => by
    obtain ⟨v0, vs', O1, O2, ev, eo, r1, r2⟩ := r
    obtain ⟨rfl, rfl⟩ := List.append_eq_nil_iff.mp eo.symm
    subst ev
    cases k with
    | zero => exact ⟨v, vs', [], [], rfl, rfl, rd, r2⟩
    | succ k => exact ⟨v0, vs'.set k v, [], [], rfl, rfl, r1, reps_set0 r2 rd⟩
/-- a thing within a slot's tree is changed in place; the tree owns what it owned -/
theorem Ok.changeIn {i : Nat} {d0 d1 : D} {v : V} {b : Addr} {o1 : HO} (ok : Ok K Z H σ s O) (e : s[i]? = some (some d0)) (ev : σ[i]? = some (some v))
    (pt : ∀ O1, Rep K Z H d0 v O1 → O1.Nodup → b ∈ O1 ∧ ∀ H', (∀ c ∈ O1, c ≠ b → ∀ o, H c = some o → H' c = some o) → H' b = some o1 → Rep K Z H' d1 v O1) :
    ∃ O', Ok K Z (upd H b o1) σ (s.set i (some d1)) O' ∧ Ext Z H O Z (upd H b o1) O' := by
  obtain ⟨v', A, O1, B, q, eo, r, r2, r3, r4⟩ := ok.rep.get e
  rw [ev] at q
  cases q
  subst eo
  have nd := ok.nd
  obtain ⟨hb, mk⟩ := pt O1 r (by grind)
  have rn := mk (upd H b o1) (fun c hc n o ho => by rw [upd_ne n]; exact ho) upd_same
  have zb : Z b = none := ok.zo b (by simp [hb])
  have q4 := r4 Z (upd H b o1) d1 v O1 (fun _ _ h => h) (fun c hc o ho => by rw [upd_ne (fun z => by subst z; grind)]; exact ho) rn
  rw [set_same ev] at q4
  refine ⟨A ++ (O1 ++ B), ⟨fun c o h => ?_, q4, nd, ok.zo⟩, ⟨fun _ _ h => h, fun c o h n => ?_, fun c hc => .inl hc, fun c hc => .inl hc⟩⟩
  · rw [upd_ne (fun z => by rw [z, zb] at h; cases h)]; exact ok.zh c o h
  · rw [upd_ne (fun z => n (by rw [z]; simp [hb]))]; exact h
def mgSetLL (i : Nat) (ka kb : Sl → Option D) (d : D) (s : Sl) : Option Sl := match s[i]?.join, ka s, kb s with
  | some (.lst ds), some (.int p), some (.int q) => (ixN ds.length p).bind fun j => match ds[j]? with
    | some (.lst es) => (ixN es.length q).bind fun k => if imms es = true ∧ imm d = true then some (s.set i (some (.lst (ds.set j (.lst (es.set k d)))))) else none
    | _ => none
  | _, _, _ => none
theorem mgSetLL_some {i : Nat} {ka kb : Sl → Option D} {d : D} {s s' : Sl} (h : mgSetLL i ka kb d s = some s') : ∃ ds p q j es k, s[i]?.join = some (.lst ds) ∧ ka s = some (.int p) ∧ kb s = some (.int q) ∧ ixN ds.length p = some j ∧ ds[j]? = some (.lst es) ∧ ixN es.length q = some k ∧ imms es = true ∧ imm d = true ∧
    s' = s.set i (some (.lst (ds.set j (.lst (es.set k d))))) := by
  unfold mgSetLL at h
  split at h
  · rename_i ds p q e1 e2 e3
    obtain ⟨j, e4, h⟩ := Option.bind_eq_some_iff.mp h
    split at h
    · rename_i es e5
      obtain ⟨k, e6, h⟩ := Option.bind_eq_some_iff.mp h
      split at h
      · rename_i hi
        cases h
        exact ⟨ds, p, q, j, es, k, e1, e2, e3, e4, e5, e6, hi.1, hi.2, rfl⟩
      · cases h
    · cases h
  · cases h
theorem semG_setLL {i : Nat} {ta tb : TE} {ka kb : Sl → Option D} (ha : SemP K ta ka) (hb : SemP K tb kb) : SemG K pin (gSub (tOp (rIx K.f) (tVar i) ta) tb rSetL) (mgSetLL i ka kb) := fun σ H Z O s d v Od Q ok r nd zo s' e kk => by
  obtain ⟨ds, p, q, j, es, k, e1, e2, e3, e4, e5, e6, ie, id_, rfl⟩ := mgSetLL_some e
  have eo := r.immO d v Od id_
  subst eo
  obtain ⟨v0, A, O1, B, qv, eo, r0, _⟩ := ok.rep.get (join_some e1)
  refine ⟨v0, qv, ha σ H Z O s _ ok _ e2 fun y H1 Z1 Oy p1 ry => ?_⟩
  obtain ⟨a, vs, O', ev, eo1, qa, ra⟩ := p1.rep r0
  subst ev
  obtain ⟨u, A1, O2, B1, hu, eo2, rin, _⟩ := Reps.getPut ra e5
  obtain ⟨a2, us, O3, eu, eo3, qa2, res⟩ := rin
  subst eu
  have e0 := res.immO es us O3 ie
  subst e0
  have hat : atI vs p = some (V.ref a2) := by
    unfold atI
    rw [reps_len ra, e4]
    exact hu
  refine .inl ⟨a, vs, p, .ref a2, rfl, ry.1, SqL.of qa, hat, ?_⟩
  refine hb σ H1 Z1 O s _ (ok.pz p1) _ e3 fun y2 H2 Z2 Oy2 p2 ry2 => ?_
  have ok2 := (ok.pz p1).pz p2
  have qa' : H2 a = some (.lst vs) := p2.fr a _ qa
  have qa2' : H2 a2 = some (.lst us) := p2.fr a2 _ qa2
  have rd := p2.rep (p1.rep r)
  refine ⟨a2, us, q, k, rfl, ry2.1, qa2', by rw [reps_len res]; exact e6, ?_⟩
  obtain ⟨O4, ok4, ext4⟩ := ok2.changeIn (i := i) (d1 := .lst (ds.set j (.lst (es.set k d)))) (v := .ref a) (b := a2) (o1 := .lst (us.set k v)) (join_some e1) qv (fun O1 r1 nd1 => by
    obtain ⟨a', vs', O5, ev', eo', qb, rb⟩ := r1
    cases ev'
    rw [qa'] at qb
    cases qb
    obtain ⟨u', A2, O6, B2, hu', eo6, rin', put⟩ := Reps.getPut rb e5
    rw [hu] at hu'
    cases hu'
    obtain ⟨a3, us', O7, eu', eo7, qa3, res'⟩ := rin'
    cases eu'
    rw [qa2'] at qa3
    cases qa3
    have e7 := res'.immO es us O7 ie
    subst e7 eo7 eo6 eo'
    refine ⟨by simp, fun H' hh hb' => ?_⟩
    have ne : a ≠ a2 := fun z => by subst z; grind
    refine ⟨a, vs, _, rfl, rfl, hh a (by simp) ne _ qa', put H' (.lst (es.set k d)) [a2] (fun c hc o ho => hh c (by
      rcases List.mem_append.mp hc with hc | hc <;> simp [hc]) (fun z => by subst z; grind) o ho) ⟨a2, us.set k v, [], rfl, rfl, hb', ?_⟩⟩
    exact reps_set0 (Reps.stay (fun _ _ h => h) es us [] res' (by simp)) (Rep.stay (fun _ _ h => h) d v [] rd (by simp)))
  have x12 := (p1.trans p2).ext (O := O)
  exact kk σ _ Z2 O4 ok4 (by simpa using x12.trans2 ext4 fun _ h => h) .refl
end
section
variable {X : Cx} {ξ : Option (V × Option Addr)} {a b : Expr} {pos pos2 : Pos} {ma mb : Sl → Option D} {x : Str}
theorem sG_setLL (i : Nat) {Pn : List Nat → Prop} {p0 : Pos} (ha : SimP X ξ a ma) (hb : SimP X ξ b mb) (hN : X.N[i]? = some x := by rfl) (hv : Vis X.env.scope x := by first | exact Or.inl rfl | exact Or.inr (Or.inl rfl) | exact Or.inr (Or.inr rfl)) (hd : (x == ("__debug__" : Str)) = false := by decide)
    (hcd : (x == ("__classdict__" : Str)) = false := by decide) (hs : NoSl a := by exact fun _ _ => rfl)
    (hass : ∀ v, assign (.Subscript (.Subscript (.Name x p0) a pos2) b pos) X.env v = (do
      let ov ← holding [v] (eval (.Subscript (.Name x p0) a pos2) X.env)
      let iv ← holding [v, ov] (eval b X.env)
      standAt pos
      holding [v, ov, iv] (setItem ov iv v)
      release [v, ov, iv] []) := by intro _; rfl) : SimG X ξ Pn (.Subscript (.Subscript (.Name x p0) a pos2) b pos) (mgSetLL i ma mb) := by
  obtain ⟨t, p, q⟩ := ha
  obtain ⟨t2, p2, q2⟩ := hb
  exact ⟨_, pg_sub (pe_ix ix_seq (pe_var hN hv hd hcd) p hs) p2 set_list hass, fun pin _ => semG_setLL q q2⟩
end
end Sim

/-! Sim: range(i, j, -1). -/
namespace Sim
open PySem PySem.Spec PyProof.Rows L2
def rangeDn (lo : Int) (n : Nat) : List D := (List.range n).map fun i => D.int (lo + (i : Nat) * (-1))
def rngDn : List D → Option (List D)
  | [.int i, .int j, .int (.negSucc 0)] => if i.natAbs < 2 ^ 60 ∧ j.natAbs < 2 ^ 60 then some (rangeDn i (i - j).toNat) else none
  | _ => none
def mRangeDn (m : Sl → R (List D)) (s : Sl) : R (List D) := (m s).bind fun ds s1 => match rngDn ds with
  | some is => .ok is s1
  | none => .stuck
section
variable {K : KX} {W : WX} {Z H : Hp}
theorem walks_dn {lo : Int} {n : Nat} : Wlk K Z (Itc lo (-1) n) (rangeDn lo n) := by
  refine ⟨imms_ints _ _, fun Z2 H2 i d z2 h2 e => ?_, fun Z2 H2 z2 h2 => ?_⟩
  · unfold rangeDn at e
    rw [List.getElem?_map] at e
    by_cases hi : i < n
    · rw [List.getElem?_range hi] at e
      cases e
      exact ⟨hi, fun x H3 y => ⟨Z2, by rw [y.1]; exact .refl h2, ⟨y.2, rfl⟩⟩⟩
    · rw [List.getElem?_eq_none (by rw [List.length_range]; omega)] at e
      cases e
  · show n ≤ (rangeDn lo n).length
    unfold rangeDn
    rw [List.length_map, List.length_range]
    exact Nat.le_refl _
theorem rngDn_some {ds l : List D} (h : rngDn ds = some l) : ∃ i j : Int, ds = [.int i, .int j, .int (-1)] ∧ (i.natAbs < 2 ^ 60 ∧ j.natAbs < 2 ^ 60) ∧ l = rangeDn i (i - j).toNat := by
  unfold rngDn at h
  split at h
  · rename_i i j
    split at h
    · rename_i hb
      cases h
      exact ⟨i, j, rfl, hb, rfl⟩
    · cases h
  · cases h
theorem semI_range3 {t : TA} {m : Sl → R (List D)} (h : SemA K W t m) : SemI K W (iRng3 t) (mRangeDn m) := fun σ H Z O s Q ok w => by
  unfold mRangeDn at w
  refine h σ H Z O s _ ok ?_
  cases e : m s with
  | stuck => rw [e] at w; exact w.elim
  | exc c fs s1 => rw [e] at w; exact w
  | ok ds s1 =>
    rw [e] at w
    dsimp only [R.bind] at w
    intro v H1 Z1 Od Oe x
    cases er : rngDn ds with
    | none => rw [er] at w; exact w.elim
    | some l =>
      rw [er] at w
      obtain ⟨i, j, rfl, ⟨hi, hj⟩, rfl⟩ := rngDn_some er
      obtain ⟨u, vs', O1, O2, ev, eo, r1, r2⟩ := x.rep
      obtain ⟨u2, u3, O3, O4, ev2, _, r3, r4⟩ := reps_two r2
      subst ev ev2
      exact ⟨i, j, -1, (i - j).toNat, by rw [r1.1, r3.1, r4.1], RgC.neg (by omega) (by omega) (by omega) (by omega), w _ H1 Z1 Oe x.ok (x.ext.less fun b hb => List.mem_append_right _ hb) walks_dn⟩
end
section
variable {X : Cx} {ξ : Option (V × Option Addr)} {W : WX} {a b c tg : Expr} {p pos : Pos} {ms : Sl → R (List D)}
theorem sI_range3 (hg : Gl X "range") (hm : X.mg "range" = none) (ha : SimA X ξ W [a, b, c] ms) (hs : starEach [a, b, c] X.env = (false, eval a X.env) :: starEach [b, c] X.env := by rfl) (hpl : (backTo pos (starEach [b, c] X.env)).any (·.1) = false := by rfl) :
    SimI X ξ W tg (.Call (.Name "range" p) [a, b, c] [] pos) (mRangeDn ms) := ha.elim fun t q => ⟨_, pi_range3 hg hm q.1 hs hpl, semI_range3 q.2⟩
end
end Sim

/-! Sim: a range as a value. -/
namespace Sim
open PySem PySem.Spec PyProof.Rows L2
def dRngV (ds : List D) : Option D := match ds with
  | [.int i, .int j] => some (.rng i j)
  | _ => none
def rRngV : List V → Hp → VK → Prop := fun vs H Q => ∃ i j, vs = [V.int i, V.int j] ∧ ∀ p, H p = none → Q (.ref p) (upd H p (.rng i j))
theorem caD_rngV {K : KX} : CaD K rRngV dRngV := fun Z H dx z xs Ox Q zh rx e k => by
  unfold dRngV at e
  split at e
  · rename_i i j
    cases e
    obtain ⟨v, u, O1, O2, rfl, _, r1, r2⟩ := reps_two rx
    exact ⟨i, j, by rw [r1.1, r2.1], fun p np => k _ _ _ [] (Pz.newZ zh np (.rng i j)) ⟨p, rfl, rfl, upd_same⟩⟩
  · cases e
def iRngV (te : TE) : TI := fun σ H R => te σ H fun x H1 => ∃ a lo hi, x = .ref a ∧ H1 a = some (.rng lo hi) ∧ (-(2 ^ 62) ≤ lo ∧ lo < 2 ^ 62 ∧ -(2 ^ 62) ≤ hi ∧ hi < 2 ^ 62) ∧ R (Itr lo (hi - lo).toNat) H1
theorem pi_rngV {X : Cx} {tg e : Expr} {te : TE} (he : PE X e te) : PI X tg e (iRngV te) := by
  refine ⟨fun pins s σ H R I h => ?_⟩
  refine thn (he.run pins s σ H _ I h) fun v s1 ⟨x, H1, I1, r1, q1⟩ => ?_
  obtain ⟨a, lo, hi, rfl, ha, ⟨b1, b2, b3, b4⟩, q⟩ := q1
  cases r1
  obtain ⟨t, u, w, ho⟩ := (show ObjOk X.prog X.w H1 s1.heap a (.rng lo hi) from I1.hok a _ ha)
  refine wpAny_pyIter_range (show IsRange s1.heap a lo hi 1 t u w from ho) (small_one b1 b2 b3 b4) ?_
  refine pi_one (tk := s1.toks) I1 _ (turn_range _ lo (hi - lo).toNat) ?_ q
  have e1 : lo + ((0 : Nat) : Int) * 1 = lo := by simp
  have e2 : (((hi - lo).toNat : Nat) : Int) - ((0 : Nat) : Int) = Builtin.Range.rangeSize lo hi 1 := by rw [rangeSize_one]; split <;> omega
  show IsRangeIter _ _ (lo + ((0 : Nat) : Int) * 1) ((((hi - lo).toNat : Nat) : Int) - ((0 : Nat) : Int)) 1
  rw [e1, e2]
  exact Heap.get?_push_size _ rfl
def mItemsR (m : Sl → R D) (s : Sl) : R (List D) := (m s).bind fun d s1 => match d with
  | .rng i j => (match rng2 i j with
    | some l => .ok l s1
    | none => .stuck)
  | _ => .stuck
section
variable {K : KX} {W : WX}
theorem semI_rngV {t : TE} {m : Sl → R D} (h : SemE K W t m) : SemI K W (iRngV t) (mItemsR m) := fun σ H Z O s Q ok w => by
  unfold mItemsR at w
  refine h σ H Z O s _ ok ?_
  cases e : m s with
  | stuck => rw [e] at w; exact w.elim
  | exc c fs s1 => rw [e] at w; exact w
  | ok d s1 =>
    rw [e] at w
    dsimp only [R.bind] at w
    intro v H1 Z1 Od Oe x
    cases d <;> try exact False.elim w
    rename_i i j
    dsimp only at w
    cases er : rng2 i j with
    | none => rw [er] at w; exact w.elim
    | some l =>
      rw [er] at w
      obtain ⟨hj, rfl⟩ := rng2_some er
      obtain ⟨a, ev, eo, q⟩ := x.rep
      exact ⟨a, i, j, ev, x.ok.zh _ _ q, hj, w _ H1 Z1 Oe x.ok (x.ext.less fun b hb => List.mem_append_right _ hb) walks_range⟩
end
section
variable {X : Cx} {ξ : Option (V × Option Addr)} {W : WX} {e a b : Expr} {es : List Expr} {p pos : Pos} {tg : Expr} {na : Sl → R D}
theorem sE_rngV {ms : Sl → R (List D)} (hg : Gl X "range") (hm : X.mg "range" = none) (ha : SimA X ξ W (e :: es) ms) (he : starEach (e :: es) X.env = (false, eval e X.env) :: starEach es X.env := by rfl) (hpl : (backTo pos (starEach es X.env)).any (·.1) = false := by rfl) :
    SimE X ξ W (.Call (.Name "range" p) (e :: es) [] pos) (mApp (only1 dRngV) ms) := ha.elim fun t q => ⟨_, pe_callTy (cr_range2 (X := X)) hg hm boot_range q.1 (by decide) (by decide) he hpl, semE_app (newD_imm (caD_rngV (K := ⟨X.K, ξ⟩))) q.2⟩
theorem sI_rngV (ha : SimE X ξ W a na) : SimI X ξ W tg a (mItemsR na) := ha.elim fun t q => ⟨_, pi_rngV q.1, semI_rngV q.2⟩
end
end Sim

/-! Sim: list(range(i, j, -1)). -/
namespace Sim
open PySem PySem.Spec PyProof.Rows L2
def rgDnV (i : Int) (n : Nat) : List V := (List.range n).map fun k => V.int (i + (k : Nat) * (-1))
theorem vals_dn {i : Int} {n : Nat} {acc : Array Value} (h : ItemsOf (fun k v => ∃ t, v = .int (i + k * (-1)) t) acc n) : Vals (rgDnV i n) acc.toList := by
  have e : acc.toList.length = n := by rw [Array.length_toList]; exact h.1
  unfold rgDnV
  rw [← e]
  refine vals_of_get acc.toList _ fun j u hj => ?_
  obtain ⟨t, rfl⟩ := h.2 j u (by rw [← hj, Array.getElem?_toList])
  exact ⟨t, rfl⟩
def tLstDn (ta : TA) : TE := fun σ H Q => ta σ H fun vs H1 => ∃ i j : Int, vs = [.int i, .int j, .int (-1)] ∧ (-(2 ^ 62) ≤ i ∧ i < 2 ^ 62 ∧ -(2 ^ 62) ≤ j ∧ j < 2 ^ 62) ∧ (i - j).toNat ≤ 1000000 ∧ ∀ q, H1 q = none → Q (.ref q) (upd H1 q (.lst (rgDnV i (i - j).toNat)))
section
variable {X : Cx}
theorem pe_listDn {a b c : Expr} {ta : TA} {p pos pr pr2 : Pos} (hc : X.calm = true) (hg : Gl X "list") (hm : X.mg "list" = none) (hg2 : Gl X "range") (hm2 : X.mg "range" = none) (ha : PA X [a, b, c] ta)
    (hs : starEach [a, b, c] X.env = (false, eval a X.env) :: starEach [b, c] X.env) (hpl : (backTo pr2 (starEach [b, c] X.env)).any (·.1) = false)
    (na : starEach [.Call (.Name "range" pr) [a, b, c] [] pr2] X.env = (false, eval (.Call (.Name "range" pr) [a, b, c] [] pr2) X.env) :: starEach [] X.env) :
    PE X (.Call (.Name "list" p) [.Call (.Name "range" pr) [a, b, c] [] pr2] [] pos) (tLstDn ta) := by
  refine ⟨fun pins s σ H Q I h => ?_⟩
  have inner : wpAny (model X.prog X.w) X.A (eval (.Call (.Name "range" pr) [a, b, c] [] pr2) X.env) (fun x s' => ∃ r i j t u v H', x = .ref r ∧ IsRange s'.heap r i j (-1) t u v ∧ Inv X pins σ H' s' ∧ (-(2 ^ 62) ≤ i ∧ i < 2 ^ 62 ∧ -(2 ^ 62) ≤ j ∧ j < 2 ^ 62) ∧ (i - j).toNat ≤ 1000000 ∧
      ∀ q, H' q = none → Q (.ref q) (upd H' q (.lst (rgDnV i (i - j).toNat)))) X.xe s := by
    refine Call_ (ld_blt I hg2 hm2 boot_range (PyProof.Rows.callWith_type1 (thn (ha.run pr2 pins s σ H _ I h) fun us s1 ⟨vs, H1, I1, r1, q1⟩ => ?_) hs hpl))
    obtain ⟨i, j, e, bs, bn, q⟩ := q1
    subst e
    cases r1 with
    | cons r rr => cases rr with
      | cons r' rr => cases rr with
        | cons r'' rr =>
          cases rr
          obtain ⟨t, rfl⟩ := r
          obtain ⟨t', rfl⟩ := r'
          obtain ⟨t'', rfl⟩ := r''
          exact call_range_3 (by decide) ⟨_, i, j, _, _, _, H1, rfl, IsRange.new _ _ _ _ _ _ _, I1.kept fun b u e => Heap.get?_push_of_some _ e, bs, bn, q⟩ (.inl (PyProof.noPylong_small (by decide)))
  refine Call_ (ld_blt I hg hm boot_list (PyProof.Rows.callWith_type1 (args_cons (thn inner fun x s1 ⟨r, i, j, t, u, v, H1, ex, hr, I1, ⟨b1, b2, b3, b4⟩, bn, q⟩ => args_nil ?_) na) na))
  subst ex
  have rc : RgC i j (-1) (i - j).toNat := RgC.neg b1 b2 b3 b4
  refine call_list_range (n := (i - j).toNat) (I1.ok.hd hc) hr rc.2.2.1 rc.2.2.2 (by omega) fun h' tk acc c' hk e' hi => ?_
  refine ⟨.ref s1.heap.objs.size, upd H1 s1.heap.objs.size (.lst (rgDnV i (i - j).toNat)), I1.laid hk (Nat.le_refl _) (show ObjOk X.prog X.w _ _ _ (.lst (rgDnV i (i - j).toNat)) from ⟨?_, acc.toList, c', vals_dn hi, ?_⟩), rfl, q _ (I1.hok.fresh (Nat.le_refl _))⟩
  · unfold rgDnV; rw [List.length_map, List.length_range, sizeLine_eq]; omega
  · rw [Array.toArray_toList]; exact e'
end
def dLstDn (ds : List D) : Option D := match rngDn ds with
  | some l => if l.length ≤ 1000000 then some (.lst l) else none
  | none => none
def mLstDn (m : Sl → R (List D)) (s : Sl) : R D := (m s).bind fun ds s1 => match dLstDn ds with
  | some d => .ok d s1
  | none => .stuck
section
variable {K : KX} {W : WX}
theorem reps_dn {Z H : Hp} {i : Int} : ∀ l : List Nat, Reps K Z H (l.map fun (k : Nat) => D.int (i + (k : Nat) * (-1))) (l.map fun (k : Nat) => V.int (i + (k : Nat) * (-1))) []
  | [] => ⟨rfl, rfl⟩
  | k :: l => ⟨.int (i + (k : Nat) * (-1)), _, [], [], rfl, rfl, ⟨rfl, rfl⟩, reps_dn l⟩
theorem semE_listDn {t : TA} {m : Sl → R (List D)} (h : SemA K W t m) : SemE K W (tLstDn t) (mLstDn m) := fun σ H Z O s Q ok w => by
  unfold mLstDn at w
  refine h σ H Z O s _ ok ?_
  cases e : m s with
  | stuck => rw [e] at w; exact w.elim
  | exc c fs s1 => rw [e] at w; exact w
  | ok ds s1 =>
    rw [e] at w
    dsimp only [R.bind] at w
    intro v H1 Z1 Od Oe x
    cases er : rngDn ds with
    | none => rw [show dLstDn ds = none by unfold dLstDn; rw [er]] at w; exact w.elim
    | some l =>
      by_cases hl : l.length ≤ 1000000
      · rw [show dLstDn ds = some (.lst l) by unfold dLstDn; rw [er]; exact if_pos hl] at w
        obtain ⟨i, j, rfl, ⟨hi, hj⟩, rfl⟩ := rngDn_some er
        obtain ⟨u, vs', O1, O2, ev, eo, r1, r2⟩ := x.rep
        obtain ⟨u2, u3, O3, O4, ev2, _, r3, r4⟩ := reps_two r2
        subst ev ev2
        have hn : (i - j).toNat ≤ 1000000 := by unfold rangeDn at hl; rw [List.length_map, List.length_range] at hl; exact hl
        refine ⟨i, j, by rw [r1.1, r3.1, r4.1], ⟨by omega, by omega, by omega, by omega⟩, hn, fun q nq => ?_⟩
        have zq : Z1 q = none := pz_fresh (x := H1) x.ok.zh nq
        have nO : q ∉ Oe := fun hb => by
          obtain ⟨o, e⟩ := x.ok.rep.there q hb
          rw [nq] at e; cases e
        have pz := Pz.new x.ok.zh nq (.lst (rgDnV i (i - j).toNat))
        have xe := pz.ext (O := Oe)
        have nd2 : Oe.Nodup := (List.nodup_append.mp x.nd).2.1
        refine w (.ref q) _ Z1 [q] Oe ⟨x.ok.pz pz, ⟨q, rgDnV i (i - j).toNat, [], rfl, rfl, upd_same, reps_dn _⟩, by simpa using ⟨nO, nd2⟩, fun b hb => by rw [List.mem_singleton.mp hb]; exact zq, ?_⟩
        have t0 : Ext Z H O Z1 H1 Oe := x.ext.less fun b hb => List.mem_append_right _ hb
        have t := t0.trans2 xe fun _ h => h
        exact ⟨t.zz, t.fr, fun b hb => by
          rcases List.mem_append.mp hb with hb | hb
          · rw [List.mem_singleton.mp hb]
            by_cases ho : q ∈ O
            · exact .inl ho
            · right
              cases eh : H q with
              | none => rfl
              | some o => have := x.ext.fr q o eh ho; rw [nq] at this; cases this
          · exact t.nw b hb, t.nz⟩
      · rw [show dLstDn ds = none by unfold dLstDn; rw [er]; exact if_neg hl] at w; exact w.elim
end
section
variable {X : Cx} {ξ : Option (V × Option Addr)} {W : WX} {a b c : Expr} {p pos pr pr2 : Pos} {ms : Sl → R (List D)}
theorem sE_listDn (hc : X.calm = true) (hg : Gl X "list") (hm : X.mg "list" = none) (hg2 : Gl X "range") (hm2 : X.mg "range" = none) (ha : SimA X ξ W [a, b, c] ms)
    (hs : starEach [a, b, c] X.env = (false, eval a X.env) :: starEach [b, c] X.env := by rfl) (hpl : (backTo pr2 (starEach [b, c] X.env)).any (·.1) = false := by rfl)
    (na : starEach [.Call (.Name "range" pr) [a, b, c] [] pr2] X.env = (false, eval (.Call (.Name "range" pr) [a, b, c] [] pr2) X.env) :: starEach [] X.env := by rfl) :
    SimE X ξ W (.Call (.Name "list" p) [.Call (.Name "range" pr) [a, b, c] [] pr2] [] pos) (mLstDn ms) := ha.elim fun t q => ⟨_, pe_listDn hc hg hm hg2 hm2 q.1 hs hpl na, semE_listDn q.2⟩
end
end Sim

/-! Sim: a list times a whole number. -/
namespace Sim
open PySem PySem.Spec PyProof.Rows L2
def dRepL (a b : D) : Option D := match a, b with
  | .lst xs, .int k => if imms xs = true ∧ k.natAbs < 2 ^ 60 ∧ xs.length * k.toNat ≤ sizeLine then some (.lst (List.replicate k.toNat xs).flatten) else none
  | _, _ => none
section
variable {K : KX} {Z H : Hp}
theorem frD_repL : FrD K rRep dRepL := fun Z H dx dy z x y Ox Oy Q zh rx ry e k => by
  unfold dRepL at e
  split at e
  · split at e
    · rename_i xs n h
      cases e
      obtain ⟨a, vs, O', ev, eo, q, r⟩ := rx
      have e1 := r.immO xs vs O' h.1
      subst e1
      refine ⟨a, n, vs, ev, ry.1, q, by omega, by omega, by rw [reps_len r]; exact h.2.2, fun p np => ?_⟩
      have pz := Pz.new zh np (.lst (List.replicate n.toNat vs).flatten)
      refine k _ _ _ [p] pz ⟨p, (List.replicate n.toNat vs).flatten, [], rfl, rfl, upd_same, reps_flat (pz.reps r) _⟩ (by simp) fun b hb => ?_
      have : b = p := by simpa using hb
      subst this
      exact ⟨np, pz_fresh (x := H) zh np⟩
    · cases e
  · cases e
end
def rMulF (K : PySem.W.Frag) : R2 := fun x y H Q => rMulX K x y H Q ∨ rRep x y H Q
def dMulF : D → D → Option D := orD (only dMulX) dRepL
theorem op_mulF {X : Cx} : OpR X (binaryOp .Mult) (rMulF X.K) := op_mulX.or op_rep
theorem frD_mulF {K : KX} : FrD K (rMulF K.f) dMulF := (frD_imm opD_mulX).or frD_repL
section
variable {X : Cx} {ξ : Option (V × Option Addr)} {W : WX} {a b : Expr} {pos : Pos} {ma mb : Sl → Option D} {na nb : Sl → R D}
theorem sE_mulF (ha : SimE X ξ W a na) (hb : SimE X ξ W b nb) : SimE X ξ W (.BinOp a .Mult b pos) (m2 dMulF na nb) := sE_bin op_mulF frD_mulF.new2 ha hb
theorem sE_mulFP (ha : SimP X ξ a ma) (hb : SimP X ξ b mb) : SimE X ξ W (.BinOp a .Mult b pos) (mNew2 dMulF ma mb) := by
  obtain ⟨ta, pa, sa⟩ := ha
  obtain ⟨tb, pb, sb⟩ := hb
  exact ⟨_, pe_op op_mulF pa pb, semE_fr frD_mulF sa sb⟩
end
end Sim

/-! Sim: an item of a dict that is made in place; x.get(k, z). -/
namespace Sim
open PySem PySem.Spec PyProof.Rows L2
def rDGet : R2 := fun x y H Q => ∃ a v, x = .ref a ∧ DGet H a y (some v) ∧ Q v H
theorem newD2_dget {K : KX} : NewD2 K rDGet (only dGet) := fun Z H dx dy z x y Ox Oy Q zh rx ry nd zo e k => by
  unfold only at e
  cases ef : dGet dx dy with
  | none => rw [ef] at e; cases e
  | some z' =>
    rw [ef] at e
    dsimp only at e
    split at e
    · rename_i hi
      cases e
      obtain ⟨p, u, Oz, ev, dg, rz⟩ := dget_reads zh rx ry ef
      have eo := rz.immO _ u Oz hi
      subst eo
      exact ⟨p, u, ev, dg, k u H Z [] (.refl zh) rz (by simp) (by simp) (by simp)⟩
    · cases e
/-- what x.get(y, z) gives -/
def dGetZ (a b z : D) : Option D := match a with
  | .dct kvs => (keyOf b).map fun k => (valD kvs k).getD z
  | .fdc kvs => (keyOf b).map fun k => (valD kvs k).getD z
  | _ => none
section
variable {X : Cx} {ξ : Option (V × Option Addr)} {W : WX} {a b : Expr} {pos : Pos} {na nb : Sl → R D}
theorem sE_dget (hu : X.A.units + 1 < cLine) (ha : SimE X ξ W a na) (hb : SimE X ξ W b nb) (hs : NoSl b := by exact fun _ _ => rfl) : SimE X ξ W (.Subscript a b pos) (m2 (only dGet) na nb) := by
  obtain ⟨ta, pa, sa⟩ := ha
  obtain ⟨tb, pb, sb⟩ := hb
  exact ⟨_, pe_dget hu pa pb hs, semE_op newD2_dget sa sb⟩
end
end Sim

/-! Sim: t.index(x), x there. -/
namespace Sim
open PySem PySem.Spec PyProof.Rows L2
abbrev eqs (ps : List PyData) (q : PyData) : List Bool := ps.map fun p => PyData.eqv p q
def dIdx (a b : D) : Option D := match a with
  | .tup ds => match toPs ds, toP b with
    | some ps, some q => if (SeqAt.shaped (.tuple ps) && SeqAt.shaped q && decide (true ∈ eqs ps q)) = true then some (.int ((eqs ps q).idxOf true : Nat)) else none
    | _, _ => none
  | _ => none
/-- the tuple is read, its method is looked up, then the argument is worked out -/
def tIdxN (K : PySem.W.Frag) (to te : TE) : TE := fun σ H Q => to σ H fun x H1 => (∃ a xs, x = .ref a ∧ SqN K H1 a xs) ∧ te σ H1 fun y H2 => ∃ a ps q, x = .ref a ∧ Dp K H2 x (.tuple ps) ∧ Dp K H2 y q ∧
  SeqAt.shaped (.tuple ps) = true ∧ SeqAt.shaped q = true ∧ true ∈ eqs ps q ∧ Q (.int ((eqs ps q).idxOf true : Nat)) H2
section
variable {X : Cx} {o e : Expr} {to te : TE} {apos cpos : Pos}
theorem pe_idxN (hu : X.A.units + 65 < cLine) (ho : PE X o to) (he : PE X e te) (hbase : attributeBase o "index" X.env (eval o X.env) = eval o X.env := by rfl)
    (hfew : ((backTo cpos (starEach [e] X.env)).all (fun x => !x.1) && (backToKw cpos (keywordEach [] X.env)).all (fun x => x.1.isSome) && decide (([e] : List Expr).length + ([] : List Keyword).length + (if ([] : List Keyword).isEmpty then 0 else 1) < 30)) = true := by rfl)
    (hline : (apos.endLine == cpos.line) = true := by rfl) (hs : starEach [e] X.env = (false, eval e X.env) :: starEach [] X.env := by rfl) :
    PE X (.Call (.Attribute o "index" apos) [e] [] cpos) (tIdxN X.K to te) := by
  refine ⟨fun pins s σ H Q J w => wpAny_Call_method_late hbase hfew hline rfl (thn (ho.run pins s σ H _ J w) fun v s1 ⟨x, H1, J1, rx, ⟨l, vs, ex, sq, nd⟩, w1⟩ => ?_)⟩
  subst ex
  obtain rfl : v = .ref l := rx
  obtain ⟨us, rv, it, _⟩ := J1.tuple sq
  refine ⟨"tuple", "tuple.index", PySem.F.plainAttrs_tuple, PySem.F.slot_tuple_index, PySem.F.type_tuple_index, it.typeIs, fun a ea => ?_, ?_⟩
  · cases ea
    rcases nd with ⟨ob, u, eh, dn⟩ | ⟨ob, ek, dn⟩
    · obtain ⟨eg, _⟩ := J1.hok l _ eh
      exact ⟨ob, eg, dn⟩
    · exact ⟨ob, J1.kIn l ob ek, dn⟩
  · have go := (pa_cons he pa_nil hs).run cpos pins s1 σ H1 (fun ys H2 => match ys with | [y] => (∃ a ps q, V.ref l = .ref a ∧ Dp X.K H2 (.ref l) (.tuple ps) ∧ Dp X.K H2 y q ∧ SeqAt.shaped (.tuple ps) = true ∧ SeqAt.shaped q = true ∧ true ∈ eqs ps q ∧ Q (.int ((eqs ps q).idxOf true : Nat)) H2) | _ => False) J1 w1
    rw [hs] at go ⊢
    refine Calls.callWith_builtin rfl (Calls.evalArgs_plain (thn go fun as s2 ⟨ys, H2, J2, ra, w2⟩ => ?_))
    dsimp only at w2
    split at w2
    · rename_i y
      obtain ⟨a, ps, q, ea, dt, dy, sp, sq2, hm, want⟩ := w2
      obtain ⟨u, rfl, ru⟩ := vals1 ra
      obtain ⟨bs, rd⟩ := Dp.reads J2 q y u dy ru
      cases dt with
      | tup sT dall =>
        obtain ⟨us2, rv2, it2, _⟩ := J2.tuple sT
        obtain ⟨cs, rall⟩ := Dp.readsAll J2 ps _ us2 dall rv2
        have ln : us2.length = ps.length := SeqAt.ReadsAll.length ps us2 cs rall
        have lay : PyData.canLayAll0 ps = true := SeqAt.canLay_of_shaped sp
        have mp : us2.map (SeqAt.readOf s2.heap) = ps := SeqAt.readsAll_map ps us2 cs lay rall
        have each := SeqAt.items_eqAt (A := X.A) (vs := us2.toArray) (show ReadsAll s2.heap us2.toArray.toList ps cs from rall) rd lay (SeqAt.canLay_of_shaped sq2) (by
          have := SeqAt.depth_of_shaped sp
          have := SeqAt.depth_of_shaped sq2
          omega)
        refine SeqAt.call_tuple_index (ks := eqs ps q) (k := true) (show s2.heap.IsTuple l us2.toArray from it2) ⟨by rw [List.length_map, ln], fun j h1 h2 => ?_⟩ hm ⟨.int _, H2, J2.tok _, ⟨_, rfl⟩, want⟩
        have h3 : j < ps.length := by omega
        have e1 : SeqAt.readOf s2.heap us2[j] = ps[j] := by
          have := congrArg (fun z => z[j]?) mp
          simp only [List.getElem?_map, List.getElem?_eq_getElem h1, List.getElem?_eq_getElem h3, Option.map_some] at this
          exact Option.some.inj this
        have e2 : decide ((eqs ps q)[j] = true) = PyData.eqv (SeqAt.readOf s2.heap us2[j]) q := by
          rw [e1, List.getElem_map]
          cases PyData.eqv ps[j] q <;> rfl
        rw [e2]
        exact each us2[j] (by simp)
    · exact w2.elim
end
section
variable {K : KX}
theorem dIdx_some {a b z : D} (h : dIdx a b = some z) : ∃ ds ps q, a = .tup ds ∧ toPs ds = some ps ∧ toP b = some q ∧ SeqAt.shaped (.tuple ps) = true ∧ SeqAt.shaped q = true ∧ true ∈ eqs ps q ∧ z = .int ((eqs ps q).idxOf true : Nat) := by
  unfold dIdx at h
  split at h
  · rename_i ds
    split at h
    · rename_i ps q e1 e2
      split at h
      · rename_i hc
        rw [Bool.and_eq_true, Bool.and_eq_true, decide_eq_true_eq] at hc
        cases h
        exact ⟨ds, ps, q, rfl, e1, e2, hc.1.1, hc.1.2, hc.2, rfl⟩
      · cases h
    · cases h
  · cases h
theorem semP_idx {to te : TE} {ma mb : Sl → Option D} (ha : SemP K to ma) (hb : SemP K te mb) : SemP K (tIdxN K.f to te) (two dIdx ma mb) := fun σ H Z O s Q ok d e k => by
  unfold two at e
  obtain ⟨x, ea, e⟩ := Option.bind_eq_some_iff.mp e
  obtain ⟨y, eb, e⟩ := Option.bind_eq_some_iff.mp e
  obtain ⟨ds, ps, q, rfl, e1, e2, h1, h2, h3, rfl⟩ := dIdx_some e
  refine ha σ H Z O s _ ok _ ea fun v H1 Z1 O1 p1 r1 => ?_
  obtain ⟨a, vs, ev, sq, rr⟩ := id r1
  refine ⟨⟨a, vs, ev, sqN_mono p1.zh sq⟩, hb σ H1 Z1 O s _ (ok.pz p1) y eb fun w H2 Z2 O2 p2 r2 => ?_⟩
  have d1 : Dp K.f H2 v (.tuple ps) := (p2.rep r1).dp p2.zh _ v O1 _ (by unfold toP; rw [e1]; rfl)
  exact ⟨a, ps, q, ev, d1, r2.dp p2.zh y w O2 q e2, h1, h2, h3, k _ H2 Z2 [] (p1.trans p2) ⟨rfl, rfl⟩⟩
end
section
variable {X : Cx} {ξ : Option (V × Option Addr)} {W : WX} {o e : Expr} {apos cpos : Pos} {ma mb : Sl → Option D}
theorem sP_index (hu : X.A.units + 65 < cLine) (ha : SimP X ξ o ma) (hb : SimP X ξ e mb) (hbase : attributeBase o "index" X.env (eval o X.env) = eval o X.env := by rfl)
    (hfew : ((backTo cpos (starEach [e] X.env)).all (fun x => !x.1) && (backToKw cpos (keywordEach [] X.env)).all (fun x => x.1.isSome) && decide (([e] : List Expr).length + ([] : List Keyword).length + (if ([] : List Keyword).isEmpty then 0 else 1) < 30)) = true := by rfl)
    (hline : (apos.endLine == cpos.line) = true := by rfl) (hs : starEach [e] X.env = (false, eval e X.env) :: starEach [] X.env := by rfl) : SimP X ξ (.Call (.Attribute o "index" apos) [e] [] cpos) (two dIdx ma mb) := by
  obtain ⟨ta, pa, sa⟩ := ha
  obtain ⟨tb, pb, sb⟩ := hb
  exact ⟨_, pe_idxN hu pa pb hbase hfew hline hs, semP_idx sa sb⟩
end
end Sim

namespace Sim
open PySem PySem.Spec PyProof.Rows L2

/-! ### texts of data are texts -/
theorem ok_app {a b : Str} (h : PyData.strOk a = true) (k : PyData.strOk b = true) : PyData.strOk (a ++ b) = true := by
  have e : (a ++ b).cps = a.cps ++ b.cps := rfl
  unfold PyData.strOk at h k ⊢
  rw [e, Array.all_append, h, k]; rfl
theorem char_small (c : Char) : c.toNat < 0x110000 := by
  have := c.valid
  show c.val.toNat < _
  rcases this with h | h <;> omega
theorem ok_ofS (s : String) : PyData.strOk (Str.ofString s) = true := by
  rw [Str.ofString_eq_toList]
  unfold PyData.strOk
  show ((s.toList.map Char.toNat).toArray.all fun x => decide (x < 0x110000)) = true
  rw [List.all_toArray, List.all_eq_true]
  intro x hx
  obtain ⟨c, _, rfl⟩ := List.mem_map.mp hx
  rw [decide_eq_true_eq]
  exact char_small c
theorem ok_from : ∀ (ts : List Str) (k : Nat) (acc : Str), PyData.strOk acc = true → (∀ t ∈ ts, PyData.strOk t = true) → PyData.strOk (textFrom k acc ts) = true
  | [], k, acc, h, _ => h
  | t :: ts, k, acc, h, ht => by
    unfold textFrom
    exact ok_from ts (k + 1) _ (ok_app (ok_app h (ok_ofS _)) (ht t (by simp))) fun u hu => ht u (by simp [hu])
theorem ok_lst {ts : List Str} (h : ∀ t ∈ ts, PyData.strOk t = true) : PyData.strOk (listText ts) = true := ok_app (ok_from ts 0 _ (ok_ofS "[") h) (ok_ofS "]")
theorem ok_join : ∀ {ts : List Str}, (∀ t ∈ ts, PyData.strOk t = true) → PyData.strOk (Str.join ", " ts) = true
  | [], _ => by unfold Str.join; show PyData.strOk ⟨#[]⟩ = true; simp [PyData.strOk]
  | [x], h => h x (by simp)
  | x :: y :: r, h => by
    show PyData.strOk (x ++ ", " ++ Str.join ", " (y :: r)) = true
    exact ok_app (ok_app (h x (by simp)) (ok_ofS _)) (ok_join fun t ht => h t (by simp [List.mem_cons.mp ht]))
theorem ok_tupT {ts : List Str} (h : ∀ t ∈ ts, PyData.strOk t = true) : PyData.strOk (tupleText ts) = true := by
  unfold tupleText
  exact ok_app (ok_app (ok_ofS _) (ok_join h)) (ok_ofS _)
theorem reprChar_small {q c : Nat} (hc : c < 0x110000) : ∀ x ∈ Builtin.Str.reprChar q c, x < 0x110000 := by
  have hx : ∀ w x, x ∈ List.replicate (w - ((Nat.toDigits 16 c).map Char.toNat).length) 48 ++ (Nat.toDigits 16 c).map Char.toNat → x < 0x110000 := by
    intro w x hx
    rcases List.mem_append.mp hx with h | h
    · rw [(List.mem_replicate.mp h).2]; decide
    · obtain ⟨d, _, rfl⟩ := List.mem_map.mp h
      exact char_small d
  intro x h
  unfold Builtin.Str.reprChar at h
  dsimp only at h
  split at h
  · simp only [List.mem_cons, List.not_mem_nil, or_false] at h; omega
  · split at h
    · simp only [List.mem_cons, List.not_mem_nil, or_false] at h; omega
    · split at h
      · simp only [List.mem_cons, List.not_mem_nil, or_false] at h; omega
      · split at h
        · simp only [List.mem_cons, List.not_mem_nil, or_false] at h; omega
        · split at h
          · simp only [List.mem_cons, List.not_mem_nil, or_false] at h; omega
          · split at h
            · rcases List.mem_append.mp h with h | h
              · simp only [List.mem_cons, List.not_mem_nil, or_false] at h; omega
              · exact hx 2 x h
            · split at h
              · rcases List.mem_append.mp h with h | h
                · simp only [List.mem_cons, List.not_mem_nil, or_false] at h; omega
                · exact hx 4 x h
              · rcases List.mem_append.mp h with h | h
                · simp only [List.mem_cons, List.not_mem_nil, or_false] at h; omega
                · exact hx 8 x h
theorem foldl_small {q : Nat} : ∀ (l : List Nat) (acc : Array Nat), (∀ x ∈ l, x < 0x110000) → (∀ x ∈ acc, x < 0x110000) → ∀ x ∈ l.foldl (fun out c => out ++ (Builtin.Str.reprChar q c).toArray) acc, x < 0x110000
  | [], acc, _, h => h
  | c :: l, acc, hl, h => by
    rw [List.foldl_cons]
    refine foldl_small l _ (fun x hx => hl x (by simp [hx])) fun x hx => ?_
    rcases Array.mem_append.mp hx with hx | hx
    · exact h x hx
    · exact reprChar_small (hl c (by simp)) x (by simpa using hx)
theorem ok_reprText {x : Str} (h : PyData.strOk x = true) : PyData.strOk (reprText x) = true := by
  have hx : ∀ c ∈ x.cps.toList, c < 0x110000 := by
    unfold PyData.strOk at h
    rw [← Array.all_toList, List.all_eq_true] at h
    exact fun c hc => by simpa using h c hc
  have hq : ∀ q ∈ (#[reprQuote x] : Array Nat), q < 0x110000 := by
    intro q hq
    have : q = reprQuote x := by simpa using hq
    rw [this]
    unfold reprQuote
    split <;> decide
  unfold PyData.strOk reprText
  rw [← Array.all_toList, List.all_eq_true]
  intro c hc
  rw [decide_eq_true_eq]
  have hc' : c ∈ (x.cps.foldl (fun out c => out ++ (Builtin.Str.reprChar (reprQuote x) c).toArray) #[reprQuote x]).push (reprQuote x) := Array.mem_toList_iff.mp hc
  rcases Array.mem_push.mp hc' with hc' | hc'
  · rw [← Array.foldl_toList] at hc'
    exact foldl_small _ _ hx hq c hc'
  · exact hq c (by rw [hc']; simp)
mutual
theorem ok_shown : ∀ d : PyData, d.canLay0 = true → PyData.strOk d.shown = true
  | .none, _ => ok_ofS _
  | .bool b, _ => by cases b <;> exact ok_ofS _
  | .int i, _ => ok_ofS _
  | .str x, h => ok_reprText h
  | .list xs, h => ok_lst (ok_shownAll xs h)
  | .tuple xs, h => ok_tupT (ok_shownAll xs h)
  | .dict _, h => by cases h
theorem ok_shownAll : ∀ xs : List PyData, PyData.canLayAll0 xs = true → ∀ t ∈ PyData.shownAll xs, PyData.strOk t = true
  | [], _, t, h => by cases h
  | x :: xs, hx, t, h => by
    unfold PyData.canLayAll0 at hx
    rw [Bool.and_eq_true] at hx
    unfold PyData.shownAll at h
    rcases List.mem_cons.mp h with rfl | h
    · exact ok_shown x hx.1
    · exact ok_shownAll xs hx.2 t h
end

/-! ### values with a Lean type -/
class Enc (α : Type) [DecidableEq α] where
  d : α → D
  p : α → PyData
  hp : ∀ a, toP (d a) = some (p a)
  lay : ∀ a, (p a).canLay0 = true
  dep : Nat
  hdep : ∀ a, (p a).depth ≤ dep
  eqv : ∀ a b, PyData.eqv (p a) (p b) = decide (a = b)
  im : ∀ a, imm (d a) = true
  nx : ∀ a, noX (d a) = true
  sm : α → Prop
  wt : α → Nat
  hsm : ∀ a, sm a → (p a).showable = true ∧ (p a).intsShort 13 = true ∧ (p a).weight ≤ wt a
  one : ∀ a, sm a → True
open Enc
theorem log2_small {n k : Nat} (h : n < 2 ^ k) (hk : 0 < k) : n.log2 < k := by
  by_cases h0 : n = 0
  · subst h0; simpa [Nat.log2_zero] using hk
  · exact (Nat.log2_lt h0).mpr h
instance : Enc Int where
  d := .int
  p := .int
  hp _ := rfl
  lay _ := rfl
  dep := 0
  hdep _ := Nat.le_refl _
  eqv a b := by
    show (a == b) = _
    by_cases h : a = b <;> simp [h]
  im _ := rfl
  nx _ := rfl
  sm i := -(10 ^ 11) < i ∧ i < 10 ^ 11
  wt _ := 50
  hsm i h := by
    have l : i.natAbs.log2 < 40 := log2_small (by omega) (by decide)
    refine ⟨?_, ?_, ?_⟩
    · show decide (i.natAbs.log2 < 1920) = true
      rw [decide_eq_true_eq]; omega
    · show decide ((PyData.shown (.int i)).length ≤ 13) = true
      rw [decide_eq_true_eq]
      show (Str.ofString (toString i)).length ≤ 13
      rw [PySem.ofString_length]
      exact Nat.le_trans (int_text_length_le10 (k := 11) (by decide) (by omega)) (by decide)
    · unfold PyData.weight
      split <;> omega
  one _ _ := trivial
/-- a text of valid signs -/
abbrev Wd := {x : Str // PyData.strOk x = true}
instance : Enc Wd where
  d x := .str x.1
  p x := .str x.1
  hp _ := rfl
  lay x := x.2
  dep := 0
  hdep _ := Nat.le_refl _
  eqv a b := by
    show (a.1 == b.1) = _
    by_cases h : a = b
    · simp [h]
    · have : a.1 ≠ b.1 := fun e => h (Subtype.ext e)
      simp [h, this]
  im _ := rfl
  nx _ := rfl
  sm x := x.1.length ≤ 50
  wt _ := 50
  hsm x h := ⟨rfl, rfl, h⟩
  one _ _ := trivial
section
variable {α : Type} [DecidableEq α] [Enc α]
theorem toPs_enc : ∀ xs : List α, toPs (xs.map d) = some (xs.map p)
  | [] => rfl
  | x :: xs => by
    rw [List.map_cons]
    unfold toPs
    rw [hp, toPs_enc xs]; rfl
theorem lay_enc : ∀ xs : List α, PyData.canLayAll0 (xs.map p) = true
  | [] => rfl
  | x :: xs => by
    rw [List.map_cons]
    unfold PyData.canLayAll0
    rw [lay, lay_enc xs]; rfl
theorem dep_enc : ∀ xs : List α, PyData.depthAll (xs.map p) ≤ dep α
  | [] => Nat.zero_le _
  | x :: xs => by
    rw [List.map_cons]
    unfold PyData.depthAll
    have := dep_enc xs
    have := hdep x
    omega
theorem eqvAll_enc : ∀ xs ys : List α, PyData.eqvAll (xs.map p) (ys.map p) = decide (xs = ys)
  | [], [] => rfl
  | [], y :: ys => by simp [PyData.eqvAll]
  | x :: xs, [] => by simp [PyData.eqvAll]
  | x :: xs, y :: ys => by
    rw [List.map_cons, List.map_cons]
    unfold PyData.eqvAll
    rw [eqv, eqvAll_enc xs ys]
    by_cases h : x = y <;> by_cases k : xs = ys <;> simp [h, k]
theorem imms_enc : ∀ xs : List α, imms (xs.map d) = true
  | [] => rfl
  | x :: xs => by
    rw [List.map_cons]
    unfold imms
    rw [im, imms_enc xs]; rfl
theorem noXs_enc : ∀ xs : List α, noXs (xs.map d) = true
  | [] => rfl
  | x :: xs => by
    rw [List.map_cons]
    unfold noXs
    rw [nx, noXs_enc xs]; rfl
theorem frz_enc (x : α) : frz (d x) = d x := frz_imm _ (im x)
theorem frzs_enc (xs : List α) : frzs (xs.map d) = xs.map d := frzs_imm _ (imms_enc xs)
def wts : List α → Nat
  | [] => 0
  | x :: xs => wt x + 1 + wts xs
theorem hsm_enc : ∀ xs : List α, (∀ x ∈ xs, sm x) → PyData.showableAll (xs.map p) = true ∧ PyData.intsShortAll 13 (xs.map p) = true ∧ PyData.weightAll (xs.map p) ≤ wts xs
  | [], _ => ⟨rfl, rfl, Nat.le_refl _⟩
  | x :: xs, h => by
    obtain ⟨a, b, c⟩ := hsm x (h x (by simp))
    obtain ⟨a', b', c'⟩ := hsm_enc xs fun y hy => h y (by simp [hy])
    rw [List.map_cons]
    refine ⟨?_, ?_, ?_⟩
    · unfold PyData.showableAll; rw [a, a']; rfl
    · unfold PyData.intsShortAll; rw [b, b']; rfl
    · unfold PyData.weightAll wts; omega
theorem wts_le {B : Nat} : ∀ xs : List α, (∀ x ∈ xs, wt x ≤ B) → wts xs ≤ xs.length * (B + 1)
  | [], _ => by simp [wts]
  | x :: xs, h => by
    have := wts_le xs fun y hy => h y (by simp [hy])
    have := h x (by simp)
    unfold wts
    rw [List.length_cons, Nat.succ_mul]
    omega
end
instance {α : Type} [DecidableEq α] [Enc α] : Enc (List α) where
  d xs := .tup (xs.map d)
  p xs := .tuple (xs.map p)
  hp xs := by unfold toP; rw [toPs_enc]; rfl
  lay xs := by unfold PyData.canLay0; exact lay_enc xs
  dep := dep α + 1
  hdep xs := by unfold PyData.depth; have := dep_enc xs; omega
  eqv xs ys := by unfold PyData.eqv; exact eqvAll_enc xs ys
  im xs := by unfold imm; exact imms_enc xs
  nx xs := by unfold noX; exact noXs_enc xs
  sm xs := ∀ x ∈ xs, sm x
  wt xs := wts xs
  hsm xs h := by
    obtain ⟨a, b, c⟩ := hsm_enc xs h
    exact ⟨by unfold PyData.showable; exact a, by unfold PyData.intsShort; exact b, by unfold PyData.weight; exact c⟩
  one _ _ := trivial
instance {α β : Type} [DecidableEq α] [Enc α] [DecidableEq β] [Enc β] : Enc (α × β) where
  d x := .tup [d x.1, d x.2]
  p x := .tuple [p x.1, p x.2]
  hp x := by unfold toP toPs toPs toPs; rw [hp, hp]; rfl
  lay x := by unfold PyData.canLay0 PyData.canLayAll0 PyData.canLayAll0 PyData.canLayAll0; rw [lay, lay]; rfl
  dep := max (dep α) (dep β) + 1
  hdep x := by
    unfold PyData.depth PyData.depthAll PyData.depthAll PyData.depthAll
    have := hdep x.1
    have := hdep x.2
    omega
  eqv x y := by
    unfold PyData.eqv PyData.eqvAll PyData.eqvAll PyData.eqvAll
    rw [eqv, eqv, Bool.and_true, ← Bool.decide_and]
    congr 1
    rw [Prod.ext_iff]
  im x := by unfold imm imms imms imms; rw [im, im]; rfl
  nx x := by unfold noX noXs noXs noXs; rw [nx, nx]; rfl
  sm x := sm x.1 ∧ sm x.2
  wt x := wt x.1 + wt x.2 + 2
  hsm x h := by
    obtain ⟨a, b, c⟩ := hsm x.1 h.1
    obtain ⟨a', b', c'⟩ := hsm x.2 h.2
    refine ⟨?_, ?_, ?_⟩
    · unfold PyData.showable PyData.showableAll PyData.showableAll PyData.showableAll; rw [a, a']; rfl
    · unfold PyData.intsShort PyData.intsShortAll PyData.intsShortAll PyData.intsShortAll; rw [b, b']; rfl
    · unfold PyData.weight PyData.weightAll PyData.weightAll PyData.weightAll; omega
  one _ _ := trivial
/-- three, as one tuple -/
structure Tri (α β γ : Type) where
  a : α
  b : β
  c : γ
deriving DecidableEq
instance {α β γ : Type} [DecidableEq α] [Enc α] [DecidableEq β] [Enc β] [DecidableEq γ] [Enc γ] : Enc (Tri α β γ) where
  d x := .tup [d x.a, d x.b, d x.c]
  p x := .tuple [p x.a, p x.b, p x.c]
  hp x := by unfold toP toPs toPs toPs toPs; rw [hp, hp, hp]; rfl
  lay x := by unfold PyData.canLay0 PyData.canLayAll0 PyData.canLayAll0 PyData.canLayAll0 PyData.canLayAll0; rw [lay, lay, lay]; rfl
  dep := max (dep α) (max (dep β) (dep γ)) + 1
  hdep x := by
    unfold PyData.depth PyData.depthAll PyData.depthAll PyData.depthAll PyData.depthAll
    have := hdep x.a
    have := hdep x.b
    have := hdep x.c
    omega
  eqv x y := by
    unfold PyData.eqv PyData.eqvAll PyData.eqvAll PyData.eqvAll PyData.eqvAll
    rw [eqv, eqv, eqv, Bool.and_true, ← Bool.decide_and, ← Bool.decide_and]
    congr 1
    obtain ⟨a, b, c⟩ := x
    obtain ⟨a', b', c'⟩ := y
    simp
  im x := by unfold imm imms imms imms imms; rw [im, im, im]; rfl
  nx x := by unfold noX noXs noXs noXs noXs; rw [nx, nx, nx]; rfl
  sm x := sm x.a ∧ sm x.b ∧ sm x.c
  wt x := wt x.a + wt x.b + wt x.c + 3
  hsm x h := by
    obtain ⟨a, b, c⟩ := hsm x.a h.1
    obtain ⟨a', b', c'⟩ := hsm x.b h.2.1
    obtain ⟨a2, b2, c2⟩ := hsm x.c h.2.2
    refine ⟨?_, ?_, ?_⟩
    · unfold PyData.showable PyData.showableAll PyData.showableAll PyData.showableAll PyData.showableAll; rw [a, a', a2]; rfl
    · unfold PyData.intsShort PyData.intsShortAll PyData.intsShortAll PyData.intsShortAll PyData.intsShortAll; rw [b, b', b2]; rfl
    · unfold PyData.weight PyData.weightAll PyData.weightAll PyData.weightAll PyData.weightAll; omega
  one _ _ := trivial
section
variable {α : Type} [DecidableEq α] [Enc α]
theorem shaped_enc (x : α) (h : dep α ≤ 60) : SeqAt.shaped (p x) = true := by
  unfold SeqAt.shaped
  rw [lay, Bool.true_and, decide_eq_true_eq]
  have := hdep x
  omega
theorem shapedL_enc (xs : List α) (h : dep α ≤ 60) : SeqAt.shaped (.list (xs.map p)) = true := by
  unfold SeqAt.shaped
  rw [Bool.and_eq_true, decide_eq_true_eq]
  refine ⟨by unfold PyData.canLay0; exact lay_enc xs, ?_⟩
  unfold PyData.depth
  have := dep_enc xs
  omega
theorem dEqB_enc (x y : α) [Decidable (x = y)] (h : dep α ≤ 60 := by decide) : dEqB (d x) (d y) = some (decide (x = y)) := by
  unfold dEqB
  rw [hp, hp]
  dsimp only
  rw [shaped_enc x h, shaped_enc y h, eqv, if_pos (by rfl)]
  congr 1
  exact decide_eq_decide.mpr Iff.rfl
theorem dEq_enc (x y : α) [Decidable (x = y)] (h : dep α ≤ 60 := by decide) : dEq (d x) (d y) = some (.bl (decide (x = y))) := by
  unfold dEq; rw [dEqB_enc x y h]; rfl
theorem dNe_enc (x y : α) [Decidable (x = y)] (h : dep α ≤ 60 := by decide) : dNe (d x) (d y) = some (.bl (!decide (x = y))) := by
  unfold dNe; rw [dEqB_enc x y h]; rfl
theorem any_enc (x : α) (xs : List α) [Decidable (x ∈ xs)] : ((xs.map p).any fun z => PyData.eqv z (p x)) = decide (x ∈ xs) := by
  rw [List.any_map, Bool.eq_iff_iff, List.any_eq_true, decide_eq_true_eq]
  constructor
  · rintro ⟨y, hy, e⟩
    have e' : PyData.eqv (p y) (p x) = true := e
    rw [eqv, decide_eq_true_eq] at e'
    rw [← e']; exact hy
  · intro hx
    refine ⟨x, hx, ?_⟩
    show PyData.eqv (p x) (p x) = true
    rw [eqv]; simp
theorem dInB_tup (x : α) (xs : List α) [Decidable (x ∈ xs)] (h : dep α ≤ 50 := by decide) : dInB (d x) (.tup (xs.map d)) = some (decide (x ∈ xs)) := by
  unfold dInB
  rw [hp, show toP (.tup (xs.map d)) = some (.tuple (xs.map p)) from hp xs]
  dsimp only
  rw [shaped_enc x (by omega), show SeqAt.shaped (.tuple (xs.map p)) = true from shaped_enc xs (by show dep α + 1 ≤ 60; omega), any_enc]; rfl
theorem toP_lst (xs : List α) : toP (.lst (xs.map d)) = some (.list (xs.map p)) := by unfold toP; rw [toPs_enc]; rfl
theorem toP_fls (xs : List α) : toP (.fls (xs.map d)) = some (.list (xs.map p)) := by unfold toP; rw [toPs_enc]; rfl
theorem dInB_lst (x : α) (xs : List α) [Decidable (x ∈ xs)] (h : dep α ≤ 50 := by decide) : dInB (d x) (.lst (xs.map d)) = some (decide (x ∈ xs)) := by
  unfold dInB
  rw [hp, toP_lst]
  dsimp only
  rw [shaped_enc x (by omega), shapedL_enc xs (by omega), any_enc]; rfl
theorem dInB_fls (x : α) (xs : List α) [Decidable (x ∈ xs)] (h : dep α ≤ 50 := by decide) : dInB (d x) (.fls (xs.map d)) = some (decide (x ∈ xs)) := by
  unfold dInB
  rw [hp, toP_fls]
  dsimp only
  rw [shaped_enc x (by omega), shapedL_enc xs (by omega), any_enc]; rfl
theorem dIn_tup (x : α) (xs : List α) [Decidable (x ∈ xs)] (h : dep α ≤ 50 := by decide) : dIn (d x) (.tup (xs.map d)) = some (.bl (decide (x ∈ xs))) := by unfold dIn; rw [dInB_tup x xs h]; rfl
theorem dIn_lst (x : α) (xs : List α) [Decidable (x ∈ xs)] (h : dep α ≤ 50 := by decide) : dIn (d x) (.lst (xs.map d)) = some (.bl (decide (x ∈ xs))) := by unfold dIn; rw [dInB_lst x xs h]; rfl
theorem dIn_fls (x : α) (xs : List α) [Decidable (x ∈ xs)] (h : dep α ≤ 50 := by decide) : dIn (d x) (.fls (xs.map d)) = some (.bl (decide (x ∈ xs))) := by unfold dIn; rw [dInB_fls x xs h]; rfl
theorem dNotIn_tup (x : α) (xs : List α) [Decidable (x ∈ xs)] (h : dep α ≤ 50 := by decide) : dNotIn (d x) (.tup (xs.map d)) = some (.bl (!decide (x ∈ xs))) := by unfold dNotIn; rw [dInB_tup x xs h]; rfl
theorem dNotIn_lst (x : α) (xs : List α) [Decidable (x ∈ xs)] (h : dep α ≤ 50 := by decide) : dNotIn (d x) (.lst (xs.map d)) = some (.bl (!decide (x ∈ xs))) := by unfold dNotIn; rw [dInB_lst x xs h]; rfl
theorem dNotIn_fls (x : α) (xs : List α) [Decidable (x ∈ xs)] (h : dep α ≤ 50 := by decide) : dNotIn (d x) (.fls (xs.map d)) = some (.bl (!decide (x ∈ xs))) := by unfold dNotIn; rw [dInB_fls x xs h]; rfl
theorem dEq_strs {y : Str} (hy : PyData.strOk y = true) : dEq (.str y) (.str y) = some (.bl true) := by
  have := dEq_enc (⟨y, hy⟩ : Wd) ⟨y, hy⟩
  rw [decide_eq_true rfl] at this
  exact this
theorem dNe_strs {y : Str} (hy : PyData.strOk y = true) : dNe (.str y) (.str y) = some (.bl false) := by
  have := dNe_enc (⟨y, hy⟩ : Wd) ⟨y, hy⟩
  rw [decide_eq_true rfl] at this
  exact this
/-- repr of a tuple, and of a list with one thing -/
theorem reprP {q : PyData} {x : D} (hx : toP x = some q) (hne : (∀ b, x ≠ .bl b) ∧ (∀ b, x ≠ .int b) ∧ (∀ b, x ≠ .str b) ∧ x ≠ .non) (hl : q.canLay0 = true) (hd : q.depth ≤ 64) (hs : q.showable = true) (hi : q.intsShort 13 = true) (hw : q.weight ≤ 2 ^ 20) :
    ∃ y : Str, PyData.strOk y = true ∧ dRepr [x] = some (.str y) := by
  have hlay : q.layable0 = true := by
    unfold PyData.layable0
    rw [hl, Bool.true_and, Bool.and_eq_true, decide_eq_true_eq, decide_eq_true_eq]
    exact ⟨hd, hw⟩
  have hsh : SeqAt.shaped q = true := SeqAt.shaped_of_layable hlay
  have hlen := PyData.shown_le_of_layable0 hlay hi
  refine ⟨q.shown, ok_shown q hl, ?_⟩
  unfold dRepr
  split
  · rename_i h; cases h; exact absurd rfl hne.2.2.2
  · rename_i h; cases h; exact absurd rfl (hne.1 _)
  · rename_i h; cases h; exact absurd rfl (hne.2.1 _)
  · rename_i h; cases h; exact absurd rfl (hne.2.2.1 _)
  · rename_i h
    cases h
    rw [hx]
    dsimp only
    rw [if_pos ⟨hsh, hs, by rw [sizeLine_eq]; omega⟩]
  · rename_i h1 h2 h3 h4 h5
    exact absurd rfl (h5 x)
theorem repr_one (x : α) (hs : sm x) (hw : wt x ≤ 1000000) (h : dep α ≤ 60 := by decide) : ∃ y : Str, PyData.strOk y = true ∧ dRepr [.lst [d x]] = some (.str y) := by
  obtain ⟨a, b, c⟩ := hsm x hs
  refine reprP (q := .list [p x]) (by unfold toP toPs toPs; rw [hp]; rfl) ⟨(by intro _ e; cases e), (by intro _ e; cases e), (by intro _ e; cases e), (by intro e; cases e)⟩ (by unfold PyData.canLay0 PyData.canLayAll0 PyData.canLayAll0; rw [lay]; rfl) ?_ (by unfold PyData.showable PyData.showableAll PyData.showableAll; rw [a]; rfl)
    (by unfold PyData.intsShort PyData.intsShortAll PyData.intsShortAll; rw [b]; rfl) (by unfold PyData.weight PyData.weightAll PyData.weightAll; omega)
  unfold PyData.depth PyData.depthAll PyData.depthAll
  have := hdep x
  omega
theorem repr_lst (xs : List α) (hs : ∀ x ∈ xs, sm x) (hw : wts xs ≤ 1000000) (h : dep α ≤ 60 := by decide) : ∃ y : Str, PyData.strOk y = true ∧ dRepr [.lst [.lst (xs.map d)]] = some (.str y) := by
  obtain ⟨a, b, c⟩ := hsm_enc xs hs
  refine reprP (q := .list [.list (xs.map p)]) (by unfold toP toPs toPs; rw [toP_lst]; rfl) ⟨(by intro _ e; cases e), (by intro _ e; cases e), (by intro _ e; cases e), (by intro e; cases e)⟩ (by unfold PyData.canLay0 PyData.canLayAll0 PyData.canLayAll0 PyData.canLay0; rw [lay_enc]; rfl) ?_
    (by unfold PyData.showable PyData.showableAll PyData.showableAll PyData.showable; rw [a]; rfl) (by unfold PyData.intsShort PyData.intsShortAll PyData.intsShortAll PyData.intsShort; rw [b]; rfl) (by unfold PyData.weight PyData.weightAll PyData.weightAll PyData.weight; omega)
  unfold PyData.depth PyData.depthAll PyData.depthAll PyData.depth
  have := dep_enc xs
  omega
theorem repr_tup (x : List α) (hs : sm x) (hw : wt x ≤ 1000000) (h : dep (List α) ≤ 60 := by decide) : ∃ y : Str, PyData.strOk y = true ∧ dRepr [d x] = some (.str y) := by
  obtain ⟨a, b, c⟩ := hsm x hs
  exact reprP (hp x) ⟨(by intro _ e; cases e), (by intro _ e; cases e), (by intro _ e; cases e), (by intro e; cases e)⟩ (lay x) (by have := hdep x; omega) a b (by omega)
theorem repr_tri {β γ : Type} [DecidableEq β] [Enc β] [DecidableEq γ] [Enc γ] (x : Tri α β γ) (hs : sm x) (hw : wt x ≤ 1000000) (h : dep (Tri α β γ) ≤ 60 := by decide) : ∃ y : Str, PyData.strOk y = true ∧ dRepr [d x] = some (.str y) := by
  obtain ⟨a, b, c⟩ := hsm x hs
  exact reprP (hp x) ⟨(by intro _ e; cases e), (by intro _ e; cases e), (by intro _ e; cases e), (by intro e; cases e)⟩ (lay x) (by have := hdep x; omega) a b (by omega)
theorem repr_pair {β : Type} [DecidableEq β] [Enc β] (x : α × β) (hs : sm x) (hw : wt x ≤ 1000000) (h : dep (α × β) ≤ 60 := by decide) : ∃ y : Str, PyData.strOk y = true ∧ dRepr [d x] = some (.str y) := by
  obtain ⟨a, b, c⟩ := hsm x hs
  exact reprP (hp x) ⟨(by intro _ e; cases e), (by intro _ e; cases e), (by intro _ e; cases e), (by intro e; cases e)⟩ (lay x) (by have := hdep x; omega) a b (by omega)
end

/-! ### items, slices -/
section
variable {α : Type}
theorem atD_map' (f : α → D) (xs : List α) (i : Nat) (h : i < xs.length) : atD (xs.map f) (i : Int) = some (f xs[i]) := by
  unfold atD ixN
  rw [List.length_map, if_pos (by omega), if_pos (by omega)]
  show (xs.map f)[(i : Int).toNat]? = _
  rw [Int.toNat_natCast, List.getElem?_map, List.getElem?_eq_getElem h]; rfl
theorem atD_neg1 (f : α → D) (xs : List α) (h : xs ≠ []) : atD (xs.map f) (-1) = some (f (xs.getLast h)) := by
  have hl : 0 < xs.length := List.length_pos_iff.mpr h
  unfold atD ixN
  rw [List.length_map, if_neg (by omega)]
  rw [if_pos (by omega)]
  show (xs.map f)[(((xs.length : Nat) : Int) + -1).toNat]? = _
  have e : (((xs.length : Nat) : Int) + -1).toNat = xs.length - 1 := by omega
  rw [e, List.getElem?_map, List.getLast_eq_getElem, List.getElem?_eq_getElem (by omega)]; rfl
theorem cutD_map (f : α → D) (xs : List α) (lo hi : Option Int) : cutD (xs.map f) lo hi = ((xs.drop (HT.sIx xs.length 0 lo)).take (HT.sIx xs.length xs.length hi - HT.sIx xs.length 0 lo)).map f := by
  unfold cutD
  rw [List.length_map, List.map_take, List.map_drop]
theorem cutD_upto (f : α → D) (xs : List α) (k : Nat) : cutD (xs.map f) none (some (k : Int)) = (xs.take k).map f := by
  rw [cutD_map, HT.sIx_nat]
  show ((xs.drop 0).take (min k xs.length - 0)).map f = _
  rw [List.drop_zero, Nat.sub_zero]
  congr 1
  rw [List.take_eq_take_iff]; omega
theorem cutD_from (f : α → D) (xs : List α) (k : Nat) : cutD (xs.map f) (some (k : Int)) none = (xs.drop k).map f := by
  rw [cutD_map, HT.sIx_nat]
  show ((xs.drop (min k xs.length)).take (xs.length - min k xs.length)).map f = _
  congr 1
  rw [List.take_of_length_le (by rw [List.length_drop]; omega)]
  by_cases h : k ≤ xs.length
  · rw [Nat.min_eq_left h]
  · rw [Nat.min_eq_right (by omega), List.drop_of_length_le (Nat.le_refl _), List.drop_of_length_le (by omega)]
theorem cutD_last (f : α → D) (xs : List α) : cutD (xs.map f) (some (-1)) none = (xs.drop (xs.length - 1)).map f := by
  rw [cutD_map]
  have e : HT.sIx xs.length 0 (some (-1)) = xs.length - 1 := by
    unfold HT.sIx
    simp only
    split <;> omega
  rw [e]
  show ((xs.drop (xs.length - 1)).take (xs.length - (xs.length - 1))).map f = _
  congr 1
  rw [List.take_of_length_le (by rw [List.length_drop]; omega)]
end
end Sim

namespace Sim.C
def mb__law_stream : Sl → RS := (mSeq (mAsg (mApp mkLst nilA) (mgName 1))
  (mSeq (mFor (mItems (mSl (vP 0) noO (partO (cP (.int 63))))) (mgName 2)
  (mSeq (mAsg (ofP (caP dAbs (consP (caP dInt (consP (vP 2) nilP)) nilP))) (mgName 3))
  (mIf (ofPT (twoB dGe (vP 3) (two dPow (cP (.int 10)) (cP (.int 18)))))
  (mFor (mRange (mCons (ofP (cP (.int 60))) nilA)) (mgName 4)
  (mSeq (mExpr (mAppend 1 (ofP (two dMod (caP dInt (consP (vP 3) nilP)) (cP (.int 1009))))))
  (mSeq (mAsg (ofP (two dDiv (vP 3) (cP (.int 1009)))) (mgName 3))
  (mIf (ofPT (twoB dEq (vP 3) (cP (.int 0))))
  mBrk
  mNext))))
  (mSeq (mAsg (ofP (two dMod (caP dInt (consP (vP 3) nilP)) (cP (.int 2147483647)))) (mgName 5))
  (mFor (mRange (mCons (ofP (cP (.int 10))) nilA)) (mgName 4)
  (mSeq (mAsg (ofP (two dMod (caP dInt (consP (two dPl (two dPl (two dMul (vP 5) (cP (.int 48271))) (two dMul (cP (.int 7)) (vP 4))) (cP (.int 11))) nilP)) (cP (.int 2147483647)))) (mgName 5))
  (mExpr (mAppend 1 (ofP (two dMod (two dMod (caP dInt (consP (two dPl (two dMul (vP 5) (cP (.int 69621))) (vP 4)) nilP)) (cP (.int 2147483629))) (cP (.int 1009))))))))))))
  (mSeq (mIf (ofPT (twoB dEq (caP dLen (consP (vP 1) nilP)) (cP (.int 0))))
  (mExpr (mAppend 1 (ofP (cP (.int 0)))))
  mNext)
  (mRet (mMv 1)))))
def mf__law_stream : List D → RF := mDef 1 6 [] mb__law_stream
def mb__law_next : Sl → RS := (mSeq (mAsg (ofP (two dPl (two dIx (vP 0) (cP (.int 1))) (cP (.int 1)))) (mgSetL 0 (cP (.int 1))))
  (mSeq (mAsg (ofP (two dDiv (two dIx (vP 0) (cP (.int 1))) (caP dLen (consP (two dIx (vP 0) (cP (.int 0))) nilP)))) (mgName 2))
  (mRet (ofP (two dMod (caP dInt (consP (two dPl (two dPl (two dIx (two dIx (vP 0) (cP (.int 0))) (two dMod (two dIx (vP 0) (cP (.int 1))) (caP dLen (consP (two dIx (vP 0) (cP (.int 0))) nilP)))) (two dMul (vP 2) (cP (.int 389)))) (two dMul (two dMul (two dIx (vP 0) (cP (.int 1))) (vP 2)) (cP (.int 17)))) nilP)) (vP 1))))))
def mf__law_next : List D → RF := mDef 2 3 [0] mb__law_next
def mb__law_word : Sl → RS := (mSeq (mAsg (mApp mkLst (mCons (ofP (cP (.str "and"))) (mCons (ofP (cP (.str "or"))) (mCons (ofP (cP (.str "not"))) (mCons (ofP (cP (.str "some"))) (mCons (ofP (cP (.str "all"))) (mCons (ofP (cP (.str "point"))) (mCons (ofP (cP (.str "begins"))) (mCons (ofP (cP (.str "begun"))) (mCons (ofP (cP (.str "ends"))) (mCons (ofP (cP (.str "ended"))) (mCons (ofP (cP (.str "during"))) (mCons (ofP (cP (.str "around"))) (mCons (ofP (cP (.str "meets"))) (mCons (ofP (cP (.str "met"))) (mCons (ofP (cP (.str "later"))) (mCons (ofP (cP (.str "earlier"))) nilA))))))))))))))))) (mgName 2))
  (mSeq (mFor (mRange (mCons (ofP (cP (.int 40))) nilA)) (mgName 3)
  (mSeq (mAsg (ofP (cP (.str ""))) (mgName 4))
  (mSeq (mFor (mRange (mCons (m2 dIx (mApp mkLst (mCons (ofP (cP (.int 1))) (mCons (ofP (cP (.int 1))) (mCons (ofP (cP (.int 1))) (mCons (ofP (cP (.int 2))) (mCons (ofP (cP (.int 3))) (mCons (ofP (cP (.int 8))) nilA))))))) (mCall [0] mf__law_next [.io 0, .ex (ofP (cP (.int 6)))])) nilA)) (mgName 5)
  (mAsg (m2 dPlF (mRd 4) (m2 dIx (ofP (cP (.str "abcxyz"))) (mCall [0] mf__law_next [.io 0, .ex (ofP (cP (.int 6)))]))) (mgName 4)))
  (mIf (mAndT (ofPT (twoB dNotIn (vP 4) (vP 1))) (ofPT (twoB dNotIn (vP 4) (vP 2))))
  (mRet (mMv 4))
  mNext))))
  (mRet (mNew2 dPlF (cP (.str "w")) (two dIx (cP (.str "abcdefghijklmnop")) (two dMod (caP dLen (consP (vP 1) nilP)) (cP (.int 16))))))))
def mf__law_word : List D → RF := mDef 2 6 [0, 1] mb__law_word
def mb__law_facts : Sl → RS := (mSeq (mAsg (mApp mkLst nilA) (mgName 2))
  (mSeq (mFor (mRange (mCons (mRd 1) nilA)) (mgName 3)
  (mExpr (mAppend 2 (mCall [0, 1] mf__law_word [.io 0, .io 2]))))
  (mRet (mTuple (mRd 2)))))
def mf__law_facts : List D → RF := mDef 2 4 [0] mb__law_facts
def mb__law_scene : Sl → RS := (mRet (mTuple (mComp (mItems (mRd 1)) [2] (mgName 2) (mTest (m2 (only dEq) (mCall [0] mf__law_next [.io 0, .ex (ofP (cP (.int 2)))]) (ofP (cP (.int 0))))) (mRd 2))))
def mf__law_scene : List D → RF := mDef 2 3 [0] mb__law_scene
def mb__law_system : Sl → RS := (mSeq (mAsg (mTuple (mComp (mRange (mCons (mRd 2) nilA)) [4] (mgName 4) yesT (mCall [0] mf__law_scene [.io 0, .ex (mRd 1)]))) (mgName 3))
  (mSeq (mAsg (mComp (mRange (mCons (mRd 2) nilA)) [4] (mgName 4) (mTest (m2 (only dEq) (mCall [0] mf__law_next [.io 0, .ex (ofP (cP (.int 3)))]) (ofP (cP (.int 0))))) (mRd 4)) (mgName 5))
  (mSeq (mIf (ofPT (twoB dEq (caP dLen (consP (vP 5) nilP)) (cP (.int 0))))
  (mAsg (mApp mkLst (mCons (mCall [0] mf__law_next [.io 0, .ex (mRd 2)]) nilA)) (mgName 5))
  mNext)
  (mSeq (mAsg (mApp mkLst nilA) (mgName 6))
  (mSeq (mFor (mRange (mCons (mRd 2) nilA)) (mgName 4)
  (mExpr (mAppend 6 (mTuple (mComp (mRange (mCons (mRd 2) nilA)) [7] (mgName 7) (mOrT (mTest (m2 (only dEq) (mCall [0] mf__law_next [.io 0, .ex (ofP (two dPl (cP (.int 1)) (two dDiv (vP 2) (cP (.int 2)))))]) (ofP (cP (.int 0))))) (mAndT (ofPT (twoB dEq (vP 7) (two dMod (two dPl (vP 4) (cP (.int 1))) (vP 2)))) (mTest (m2 (only dEq) (mCall [0] mf__law_next [.io 0, .ex (ofP (cP (.int 2)))]) (ofP (cP (.int 0))))))) (mRd 7))))))
  (mRet (mApp mkTup (mCons (mRd 3) (mCons (mTuple (mRd 5)) (mCons (mTuple (mRd 6)) nilA))))))))))
def mf__law_system : List D → RF := mDef 3 8 [0] mb__law_system
def mb_is_scene : Sl → RS := (mRet (m2 (only dEq) (mRd 1) (mTuple (mComp (mItems (mRd 0)) [2] (mgName 2) (ofPT (twoB dIn (vP 2) (vP 1))) (mRd 2)))))
def mf_is_scene : List D → RF := mDef 2 3 [] mb_is_scene
def mb_are_rooms : Sl → RS := (mSeq (mAsg (ofP (cP (.int 0))) (mgName 2))
  (mSeq (mFor (mItems (mRd 0)) (mgName 3)
  (mSeq (mIf (mNotT (ofPT (chT (chain2 dLe dLt (vP 2) (vP 3) (vP 1)))))
  (mRet (ofP (cP (.bl false))))
  mNext)
  (mAsg (ofP (two dPl (vP 3) (cP (.int 1)))) (mgName 2))))
  (mRet (ofP (cP (.bl true))))))
def mf_are_rooms : List D → RF := mDef 2 4 [] mb_are_rooms
def mb_is_path : Sl → RS := (mSeq (mAsg (ofP (two dIx (vP 0) (cP (.int 2)))) (mgName 2))
  (mSeq (mIf (mOrT (mNotT (ofPT (trT (vP 1)))) (mNotT (mTest (mApp (only1 dAll) (mCons (mComp (mItems (mRd 1)) [3] (mgName 3) yesT (ofP (chain2 dLe dLt (cP (.int 0)) (vP 3) (caP dLen (consP (vP 2) nilP))))) nilA)))))
  (mRet (ofP (cP (.bl false))))
  mNext)
  (mRet (mApp (only1 dAll) (mCons (mComp (mZip (mCons (mRd 1) (mCons (mSl (vP 1) (partO (cP (.int 1))) noO) nilA))) [3, 4] (mgTup 2 (mgCons (mgName 3) (mgCons (mgName 4) mgNil))) yesT (ofP (two dIn (vP 4) (two dIx (vP 2) (vP 3))))) nilA)))))
def mf_is_path : List D → RF := mDef 2 5 [] mb_is_path
def mb_run_of : Sl → RS := (mSeq (mIf (mNotT (mTest (mCall [] mf_is_path [.ex (mRd 0), .ex (mRd 1)])))
  (mRaise "NotAllowed")
  mNext)
  (mRet (mTuple (mComp (mItems (mRd 1)) [2] (mgName 2) yesT (ofP (two dIx (two dIx (vP 0) (cP (.int 0))) (vP 2)))))))
def mf_run_of : List D → RF := mDef 2 3 [] mb_run_of
def mb_is_track : Sl → RS := (mRet (mAndV (mCall [] mf_is_path [.ex (mRd 0), .ex (mRd 1)]) (ofP (two dIn (two dIx (vP 1) (cP (.int 0))) (two dIx (vP 0) (cP (.int 1)))))))
def mf_is_track : List D → RF := mDef 2 2 [] mb_is_track
def mb__law_same : Sl → RS := (mRet (ofP (two dEq (caP dRepr (consP (lstP (consP (vP 0) nilP)) nilP)) (caP dRepr (consP (lstP (consP (vP 1) nilP)) nilP)))))
def mf__law_same : List D → RF := mDef 2 2 [] mb__law_same
def mb__law_run : Sl → RS := (mSeq (mIf (mTest (m2 (only dGt) (mCall [0] mf__law_next [.io 0, .ex (ofP (cP (.int 3)))]) (ofP (cP (.int 0)))))
  (mRet (mTuple (mComp (mRange (mCons (mRd 2) nilA)) [3] (mgName 3) yesT (mCall [0] mf__law_scene [.io 0, .ex (mRd 1)]))))
  mNext)
  (mSeq (mAsg (mCall [0] mf__law_scene [.io 0, .ex (mRd 1)]) (mgName 4))
  (mSeq (mAsg (mApp mkLst nilA) (mgName 5))
  (mSeq (mFor (mRange (mCons (mRd 2) nilA)) (mgName 3)
  (mSeq (mIf (mTest (m2 (only dEq) (mCall [0] mf__law_next [.io 0, .ex (ofP (cP (.int 3)))]) (ofP (cP (.int 0)))))
  (mAsg (mCall [0] mf__law_scene [.io 0, .ex (mRd 1)]) (mgName 4))
  mNext)
  (mExpr (mAppend 5 (mRd 4)))))
  (mRet (mTuple (mRd 5)))))))
def mf__law_run : List D → RF := mDef 3 6 [0] mb__law_run
def mb__law_scenes : Sl → RS := (mSeq (mAsg (mApp mkLst (mCons (ofP (tupP nilP)) nilA)) (mgName 1))
  (mSeq (mFor (mItems (mRd 0)) (mgName 2)
  (mAsg (m2 dPlF (mRd 1) (mComp (mItems (mRd 1)) [3] (mgName 3) yesT (mNew2 dPlF (vP 3) (tupP (consP (vP 2) nilP))))) (mgName 1)))
  (mRet (mTuple (mRd 1)))))
def mf__law_scenes : List D → RF := mDef 1 4 [] mb__law_scenes
end Sim.C


namespace Sim
open PySem PySem.Spec PyProof.Rows L2
/-- the state of a law's stream -/
def stD (xs : List Int) (k : Nat) : D := .lst [.lst (xs.map D.int), .int k]
theorem asum {α β : Type} (f : α → β) (l : List α) : (l.map f).length = l.length := List.length_map ..
theorem atD_map {xs : List Int} {i : Int} (h0 : 0 ≤ i) (h1 : i < xs.length) : ∃ v, atD (xs.map D.int) i = some (.int v) ∧ v ∈ xs := by
  unfold atD ixN
  rw [List.length_map, if_pos h0, if_pos h1]
  have : i.toNat < xs.length := by omega
  refine ⟨xs[i.toNat], ?_, List.getElem_mem this⟩
  show (xs.map D.int)[i.toNat]? = _
  rw [List.getElem?_map, List.getElem?_eq_getElem this]; rfl
theorem log2_lt {n k : Nat} (h : n < 2 ^ k) (hk : 0 < k) : n.log2 < k := by
  by_cases h0 : n = 0
  · subst h0; simpa [Nat.log2_zero] using hk
  · exact (Nat.log2_lt h0).mpr h
theorem next_ok {xs : List Int} {k : Nat} {m : Int} (h : xs ≠ []) (hl : xs.length < 2 ^ 20) (hk : k < 2 ^ 40) (hm : 0 < m) : ∃ v, 0 ≤ v ∧ v < m ∧ C.mf__law_next [stD xs k, .int m] = .ok (.int v) [stD xs (k + 1)] := by
  have hpos : 0 < xs.length := List.length_pos_iff.mpr h
  have hposI : (0 : Int) < xs.length := by omega
  have h9 : (xs.length : Int).natAbs.log2 < 9000 := Nat.lt_trans (log2_lt (k := 20) (by show xs.length < 2 ^ 20; exact hl) (by decide)) (by decide)
  obtain ⟨v, e, _⟩ := atD_map (xs := xs) (i := ((k : Int) + 1) % xs.length) (Int.emod_nonneg _ (by omega)) (Int.emod_lt_of_pos _ hposI)
  obtain ⟨t, ht⟩ : ∃ t : Int, t = ((k : Int) + 1) / xs.length := ⟨_, rfl⟩
  have t0 : 0 ≤ t := by rw [ht]; exact Int.ediv_nonneg (by omega) (by omega)
  have t1 : t ≤ (k : Int) + 1 := by rw [ht]; exact Int.ediv_le_self _ (by omega)
  have lt : t.natAbs.log2 < 41 := log2_lt (by omega) (by decide)
  have lk : ((k : Int) + 1).natAbs.log2 < 41 := log2_lt (by omega) (by decide)
  have c1 : cMul t 389 := by
    show t.natAbs.log2 + (389 : Int).natAbs.log2 < 1000000
    have : (389 : Int).natAbs.log2 = 8 := by decide
    omega
  have c2 : cMul ((k : Int) + 1) t := by
    show ((k : Int) + 1).natAbs.log2 + t.natAbs.log2 < 1000000
    omega
  have c3 : cMul (((k : Int) + 1) * t) 17 := by
    show (((k : Int) + 1) * t).natAbs.log2 + (17 : Int).natAbs.log2 < 1000000
    have : (17 : Int).natAbs.log2 = 4 := by decide
    have q : (((k : Int) + 1) * t).natAbs.log2 < 82 := log2_lt (by
      rw [Int.natAbs_mul]
      have a1 : ((k : Int) + 1).natAbs ≤ 2 ^ 40 := by omega
      have a2 : t.natAbs ≤ 2 ^ 40 := by omega
      calc _ ≤ 2 ^ 40 * 2 ^ 40 := Nat.mul_le_mul a1 a2
        _ < 2 ^ 82 := by decide) (by decide)
    omega
  have cd : cDiv ((k : Int) + 1) xs.length := ⟨hposI, h9⟩
  have cp : cPos ((k : Int) + 1) xs.length := hposI
  refine ⟨(v + t * 389 + ((k : Int) + 1) * t * 17) % m, Int.emod_nonneg _ (by omega), Int.emod_lt_of_pos _ hm, ?_⟩
  have i1 : dIx (stD xs k) (.int 1) = some (.int k) := rfl
  unfold C.mf__law_next mDef C.mb__law_next stD
  have e2 : atD (xs.map D.int) (((k : Int) + 1) % xs.length) = some (.int v) := e
  have s0 : ∀ a b : D, atD [a, b] 0 = some a := fun _ _ => rfl
  have s1 : ∀ a b : D, atD [a, b] 1 = some b := fun _ _ => rfl
  have s2 : ixN 2 1 = some 1 := rfl
  have d1 : cPos 0 m := hm
  have cpm : ∀ i, cPos i m := fun _ => hm
  rw [ht] at *
  simp [mSeq, mAsg, mRet, ofP, two, vP, cP, dPl, orD, onI, onIc, dIx, s0, s1, s2, e2, imm, mgSetL, mgName, caP, consP, nilP, dLen, dInt, cd, cp, c1, c2, c3, cpm, outsOf]
namespace C
def bigS : Sl → RS := (mFor (mRange (mCons (ofP (cP (.int 60))) nilA)) (mgName 4)
  (mSeq (mExpr (mAppend 1 (ofP (two dMod (caP dInt (consP (vP 3) nilP)) (cP (.int 1009))))))
  (mSeq (mAsg (ofP (two dDiv (vP 3) (cP (.int 1009)))) (mgName 3))
  (mIf (ofPT (twoB dEq (vP 3) (cP (.int 0))))
  mBrk
  mNext))))
def mixS : Sl → RS := (mFor (mRange (mCons (ofP (cP (.int 10))) nilA)) (mgName 4)
  (mSeq (mAsg (ofP (two dMod (caP dInt (consP (two dPl (two dPl (two dMul (vP 5) (cP (.int 48271))) (two dMul (cP (.int 7)) (vP 4))) (cP (.int 11))) nilP)) (cP (.int 2147483647)))) (mgName 5))
  (mExpr (mAppend 1 (ofP (two dMod (two dMod (caP dInt (consP (two dPl (two dMul (vP 5) (cP (.int 69621))) (vP 4)) nilP)) (cP (.int 2147483629))) (cP (.int 1009))))))))
end C
def st6 (d : D) (xs : List Int) (a b c e : Option D) : Sl := [some d, some (.lst (xs.map D.int)), a, b, c, e]
theorem app_int (xs : List Int) (v : Int) : xs.map D.int ++ [D.int v] = (xs ++ [v]).map D.int := by simp
theorem small_line {n : Nat} (h : n < 10000) : n < sizeLine := Nat.lt_of_lt_of_le h (by decide)
theorem big_ok {d : D} {xs : List Int} {a c e : Option D} {r : Int} (h0 : 0 ≤ r) (hl : xs.length < 5000) {P : RS → Prop} (k : ∀ ys b c, ys.length ≤ xs.length + 60 → xs.length ≤ ys.length → P (.nx (st6 d ys a b c e))) :
    P (C.bigS (st6 d xs a (some (.int r)) c e)) := by
  unfold C.bigS
  rw [mFor_rangeC (by decide)]
  refine loop_range (fun i s => ∃ ys r c, 0 ≤ r ∧ ys.length = xs.length + i ∧ s = st6 d ys a (some (.int r)) c e) ?_ ?_ ⟨xs, r, c, h0, rfl, rfl⟩
  · rintro i s hi ⟨ys, r, c, hr, hy, rfl⟩
    refine ⟨_, rfl, ?_⟩
    have cp : cPos r 1009 := by show (0 : Int) < 1009; decide
    have cd : cDiv r 1009 := ⟨by decide, by decide⟩
    have hs : ys.length < sizeLine := small_line (by omega)
    have hq : 0 ≤ r / 1009 := Int.ediv_nonneg hr (by decide)
    have cs := dEq_int (r / 1009) 0
    simp only [mSeq, mExpr, mAppend, ofP, two, caP, consP, vP, cP, nilP, dInt, onIc, mAsg, mgName, mIf, ofPT, twoB, mBrk, mNext, st6, R.bind, List.set_cons_succ, List.set_cons_zero, List.getElem?_cons_succ, List.getElem?_cons_zero, Option.join_some, Option.bind_some, imm, if_true, cp, cd, hs, List.length_map, cs, asB, app_int]
    by_cases hz : r / 1009 = 0
    · simp only [hz, decide_true, if_true]
      exact k _ _ _ (by simp; omega) (by simp; omega)
    · simp only [hz, decide_false, Bool.false_eq_true, if_false]
      exact ⟨_, _, _, hq, by simp; omega, rfl⟩
  · rintro s ⟨ys, r, c, hr, hy, rfl⟩
    exact k ys _ _ (by omega) (by omega)
theorem cMul_small {a b : Int} (h : a.natAbs < 2 ^ 100) (k : b.natAbs < 2 ^ 100) : cMul a b := by
  show a.natAbs.log2 + b.natAbs.log2 < 1000000
  have := log2_lt h (by decide)
  have := log2_lt k (by decide)
  omega
theorem mix_ok {d : D} {xs : List Int} {a b c : Option D} {m : Int} (h0 : 0 ≤ m) (h1 : m < 2147483647) (hl : xs.length < 5000) {P : RS → Prop} (k : ∀ ys c e, ys.length ≤ xs.length + 60 → xs.length ≤ ys.length → P (.nx (st6 d ys a b c e))) :
    P (C.mixS (st6 d xs a b c (some (.int m)))) := by
  unfold C.mixS
  rw [mFor_rangeC (by decide)]
  refine loop_range (fun i s => ∃ ys m c, 0 ≤ m ∧ m < 2147483647 ∧ ys.length = xs.length + i ∧ s = st6 d ys a b c (some (.int m))) ?_ ?_ ⟨xs, m, c, h0, h1, rfl, rfl⟩
  · rintro i s hi ⟨ys, m, c, hm, hm2, hy, rfl⟩
    refine ⟨_, rfl, ?_⟩
    have hi10 : i < 10 := hi
    have hs : ys.length < sizeLine := small_line (by omega)
    have c1 : cMul m 48271 := cMul_small (by omega) (by decide)
    have c2 : cMul 7 (0 + (i : Int)) := cMul_small (by decide) (by omega)
    obtain ⟨m2, em⟩ : ∃ m2, m2 = (m * 48271 + 7 * (0 + (i : Int)) + 11) % 2147483647 := ⟨_, rfl⟩
    have p1 : cPos (m * 48271 + 7 * (0 + (i : Int)) + 11) 2147483647 := by show (0 : Int) < _; decide
    have g1 : 0 ≤ m2 := by omega
    have g2 : m2 < 2147483647 := by omega
    have c3 : cMul m2 69621 := cMul_small (by omega) (by decide)
    have p2 : ∀ z, cPos z 2147483629 := fun _ => by show (0 : Int) < _; decide
    have p3 : ∀ z, cPos z 1009 := fun _ => by show (0 : Int) < _; decide
    simp only [mSeq, mExpr, mAppend, ofP, two, caP, consP, vP, cP, nilP, dInt, onI, onIc, dPl, orD, mAsg, mgName, st6, R.bind, List.set_cons_succ, List.set_cons_zero, List.getElem?_cons_succ, List.getElem?_cons_zero, Option.join_some, Option.bind_some, imm, if_true, c1, c2, p1, ← em, c3, p2, p3, hs, List.length_map, app_int]
    exact ⟨_, m2, _, g1, g2, by simp; omega, rfl⟩
  · rintro s ⟨ys, m, c, hm, hm2, hy, rfl⟩
    have : (10 : Int).toNat = 10 := rfl
    exact k ys _ _ (by omega) (by omega)
theorem stream_ok (ns : List Int) (hn : ns.length ≤ 63) : ∃ xs : List Int, xs ≠ [] ∧ xs.length ≤ 4000 ∧ C.mf__law_stream [.fls (ns.map D.int)] = .ok (.lst (xs.map D.int)) [] := by
  obtain ⟨ys, hy, ey⟩ := cutD_int ns none (some 63)
  have key : ∃ xs a b c e, xs.length ≤ 60 * ys.length ∧ mFor (mItems (mSl (vP 0) noO (partO (cP (.int 63))))) (mgName 2)
      (mSeq (mAsg (ofP (caP dAbs (consP (caP dInt (consP (vP 2) nilP)) nilP))) (mgName 3))
      (mIf (ofPT (twoB dGe (vP 3) (two dPow (cP (.int 10)) (cP (.int 18))))) C.bigS
      (mSeq (mAsg (ofP (two dMod (caP dInt (consP (vP 3) nilP)) (cP (.int 2147483647)))) (mgName 5)) C.mixS))) (st6 (.fls (ns.map D.int)) [] none none none none) = .nx (st6 (.fls (ns.map D.int)) xs a b c e) := by
    have h1 : mSl (vP 0) noO (partO (cP (.int 63))) (st6 (.fls (ns.map D.int)) [] none none none none) = .ok (.lst (ys.map D.int)) (st6 (.fls (ns.map D.int)) [] none none none none) := by
      simp only [mSl, vP, noO, partO, cP, st6, List.getElem?_cons_zero, Option.join_some, Option.bind_some, asI, dSl, imms_int, if_true, ey]
    rw [mFor_items h1 (ds := ys.map D.int) (by simp only [frz, frzs_int, itemsOf])]
    refine loop_list (P := fun r => ∃ xs a b c e, xs.length ≤ 60 * ys.length ∧ r = .nx (st6 (.fls (ns.map D.int)) xs a b c e)) (fun i s => ∃ xs a b c e, xs.length ≤ 60 * i ∧ s = st6 (.fls (ns.map D.int)) xs a b c e) ?_ ?_ ⟨[], none, none, none, none, by simp, rfl⟩
    · rintro i d s hd ⟨xs, a, b, c, e, hx, rfl⟩
      rw [List.getElem?_map] at hd
      obtain ⟨z, hz, rfl⟩ := Option.map_eq_some_iff.mp hd
      have hi := (List.getElem?_eq_some_iff.mp hz).1
      refine ⟨_, rfl, ?_⟩
      obtain ⟨r, er⟩ : ∃ r, r = (if z < 0 then -z else z) := ⟨_, rfl⟩
      have hr : 0 ≤ r := by rw [er]; split <;> omega
      have cp : cPow 10 18 := ⟨by decide, by decide, by decide⟩
      have p1 : ∀ z, cPos z 2147483647 := fun _ => by show (0 : Int) < _; decide
      simp only [mSeq, ofP, caP, consP, vP, cP, nilP, dInt, dAbs, mAsg, mgName, mIf, ofPT, twoB, two, onI, onIc, st6, R.bind, List.set_cons_succ, List.set_cons_zero, List.getElem?_cons_succ, List.getElem?_cons_zero, Option.join_some, Option.bind_some, imm, if_true, ← er, cp, asB]
      by_cases hb : (10 : Int) ^ (18 : Int).toNat ≤ r
      · simp only [hb, decide_true, if_true]
        refine big_ok (P := Turn _ _) hr (by omega) fun zs b c h1 h2 => ?_
        exact ⟨zs, _, _, _, _, by omega, rfl⟩
      · simp only [hb, decide_false, Bool.false_eq_true, if_false, p1, if_true, List.set_cons_succ, List.set_cons_zero, List.getElem?_cons_succ, List.getElem?_cons_zero]
        refine mix_ok (P := Turn _ _) (Int.emod_nonneg _ (by decide)) (Int.emod_lt_of_pos _ (by decide)) (by omega) fun zs b c h1 h2 => ?_
        exact ⟨zs, _, _, _, _, by omega, rfl⟩
    · rintro s ⟨xs, a, b, c, e, hx, rfl⟩
      exact ⟨xs, a, b, c, e, by simpa using hx, rfl⟩
  obtain ⟨xs, a, b, c, e, hx, ek⟩ := key
  have run : C.mb__law_stream [some (D.fls (ns.map D.int)), none, none, none, none, none] = (mSeq (mIf (ofPT (twoB dEq (caP dLen (consP (vP 1) nilP)) (cP (.int 0)))) (mExpr (mAppend 1 (ofP (cP (.int 0))))) mNext) (mRet (mMv 1))) (st6 (.fls (ns.map D.int)) xs a b c e) := by
    show (match (match (mFor (mItems (mSl (vP 0) noO (partO (cP (.int 63))))) (mgName 2)
      (mSeq (mAsg (ofP (caP dAbs (consP (caP dInt (consP (vP 2) nilP)) nilP))) (mgName 3))
      (mIf (ofPT (twoB dGe (vP 3) (two dPow (cP (.int 10)) (cP (.int 18))))) C.bigS
      (mSeq (mAsg (ofP (two dMod (caP dInt (consP (vP 3) nilP)) (cP (.int 2147483647)))) (mgName 5)) C.mixS))) (st6 (.fls (ns.map D.int)) [] none none none none)) with
      | .nx s1 => (mSeq (mIf (ofPT (twoB dEq (caP dLen (consP (vP 1) nilP)) (cP (.int 0)))) (mExpr (mAppend 1 (ofP (cP (.int 0))))) mNext) (mRet (mMv 1))) s1
      | r => r) with
      | r => r) = _
    rw [ek]
  have hlen : ys.length ≤ 63 := by omega
  have dl : dLen [.lst (xs.map D.int)] = some (.int xs.length) := by
    show some (D.int (xs.map D.int).length) = _
    rw [List.length_map]
  unfold C.mf__law_stream mDef
  show ∃ zs : List Int, zs ≠ [] ∧ zs.length ≤ 4000 ∧ (match C.mb__law_stream [some (D.fls (ns.map D.int)), none, none, none, none, none] with
    | .ret d s => match outsOf s [] with
      | some o => RF.ok d o
      | none => .stuck
    | .nx s => match outsOf s [] with
      | some o => .ok .non o
      | none => .stuck
    | .exc c fs s => match outsOf s [] with
      | some o => .exc c fs o
      | none => .stuck
    | _ => .stuck) = .ok (.lst (zs.map D.int)) []
  rw [run]
  have cs := dEq_int (xs.length) 0
  by_cases h0 : xs = []
  · subst h0
    exact ⟨[0], by simp, by simp, by simp [mSeq, mIf, ofPT, twoB, two, caP, consP, vP, cP, nilP, st6, dLen, dEq_int, asB, mExpr, mAppend, ofP, imm, R.bind, mRet, mMv, outsOf, small_line]⟩
  · refine ⟨xs, h0, by omega, ?_⟩
    have hz : ¬ ((xs.length : Int) = 0) := by
      have := List.length_pos_iff.mpr h0
      omega
    simp [h0, mSeq, mIf, ofPT, twoB, two, caP, consP, vP, cP, nilP, st6, dl, cs, hz, asB, mNext, mRet, mMv, outsOf]
end Sim

namespace Sim
open PySem PySem.Spec PyProof.Rows L2
open Enc

/-! ### small steps -/
theorem size_ok {n : Nat} (h : n ≤ 1000000) : n ≤ sizeLine := by rw [sizeLine_eq]; omega
theorem size_lt {n : Nat} (h : n ≤ 1000000) : n < sizeLine := by rw [sizeLine_eq]; omega
theorem mkTup_le {xs : List D} (h : xs.length ≤ 1000000) : mkTup xs = some (.tup xs) := if_pos (size_ok h)
theorem mkLst_le {xs : List D} (h : xs.length ≤ 1000000) : mkLst xs = some (.lst xs) := if_pos (size_ok h)
section
variable {a b c e f g : D}
theorem mkT0 : mkTup [] = some (.tup []) := mkTup_le (Nat.zero_le _)
theorem mkT1 : mkTup [a] = some (.tup [a]) := mkTup_le (by simp)
theorem mkT2 : mkTup [a, b] = some (.tup [a, b]) := mkTup_le (by simp)
theorem mkT3 : mkTup [a, b, c] = some (.tup [a, b, c]) := mkTup_le (by simp)
theorem mkT4 : mkTup [a, b, c, e] = some (.tup [a, b, c, e]) := mkTup_le (by simp)
theorem mkL0 : mkLst [] = some (.lst []) := mkLst_le (Nat.zero_le _)
theorem mkL1 : mkLst [a] = some (.lst [a]) := mkLst_le (by simp)
theorem mkL2 : mkLst [a, b] = some (.lst [a, b]) := mkLst_le (by simp)
theorem mkL3 : mkLst [a, b, c] = some (.lst [a, b, c]) := mkLst_le (by simp)
theorem mkL4 : mkLst [a, b, c, e] = some (.lst [a, b, c, e]) := mkLst_le (by simp)
theorem mkL5 : mkLst [a, b, c, e, f] = some (.lst [a, b, c, e, f]) := mkLst_le (by simp)
theorem mkL6 : mkLst [a, b, c, e, f, g] = some (.lst [a, b, c, e, f, g]) := mkLst_le (by simp)
theorem frz_int {i : Int} : frz (.int i) = .int i := by unfold frz; rfl
theorem frz_str {i : Str} : frz (.str i) = .str i := by unfold frz; rfl
theorem frz_bl {i : Bool} : frz (.bl i) = .bl i := by unfold frz; rfl
theorem frz_non : frz .non = .non := by unfold frz; rfl
theorem imm_int {i : Int} : imm (.int i) = true := rfl
theorem imm_str {i : Str} : imm (.str i) = true := rfl
theorem imm_bl {i : Bool} : imm (.bl i) = true := rfl
theorem imm_non : imm .non = true := rfl
theorem imm_tup {ds : List D} : imm (.tup ds) = imms ds := by rw [imm]
theorem imms_nil : imms [] = true := rfl
theorem imms_cons {x : D} {ds : List D} : imms (x :: ds) = (imm x && imms ds) := by rw [imms]
theorem only_of {h : D → D → Option D} {x y z : D} (e : h x y = some z) (hi : imm z = true) : only h x y = some z := by unfold only; rw [e]; exact if_pos hi
theorem only_int {h : D → D → Option D} {x y : D} {i : Int} (e : h x y = some (.int i)) : only h x y = some (.int i) := only_of e rfl
theorem only_bl {h : D → D → Option D} {x y : D} {i : Bool} (e : h x y = some (.bl i)) : only h x y = some (.bl i) := only_of e rfl
theorem only_str {h : D → D → Option D} {x y : D} {i : Str} (e : h x y = some (.str i)) : only h x y = some (.str i) := only_of e rfl
theorem only_non {h : D → D → Option D} {x y : D} (e : h x y = some .non) : only h x y = some .non := only_of e rfl
theorem only_d {α : Type} [DecidableEq α] [Enc α] {h : D → D → Option D} {x y : D} {a : α} (e : h x y = some (d a)) : only h x y = some (d a) := only_of e (im a)
end
theorem truB_bl {b : Bool} : truB (.bl b) = some b := rfl
theorem truB_int {b : Int} : truB (.int b) = some (b != 0) := rfl
/-! ### the operators on what is known -/
theorem dPl_int (i j : Int) : dPl (.int i) (.int j) = some (.int (i + j)) := rfl
theorem dPlF_int (i j : Int) : dPlF (.int i) (.int j) = some (.int (i + j)) := by
  unfold dPlF orD
  rw [only_int (dPl_int i j)]
theorem dPl_str {x y : Str} (h : x.length + y.length ≤ 1000000) : dPl (.str x) (.str y) = some (.str (x ++ y)) := by
  show (orD dStrC dTupC) (.str x) (.str y) = _
  unfold orD dStrC
  dsimp only
  rw [if_pos (size_ok h)]
theorem dPlF_str {x y : Str} (h : x.length + y.length ≤ 1000000) : dPlF (.str x) (.str y) = some (.str (x ++ y)) := by
  unfold dPlF orD
  rw [only_str (dPl_str h)]
theorem dPl_tup {xs ys : List D} (h : xs.length + ys.length ≤ 1000000) : dPl (.tup xs) (.tup ys) = some (.tup (xs ++ ys)) := by
  show (orD dStrC dTupC) (.tup xs) (.tup ys) = _
  show dTupC (.tup xs) (.tup ys) = _
  unfold dTupC
  dsimp only
  rw [if_pos (size_ok h)]
theorem dPlF_tup {xs ys : List D} (h : xs.length + ys.length ≤ 1000000) (h1 : imms xs = true) (h2 : imms ys = true) : dPlF (.tup xs) (.tup ys) = some (.tup (xs ++ ys)) := by
  unfold dPlF orD
  rw [only_of (dPl_tup h) (by unfold imm; exact imms_append h1 h2)]
theorem dPl_lst_none (l : D) (xs ys : List D) (h : l = .lst xs ∨ l = .fls xs) (r : D) (k : r = .lst ys ∨ r = .fls ys) : only dPl l r = none := by
  rcases h with rfl | rfl <;> rcases k with rfl | rfl <;> rfl
theorem dPlF_lst (l : D) (xs ys : List D) (h : l = .lst xs ∨ l = .fls xs) (r : D) (k : r = .lst ys ∨ r = .fls ys) (hl : xs.length + ys.length ≤ 1000000) (h1 : imms xs = true) (h2 : imms ys = true) : dPlF l r = some (.lst (xs ++ ys)) := by
  unfold dPlF orD
  rw [dPl_lst_none l xs ys h r k]
  dsimp only
  have e1 : lisD l = some xs := by rcases h with rfl | rfl <;> rfl
  have e2 : lisD r = some ys := by rcases k with rfl | rfl <;> rfl
  unfold dCatL
  rw [e1, e2]
  show (if imms xs = true ∧ imms ys = true ∧ xs.length + ys.length ≤ sizeLine then some (D.lst (xs ++ ys)) else none) = _
  rw [if_pos ⟨h1, h2, size_ok hl⟩]
theorem dLen_lst (xs : List D) : dLen [.lst xs] = some (.int xs.length) := rfl
theorem dLen_fls (xs : List D) : dLen [.fls xs] = some (.int xs.length) := rfl
theorem dLen_tup (xs : List D) : dLen [.tup xs] = some (.int xs.length) := rfl
theorem d_int (i : Int) : d i = D.int i := rfl
theorem d_wd (x : Wd) : d x = D.str x.1 := rfl
theorem d_lst {α : Type} [DecidableEq α] [Enc α] (xs : List α) : d xs = D.tup (xs.map d) := rfl
theorem d_pair {α β : Type} [DecidableEq α] [Enc α] [DecidableEq β] [Enc β] (x : α × β) : d x = D.tup [d x.1, d x.2] := rfl
theorem dEq_ii (i j : Int) : dEq (.int i) (.int j) = some (.bl (decide (i = j))) := dEq_enc i j
theorem dNe_ii (i j : Int) : dNe (.int i) (.int j) = some (.bl (!decide (i = j))) := dNe_enc i j

/-! ### the stream -/
/-- d is a stream's state with room for n steps more -/
def Stm (n : Nat) (x : D) : Prop := ∃ xs k, x = stD xs k ∧ xs ≠ [] ∧ xs.length < 2 ^ 20 ∧ k + n < 2 ^ 40
theorem Stm.less {n m : Nat} {x : D} (h : Stm n x) (k : m ≤ n) : Stm m x := by
  obtain ⟨xs, j, e, h1, h2, h3⟩ := h
  exact ⟨xs, j, e, h1, h2, by omega⟩
theorem stm_next {n : Nat} {x : D} (h : Stm (n + 1) x) {m : Int} (hm : 0 < m) : ∃ v x', 0 ≤ v ∧ v < m ∧ Stm n x' ∧ C.mf__law_next [x, .int m] = .ok (.int v) [x'] := by
  obtain ⟨xs, j, rfl, h1, h2, h3⟩ := h
  obtain ⟨v, a, b, e⟩ := next_ok h1 h2 (by omega : j < 2 ^ 40) hm
  exact ⟨v, stD xs (j + 1), a, b, ⟨xs, j + 1, rfl, h1, h2, by omega⟩, e⟩
theorem stm_start (ns : List Int) (hn : ns.length ≤ 63) : ∃ x, C.mf__law_stream [.fls (ns.map D.int)] = .ok x [] ∧ Stm (2 ^ 39) (.lst [x, .int 0]) := by
  obtain ⟨xs, h1, h2, e⟩ := stream_ok ns hn
  exact ⟨_, e, ⟨xs, 0, rfl, h1, Nat.lt_of_le_of_lt h2 (by decide), by decide⟩⟩

/-! ### comprehensions -/
theorem comp_inv {vs : List Nat} {g : D → Sl → Option Sl} {t : Sl → R Bool} {m : Sl → R D} (I : Nat → Sl → List D → Prop) :
    ∀ (ds : List D) (k : Nat) (s : Sl) (acc : List D),
    (∀ j dd s acc, ds[j]? = some dd → I (k + j) s acc → ∃ s1, g dd s = some s1 ∧ ((∃ s2, t s1 = .ok false s2 ∧ I (k + j + 1) (wipeS s2 vs) acc) ∨ ∃ s2 y s3, t s1 = .ok true s2 ∧ m s2 = .ok y s3 ∧ acc.length < sizeLine ∧ I (k + j + 1) (wipeS s3 vs) (acc ++ [y]))) →
    I k s acc → ∃ acc' s', mCompLoop vs g t m ds s acc = .ok acc' s' ∧ I (k + ds.length) s' acc'
  | [], k, s, acc, h, h0 => ⟨acc, s, rfl, h0⟩
  | dd :: ds, k, s, acc, h, h0 => by
    obtain ⟨s1, e1, h1⟩ := h 0 dd s acc rfl h0
    have hh : ∀ j dd s acc, ds[j]? = some dd → I (k + 1 + j) s acc → ∃ s1, g dd s = some s1 ∧ ((∃ s2, t s1 = .ok false s2 ∧ I (k + 1 + j + 1) (wipeS s2 vs) acc) ∨ ∃ s2 y s3, t s1 = .ok true s2 ∧ m s2 = .ok y s3 ∧ acc.length < sizeLine ∧ I (k + 1 + j + 1) (wipeS s3 vs) (acc ++ [y])) := by
      intro j dd s acc hj hi
      have := h (j + 1) dd s acc (by simpa using hj) (by rw [show k + (j + 1) = k + 1 + j by omega]; exact hi)
      rw [show k + (j + 1) + 1 = k + 1 + j + 1 by omega] at this
      exact this
    unfold mCompLoop
    rw [e1]
    dsimp only
    rcases h1 with ⟨s2, e2, h2⟩ | ⟨s2, y, s3, e2, e3, hl, h3⟩
    · rw [e2]
      dsimp only
      rw [if_neg (by decide)]
      obtain ⟨acc', s', e, hI⟩ := comp_inv I ds (k + 1) _ _ hh h2
      exact ⟨acc', s', e, by rw [List.length_cons, show k + (ds.length + 1) = k + 1 + ds.length by omega]; exact hI⟩
    · rw [e2]
      dsimp only
      rw [if_pos rfl, e3]
      dsimp only
      rw [if_pos hl]
      obtain ⟨acc', s', e, hI⟩ := comp_inv I ds (k + 1) _ _ hh h3
      exact ⟨acc', s', e, by rw [List.length_cons, show k + (ds.length + 1) = k + 1 + ds.length by omega]; exact hI⟩
/-- a comprehension that changes no slot: over a typed list -/
theorem comp_pure {α : Type} {f : α → D} {vs : List Nat} {g : D → Sl → Option Sl} {t : Sl → R Bool} {m : Sl → R D} {s : Sl} (q : α → Bool) (o : α → D) :
    ∀ (xs : List α) (acc : List D), (∀ x ∈ xs, ∃ s1, g (f x) s = some s1 ∧ t s1 = .ok (q x) s1 ∧ wipeS s1 vs = s ∧ (q x = true → ∃ s2, m s1 = .ok (o x) s2 ∧ wipeS s2 vs = s)) → acc.length + xs.length ≤ 1000000 →
    mCompLoop vs g t m (xs.map f) s acc = .ok (acc ++ (xs.filter q).map o) s
  | [], acc, h, hl => by simp [mCompLoop]
  | x :: xs, acc, h, hl => by
    rw [List.length_cons] at hl
    obtain ⟨s1, e1, e2, e3, e4⟩ := h x (by simp)
    rw [List.map_cons]
    unfold mCompLoop
    rw [e1]
    dsimp only
    rw [e2]
    dsimp only
    cases hq : q x with
    | false =>
      rw [if_neg (by decide), e3, comp_pure q o xs acc (fun y hy => h y (by simp [hy])) (by omega), List.filter_cons, hq]; rfl
    | true =>
      obtain ⟨s2, e5, e6⟩ := e4 hq
      rw [if_pos rfl, e5]
      dsimp only
      rw [if_pos (size_lt (by omega)), e6, comp_pure q o xs (acc ++ [o x]) (fun y hy => h y (by simp [hy])) (by rw [List.length_append, List.length_singleton]; omega), List.filter_cons, hq]
      simp
/-! ### words -/
theorem wd_app {a b : Str} (h : PyData.strOk a = true) (k : PyData.strOk b = true) : PyData.strOk (a ++ b) = true := ok_app h k
theorem sign_of {s : Str} {i : Int} {n : Nat} (hn : s.length = n) (h0 : 0 ≤ i) (h1 : i < n) (hs : PyData.strOk s = true) (hz : n ≤ 1000) : ∃ c : Str, PyData.strOk c = true ∧ c.length = 1 ∧ (∀ x ∈ c.cps, x ∈ s.cps) ∧ dIx (.str s) (.int i) = some (.str c) := by
  have hl : s.cps.toList.length = n := by rw [Array.length_toList]; exact hn
  have hi : i.toNat < s.cps.toList.length := by omega
  have e : atI s.cps.toList i = some s.cps.toList[i.toNat] := by
    unfold atI ixN
    rw [if_pos h0, if_pos (by omega)]
    show s.cps.toList[i.toNat]? = _
    exact List.getElem?_eq_getElem hi
  refine ⟨⟨#[s.cps.toList[i.toNat]]⟩, ?_, rfl, ?_, ?_⟩
  · unfold PyData.strOk at hs ⊢
    rw [← Array.all_toList, List.all_eq_true] at hs
    have := hs _ (List.getElem_mem hi)
    simpa using this
  · intro x hx
    have : x = s.cps.toList[i.toNat] := by simpa using hx
    rw [this]
    have := List.getElem_mem hi
    exact Array.mem_toList_iff.mp this
  · unfold dIx
    dsimp only
    rw [if_pos (size_ok (by rw [show s.length = n from hn]; omega)), e]
end Sim

namespace Sim
open PySem PySem.Spec PyProof.Rows L2
open Enc

/-! ### a word -/
def knownW : List Str := ["and", "or", "not", "some", "all", "point", "begins", "begun", "ends", "ended", "during", "around", "meets", "met", "later", "earlier"]
theorem known_ok : ∀ x ∈ knownW, PyData.strOk x = true := by
  intro x hx
  unfold knownW at hx
  simp only [List.mem_cons, List.not_mem_nil, or_false] at hx
  rcases hx with rfl | rfl | rfl | rfl | rfl | rfl | rfl | rfl | rfl | rfl | rfl | rfl | rfl | rfl | rfl | rfl <;> exact ok_ofS _
theorem notIn_known (w : Wd) : ∃ b, dNotIn (.str w.1) (.lst (knownW.map D.str)) = some (.bl b) := by
  have h : knownW.map D.str = (knownW.attach.map fun x => (⟨x.1, known_ok x.1 x.2⟩ : Wd)).map d := by
    rw [List.map_map]
    conv => lhs; rw [← List.attach_map_subtype_val knownW, List.map_map]
    rfl
  rw [h]
  exact ⟨_, dNotIn_lst w _⟩
/-- signs of words -/
def Sg (s : Str) : Prop := ∀ c ∈ s.cps, c = 97 ∨ c = 98 ∨ c = 99 ∨ c = 120 ∨ c = 121 ∨ c = 122
theorem sg_app {a b : Str} (h : Sg a) (k : Sg b) : Sg (a ++ b) := fun c hc => by
  have e : (a ++ b).cps = a.cps ++ b.cps := rfl
  rw [e] at hc
  rcases Array.mem_append.mp hc with hc | hc
  · exact h c hc
  · exact k c hc
theorem len_app (a b : Str) : (a ++ b).length = a.length + b.length := by
  show (a.cps ++ b.cps).size = _
  exact Array.size_append
def wordIn : Sl → RS := (mAsg (m2 dPlF (mRd 4) (m2 dIx (ofP (cP (.str "abcxyz"))) (mCall [0] C.mf__law_next [.io 0, .ex (ofP (cP (.int 6)))]))) (mgName 4))
theorem word_in {n : Nat} {x : D} (h : Stm (n + 1) x) {a b c e f : Option D} {w : Str} (hw : PyData.strOk w = true) (hl : w.length ≤ 100) (hg : Sg w) :
    ∃ x' u, Stm n x' ∧ PyData.strOk u = true ∧ u.length = w.length + 1 ∧ Sg u ∧ wordIn [some x, a, b, c, some (.str w), f] = .nx [some x', a, b, c, some (.str u), f] := by
  obtain ⟨v, x', h0, h1, hs, en⟩ := stm_next h (m := 6) (by decide)
  obtain ⟨s, k1, k2, k3, k4⟩ := sign_of (s := "abcxyz") (i := v) (n := 6) rfl h0 h1 (ok_ofS _) (by decide)
  refine ⟨x', w ++ s, hs, ok_app hw k1, by rw [len_app, k2], sg_app hg fun c hc => ?_, ?_⟩
  · have := k3 c hc
    have e : (Str.ofString "abcxyz").cps = #[97, 98, 99, 120, 121, 122] := by decide +kernel
    rw [show ("abcxyz" : Str).cps = #[97, 98, 99, 120, 121, 122] from e] at this
    simpa using this
  · unfold wordIn
    simp only [mSeq, mAsg, mgName, mgTup, mgCons, mgNil, mExpr, mRet, mRetN, mIf, mNext, mBrk, mCont, mRaise, mRaiseP, ofP, ofPT, two, twoB, one, chT, trT, caP, consP, nilP, vP, cP, tupP, lstP, mkT0, mkT1, mkT2, mkT3, mkT4, mkL0, mkL1, mkL2, mkL3, mkL4, mkL5, mkL6, mCons, nilA, mApp, m2, mNew2, mRd, mMv, mTest, mAndT, mOrT, mNotT, mAndV, mOrV, mNotV, mIfV, andV, orV, notV, mCall, mArgs, takeIo, putIo, R.bind, List.set_cons_succ, List.set_cons_zero, List.getElem?_cons_succ, List.getElem?_cons_zero, Option.join_some, Option.bind_some, Option.map_some, Option.bind, only, asB, truB_bl, truB_int, if_true, yesT, noO, partO, asI, onI, frz_int, frz_str, frz_bl, frz_non, frz_enc, imm_int, imm_bl, imm_str, imm_non, Enc.im, outsOf, en, k4, dPlF_str (show w.length + s.length ≤ 1000000 by omega)]
def wordLoop : Sl → RS := (mFor (mRange (mCons (m2 dIx (mApp mkLst (mCons (ofP (cP (.int 1))) (mCons (ofP (cP (.int 1))) (mCons (ofP (cP (.int 1))) (mCons (ofP (cP (.int 2))) (mCons (ofP (cP (.int 3))) (mCons (ofP (cP (.int 8))) nilA))))))) (mCall [0] C.mf__law_next [.io 0, .ex (ofP (cP (.int 6)))])) nilA)) (mgName 5) wordIn)
theorem six_of {v : Int} (h0 : 0 ≤ v) (h1 : v < 6) : ∃ k : Int, 1 ≤ k ∧ k ≤ 8 ∧ dIx (.lst [.int 1, .int 1, .int 1, .int 2, .int 3, .int 8]) (.int v) = some (.int k) := by
  have : v = 0 ∨ v = 1 ∨ v = 2 ∨ v = 3 ∨ v = 4 ∨ v = 5 := by omega
  rcases this with rfl | rfl | rfl | rfl | rfl | rfl
  · exact ⟨1, by decide, by decide, rfl⟩
  · exact ⟨1, by decide, by decide, rfl⟩
  · exact ⟨1, by decide, by decide, rfl⟩
  · exact ⟨2, by decide, by decide, rfl⟩
  · exact ⟨3, by decide, by decide, rfl⟩
  · exact ⟨8, by decide, by decide, rfl⟩
theorem word_loop {n : Nat} {x : D} (h : Stm (n + 9) x) {a b c f : Option D} :
    ∃ x' u f', Stm n x' ∧ PyData.strOk u = true ∧ 1 ≤ u.length ∧ u.length ≤ 8 ∧ Sg u ∧ wordLoop [some x, a, b, c, some (.str ""), f] = .nx [some x', a, b, c, some (.str u), f'] := by
  obtain ⟨v, x1, h0, h1, hs, en⟩ := stm_next (n := n + 8) h (m := 6) (by decide)
  obtain ⟨k, k0, k1, ek⟩ := six_of h0 h1
  have er : (m2 dIx (mApp mkLst (mCons (ofP (cP (.int 1))) (mCons (ofP (cP (.int 1))) (mCons (ofP (cP (.int 1))) (mCons (ofP (cP (.int 2))) (mCons (ofP (cP (.int 3))) (mCons (ofP (cP (.int 8))) nilA))))))) (mCall [0] C.mf__law_next [.io 0, .ex (ofP (cP (.int 6)))])) [some x, a, b, c, some (.str ""), f] = .ok (.int k) [some x1, a, b, c, some (.str ""), f] := by
    simp only [mSeq, mAsg, mgName, mgTup, mgCons, mgNil, mExpr, mRet, mRetN, mIf, mNext, mBrk, mCont, mRaise, mRaiseP, ofP, ofPT, two, twoB, one, chT, trT, caP, consP, nilP, vP, cP, tupP, lstP, mkT0, mkT1, mkT2, mkT3, mkT4, mkL0, mkL1, mkL2, mkL3, mkL4, mkL5, mkL6, mCons, nilA, mApp, m2, mNew2, mRd, mMv, mTest, mAndT, mOrT, mNotT, mAndV, mOrV, mNotV, mIfV, andV, orV, notV, mCall, mArgs, takeIo, putIo, R.bind, List.set_cons_succ, List.set_cons_zero, List.getElem?_cons_succ, List.getElem?_cons_zero, Option.join_some, Option.bind_some, Option.map_some, Option.bind, only, asB, truB_bl, truB_int, if_true, yesT, noO, partO, asI, onI, frz_int, frz_str, frz_bl, frz_non, frz_enc, imm_int, imm_bl, imm_str, imm_non, Enc.im, outsOf, en, ek]
  unfold wordLoop
  rw [mFor_range1 er (by omega)]
  refine loop_range (P := fun r => ∃ x' u f', Stm n x' ∧ PyData.strOk u = true ∧ 1 ≤ u.length ∧ u.length ≤ 8 ∧ Sg u ∧ r = .nx [some x', a, b, c, some (.str u), f']) (fun i s => ∃ x' u f', Stm (n + 8 - i) x' ∧ PyData.strOk u = true ∧ u.length = i ∧ Sg u ∧ s = [some x', a, b, c, some (.str u), f']) ?_ ?_ ⟨x1, "", f, hs, ok_ofS _, rfl, fun c hc => by
    have e : (Str.ofString "").cps = #[] := by decide +kernel
    rw [show ("" : Str).cps = #[] from e] at hc
    simp at hc, rfl⟩
  · rintro i s hi ⟨x', u, f', q1, q2, q3, q4, rfl⟩
    refine ⟨_, rfl, ?_⟩
    simp only [List.set_cons_succ, List.set_cons_zero]
    obtain ⟨x2, u2, w1, w2, w3, w4, e⟩ := word_in (n := n + 8 - (i + 1)) (a := a) (b := b) (c := c) (e := none) (f := some (.int (0 + (i : Int)))) (q1.less (by omega)) q2 (by omega) q4
    rw [e]
    exact ⟨x2, u2, _, w1, w2, by omega, w4, rfl⟩
  · rintro s ⟨x', u, f', q1, q2, q3, q4, rfl⟩
    exact ⟨x', u, f', q1.less (by omega), q2, by omega, by omega, q4, rfl⟩
/-- what words of the stream are like -/
def Wok (w : Str) : Prop := 1 ≤ w.length ∧ w.length ≤ 8 ∧ (Sg w ∨ (∃ c, w.cps = #[119, c] ∧ 97 ≤ c ∧ c ≤ 112))
theorem sixteen_of {v : Int} (h0 : 0 ≤ v) (h1 : v < 16) : ∃ s : Str, PyData.strOk s = true ∧ s.length = 1 ∧ (∃ c, s.cps = #[c] ∧ c = 97 + v.toNat) ∧ dIx (.str "abcdefghijklmnop") (.int v) = some (.str s) := by
  have e : (Str.ofString "abcdefghijklmnop").cps = #[97, 98, 99, 100, 101, 102, 103, 104, 105, 106, 107, 108, 109, 110, 111, 112] := by decide +kernel
  have hl : ("abcdefghijklmnop" : Str).cps.toList = (List.range 16).map fun i => 97 + i := by
    rw [show ("abcdefghijklmnop" : Str).cps = _ from e]; decide
  refine ⟨⟨#[97 + v.toNat]⟩, ?_, rfl, ⟨_, rfl, rfl⟩, ?_⟩
  · unfold PyData.strOk
    simp; omega
  · unfold dIx
    dsimp only
    rw [if_pos (size_ok (by rw [show ("abcdefghijklmnop" : Str).length = 16 by show (Str.ofString "abcdefghijklmnop").cps.size = 16; rw [e]; rfl]; decide)), hl]
    have : atI ((List.range 16).map fun i => 97 + i) v = some (97 + v.toNat) := by
      unfold atI ixN
      rw [if_pos h0, if_pos (by simpa using h1)]
      show ((List.range 16).map fun i => 97 + i)[v.toNat]? = _
      rw [List.getElem?_map, List.getElem?_range (by omega)]; rfl
    rw [this]
end Sim

namespace Sim
open PySem PySem.Spec PyProof.Rows L2
open Enc

/-- words taken so far -/
def Taken (ws : List Wd) : Prop := ∀ j w, ws[j]? = some w → Wok w.1 ∧ (Sg w.1 ∨ w.1.cps = #[119, 97 + j])
theorem sg_not119 {s : Str} (h : Sg s) {c : Nat} : s.cps ≠ #[119, c] := fun e => by
  have := h 119 (by rw [e]; simp)
  omega
theorem word_ok {n : Nat} {x : D} (h : Stm (n + 360) x) (ws : List Wd) (hl : ws.length < 16) (ht : Taken ws) :
    ∃ (w : Wd) (x' : D), Stm n x' ∧ w ∉ ws ∧ Taken (ws ++ [w]) ∧ C.mf__law_word [x, .lst (ws.map d)] = .ok (.str w.1) [x', .lst (ws.map d)] := by
  have snoc : ∀ w : Wd, Wok w.1 → (Sg w.1 ∨ w.1.cps = #[119, 97 + ws.length]) → Taken (ws ++ [w]) := fun w h1 h2 j u hu => by
    by_cases hj : j < ws.length
    · rw [List.getElem?_append_left hj] at hu
      exact ht j u hu
    · have hj2 : j = ws.length := by
        have := (List.getElem?_eq_some_iff.mp hu).1
        rw [List.length_append, List.length_singleton] at this
        omega
      subst hj2
      rw [List.getElem?_append_right (Nat.le_refl _)] at hu
      simp at hu
      subst hu
      exact ⟨h1, h2⟩
  have ekn : C.mb__law_word [some x, some (.lst (ws.map d)), none, none, none, none] = (mSeq (mFor (mRange (mCons (ofP (cP (.int 40))) nilA)) (mgName 3)
      (mSeq (mAsg (ofP (cP (.str ""))) (mgName 4)) (mSeq wordLoop (mIf (mAndT (ofPT (twoB dNotIn (vP 4) (vP 1))) (ofPT (twoB dNotIn (vP 4) (vP 2)))) (mRet (mMv 4)) mNext))))
      (mRet (mNew2 dPlF (cP (.str "w")) (two dIx (cP (.str "abcdefghijklmnop")) (two dMod (caP dLen (consP (vP 1) nilP)) (cP (.int 16))))))) [some x, some (.lst (ws.map d)), some (.lst (knownW.map D.str)), none, none, none] := by
    unfold C.mb__law_word
    rw [mSeq]
    have : (mAsg (mApp mkLst (mCons (ofP (cP (.str "and"))) (mCons (ofP (cP (.str "or"))) (mCons (ofP (cP (.str "not"))) (mCons (ofP (cP (.str "some"))) (mCons (ofP (cP (.str "all"))) (mCons (ofP (cP (.str "point"))) (mCons (ofP (cP (.str "begins"))) (mCons (ofP (cP (.str "begun"))) (mCons (ofP (cP (.str "ends"))) (mCons (ofP (cP (.str "ended"))) (mCons (ofP (cP (.str "during"))) (mCons (ofP (cP (.str "around"))) (mCons (ofP (cP (.str "meets"))) (mCons (ofP (cP (.str "met"))) (mCons (ofP (cP (.str "later"))) (mCons (ofP (cP (.str "earlier"))) nilA))))))))))))))))) (mgName 2)) [some x, some (.lst (ws.map d)), none, none, none, none] = .nx [some x, some (.lst (ws.map d)), some (.lst (knownW.map D.str)), none, none, none] := by
      simp only [mSeq, mAsg, mgName, mgTup, mgCons, mgNil, mExpr, mRet, mRetN, mIf, mNext, mBrk, mCont, mRaise, mRaiseP, ofP, ofPT, two, twoB, one, chT, trT, caP, consP, nilP, vP, cP, tupP, lstP, mkT0, mkT1, mkT2, mkT3, mkT4, mkL0, mkL1, mkL2, mkL3, mkL4, mkL5, mkL6, mCons, nilA, mApp, m2, mNew2, mRd, mMv, mTest, mAndT, mOrT, mNotT, mAndV, mOrV, mNotV, mIfV, andV, orV, notV, mCall, mArgs, takeIo, putIo, R.bind, List.set_cons_succ, List.set_cons_zero, List.getElem?_cons_succ, List.getElem?_cons_zero, Option.join_some, Option.bind_some, Option.map_some, Option.bind, only, asB, truB_bl, truB_int, if_true, yesT, noO, partO, asI, onI, frz_int, frz_str, frz_bl, frz_non, frz_enc, imm_int, imm_bl, imm_str, imm_non, Enc.im, outsOf, mkLst_le (show (knownW.map D.str).length ≤ 1000000 by decide)]
      unfold knownW
      simp only [List.map_cons, List.map_nil]
      rw [mkLst_le (by simp)]
      rfl
    rw [this]; rfl
  have key : (∃ (w : Wd) (x' : D) (c e f : Option D), Stm n x' ∧ w ∉ ws ∧ Wok w.1 ∧ Sg w.1 ∧ mFor (mRange (mCons (ofP (cP (.int 40))) nilA)) (mgName 3)
      (mSeq (mAsg (ofP (cP (.str ""))) (mgName 4)) (mSeq wordLoop (mIf (mAndT (ofPT (twoB dNotIn (vP 4) (vP 1))) (ofPT (twoB dNotIn (vP 4) (vP 2)))) (mRet (mMv 4)) mNext))) [some x, some (.lst (ws.map d)), some (.lst (knownW.map D.str)), none, none, none] = .ret (.str w.1) [some x', some (.lst (ws.map d)), some (.lst (knownW.map D.str)), c, e, f]) ∨
      (∃ (x' : D) (c e f : Option D), Stm n x' ∧ mFor (mRange (mCons (ofP (cP (.int 40))) nilA)) (mgName 3)
      (mSeq (mAsg (ofP (cP (.str ""))) (mgName 4)) (mSeq wordLoop (mIf (mAndT (ofPT (twoB dNotIn (vP 4) (vP 1))) (ofPT (twoB dNotIn (vP 4) (vP 2)))) (mRet (mMv 4)) mNext))) [some x, some (.lst (ws.map d)), some (.lst (knownW.map D.str)), none, none, none] = .nx [some x', some (.lst (ws.map d)), some (.lst (knownW.map D.str)), c, e, f]) := by
    rw [mFor_rangeC (by decide)]
    refine loop_range (P := fun r => (∃ (w : Wd) (x' : D) (c e f : Option D), Stm n x' ∧ w ∉ ws ∧ Wok w.1 ∧ Sg w.1 ∧ r = .ret (.str w.1) [some x', some (.lst (ws.map d)), some (.lst (knownW.map D.str)), c, e, f]) ∨ (∃ (x' : D) (c e f : Option D), Stm n x' ∧ r = .nx [some x', some (.lst (ws.map d)), some (.lst (knownW.map D.str)), c, e, f]))
      (fun i s => ∃ (x' : D) (c e f : Option D), Stm (n + (40 - i) * 9) x' ∧ s = [some x', some (.lst (ws.map d)), some (.lst (knownW.map D.str)), c, e, f]) ?_ ?_ ⟨x, none, none, none, h.less (by omega), rfl⟩
    · rintro i s hi ⟨x', c, e, f, hs, rfl⟩
      refine ⟨_, rfl, ?_⟩
      have hi40 : i < 40 := hi
      obtain ⟨x2, u, f', q1, q2, q3, q4, q5, ew⟩ := word_loop (n := n + (40 - (i + 1)) * 9) (x := x') (hs.less (by omega)) (a := some (.lst (ws.map d))) (b := some (.lst (knownW.map D.str))) (c := some (.int (0 + (i : Int)))) (f := f)
      have e0 : ∀ (rest : Sl → RS), mSeq (mAsg (ofP (cP (.str ""))) (mgName 4)) (mSeq wordLoop rest) [some x', some (.lst (ws.map d)), some (.lst (knownW.map D.str)), some (.int (0 + (i : Int))), e, f] = rest [some x2, some (.lst (ws.map d)), some (.lst (knownW.map D.str)), some (.int (0 + (i : Int))), some (.str u), f'] := fun rest => by
        show (match wordLoop [some x', some (.lst (ws.map d)), some (.lst (knownW.map D.str)), some (.int (0 + (i : Int))), some (.str ""), f] with
          | .nx s1 => rest s1
          | r => r) = _
        rw [ew]
      have e1 := e0 (mIf (mAndT (ofPT (twoB dNotIn (vP 4) (vP 1))) (ofPT (twoB dNotIn (vP 4) (vP 2)))) (mRet (mMv 4)) mNext)
      simp only [mgName, List.set_cons_succ, List.set_cons_zero]
      rw [e1]
      obtain ⟨b, eb⟩ := notIn_known ⟨u, q2⟩
      have ea : dNotIn (.str u) (.lst (ws.map d)) = some (.bl (!decide ((⟨u, q2⟩ : Wd) ∈ ws))) := dNotIn_lst (⟨u, q2⟩ : Wd) ws
      by_cases hm : (⟨u, q2⟩ : Wd) ∈ ws
      · have : mIf (mAndT (ofPT (twoB dNotIn (vP 4) (vP 1))) (ofPT (twoB dNotIn (vP 4) (vP 2)))) (mRet (mMv 4)) mNext [some x2, some (.lst (ws.map d)), some (.lst (knownW.map D.str)), some (.int (0 + (i : Int))), some (.str u), f'] = .nx [some x2, some (.lst (ws.map d)), some (.lst (knownW.map D.str)), some (.int (0 + (i : Int))), some (.str u), f'] := by
          simp only [mSeq, mAsg, mgName, mgTup, mgCons, mgNil, mExpr, mRet, mRetN, mIf, mNext, mBrk, mCont, mRaise, mRaiseP, ofP, ofPT, two, twoB, one, chT, trT, caP, consP, nilP, vP, cP, tupP, lstP, mkT0, mkT1, mkT2, mkT3, mkT4, mkL0, mkL1, mkL2, mkL3, mkL4, mkL5, mkL6, mCons, nilA, mApp, m2, mNew2, mRd, mMv, mTest, mAndT, mOrT, mNotT, mAndV, mOrV, mNotV, mIfV, andV, orV, notV, mCall, mArgs, takeIo, putIo, R.bind, List.set_cons_succ, List.set_cons_zero, List.getElem?_cons_succ, List.getElem?_cons_zero, Option.join_some, Option.bind_some, Option.map_some, Option.bind, only, asB, truB_bl, truB_int, if_true, yesT, noO, partO, asI, onI, frz_int, frz_str, frz_bl, frz_non, frz_enc, imm_int, imm_bl, imm_str, imm_non, Enc.im, outsOf, ea, eb, decide_eq_true hm, Bool.not_true, Bool.false_eq_true, if_false]
        rw [this]
        exact ⟨x2, _, _, _, q1, rfl⟩
      · cases b with
        | false =>
          have : mIf (mAndT (ofPT (twoB dNotIn (vP 4) (vP 1))) (ofPT (twoB dNotIn (vP 4) (vP 2)))) (mRet (mMv 4)) mNext [some x2, some (.lst (ws.map d)), some (.lst (knownW.map D.str)), some (.int (0 + (i : Int))), some (.str u), f'] = .nx [some x2, some (.lst (ws.map d)), some (.lst (knownW.map D.str)), some (.int (0 + (i : Int))), some (.str u), f'] := by
            simp only [mSeq, mAsg, mgName, mgTup, mgCons, mgNil, mExpr, mRet, mRetN, mIf, mNext, mBrk, mCont, mRaise, mRaiseP, ofP, ofPT, two, twoB, one, chT, trT, caP, consP, nilP, vP, cP, tupP, lstP, mkT0, mkT1, mkT2, mkT3, mkT4, mkL0, mkL1, mkL2, mkL3, mkL4, mkL5, mkL6, mCons, nilA, mApp, m2, mNew2, mRd, mMv, mTest, mAndT, mOrT, mNotT, mAndV, mOrV, mNotV, mIfV, andV, orV, notV, mCall, mArgs, takeIo, putIo, R.bind, List.set_cons_succ, List.set_cons_zero, List.getElem?_cons_succ, List.getElem?_cons_zero, Option.join_some, Option.bind_some, Option.map_some, Option.bind, only, asB, truB_bl, truB_int, if_true, yesT, noO, partO, asI, onI, frz_int, frz_str, frz_bl, frz_non, frz_enc, imm_int, imm_bl, imm_str, imm_non, Enc.im, outsOf, ea, eb, decide_eq_false hm, Bool.not_false, Bool.false_eq_true, if_false]
          rw [this]
          exact ⟨x2, _, _, _, q1, rfl⟩
        | true =>
          have : ∃ e', mIf (mAndT (ofPT (twoB dNotIn (vP 4) (vP 1))) (ofPT (twoB dNotIn (vP 4) (vP 2)))) (mRet (mMv 4)) mNext [some x2, some (.lst (ws.map d)), some (.lst (knownW.map D.str)), some (.int (0 + (i : Int))), some (.str u), f'] = .ret (.str u) [some x2, some (.lst (ws.map d)), some (.lst (knownW.map D.str)), some (.int (0 + (i : Int))), e', f'] := by
            simp only [mSeq, mAsg, mgName, mgTup, mgCons, mgNil, mExpr, mRet, mRetN, mIf, mNext, mBrk, mCont, mRaise, mRaiseP, ofP, ofPT, two, twoB, one, chT, trT, caP, consP, nilP, vP, cP, tupP, lstP, mkT0, mkT1, mkT2, mkT3, mkT4, mkL0, mkL1, mkL2, mkL3, mkL4, mkL5, mkL6, mCons, nilA, mApp, m2, mNew2, mRd, mMv, mTest, mAndT, mOrT, mNotT, mAndV, mOrV, mNotV, mIfV, andV, orV, notV, mCall, mArgs, takeIo, putIo, R.bind, List.set_cons_succ, List.set_cons_zero, List.getElem?_cons_succ, List.getElem?_cons_zero, Option.join_some, Option.bind_some, Option.map_some, Option.bind, only, asB, truB_bl, truB_int, if_true, yesT, noO, partO, asI, onI, frz_int, frz_str, frz_bl, frz_non, frz_enc, imm_int, imm_bl, imm_str, imm_non, Enc.im, outsOf, ea, eb, decide_eq_false hm, Bool.not_false]
            exact ⟨_, rfl⟩
          obtain ⟨e', this⟩ := this
          rw [this]
          exact .inl ⟨⟨u, q2⟩, x2, _, _, _, q1.less (by omega), hm, ⟨q3, q4, .inl q5⟩, q5, rfl⟩
    · rintro s ⟨x', c, e, f, hs, rfl⟩
      exact .inr ⟨x', c, e, f, hs.less (by omega), rfl⟩
  have eu : C.mf__law_word [x, .lst (ws.map d)] = (match C.mb__law_word [some x, some (.lst (ws.map d)), none, none, none, none] with
    | .ret dd s => match outsOf s [0, 1] with
      | some o => RF.ok dd o
      | none => .stuck
    | .nx s => match outsOf s [0, 1] with
      | some o => .ok .non o
      | none => .stuck
    | .exc c fs s => match outsOf s [0, 1] with
      | some o => .exc c fs o
      | none => .stuck
    | _ => .stuck) := rfl
  rw [eu, ekn, mSeq]
  rcases key with ⟨w, x', c, e, f, hs, hn, hw, hg, ek⟩ | ⟨x', c, e, f, hs, ek⟩
  · rw [ek]
    exact ⟨w, x', hs, hn, snoc w hw (.inl hg), rfl⟩
  · rw [ek]
    dsimp only
    have hmod : ((ws.length : Nat) : Int) % 16 = (ws.length : Int) := by omega
    obtain ⟨s, h1, h2, ⟨cc, h3, h4⟩, es⟩ := sixteen_of (v := (ws.length : Int)) (by omega) (by omega)
    have h4' : cc = 97 + ws.length := by simpa using h4
    have wl : ("w" : Str).length = 1 := rfl
    have wok : PyData.strOk (("w" : Str) ++ s) = true := ok_app (ok_ofS _) h1
    have wc : (("w" : Str) ++ s).cps = #[119, 97 + ws.length] := by
      show ("w" : Str).cps ++ s.cps = _
      rw [h3, h4']
      have : (Str.ofString "w").cps = #[119] := by decide +kernel
      rw [show ("w" : Str).cps = #[119] from this]; rfl
    refine ⟨⟨("w" : Str) ++ s, wok⟩, x', hs, fun hm => ?_, snoc _ ⟨?_, ?_, .inr ⟨97 + ws.length, wc, by omega, by omega⟩⟩ (.inr wc), ?_⟩
    · obtain ⟨j, hj⟩ := List.getElem?_of_mem hm
      have := (ht j _ hj).2
      rcases this with t | t
      · exact sg_not119 t wc
      · have e2 : (#[119, 97 + ws.length] : Array Nat) = #[119, 97 + j] := wc.symm.trans t
        have : 97 + ws.length = 97 + j := by simpa using e2
        have := (List.getElem?_eq_some_iff.mp hj).1
        omega
    · rw [len_app, wl]; omega
    · rw [len_app, wl]; omega
    · simp only [mSeq, mAsg, mgName, mgTup, mgCons, mgNil, mExpr, mRet, mRetN, mIf, mNext, mBrk, mCont, mRaise, mRaiseP, ofP, ofPT, two, twoB, one, chT, trT, caP, consP, nilP, vP, cP, tupP, lstP, mkT0, mkT1, mkT2, mkT3, mkT4, mkL0, mkL1, mkL2, mkL3, mkL4, mkL5, mkL6, mCons, nilA, mApp, m2, mNew2, mRd, mMv, mTest, mAndT, mOrT, mNotT, mAndV, mOrV, mNotV, mIfV, andV, orV, notV, mCall, mArgs, takeIo, putIo, R.bind, List.set_cons_succ, List.set_cons_zero, List.getElem?_cons_succ, List.getElem?_cons_zero, Option.join_some, Option.bind_some, Option.map_some, Option.bind, only, asB, truB_bl, truB_int, if_true, yesT, noO, partO, asI, onI, frz_int, frz_str, frz_bl, frz_non, frz_enc, imm_int, imm_bl, imm_str, imm_non, Enc.im, outsOf, List.length_map, dLen_lst, dMod, onIc, cPos, hmod, es, dPlF_str (show ("w" : Str).length + s.length ≤ 1000000 by omega), Int.reduceLT, frz]
end Sim

namespace Sim
open PySem PySem.Spec PyProof.Rows L2
open Enc

theorem mComp_of {mi : Sl → R (List D)} {vs : List Nat} {g : D → Sl → Option Sl} {t : Sl → R Bool} {m : Sl → R D} {s s1 s2 : Sl} {ds acc : List D} (h : mi s = .ok ds s1) (k : mCompLoop vs g t m ds (wipeS s1 vs) [] = .ok acc s2) : mComp mi vs g t m s = .ok (.lst acc) (backS s1 s2 vs) := by
  unfold mComp
  rw [h]
  dsimp only
  rw [k]
theorem mItems_rd {i : Nat} {s : Sl} {α : Type} [DecidableEq α] [Enc α] {xs : List α} (h : s[i]?.join = some (D.tup (xs.map d))) (hs : s.set i (some (D.tup (xs.map d))) = s) : mItems (mRd i) s = .ok (xs.map d) s := by
  unfold mItems mRd
  rw [h]
  dsimp only [R.bind]
  have e : frz (D.tup (xs.map d)) = D.tup (xs.map d) := frz_enc xs
  rw [e, e, hs]; rfl
theorem mTuple_fls {m : Sl → R D} {s s1 : Sl} {ds : List D} (h : m s = .ok (.fls ds) s1) (hl : True := trivial) : mTuple m s = .ok (.tup ds) s1 := by
  unfold mTuple
  rw [h]; rfl
theorem mTuple_lst {m : Sl → R D} {s s1 : Sl} {ds : List D} (h : m s = .ok (.lst ds) s1) (hl : ds.length ≤ 1000000) : mTuple m s = .ok (.tup ds) s1 := by
  unfold mTuple
  rw [h]; rfl
theorem frz_lst {α : Type} [DecidableEq α] [Enc α] (xs : List α) : frz (.lst (xs.map d)) = .fls (xs.map d) := by unfold frz; rw [frzs_enc]
theorem frz_fls {α : Type} [DecidableEq α] [Enc α] (xs : List α) : frz (.fls (xs.map d)) = .fls (xs.map d) := by unfold frz; rw [frzs_enc]
theorem frz_tup {α : Type} [DecidableEq α] [Enc α] (xs : List α) : frz (.tup (xs.map d)) = .tup (xs.map d) := by unfold frz; rw [frzs_enc]

/-! ### facts -/
theorem facts_ok {n : Nat} {x : D} {m : Int} (h : Stm (n + 1080) x) (h1 : 1 ≤ m) (h3 : m ≤ 3) : ∃ (ws : List Wd) (x' : D), (ws.length : Int) = m ∧ ws.Nodup ∧ Taken ws ∧ Stm n x' ∧ C.mf__law_facts [x, .int m] = .ok (d ws) [x'] := by
  have key : ∃ (ws : List Wd) (x' : D) (f : Option D), (ws.length : Int) = m ∧ ws.Nodup ∧ Taken ws ∧ Stm n x' ∧ mFor (mRange (mCons (mRd 1) nilA)) (mgName 3) (mExpr (mAppend 2 (mCall [0, 1] C.mf__law_word [.io 0, .io 2]))) [some x, some (.int m), some (.lst []), none] = .nx [some x', some (.int m), some (.lst (ws.map d)), f] := by
    rw [mFor_range1 (a := mRd 1) (s1 := [some x, some (.int m), some (.lst []), none]) (n := m) (by simp only [mSeq, mAsg, mgName, mgTup, mgCons, mgNil, mExpr, mRet, mRetN, mIf, mNext, mBrk, mCont, mRaise, mRaiseP, ofP, ofPT, two, twoB, one, chT, trT, caP, consP, nilP, vP, cP, tupP, lstP, mkT0, mkT1, mkT2, mkT3, mkT4, mkL0, mkL1, mkL2, mkL3, mkL4, mkL5, mkL6, mCons, nilA, mApp, m2, mNew2, mRd, mMv, mTest, mAndT, mOrT, mNotT, mAndV, mOrV, mNotV, mIfV, andV, orV, notV, mCall, mArgs, takeIo, putIo, R.bind, List.set_cons_succ, List.set_cons_zero, List.getElem?_cons_succ, List.getElem?_cons_zero, Option.join_some, Option.bind_some, Option.map_some, Option.bind, only, asB, truB_bl, truB_int, if_true, yesT, noO, partO, asI, onI, frz_int, frz_str, frz_bl, frz_non, frz_enc, imm_int, imm_bl, imm_str, imm_non, Enc.im, outsOf]) (by omega)]
    refine loop_range (P := fun r => ∃ (ws : List Wd) (x' : D) (f : Option D), (ws.length : Int) = m ∧ ws.Nodup ∧ Taken ws ∧ Stm n x' ∧ r = .nx [some x', some (.int m), some (.lst (ws.map d)), f])
      (fun i s => ∃ (ws : List Wd) (x' : D) (f : Option D), ws.length = i ∧ ws.Nodup ∧ Taken ws ∧ Stm (n + (3 - i) * 360) x' ∧ s = [some x', some (.int m), some (.lst (ws.map d)), f]) ?_ ?_ ⟨[], x, none, rfl, List.nodup_nil, fun j w hj => by simp at hj, h.less (by omega), rfl⟩
    · rintro i s hi ⟨ws, x', f, hl, hn, ht, hs, rfl⟩
      refine ⟨_, rfl, ?_⟩
      have hi3 : i < 3 := by omega
      obtain ⟨w, x2, q1, q2, q3, e⟩ := word_ok (n := n + (3 - (i + 1)) * 360) (x := x') (hs.less (by omega)) ws (by omega) ht
      have hz : ws.length < sizeLine := size_lt (by omega)
      simp only [mSeq, mAsg, mgName, mgTup, mgCons, mgNil, mExpr, mRet, mRetN, mIf, mNext, mBrk, mCont, mRaise, mRaiseP, ofP, ofPT, two, twoB, one, chT, trT, caP, consP, nilP, vP, cP, tupP, lstP, mkT0, mkT1, mkT2, mkT3, mkT4, mkL0, mkL1, mkL2, mkL3, mkL4, mkL5, mkL6, mCons, nilA, mApp, m2, mNew2, mRd, mMv, mTest, mAndT, mOrT, mNotT, mAndV, mOrV, mNotV, mIfV, andV, orV, notV, mCall, mArgs, takeIo, putIo, R.bind, List.set_cons_succ, List.set_cons_zero, List.getElem?_cons_succ, List.getElem?_cons_zero, Option.join_some, Option.bind_some, Option.map_some, Option.bind, only, asB, truB_bl, truB_int, if_true, yesT, noO, partO, asI, onI, frz_int, frz_str, frz_bl, frz_non, frz_enc, imm_int, imm_bl, imm_str, imm_non, Enc.im, outsOf, mAppend, e, putIo, List.length_map, hz]
      refine ⟨ws ++ [w], x2, _, by simp [hl], ?_, q3, q1, by rw [List.map_append]; rfl⟩
      rw [List.nodup_append]
      exact ⟨hn, by simp, fun a ha b hb => by
        have : b = w := by simpa using hb
        subst this
        intro e; subst e; exact q2 ha⟩
    · rintro s ⟨ws, x', f, hl, hn, ht, hs, rfl⟩
      exact ⟨ws, x', f, by omega, hn, ht, hs.less (by omega), rfl⟩
  obtain ⟨ws, x', f, hl, hn, ht, hs, e⟩ := key
  refine ⟨ws, x', hl, hn, ht, hs, ?_⟩
  have e2 : C.mb__law_facts [some x, some (.int m), none, none] = mRet (mTuple (mRd 2)) [some x', some (.int m), some (.lst (ws.map d)), f] := by
    unfold C.mb__law_facts
    show (match (mFor (mRange (mCons (mRd 1) nilA)) (mgName 3) (mExpr (mAppend 2 (mCall [0, 1] C.mf__law_word [.io 0, .io 2]))) [some x, some (.int m), some (.lst []), none]) with
      | .nx s1 => mRet (mTuple (mRd 2)) s1
      | r => r) = _
    rw [e]
  have e3 : mTuple (mRd 2) [some x', some (.int m), some (.lst (ws.map d)), f] = .ok (d ws) [some x', some (.int m), some (.fls (ws.map d)), f] :=
    mTuple_fls (by simp only [mSeq, mAsg, mgName, mgTup, mgCons, mgNil, mExpr, mRet, mRetN, mIf, mNext, mBrk, mCont, mRaise, mRaiseP, ofP, ofPT, two, twoB, one, chT, trT, caP, consP, nilP, vP, cP, tupP, lstP, mkT0, mkT1, mkT2, mkT3, mkT4, mkL0, mkL1, mkL2, mkL3, mkL4, mkL5, mkL6, mCons, nilA, mApp, m2, mNew2, mRd, mMv, mTest, mAndT, mOrT, mNotT, mAndV, mOrV, mNotV, mIfV, andV, orV, notV, mCall, mArgs, takeIo, putIo, R.bind, List.set_cons_succ, List.set_cons_zero, List.getElem?_cons_succ, List.getElem?_cons_zero, Option.join_some, Option.bind_some, Option.map_some, Option.bind, only, asB, truB_bl, truB_int, if_true, yesT, noO, partO, asI, onI, frz_int, frz_str, frz_bl, frz_non, frz_enc, imm_int, imm_bl, imm_str, imm_non, Enc.im, outsOf, frz_lst]) trivial
  show (match C.mb__law_facts [some x, some (.int m), none, none] with
    | .ret dd s => match outsOf s [0] with
      | some o => RF.ok dd o
      | none => .stuck
    | .nx s => match outsOf s [0] with
      | some o => .ok .non o
      | none => .stuck
    | .exc c fs s => match outsOf s [0] with
      | some o => .exc c fs o
      | none => .stuck
    | _ => .stuck) = _
  rw [e2, mRet, e3]; rfl

/-! ### scenes -/
theorem scene_ok {n : Nat} {x : D} {ws : List Wd} (h : Stm (n + ws.length) x) (hl : ws.length ≤ 1000) : ∃ (sc : List Wd) (x' : D), sc.Sublist ws ∧ Stm n x' ∧ C.mf__law_scene [x, d ws] = .ok (d sc) [x'] := by
  have key := comp_inv (vs := [2]) (g := mgName 2) (t := (mTest (m2 (only dEq) (mCall [0] C.mf__law_next [.io 0, .ex (ofP (cP (.int 2)))]) (ofP (cP (.int 0)))))) (m := mRd 2)
    (fun j s acc => ∃ (x' : D) (sc : List Wd), Stm (n + (ws.length - j)) x' ∧ sc.Sublist (ws.take j) ∧ acc = sc.map d ∧ s = [some x', some (d ws), none]) (ws.map d) 0 [some x, some (d ws), none] [] ?_ ⟨x, [], h, by simp, rfl, rfl⟩
  · obtain ⟨acc', s', e, x', sc, q1, q2, rfl, rfl⟩ := key
    rw [Nat.zero_add, List.length_map, List.take_length] at q2
    refine ⟨sc, x', q2, q1.less (by omega), ?_⟩
    have e1 : mItems (mRd 1) [some x, some (d ws), none] = .ok (ws.map d) [some x, some (d ws), none] := mItems_rd rfl rfl
    have e2 := mComp_of e1 (t := (mTest (m2 (only dEq) (mCall [0] C.mf__law_next [.io 0, .ex (ofP (cP (.int 2)))]) (ofP (cP (.int 0)))))) (m := mRd 2) (vs := [2]) (g := mgName 2) e
    have e3 := mTuple_lst e2 (by rw [List.length_map]; have := q2.length_le; omega)
    unfold C.mf__law_scene mDef C.mb__law_scene
    show (match mRet (mTuple (mComp (mItems (mRd 1)) [2] (mgName 2) (mTest (m2 (only dEq) (mCall [0] C.mf__law_next [.io 0, .ex (ofP (cP (.int 2)))]) (ofP (cP (.int 0))))) (mRd 2))) [some x, some (d ws), none] with
      | .ret dd s => match outsOf s [0] with
        | some o => RF.ok dd o
        | none => .stuck
      | .nx s => match outsOf s [0] with
        | some o => .ok .non o
        | none => .stuck
      | .exc c fs s => match outsOf s [0] with
        | some o => .exc c fs o
        | none => .stuck
      | _ => .stuck) = _
    rw [mRet, e3]; rfl
  · rintro j dd s acc hj ⟨x', sc, q1, q2, rfl, rfl⟩
    rw [List.getElem?_map] at hj
    obtain ⟨w, hw, rfl⟩ := Option.map_eq_some_iff.mp hj
    have hjl := (List.getElem?_eq_some_iff.mp hw).1
    rw [Nat.zero_add] at q1 q2
    obtain ⟨v, x2, g1, g2, g3, e⟩ := stm_next (n := n + (ws.length - (j + 1))) (x := x') (q1.less (by omega)) (m := 2) (by decide)
    have et : ws.take (j + 1) = ws.take j ++ [w] := by
      rw [List.take_succ, hw]; rfl
    refine ⟨_, rfl, ?_⟩
    have ev := dEq_ii v 0
    by_cases hv : v = 0
    · right
      refine ⟨[some x2, some (d ws), some (d w)], d w, [some x2, some (d ws), some (d w)], ?_, ?_, size_lt ?_, x2, sc ++ [w], by rw [Nat.zero_add]; exact g3, ?_, by rw [List.map_append]; rfl, rfl⟩
      · simp only [mSeq, mAsg, mgName, mgTup, mgCons, mgNil, mExpr, mRet, mRetN, mIf, mNext, mBrk, mCont, mRaise, mRaiseP, ofP, ofPT, two, twoB, one, chT, trT, caP, consP, nilP, vP, cP, tupP, lstP, mkT0, mkT1, mkT2, mkT3, mkT4, mkL0, mkL1, mkL2, mkL3, mkL4, mkL5, mkL6, mCons, nilA, mApp, m2, mNew2, mRd, mMv, mTest, mAndT, mOrT, mNotT, mAndV, mOrV, mNotV, mIfV, andV, orV, notV, mCall, mArgs, takeIo, putIo, R.bind, List.set_cons_succ, List.set_cons_zero, List.getElem?_cons_succ, List.getElem?_cons_zero, Option.join_some, Option.bind_some, Option.map_some, Option.bind, only, asB, truB_bl, truB_int, if_true, yesT, noO, partO, asI, onI, frz_int, frz_str, frz_bl, frz_non, frz_enc, imm_int, imm_bl, imm_str, imm_non, Enc.im, outsOf, e, ev, putIo, decide_eq_true hv]
      · simp only [mSeq, mAsg, mgName, mgTup, mgCons, mgNil, mExpr, mRet, mRetN, mIf, mNext, mBrk, mCont, mRaise, mRaiseP, ofP, ofPT, two, twoB, one, chT, trT, caP, consP, nilP, vP, cP, tupP, lstP, mkT0, mkT1, mkT2, mkT3, mkT4, mkL0, mkL1, mkL2, mkL3, mkL4, mkL5, mkL6, mCons, nilA, mApp, m2, mNew2, mRd, mMv, mTest, mAndT, mOrT, mNotT, mAndV, mOrV, mNotV, mIfV, andV, orV, notV, mCall, mArgs, takeIo, putIo, R.bind, List.set_cons_succ, List.set_cons_zero, List.getElem?_cons_succ, List.getElem?_cons_zero, Option.join_some, Option.bind_some, Option.map_some, Option.bind, only, asB, truB_bl, truB_int, if_true, yesT, noO, partO, asI, onI, frz_int, frz_str, frz_bl, frz_non, frz_enc, imm_int, imm_bl, imm_str, imm_non, Enc.im, outsOf]
      · have := q2.length_le
        rw [List.length_map]
        rw [List.length_take] at this
        omega
      · rw [Nat.zero_add, et]
        exact q2.append (List.Sublist.refl _)
    · left
      refine ⟨[some x2, some (d ws), some (d w)], ?_, x2, sc, by rw [Nat.zero_add]; exact g3, ?_, rfl, rfl⟩
      · simp only [mSeq, mAsg, mgName, mgTup, mgCons, mgNil, mExpr, mRet, mRetN, mIf, mNext, mBrk, mCont, mRaise, mRaiseP, ofP, ofPT, two, twoB, one, chT, trT, caP, consP, nilP, vP, cP, tupP, lstP, mkT0, mkT1, mkT2, mkT3, mkT4, mkL0, mkL1, mkL2, mkL3, mkL4, mkL5, mkL6, mCons, nilA, mApp, m2, mNew2, mRd, mMv, mTest, mAndT, mOrT, mNotT, mAndV, mOrV, mNotV, mIfV, andV, orV, notV, mCall, mArgs, takeIo, putIo, R.bind, List.set_cons_succ, List.set_cons_zero, List.getElem?_cons_succ, List.getElem?_cons_zero, Option.join_some, Option.bind_some, Option.map_some, Option.bind, only, asB, truB_bl, truB_int, if_true, yesT, noO, partO, asI, onI, frz_int, frz_str, frz_bl, frz_non, frz_enc, imm_int, imm_bl, imm_str, imm_non, Enc.im, outsOf, e, ev, putIo, decide_eq_false hv]
      · rw [Nat.zero_add, et]
        exact q2.trans (List.sublist_append_left _ _)
theorem is_scene_ok (ws sc : List Wd) (hl : ws.length ≤ 1000) : C.mf_is_scene [d ws, d sc] = .ok (.bl (decide (sc = ws.filter fun w => decide (w ∈ sc)))) [] := by
  have key := comp_pure (f := d) (vs := [2]) (g := mgName 2) (t := ofPT (twoB dIn (vP 2) (vP 1))) (m := mRd 2) (s := [some (d ws), some (d sc), none]) (fun w => decide (w ∈ sc)) d ws [] (fun w hw => by
    refine ⟨[some (d ws), some (d sc), some (d w)], rfl, ?_, rfl, fun _ => ⟨[some (d ws), some (d sc), some (d w)], ?_, rfl⟩⟩
    · have := dIn_tup w sc
      simp only [mSeq, mAsg, mgName, mgTup, mgCons, mgNil, mExpr, mRet, mRetN, mIf, mNext, mBrk, mCont, mRaise, mRaiseP, ofP, ofPT, two, twoB, one, chT, trT, caP, consP, nilP, vP, cP, tupP, lstP, mkT0, mkT1, mkT2, mkT3, mkT4, mkL0, mkL1, mkL2, mkL3, mkL4, mkL5, mkL6, mCons, nilA, mApp, m2, mNew2, mRd, mMv, mTest, mAndT, mOrT, mNotT, mAndV, mOrV, mNotV, mIfV, andV, orV, notV, mCall, mArgs, takeIo, putIo, R.bind, List.set_cons_succ, List.set_cons_zero, List.getElem?_cons_succ, List.getElem?_cons_zero, Option.join_some, Option.bind_some, Option.map_some, Option.bind, only, asB, truB_bl, truB_int, if_true, yesT, noO, partO, asI, onI, frz_int, frz_str, frz_bl, frz_non, frz_enc, imm_int, imm_bl, imm_str, imm_non, Enc.im, outsOf, d_lst sc, this]
    · simp only [mSeq, mAsg, mgName, mgTup, mgCons, mgNil, mExpr, mRet, mRetN, mIf, mNext, mBrk, mCont, mRaise, mRaiseP, ofP, ofPT, two, twoB, one, chT, trT, caP, consP, nilP, vP, cP, tupP, lstP, mkT0, mkT1, mkT2, mkT3, mkT4, mkL0, mkL1, mkL2, mkL3, mkL4, mkL5, mkL6, mCons, nilA, mApp, m2, mNew2, mRd, mMv, mTest, mAndT, mOrT, mNotT, mAndV, mOrV, mNotV, mIfV, andV, orV, notV, mCall, mArgs, takeIo, putIo, R.bind, List.set_cons_succ, List.set_cons_zero, List.getElem?_cons_succ, List.getElem?_cons_zero, Option.join_some, Option.bind_some, Option.map_some, Option.bind, only, asB, truB_bl, truB_int, if_true, yesT, noO, partO, asI, onI, frz_int, frz_str, frz_bl, frz_non, frz_enc, imm_int, imm_bl, imm_str, imm_non, Enc.im, outsOf]) (by simp; omega)
  rw [List.nil_append] at key
  have e1 : mItems (mRd 0) [some (d ws), some (d sc), none] = .ok (ws.map d) [some (d ws), some (d sc), none] := mItems_rd rfl rfl
  have e2 := mComp_of e1 (t := ofPT (twoB dIn (vP 2) (vP 1))) (m := mRd 2) (vs := [2]) (g := mgName 2) key
  have e3 := mTuple_lst e2 (by rw [List.length_map]; have := List.length_filter_le (fun w => decide (w ∈ sc)) ws; omega)
  unfold C.mf_is_scene mDef C.mb_is_scene
  show (match mRet (m2 (only dEq) (mRd 1) (mTuple (mComp (mItems (mRd 0)) [2] (mgName 2) (ofPT (twoB dIn (vP 2) (vP 1))) (mRd 2)))) [some (d ws), some (d sc), none] with
    | .ret dd s => match outsOf s [] with
      | some o => RF.ok dd o
      | none => .stuck
    | .nx s => match outsOf s [] with
      | some o => .ok .non o
      | none => .stuck
    | .exc c fs s => match outsOf s [] with
      | some o => .exc c fs o
      | none => .stuck
    | _ => .stuck) = _
  have e4 := dEq_enc sc (ws.filter fun w => decide (w ∈ sc))
  rw [d_lst (ws.filter fun w => decide (w ∈ sc))] at e4
  simp only [mSeq, mAsg, mgName, mgTup, mgCons, mgNil, mExpr, mRet, mRetN, mIf, mNext, mBrk, mCont, mRaise, mRaiseP, ofP, ofPT, two, twoB, one, chT, trT, caP, consP, nilP, vP, cP, tupP, lstP, mkT0, mkT1, mkT2, mkT3, mkT4, mkL0, mkL1, mkL2, mkL3, mkL4, mkL5, mkL6, mCons, nilA, mApp, m2, mNew2, mRd, mMv, mTest, mAndT, mOrT, mNotT, mAndV, mOrV, mNotV, mIfV, andV, orV, notV, mCall, mArgs, takeIo, putIo, R.bind, List.set_cons_succ, List.set_cons_zero, List.getElem?_cons_succ, List.getElem?_cons_zero, Option.join_some, Option.bind_some, Option.map_some, Option.bind, only, asB, truB_bl, truB_int, if_true, yesT, noO, partO, asI, onI, frz_int, frz_str, frz_bl, frz_non, frz_enc, imm_int, imm_bl, imm_str, imm_non, Enc.im, outsOf, e3, e4]
/-! ### ascending rooms -/
def asc : List Int → Int → Int → Bool
  | [], _, _ => true
  | r :: rs, l, m => decide (l ≤ r) && decide (r < m) && asc rs (r + 1) m
theorem rooms_loop (a : Option D) (m : Int) : ∀ (rs : List Int) (l : Int) (e : Option D), ∃ l' e', mLoop (mgName 3) (mSeq (mIf (mNotT (ofPT (chT (chain2 dLe dLt (vP 2) (vP 3) (vP 1))))) (mRet (ofP (cP (.bl false)))) mNext) (mAsg (ofP (two dPl (vP 3) (cP (.int 1)))) (mgName 2))) (rs.map d) [a, some (.int m), some (.int l), e] =
    if asc rs l m = true then .nx [a, some (.int m), l', e'] else .ret (.bl false) [a, some (.int m), l', e']
  | [], l, e => ⟨_, _, rfl⟩
  | r :: rs, l, e => by
    by_cases h1 : l ≤ r
    · by_cases h2 : r < m
      · obtain ⟨l', e', ih⟩ := rooms_loop a m rs (r + 1) (some (.int r))
        refine ⟨l', e', ?_⟩
        have ea : asc (r :: rs) l m = asc rs (r + 1) m := by simp [asc, h1, h2]
        rw [ea, ← ih, List.map_cons]
        conv => lhs; unfold mLoop
        simp only [mSeq, mAsg, mgName, mgTup, mgCons, mgNil, mExpr, mRet, mRetN, mIf, mNext, mBrk, mCont, mRaise, mRaiseP, ofP, ofPT, two, twoB, one, chT, trT, caP, consP, nilP, vP, cP, tupP, lstP, mkT0, mkT1, mkT2, mkT3, mkT4, mkL0, mkL1, mkL2, mkL3, mkL4, mkL5, mkL6, mCons, nilA, mApp, m2, mNew2, mRd, mMv, mTest, mAndT, mOrT, mNotT, mAndV, mOrV, mNotV, mIfV, andV, orV, notV, mCall, mArgs, takeIo, putIo, R.bind, List.set_cons_succ, List.set_cons_zero, List.getElem?_cons_succ, List.getElem?_cons_zero, Option.join_some, Option.bind_some, Option.map_some, Option.bind, only, asB, truB_bl, truB_int, if_true, yesT, noO, partO, asI, onI, frz_int, frz_str, frz_bl, frz_non, frz_enc, imm_int, imm_bl, imm_str, imm_non, Enc.im, outsOf, d_int, chain2, dLe, dLt, h1, h2, decide_true, Bool.not_true, Bool.false_eq_true, if_false, dPl_int]
      · refine ⟨some (.int l), some (.int r), ?_⟩
        have ea : asc (r :: rs) l m = false := by simp [asc, h2]
        rw [ea, List.map_cons]
        unfold mLoop
        simp only [mSeq, mAsg, mgName, mgTup, mgCons, mgNil, mExpr, mRet, mRetN, mIf, mNext, mBrk, mCont, mRaise, mRaiseP, ofP, ofPT, two, twoB, one, chT, trT, caP, consP, nilP, vP, cP, tupP, lstP, mkT0, mkT1, mkT2, mkT3, mkT4, mkL0, mkL1, mkL2, mkL3, mkL4, mkL5, mkL6, mCons, nilA, mApp, m2, mNew2, mRd, mMv, mTest, mAndT, mOrT, mNotT, mAndV, mOrV, mNotV, mIfV, andV, orV, notV, mCall, mArgs, takeIo, putIo, R.bind, List.set_cons_succ, List.set_cons_zero, List.getElem?_cons_succ, List.getElem?_cons_zero, Option.join_some, Option.bind_some, Option.map_some, Option.bind, only, asB, truB_bl, truB_int, if_true, yesT, noO, partO, asI, onI, frz_int, frz_str, frz_bl, frz_non, frz_enc, imm_int, imm_bl, imm_str, imm_non, Enc.im, outsOf, d_int, chain2, dLe, dLt, h1, h2, decide_true, decide_false, Bool.not_false, Bool.false_eq_true, if_false]
    · refine ⟨some (.int l), some (.int r), ?_⟩
      have ea : asc (r :: rs) l m = false := by simp [asc, h1]
      rw [ea, List.map_cons]
      unfold mLoop
      simp only [mSeq, mAsg, mgName, mgTup, mgCons, mgNil, mExpr, mRet, mRetN, mIf, mNext, mBrk, mCont, mRaise, mRaiseP, ofP, ofPT, two, twoB, one, chT, trT, caP, consP, nilP, vP, cP, tupP, lstP, mkT0, mkT1, mkT2, mkT3, mkT4, mkL0, mkL1, mkL2, mkL3, mkL4, mkL5, mkL6, mCons, nilA, mApp, m2, mNew2, mRd, mMv, mTest, mAndT, mOrT, mNotT, mAndV, mOrV, mNotV, mIfV, andV, orV, notV, mCall, mArgs, takeIo, putIo, R.bind, List.set_cons_succ, List.set_cons_zero, List.getElem?_cons_succ, List.getElem?_cons_zero, Option.join_some, Option.bind_some, Option.map_some, Option.bind, only, asB, truB_bl, truB_int, if_true, yesT, noO, partO, asI, onI, frz_int, frz_str, frz_bl, frz_non, frz_enc, imm_int, imm_bl, imm_str, imm_non, Enc.im, outsOf, d_int, chain2, dLe, dLt, h1, decide_false, Bool.not_false, Bool.false_eq_true, if_false]
theorem are_rooms_ok (rs : List Int) (m : Int) : C.mf_are_rooms [d rs, .int m] = .ok (.bl (asc rs 0 m)) [] := by
  obtain ⟨l', e', e⟩ := rooms_loop (some (d rs)) m rs 0 none
  have e1 : mItems (mRd 0) [some (d rs), some (.int m), some (.int 0), none] = .ok (rs.map d) [some (d rs), some (.int m), some (.int 0), none] := mItems_rd rfl rfl
  unfold C.mf_are_rooms mDef C.mb_are_rooms
  rw [if_pos (by rfl)]
  simp only [List.map_cons, List.map_nil, List.replicate, List.cons_append, List.nil_append]
  simp only [mSeq, mAsg, mgName, mgTup, mgCons, mgNil, mExpr, mRet, mRetN, mIf, mNext, mBrk, mCont, mRaise, mRaiseP, ofP, ofPT, two, twoB, one, chT, trT, caP, consP, nilP, vP, cP, tupP, lstP, mkT0, mkT1, mkT2, mkT3, mkT4, mkL0, mkL1, mkL2, mkL3, mkL4, mkL5, mkL6, mCons, nilA, mApp, m2, mNew2, mRd, mMv, mTest, mAndT, mOrT, mNotT, mAndV, mOrV, mNotV, mIfV, andV, orV, notV, mCall, mArgs, takeIo, putIo, R.bind, List.set_cons_succ, List.set_cons_zero, List.getElem?_cons_succ, List.getElem?_cons_zero, Option.join_some, Option.bind_some, Option.map_some, Option.bind, only, asB, truB_bl, truB_int, if_true, yesT, noO, partO, asI, onI, frz_int, frz_str, frz_bl, frz_non, frz_enc, imm_int, imm_bl, imm_str, imm_non, Enc.im, outsOf, mFor, e1, e]
  cases asc rs 0 m <;> rfl
end Sim

namespace Sim.C
def mb_check_system : Sl → RS := (mSeq (mAsg (mRd 1) (mgTup 3 (mgCons (mgName 2) (mgCons (mgName 3) (mgCons (mgName 4) mgNil)))))
  (mSeq (mIf (mNotT (ofPT (chT (chain2 dLe dLe (cP (.int 1)) (caP dLen (consP (vP 2) nilP)) (cP (.int 8))))))
  (mRaiseP "NotAllowed" (joinP [(cP (.str "a system has 1 to ")), (fmtP (cP (.int 8))), (cP (.str " states"))]))
  mNext)
  (mSeq (mIf (mNotT (mTest (mApp (only1 dAll) (mCons (mComp (mItems (mRd 2)) [5] (mgName 5) yesT (mCall [] mf_is_scene [.ex (mRd 0), .ex (mRd 5)])) nilA))))
  (mRaise "NotAllowed")
  mNext)
  (mSeq (mIf (mOrT (mNotT (ofPT (trT (vP 3)))) (mNotT (mTest (mCall [] mf_are_rooms [.ex (mRd 3), .ex (ofP (caP dLen (consP (vP 2) nilP)))]))))
  (mRaise "NotAllowed")
  mNext)
  (mIf (mOrT (ofPT (twoB dNe (caP dLen (consP (vP 4) nilP)) (caP dLen (consP (vP 2) nilP)))) (mNotT (mTest (mApp (only1 dAll) (mCons (mComp (mItems (mRd 4)) [6] (mgName 6) yesT (mCall [] mf_are_rooms [.ex (mRd 6), .ex (ofP (caP dLen (consP (vP 2) nilP)))])) nilA)))))
  (mRaise "NotAllowed")
  mNext)))))
def mf_check_system : List D → RF := mDef 2 7 [] mb_check_system
end Sim.C

namespace Sim
open PySem PySem.Spec PyProof.Rows L2
open Enc

/-! ### comprehensions that draw -/
theorem pick {α : Type} [DecidableEq α] [Enc α] {S : D → Option D → Sl} {vs : List Nat} {g : D → Sl → Option Sl} {t : Sl → R Bool} {m : Sl → R D} (c n : Nat) (xs : List α) (hz : xs.length ≤ 1000)
    (hg : ∀ st x, x ∈ xs → g (d x) (S st none) = some (S st (some (d x)))) (hw : ∀ st x, x ∈ xs → wipeS (S st (some (d x))) vs = S st none) (hm : ∀ st x, x ∈ xs → m (S st (some (d x))) = .ok (d x) (S st (some (d x))))
    (ht : ∀ k st x, x ∈ xs → Stm (k + c) st → ∃ b st2, Stm k st2 ∧ t (S st (some (d x))) = .ok b (S st2 (some (d x)))) {st : D} (h : Stm (n + xs.length * c) st) :
    ∃ (ys : List α) (st2 : D), ys.Sublist xs ∧ Stm n st2 ∧ mCompLoop vs g t m (xs.map d) (S st none) [] = .ok (ys.map d) (S st2 none) := by
  have key := comp_inv (vs := vs) (g := g) (t := t) (m := m) (fun j s acc => ∃ (x' : D) (sc : List α), Stm (n + (xs.length - j) * c) x' ∧ sc.Sublist (xs.take j) ∧ acc = sc.map d ∧ s = S x' none) (xs.map d) 0 (S st none) [] ?_ ⟨st, [], h, by simp, rfl, rfl⟩
  · obtain ⟨acc', s', e, x', sc, q1, q2, rfl, rfl⟩ := key
    rw [Nat.zero_add, List.length_map, List.take_length] at q2
    exact ⟨sc, x', q2, q1.less (by omega), e⟩
  · rintro j dd s acc hj ⟨x', sc, q1, q2, rfl, rfl⟩
    rw [List.getElem?_map] at hj
    obtain ⟨w, hw', rfl⟩ := Option.map_eq_some_iff.mp hj
    have hjl := (List.getElem?_eq_some_iff.mp hw').1
    have hmem : w ∈ xs := List.mem_of_getElem? hw'
    rw [Nat.zero_add] at q1 q2
    have hc : (xs.length - j) * c = (xs.length - (j + 1)) * c + c := by
      rw [← Nat.succ_mul]; congr 1; omega
    obtain ⟨b, x2, g3, e⟩ := ht (n + (xs.length - (j + 1)) * c) x' w hmem (q1.less (by omega))
    have et : xs.take (j + 1) = xs.take j ++ [w] := by rw [List.take_succ, hw']; rfl
    refine ⟨_, hg x' w hmem, ?_⟩
    cases b with
    | true =>
      right
      refine ⟨_, d w, _, e, hm x2 w hmem, size_lt ?_, x2, sc ++ [w], by rw [Nat.zero_add]; exact g3, ?_, by rw [List.map_append]; rfl, hw x2 w hmem⟩
      · have := q2.length_le
        rw [List.length_map]
        rw [List.length_take] at this
        omega
      · rw [Nat.zero_add, et]
        exact q2.append (List.Sublist.refl _)
    | false =>
      left
      refine ⟨_, e, x2, sc, by rw [Nat.zero_add]; exact g3, ?_, rfl, hw x2 w hmem⟩
      rw [Nat.zero_add, et]
      exact q2.trans (List.sublist_append_left _ _)
theorem make {α β : Type} [DecidableEq β] [Enc β] {f : α → D} {S : D → Option D → Sl} {vs : List Nat} {g : D → Sl → Option Sl} {m : Sl → R D} (P : β → Prop) (c n : Nat) (xs : List α) (hz : xs.length ≤ 1000)
    (hg : ∀ st x, x ∈ xs → g (f x) (S st none) = some (S st (some (f x)))) (hw : ∀ st x, x ∈ xs → wipeS (S st (some (f x))) vs = S st none)
    (ht : ∀ k st x, x ∈ xs → Stm (k + c) st → ∃ y st2, P y ∧ Stm k st2 ∧ m (S st (some (f x))) = .ok (d y) (S st2 (some (f x)))) {st : D} (h : Stm (n + xs.length * c) st) :
    ∃ (ys : List β) (st2 : D), ys.length = xs.length ∧ (∀ y ∈ ys, P y) ∧ Stm n st2 ∧ mCompLoop vs g yesT m (xs.map f) (S st none) [] = .ok (ys.map d) (S st2 none) := by
  have key := comp_inv (vs := vs) (g := g) (t := yesT) (m := m) (fun j s acc => ∃ (x' : D) (ys : List β), Stm (n + (xs.length - j) * c) x' ∧ ys.length = j ∧ (∀ y ∈ ys, P y) ∧ acc = ys.map d ∧ s = S x' none) (xs.map f) 0 (S st none) [] ?_ ⟨st, [], h, rfl, by simp, rfl, rfl⟩
  · obtain ⟨acc', s', e, x', ys, q1, q2, q3, rfl, rfl⟩ := key
    rw [Nat.zero_add, List.length_map] at q2
    exact ⟨ys, x', q2, q3, q1.less (by omega), e⟩
  · rintro j dd s acc hj ⟨x', ys, q1, q2, q3, rfl, rfl⟩
    rw [List.getElem?_map] at hj
    obtain ⟨w, hw', rfl⟩ := Option.map_eq_some_iff.mp hj
    have hjl := (List.getElem?_eq_some_iff.mp hw').1
    have hmem : w ∈ xs := List.mem_of_getElem? hw'
    rw [Nat.zero_add] at q1 q2
    have hc : (xs.length - j) * c = (xs.length - (j + 1)) * c + c := by
      rw [← Nat.succ_mul]; congr 1; omega
    obtain ⟨y, x2, hp, g3, e⟩ := ht (n + (xs.length - (j + 1)) * c) x' w hmem (q1.less (by omega))
    refine ⟨_, hg x' w hmem, .inr ⟨_, d y, _, rfl, e, size_lt ?_, x2, ys ++ [y], by rw [Nat.zero_add]; exact g3, ?_, ?_, by rw [List.map_append]; rfl, hw x2 w hmem⟩⟩
    · rw [List.length_map]; omega
    · rw [List.length_append, q2]; simp
    · intro z hz
      rcases List.mem_append.mp hz with hz | hz
      · exact q3 z hz
      · have : z = y := by simpa using hz
        rw [this]; exact hp
/-- the whole numbers below n -/
def upto (n : Nat) : List Int := (List.range n).map fun i => ((i : Nat) : Int)
theorem range_D (n : Nat) : rangeD 0 n = (upto n).map d := by
  unfold rangeD upto
  rw [List.map_map]
  apply List.map_congr_left
  intro i _
  show D.int (0 + (i : Int)) = D.int (i : Int)
  rw [Int.zero_add]
theorem upto_len (n : Nat) : (upto n).length = n := by simp [upto]
theorem mem_upto {n : Nat} {x : Int} : x ∈ upto n ↔ 0 ≤ x ∧ x < n := by
  unfold upto
  rw [List.mem_map]
  constructor
  · rintro ⟨i, hi, rfl⟩
    have := List.mem_range.mp hi
    omega
  · intro h
    exact ⟨x.toNat, by rw [List.mem_range]; omega, by omega⟩
theorem upto_succ (n : Nat) : upto (n + 1) = upto n ++ [(n : Int)] := by
  unfold upto
  rw [List.range_succ, List.map_append]; rfl
theorem asc_snoc : ∀ (xs : List Int) (l m x : Int), asc xs l m = true → (∀ y ∈ xs, y < x) → l ≤ x → x < m → asc (xs ++ [x]) l m = true
  | [], l, m, x, _, _, h1, h2 => by simp [asc, h1, h2]
  | y :: ys, l, m, x, h, hy, h1, h2 => by
    rw [List.cons_append]
    unfold asc at h ⊢
    rw [Bool.and_eq_true, Bool.and_eq_true] at h ⊢
    have := hy y (by simp)
    exact ⟨h.1, asc_snoc ys (y + 1) m x h.2 (fun z hz => hy z (by simp [hz])) (by omega) h2⟩
theorem asc_sub {m : Int} : ∀ (n : Nat) (xs : List Int), xs.Sublist (upto n) → (n : Int) ≤ m → asc xs 0 m = true
  | 0, xs, h, _ => by
    have : xs = [] := by simpa [upto] using h
    subst this; rfl
  | n + 1, xs, h, hm => by
    rw [upto_succ] at h
    obtain ⟨a, b, rfl, h1, h2⟩ := List.sublist_append_iff.mp h
    have ih := asc_sub (m := m) n a h1 (by omega)
    have hb : b = [] ∨ b = [(n : Int)] := by
      cases b with
      | nil => exact .inl rfl
      | cons y ys =>
        have hl := h2.length_le
        have : ys = [] := by
          cases ys with
          | nil => rfl
          | cons _ _ => simp at hl
        subst this
        have : y ∈ [(n : Int)] := h2.subset (by simp)
        right
        rw [List.mem_singleton.mp this]
    rcases hb with rfl | rfl
    · rw [List.append_nil]; exact ih
    · exact asc_snoc a 0 m n ih (fun y hy => (mem_upto.mp (h1.subset hy)).2) (by omega) (by omega)
theorem asc_mem : ∀ (xs : List Int) (l m : Int), asc xs l m = true → ∀ x ∈ xs, l ≤ x ∧ x < m
  | y :: ys, l, m, h, x, hx => by
    unfold asc at h
    rw [Bool.and_eq_true, Bool.and_eq_true, decide_eq_true_eq, decide_eq_true_eq] at h
    rcases List.mem_cons.mp hx with rfl | hx
    · exact h.1
    · have := asc_mem ys (y + 1) m h.2 x hx
      exact ⟨by omega, this.2⟩
theorem asc_one {x m : Int} (h0 : 0 ≤ x) (h1 : x < m) : asc [x] 0 m = true := by simp [asc, h0, h1]

/-! ### systems -/
abbrev Sys := Tri (List (List Wd)) (List Int) (List (List Int))
def okSys (ws : List Wd) (sy : Sys) : Bool :=
  decide (1 ≤ sy.a.length) && decide (sy.a.length ≤ 8) && (sy.a.all fun sc => decide (sc = ws.filter fun w => decide (w ∈ sc))) && decide (sy.b ≠ []) && asc sy.b 0 sy.a.length && decide (sy.c.length = sy.a.length) && sy.c.all fun r => asc r 0 sy.a.length
theorem dLen_d {α : Type} [DecidableEq α] [Enc α] (xs : List α) : dLen [d xs] = some (.int xs.length) := by
  show some (D.int (xs.map d).length) = _
  rw [List.length_map]
theorem truB_d {α : Type} [DecidableEq α] [Enc α] (xs : List α) : truB (d xs) = some (decide (xs ≠ [])) := by
  show truB (.tup (xs.map d)) = _
  cases xs <;> rfl
theorem all_pure {α : Type} [DecidableEq α] [Enc α] {S : Option D → Sl} {v : Nat} {g : D → Sl → Option Sl} {m : Sl → R D} {mi : Sl → R (List D)} (q : α → Bool) (xs : List α) (hz : xs.length ≤ 1000) (hi : mi (S none) = .ok (xs.map d) (S none))
    (hg : ∀ x ∈ xs, g (d x) (S none) = some (S (some (d x)))) (hw : ∀ x ∈ xs, wipeS (S (some (d x))) [v] = S none) (hw0 : wipeS (S none) [v] = S none) (hb : backS (S none) (S none) [v] = S none) (hm : ∀ x ∈ xs, ∃ s2, m (S (some (d x))) = .ok (.bl (q x)) s2 ∧ wipeS s2 [v] = S none) :
    (mApp (only1 dAll) (mCons (mComp mi [v] g yesT m) nilA)) (S none) = .ok (.bl (xs.all q)) (S none) := by
  have key := comp_pure (f := d) (vs := [v]) (g := g) (t := yesT) (m := m) (s := S none) (fun _ => true) (fun x => .bl (q x)) xs [] (fun x hx => ⟨_, hg x hx, rfl, hw x hx, fun _ => hm x hx⟩) (by simp; omega)
  rw [List.nil_append, show (xs.filter fun _ => true) = xs from List.filter_eq_self.mpr fun _ _ => rfl] at key
  have e2 := mComp_of (vs := [v]) (g := g) (t := yesT) (m := m) hi (by rw [hw0]; exact key)
  rw [hb] at e2
  unfold mApp mCons nilA
  rw [e2]
  have e3 : dAll [.lst (xs.map fun x => D.bl (q x))] = some (.bl (xs.all q)) := by
    unfold dAll listOf
    show ((blsOf (xs.map fun x => D.bl (q x))).map fun bs => D.bl (bs.all id)) = _
    rw [show (xs.map fun x => D.bl (q x)) = (xs.map q).map D.bl by rw [List.map_map]; rfl, blsOf_map, Option.map_some, List.all_map]; rfl
  show (match only1 dAll [.lst (xs.map fun x => D.bl (q x))] with
    | some d => R.ok d (S none)
    | none => R.stuck) = _
  unfold only1
  rw [e3]; rfl
theorem check_ok (ws : List Wd) (hws : ws.length ≤ 1000) (sy : Sys) (h1 : sy.a.length ≤ 1000) (h2 : sy.c.length ≤ 1000) : C.mf_check_system [d ws, d sy] = if okSys ws sy = true then .ok .non [] else .exc "NotAllowed" [] [] := by
  obtain ⟨scs, fs, ms⟩ := sy
  have e1 := all_pure (S := fun o => [some (d ws), some (d (⟨scs, fs, ms⟩ : Sys)), some (d scs), some (d fs), some (d ms), o, none]) (v := 5) (g := mgName 5) (m := mCall [] C.mf_is_scene [.ex (mRd 0), .ex (mRd 5)]) (mi := mItems (mRd 2)) (fun sc => decide (sc = ws.filter fun w => decide (w ∈ sc))) scs h1 (mItems_rd rfl rfl) (fun _ _ => rfl) (fun _ _ => rfl) rfl rfl (fun x hx => ⟨[some (d ws), some (d (⟨scs, fs, ms⟩ : Sys)), some (d scs), some (d fs), some (d ms), some (d x), none], by
    have := is_scene_ok ws x hws
    simp only [mSeq, mAsg, mgName, mgTup, mgCons, mgNil, mExpr, mRet, mRetN, mIf, mNext, mBrk, mCont, mRaise, mRaiseP, ofP, ofPT, two, twoB, one, chT, trT, caP, consP, nilP, vP, cP, tupP, lstP, mkT0, mkT1, mkT2, mkT3, mkT4, mkL0, mkL1, mkL2, mkL3, mkL4, mkL5, mkL6, mCons, nilA, mApp, m2, mNew2, mRd, mMv, mTest, mAndT, mOrT, mNotT, mAndV, mOrV, mNotV, mIfV, andV, orV, notV, mCall, mArgs, takeIo, putIo, R.bind, List.set_cons_succ, List.set_cons_zero, List.getElem?_cons_succ, List.getElem?_cons_zero, Option.join_some, Option.bind_some, Option.map_some, Option.bind, only, asB, truB_bl, truB_int, if_true, yesT, noO, partO, asI, onI, frz_int, frz_str, frz_bl, frz_non, frz_enc, imm_int, imm_bl, imm_str, imm_non, Enc.im, outsOf, this, putIo], rfl⟩)
  have e2 := all_pure (S := fun o => [some (d ws), some (d (⟨scs, fs, ms⟩ : Sys)), some (d scs), some (d fs), some (d ms), none, o]) (v := 6) (g := mgName 6) (m := mCall [] C.mf_are_rooms [.ex (mRd 6), .ex (ofP (caP dLen (consP (vP 2) nilP)))]) (mi := mItems (mRd 4)) (fun r => asc r 0 scs.length) ms h2 (mItems_rd rfl rfl) (fun _ _ => rfl) (fun _ _ => rfl) rfl rfl (fun x hx => ⟨[some (d ws), some (d (⟨scs, fs, ms⟩ : Sys)), some (d scs), some (d fs), some (d ms), none, some (d x)], by
    have := are_rooms_ok x scs.length
    simp only [mSeq, mAsg, mgName, mgTup, mgCons, mgNil, mExpr, mRet, mRetN, mIf, mNext, mBrk, mCont, mRaise, mRaiseP, ofP, ofPT, two, twoB, one, chT, trT, caP, consP, nilP, vP, cP, tupP, lstP, mkT0, mkT1, mkT2, mkT3, mkT4, mkL0, mkL1, mkL2, mkL3, mkL4, mkL5, mkL6, mCons, nilA, mApp, m2, mNew2, mRd, mMv, mTest, mAndT, mOrT, mNotT, mAndV, mOrV, mNotV, mIfV, andV, orV, notV, mCall, mArgs, takeIo, putIo, R.bind, List.set_cons_succ, List.set_cons_zero, List.getElem?_cons_succ, List.getElem?_cons_zero, Option.join_some, Option.bind_some, Option.map_some, Option.bind, only, asB, truB_bl, truB_int, if_true, yesT, noO, partO, asI, onI, frz_int, frz_str, frz_bl, frz_non, frz_enc, imm_int, imm_bl, imm_str, imm_non, Enc.im, outsOf, dLen_d, this, putIo], rfl⟩)
  have e3 := are_rooms_ok fs scs.length
  have ed : ∀ x : Sys, d x = .tup [d x.a, d x.b, d x.c] := fun _ => rfl
  have ej : ∀ s, joinP [(cP (.str "a system has 1 to ")), (fmtP (cP (.int 8))), (cP (.str " states"))] s = joinP [(cP (.str "a system has 1 to ")), (fmtP (cP (.int 8))), (cP (.str " states"))] [] := fun _ => rfl
  have ej2 : ∃ y, joinP [(cP (.str "a system has 1 to ")), (fmtP (cP (.int 8))), (cP (.str " states"))] [] = some y := Option.isSome_iff_exists.mp (by kernel_rfl)
  obtain ⟨y, ej2⟩ := ej2
  have c1 := dNe_ii (ms.length) (scs.length)
  have ed2 := ed ⟨scs, fs, ms⟩
  dsimp only at ed2 e1 e2
  have r0 : mAsg (mRd 1) (mgTup 3 (mgCons (mgName 2) (mgCons (mgName 3) (mgCons (mgName 4) mgNil)))) [some (d ws), some (d (⟨scs, fs, ms⟩ : Sys)), none, none, none, none, none] = .nx [some (d ws), some (d (⟨scs, fs, ms⟩ : Sys)), some (d scs), some (d fs), some (d ms), none, none] := by
    simp only [mSeq, mAsg, mgName, mgTup, mgCons, mgNil, mExpr, mRet, mRetN, mIf, mNext, mBrk, mCont, mRaise, mRaiseP, ofP, ofPT, two, twoB, one, chT, trT, caP, consP, nilP, vP, cP, tupP, lstP, mkT0, mkT1, mkT2, mkT3, mkT4, mkL0, mkL1, mkL2, mkL3, mkL4, mkL5, mkL6, mCons, nilA, mApp, m2, mNew2, mRd, mMv, mTest, mAndT, mOrT, mNotT, mAndV, mOrV, mNotV, mIfV, andV, orV, notV, mCall, mArgs, takeIo, putIo, R.bind, List.set_cons_succ, List.set_cons_zero, List.getElem?_cons_succ, List.getElem?_cons_zero, Option.join_some, Option.bind_some, Option.map_some, Option.bind, only, asB, truB_bl, truB_int, if_true, yesT, noO, partO, asI, onI, frz_int, frz_str, frz_bl, frz_non, frz_enc, imm_int, imm_bl, imm_str, imm_non, Enc.im, outsOf]
    rfl
  unfold C.mf_check_system mDef C.mb_check_system
  rw [if_pos (by rfl)]
  simp only [List.map_cons, List.map_nil, List.replicate, List.cons_append, List.nil_append]
  rw [mSeq, r0]
  dsimp only
  generalize hS : [some (d ws), some (d (⟨scs, fs, ms⟩ : Sys)), some (d scs), some (d fs), some (d ms), (none : Option D), none] = S at e1 e2 ⊢
  have q0 : (ofPT (chT (chain2 dLe dLe (cP (.int 1)) (caP dLen (consP (vP 2) nilP)) (cP (.int 8))))) S = .ok (decide (1 ≤ scs.length) && decide (scs.length ≤ 8)) S := by
    rw [← hS, show decide (1 ≤ scs.length) = decide ((1 : Int) ≤ (scs.length : Int)) by rw [decide_eq_decide]; omega, show decide (scs.length ≤ 8) = decide ((scs.length : Int) ≤ 8) by rw [decide_eq_decide]; omega]
    by_cases g1 : (1 : Int) ≤ (scs.length : Int) <;> by_cases g2 : (scs.length : Int) ≤ 8 <;> simp only [mSeq, mAsg, mgName, mgTup, mgCons, mgNil, mExpr, mRet, mRetN, mIf, mNext, mBrk, mCont, mRaise, mRaiseP, ofP, ofPT, two, twoB, one, chT, trT, caP, consP, nilP, vP, cP, tupP, lstP, mkT0, mkT1, mkT2, mkT3, mkT4, mkL0, mkL1, mkL2, mkL3, mkL4, mkL5, mkL6, mCons, nilA, mApp, m2, mNew2, mRd, mMv, mTest, mAndT, mOrT, mNotT, mAndV, mOrV, mNotV, mIfV, andV, orV, notV, mCall, mArgs, takeIo, putIo, R.bind, List.set_cons_succ, List.set_cons_zero, List.getElem?_cons_succ, List.getElem?_cons_zero, Option.join_some, Option.bind_some, Option.map_some, Option.bind, only, asB, truB_bl, truB_int, if_true, yesT, noO, partO, asI, onI, frz_int, frz_str, frz_bl, frz_non, frz_enc, imm_int, imm_bl, imm_str, imm_non, Enc.im, outsOf, dLen_d, chain2, dLe, g1, g2, decide_true, decide_false, Bool.false_eq_true, if_false, Bool.and_self, Bool.and_false, Bool.and_true, Bool.false_and]
  have q3 : (ofPT (trT (vP 3))) S = .ok (decide (fs ≠ [])) S := by
    rw [← hS]
    simp only [mSeq, mAsg, mgName, mgTup, mgCons, mgNil, mExpr, mRet, mRetN, mIf, mNext, mBrk, mCont, mRaise, mRaiseP, ofP, ofPT, two, twoB, one, chT, trT, caP, consP, nilP, vP, cP, tupP, lstP, mkT0, mkT1, mkT2, mkT3, mkT4, mkL0, mkL1, mkL2, mkL3, mkL4, mkL5, mkL6, mCons, nilA, mApp, m2, mNew2, mRd, mMv, mTest, mAndT, mOrT, mNotT, mAndV, mOrV, mNotV, mIfV, andV, orV, notV, mCall, mArgs, takeIo, putIo, R.bind, List.set_cons_succ, List.set_cons_zero, List.getElem?_cons_succ, List.getElem?_cons_zero, Option.join_some, Option.bind_some, Option.map_some, Option.bind, only, asB, truB_bl, truB_int, if_true, yesT, noO, partO, asI, onI, frz_int, frz_str, frz_bl, frz_non, frz_enc, imm_int, imm_bl, imm_str, imm_non, Enc.im, outsOf, truB_d]
  have q4 : (mTest (mCall [] C.mf_are_rooms [.ex (mRd 3), .ex (ofP (caP dLen (consP (vP 2) nilP)))])) S = .ok (asc fs 0 scs.length) S := by
    rw [← hS]
    simp only [mSeq, mAsg, mgName, mgTup, mgCons, mgNil, mExpr, mRet, mRetN, mIf, mNext, mBrk, mCont, mRaise, mRaiseP, ofP, ofPT, two, twoB, one, chT, trT, caP, consP, nilP, vP, cP, tupP, lstP, mkT0, mkT1, mkT2, mkT3, mkT4, mkL0, mkL1, mkL2, mkL3, mkL4, mkL5, mkL6, mCons, nilA, mApp, m2, mNew2, mRd, mMv, mTest, mAndT, mOrT, mNotT, mAndV, mOrV, mNotV, mIfV, andV, orV, notV, mCall, mArgs, takeIo, putIo, R.bind, List.set_cons_succ, List.set_cons_zero, List.getElem?_cons_succ, List.getElem?_cons_zero, Option.join_some, Option.bind_some, Option.map_some, Option.bind, only, asB, truB_bl, truB_int, if_true, yesT, noO, partO, asI, onI, frz_int, frz_str, frz_bl, frz_non, frz_enc, imm_int, imm_bl, imm_str, imm_non, Enc.im, outsOf, dLen_d, e3, putIo]
  have q5 : (ofPT (twoB dNe (caP dLen (consP (vP 4) nilP)) (caP dLen (consP (vP 2) nilP)))) S = .ok (!decide (ms.length = scs.length)) S := by
    rw [← hS]
    simp only [mSeq, mAsg, mgName, mgTup, mgCons, mgNil, mExpr, mRet, mRetN, mIf, mNext, mBrk, mCont, mRaise, mRaiseP, ofP, ofPT, two, twoB, one, chT, trT, caP, consP, nilP, vP, cP, tupP, lstP, mkT0, mkT1, mkT2, mkT3, mkT4, mkL0, mkL1, mkL2, mkL3, mkL4, mkL5, mkL6, mCons, nilA, mApp, m2, mNew2, mRd, mMv, mTest, mAndT, mOrT, mNotT, mAndV, mOrV, mNotV, mIfV, andV, orV, notV, mCall, mArgs, takeIo, putIo, R.bind, List.set_cons_succ, List.set_cons_zero, List.getElem?_cons_succ, List.getElem?_cons_zero, Option.join_some, Option.bind_some, Option.map_some, Option.bind, only, asB, truB_bl, truB_int, if_true, yesT, noO, partO, asI, onI, frz_int, frz_str, frz_bl, frz_non, frz_enc, imm_int, imm_bl, imm_str, imm_non, Enc.im, outsOf, dLen_d, c1]
    congr 2
    rw [decide_eq_decide]
    omega
  have q6 : mRaiseP "NotAllowed" (joinP [(cP (.str "a system has 1 to ")), (fmtP (cP (.int 8))), (cP (.str " states"))]) S = .exc "NotAllowed" [] S := by
    unfold mRaiseP
    rw [ej, ej2]
  have q7 : mTest (mApp (only1 dAll) (mCons (mComp (mItems (mRd 2)) [5] (mgName 5) yesT (mCall [] C.mf_is_scene [.ex (mRd 0), .ex (mRd 5)])) nilA)) S = .ok (scs.all fun sc => decide (sc = ws.filter fun w => decide (w ∈ sc))) S := by
    unfold mTest
    rw [e1]; rfl
  have q8 : mTest (mApp (only1 dAll) (mCons (mComp (mItems (mRd 4)) [6] (mgName 6) yesT (mCall [] C.mf_are_rooms [.ex (mRd 6), .ex (ofP (caP dLen (consP (vP 2) nilP)))])) nilA)) S = .ok (ms.all fun r => asc r 0 scs.length) S := by
    unfold mTest
    rw [e2]; rfl
  unfold okSys
  dsimp only
  generalize (decide (1 ≤ scs.length) && decide (scs.length ≤ 8)) = b1 at q0 ⊢
  generalize (scs.all fun sc => decide (sc = ws.filter fun w => decide (w ∈ sc))) = b2 at q7 ⊢
  generalize decide (fs ≠ []) = b3 at q3 ⊢
  generalize asc fs 0 scs.length = b4 at q4 ⊢
  generalize decide (ms.length = scs.length) = b5 at q5 ⊢
  generalize (ms.all fun r => asc r 0 scs.length) = b6 at q8 ⊢
  cases b1 <;> cases b2 <;> cases b3 <;> cases b4 <;> cases b5 <;> cases b6 <;> simp [mSeq, mIf, mNotT, mOrT, q0, q3, q4, q5, q6, q7, q8, R.bind, mNext, mRaise, outsOf]
end Sim

namespace Sim
open PySem PySem.Spec PyProof.Rows L2
open Enc
theorem rngOf_nat {n : Nat} (hn : n ≤ 1000000) : rngOf [.int (n : Int)] = some ((upto n).map d) := by
  show rng1 (n : Int) = _
  unfold rng1
  rw [← range_D]
  exact if_pos (by omega)
def rngR (o : Option (List D)) (s : Sl) : R (List D) := match o with
  | some is => .ok is s
  | none => .stuck
theorem mRange_eq {a : Sl → R D} {s s1 : Sl} {x : D} (h : a s = .ok x s1) : mRange (mCons a nilA) s = rngR (rngOf [x]) s1 := by
  unfold mRange mCons nilA
  rw [h]; rfl
theorem mRange_int {a : Sl → R D} {s s1 : Sl} {n : Nat} (h : a s = .ok (.int (n : Int)) s1) (hn : n ≤ 1000000) : mRange (mCons a nilA) s = .ok ((upto n).map d) s1 := by
  rw [mRange_eq h, rngOf_nat hn]; rfl
theorem append_ok {i : Nat} {m : Sl → R D} {s s1 : Sl} {ds0 ds : List D} {y : D} (h : m s = .ok y s1) (h0 : s[i]?.join = some (.lst ds0)) (h1 : s1[i]?.join = some (.lst ds)) (hl : ds.length ≤ 1000000) : mAppend i m s = .ok .non (s1.set i (some (.lst (ds ++ [y])))) := by
  unfold mAppend
  rw [h0]
  dsimp only
  rw [h]
  show (match s1[i]?.join with
    | some (.lst ds) => if ds.length < sizeLine then R.ok D.non (s1.set i (some (.lst (ds ++ [y])))) else .stuck
    | _ => .stuck) = _
  rw [h1]
  exact if_pos (size_lt hl)
theorem expr_ok {m : Sl → R D} {s s1 : Sl} {y : D} (h : m s = .ok y s1) : mExpr m s = .nx s1 := by
  unfold mExpr
  rw [h]
theorem mFor_rangeN {a : Sl → R D} {g : D → Sl → Option Sl} {body : Sl → RS} {s s1 : Sl} {n : Nat} (h : a s = .ok (.int (n : Int)) s1) (hn : n ≤ 1000000) : mFor (mRange (mCons a nilA)) g body s = mLoop g body ((upto n).map d) s1 := by
  unfold mFor
  rw [mRange_int h hn]
structure GoodSys (ws : List Wd) (m : Nat) (sy : Sys) : Prop where
  la : sy.a.length = m
  sa : ∀ sc ∈ sy.a, sc.Sublist ws
  nb : sy.b ≠ []
  ab : asc sy.b 0 m = true
  lc : sy.c.length = m
  ac : ∀ r ∈ sy.c, asc r 0 m = true
theorem next_eq0 {n : Nat} {x : D} (h : Stm (n + 1) x) {m : Int} (hm : 0 < m) : ∃ b x', Stm n x' ∧ ∀ (s : Sl) (q : Sl → R D), s[0]?.join = some x → q s = .ok (.int m) s → mTest (m2 (only dEq) (mCall [0] C.mf__law_next [.io 0, .ex q]) (ofP (cP (.int 0)))) s = .ok b (s.set 0 (some x')) := by
  obtain ⟨v, x', h0, h1, hs, e⟩ := stm_next h hm
  have ev := dEq_ii v 0
  refine ⟨decide (v = 0), x', hs, fun s q hq e2 => ?_⟩
  cases s with
  | nil => cases hq
  | cons y s =>
    have hy : y = some x := by simpa using hq
    subst hy
    simp only [mSeq, mAsg, mgName, mgTup, mgCons, mgNil, mExpr, mRet, mRetN, mIf, mNext, mBrk, mCont, mRaise, mRaiseP, ofP, ofPT, two, twoB, one, chT, trT, caP, consP, nilP, vP, cP, tupP, lstP, mkT0, mkT1, mkT2, mkT3, mkT4, mkL0, mkL1, mkL2, mkL3, mkL4, mkL5, mkL6, mCons, nilA, mApp, m2, mNew2, mRd, mMv, mTest, mAndT, mOrT, mNotT, mAndV, mOrV, mNotV, mIfV, andV, orV, notV, mCall, mArgs, takeIo, putIo, R.bind, List.set_cons_succ, List.set_cons_zero, List.getElem?_cons_succ, List.getElem?_cons_zero, Option.join_some, Option.bind_some, Option.map_some, Option.bind, only, asB, truB_bl, truB_int, if_true, yesT, noO, partO, asI, onI, frz_int, frz_str, frz_bl, frz_non, frz_enc, imm_int, imm_bl, imm_str, imm_non, Enc.im, outsOf, e2, e, ev, putIo]
def rowT : Sl → R Bool := (mOrT (mTest (m2 (only dEq) (mCall [0] C.mf__law_next [.io 0, .ex (ofP (two dPl (cP (.int 1)) (two dDiv (vP 2) (cP (.int 2)))))]) (ofP (cP (.int 0))))) (mAndT (ofPT (twoB dEq (vP 7) (two dMod (two dPl (vP 4) (cP (.int 1))) (vP 2)))) (mTest (m2 (only dEq) (mCall [0] C.mf__law_next [.io 0, .ex (ofP (cP (.int 2)))]) (ofP (cP (.int 0)))))))
theorem rowT_ok {j : Nat} {st : D} (hj : Stm (j + 2) st) {a b c e : Option D} {m : Nat} (h1 : 1 ≤ m) (k y : Int) : ∃ q st2, Stm j st2 ∧ rowT [some st, a, some (.int (m : Int)), b, some (.int k), c, e, some (.int y)] = .ok q [some st2, a, some (.int (m : Int)), b, some (.int k), c, e, some (.int y)] := by
  have hm1 : 0 < 1 + (m : Int) / 2 := by omega
  obtain ⟨q, st2, g1, e1⟩ := next_eq0 (n := j + 1) (m := 1 + (m : Int) / 2) hj hm1
  have ee := e1 [some st, a, some (.int (m : Int)), b, some (.int k), c, e, some (.int y)] (ofP (two dPl (cP (.int 1)) (two dDiv (vP 2) (cP (.int 2))))) rfl (by
    have cd : cDiv (m : Int) 2 := ⟨by decide, by decide⟩
    simp only [mSeq, mAsg, mgName, mgTup, mgCons, mgNil, mExpr, mRet, mRetN, mIf, mNext, mBrk, mCont, mRaise, mRaiseP, ofP, ofPT, two, twoB, one, chT, trT, caP, consP, nilP, vP, cP, tupP, lstP, mkT0, mkT1, mkT2, mkT3, mkT4, mkL0, mkL1, mkL2, mkL3, mkL4, mkL5, mkL6, mCons, nilA, mApp, m2, mNew2, mRd, mMv, mTest, mAndT, mOrT, mNotT, mAndV, mOrV, mNotV, mIfV, andV, orV, notV, mCall, mArgs, takeIo, putIo, R.bind, List.set_cons_succ, List.set_cons_zero, List.getElem?_cons_succ, List.getElem?_cons_zero, Option.join_some, Option.bind_some, Option.map_some, Option.bind, only, asB, truB_bl, truB_int, if_true, yesT, noO, partO, asI, onI, frz_int, frz_str, frz_bl, frz_non, frz_enc, imm_int, imm_bl, imm_str, imm_non, Enc.im, outsOf, dDiv, onIc, cd, dPl_int])
  have hp : (ofPT (twoB dEq (vP 7) (two dMod (two dPl (vP 4) (cP (.int 1))) (vP 2)))) [some st2, a, some (.int (m : Int)), b, some (.int k), c, e, some (.int y)] = .ok (decide (y = (k + 1) % m)) [some st2, a, some (.int (m : Int)), b, some (.int k), c, e, some (.int y)] := by
    have cp : cPos (k + 1) m := by show (0 : Int) < m; omega
    have := dEq_ii y ((k + 1) % m)
    simp only [mSeq, mAsg, mgName, mgTup, mgCons, mgNil, mExpr, mRet, mRetN, mIf, mNext, mBrk, mCont, mRaise, mRaiseP, ofP, ofPT, two, twoB, one, chT, trT, caP, consP, nilP, vP, cP, tupP, lstP, mkT0, mkT1, mkT2, mkT3, mkT4, mkL0, mkL1, mkL2, mkL3, mkL4, mkL5, mkL6, mCons, nilA, mApp, m2, mNew2, mRd, mMv, mTest, mAndT, mOrT, mNotT, mAndV, mOrV, mNotV, mIfV, andV, orV, notV, mCall, mArgs, takeIo, putIo, R.bind, List.set_cons_succ, List.set_cons_zero, List.getElem?_cons_succ, List.getElem?_cons_zero, Option.join_some, Option.bind_some, Option.map_some, Option.bind, only, asB, truB_bl, truB_int, if_true, yesT, noO, partO, asI, onI, frz_int, frz_str, frz_bl, frz_non, frz_enc, imm_int, imm_bl, imm_str, imm_non, Enc.im, outsOf, dPl_int, dMod, onIc, cp, this]
  cases q with
  | true => exact ⟨true, st2, g1.less (by omega), by unfold rowT mOrT; rw [ee]; rfl⟩
  | false =>
    by_cases hy : y = (k + 1) % m
    · obtain ⟨b2, st3, g2, e'⟩ := next_eq0 (n := j) (m := 2) g1 (by decide)
      have ee' := e' [some st2, a, some (.int (m : Int)), b, some (.int k), c, e, some (.int y)] (ofP (cP (.int 2))) rfl rfl
      refine ⟨b2, st3, g2, ?_⟩
      unfold rowT mOrT mAndT
      rw [ee]
      simp only [R.bind, Bool.false_eq_true, if_false, List.set_cons_zero, hp, decide_eq_true hy, if_true, ee']
    · refine ⟨false, st2, g1.less (by omega), ?_⟩
      unfold rowT mOrT mAndT
      rw [ee]
      simp only [R.bind, Bool.false_eq_true, if_false, List.set_cons_zero, hp, decide_eq_false hy]
theorem row_ok {n : Nat} {st : D} {a b c e : Option D} {m : Nat} (h : Stm (n + m * 2) st) (h1 : 1 ≤ m) (h8 : m ≤ 100) (k : Int) : ∃ (rs : List Int) (x5 : D), rs.Sublist (upto m) ∧ Stm n x5 ∧
    mTuple (mComp (mRange (mCons (mRd 2) nilA)) [7] (mgName 7) rowT (mRd 7)) [some st, a, some (.int (m : Int)), b, some (.int k), c, e, none] = .ok (d rs) [some x5, a, some (.int (m : Int)), b, some (.int k), c, e, none] := by
  have hl := upto_len m
  obtain ⟨rs, x5, w1, w2, w3⟩ := pick (α := Int) (S := fun st o => [some st, a, some (.int (m : Int)), b, some (.int k), c, e, o]) (vs := [7]) (g := mgName 7) (t := rowT) (m := mRd 7) 2 n (upto m) (by rw [hl]; omega) (fun _ _ _ => rfl) (fun _ _ _ => rfl) (fun _ _ _ => by simp only [mSeq, mAsg, mgName, mgTup, mgCons, mgNil, mExpr, mRet, mRetN, mIf, mNext, mBrk, mCont, mRaise, mRaiseP, ofP, ofPT, two, twoB, one, chT, trT, caP, consP, nilP, vP, cP, tupP, lstP, mkT0, mkT1, mkT2, mkT3, mkT4, mkL0, mkL1, mkL2, mkL3, mkL4, mkL5, mkL6, mCons, nilA, mApp, m2, mNew2, mRd, mMv, mTest, mAndT, mOrT, mNotT, mAndV, mOrV, mNotV, mIfV, andV, orV, notV, mCall, mArgs, takeIo, putIo, R.bind, List.set_cons_succ, List.set_cons_zero, List.getElem?_cons_succ, List.getElem?_cons_zero, Option.join_some, Option.bind_some, Option.map_some, Option.bind, only, asB, truB_bl, truB_int, if_true, yesT, noO, partO, asI, onI, frz_int, frz_str, frz_bl, frz_non, frz_enc, imm_int, imm_bl, imm_str, imm_non, Enc.im, outsOf])
    (fun j st y _ hj => rowT_ok hj h1 k y) (st := st) (by rw [hl]; exact h)
  have r5 : mRange (mCons (mRd 2) nilA) [some st, a, some (.int (m : Int)), b, some (.int k), c, e, none] = .ok ((upto m).map d) [some st, a, some (.int (m : Int)), b, some (.int k), c, e, none] := mRange_int (by simp only [mSeq, mAsg, mgName, mgTup, mgCons, mgNil, mExpr, mRet, mRetN, mIf, mNext, mBrk, mCont, mRaise, mRaiseP, ofP, ofPT, two, twoB, one, chT, trT, caP, consP, nilP, vP, cP, tupP, lstP, mkT0, mkT1, mkT2, mkT3, mkT4, mkL0, mkL1, mkL2, mkL3, mkL4, mkL5, mkL6, mCons, nilA, mApp, m2, mNew2, mRd, mMv, mTest, mAndT, mOrT, mNotT, mAndV, mOrV, mNotV, mIfV, andV, orV, notV, mCall, mArgs, takeIo, putIo, R.bind, List.set_cons_succ, List.set_cons_zero, List.getElem?_cons_succ, List.getElem?_cons_zero, Option.join_some, Option.bind_some, Option.map_some, Option.bind, only, asB, truB_bl, truB_int, if_true, yesT, noO, partO, asI, onI, frz_int, frz_str, frz_bl, frz_non, frz_enc, imm_int, imm_bl, imm_str, imm_non, Enc.im, outsOf]) (by omega)
  exact ⟨rs, x5, w1, w2, mTuple_lst (mComp_of r5 (vs := [7]) (g := mgName 7) (m := mRd 7) w3) (by rw [List.length_map]; have := w1.length_le; omega)⟩
def rowB : Sl → RS := (mExpr (mAppend 6 (mTuple (mComp (mRange (mCons (mRd 2) nilA)) [7] (mgName 7) rowT (mRd 7)))))
theorem row_app {st st2 : D} {a m b k c : Option D} {ds : List D} {y : D} (h : mTuple (mComp (mRange (mCons (mRd 2) nilA)) [7] (mgName 7) rowT (mRd 7)) [some st, a, m, b, k, c, some (.lst ds), none] = .ok y [some st2, a, m, b, k, c, some (.lst ds), none]) (hl : ds.length ≤ 1000000) :
    rowB [some st, a, m, b, k, c, some (.lst ds), none] = .nx [some st2, a, m, b, k, c, some (.lst (ds ++ [y])), none] := by
  unfold rowB
  rw [expr_ok (append_ok (ds := ds) (ds0 := ds) h rfl rfl hl)]; rfl
theorem row_turn {n : Nat} {st : D} {a b c : Option D} {m : Nat} {ms : List (List Int)} (h : Stm (n + m * 2) st) (h1 : 1 ≤ m) (h8 : m ≤ 100) (hm : ms.length ≤ 1000) (k : Int) : ∃ (rs : List Int) (x5 : D), rs.Sublist (upto m) ∧ Stm n x5 ∧
    rowB [some st, a, some (.int (m : Int)), b, some (.int k), c, some (.lst (ms.map d)), none] = .nx [some x5, a, some (.int (m : Int)), b, some (.int k), c, some (.lst ((ms ++ [rs]).map d)), none] := by
  obtain ⟨rs, x5, w1, w2, t5⟩ := row_ok (n := n) (st := st) (a := a) (b := b) (c := c) (e := some (.lst (ms.map d))) (m := m) h h1 h8 k
  refine ⟨rs, x5, w1, w2, ?_⟩
  rw [row_app t5 (by rw [List.length_map]; omega), List.map_append]; rfl
theorem moves_ok {n : Nat} {x3 : D} {a b c : Option D} {m : Nat} (h : Stm (n + m * (m * 2)) x3) (h1 : 1 ≤ m) (h8 : m ≤ 100) : ∃ (ms : List (List Int)) (x4 : D) (o : Option D), ms.length = m ∧ (∀ r ∈ ms, asc r 0 m = true) ∧ Stm n x4 ∧
    mFor (mRange (mCons (mRd 2) nilA)) (mgName 4) rowB [some x3, a, some (.int (m : Int)), b, none, c, some (.lst []), none] = .nx [some x4, a, some (.int (m : Int)), b, o, c, some (.lst (ms.map d)), none] := by
  rw [mFor_rangeN (s1 := [some x3, a, some (.int (m : Int)), b, none, c, some (.lst []), none]) (n := m) (by simp only [mSeq, mAsg, mgName, mgTup, mgCons, mgNil, mExpr, mRet, mRetN, mIf, mNext, mBrk, mCont, mRaise, mRaiseP, ofP, ofPT, two, twoB, one, chT, trT, caP, consP, nilP, vP, cP, tupP, lstP, mkT0, mkT1, mkT2, mkT3, mkT4, mkL0, mkL1, mkL2, mkL3, mkL4, mkL5, mkL6, mCons, nilA, mApp, m2, mNew2, mRd, mMv, mTest, mAndT, mOrT, mNotT, mAndV, mOrV, mNotV, mIfV, andV, orV, notV, mCall, mArgs, takeIo, putIo, R.bind, List.set_cons_succ, List.set_cons_zero, List.getElem?_cons_succ, List.getElem?_cons_zero, Option.join_some, Option.bind_some, Option.map_some, Option.bind, only, asB, truB_bl, truB_int, if_true, yesT, noO, partO, asI, onI, frz_int, frz_str, frz_bl, frz_non, frz_enc, imm_int, imm_bl, imm_str, imm_non, Enc.im, outsOf]) (by omega)]
  refine loop_list (P := fun r => ∃ (ms : List (List Int)) (x4 : D) (o : Option D), ms.length = m ∧ (∀ r ∈ ms, asc r 0 m = true) ∧ Stm n x4 ∧ r = .nx [some x4, a, some (.int (m : Int)), b, o, c, some (.lst (ms.map d)), none])
    (fun i s => ∃ (ms : List (List Int)) (x4 : D) (o : Option D), ms.length = i ∧ (∀ r ∈ ms, asc r 0 m = true) ∧ Stm (n + (m - i) * (m * 2)) x4 ∧ s = [some x4, a, some (.int (m : Int)), b, o, c, some (.lst (ms.map d)), none]) ?_ ?_ ⟨[], x3, none, rfl, by simp, h, rfl⟩
  · rintro i dd s hd ⟨ms, x4, o, q1, q2, q3, rfl⟩
    rw [List.getElem?_map] at hd
    obtain ⟨k, hk, rfl⟩ := Option.map_eq_some_iff.mp hd
    have hi := (List.getElem?_eq_some_iff.mp hk).1
    rw [upto_len] at hi
    refine ⟨_, rfl, ?_⟩
    simp only [List.set_cons_succ, List.set_cons_zero]
    have hs : (m - i) * (m * 2) = (m - (i + 1)) * (m * 2) + m * 2 := by
      rw [← Nat.succ_mul]; congr 1; omega
    have q4 : Stm (n + (m - (i + 1)) * (m * 2) + m * 2) x4 := q3.less (by omega)
    have hr := row_turn (a := a) (b := b) (c := c) (ms := ms) q4 h1 h8 (by omega) k
    obtain ⟨rs, x5, w1, w2, e6⟩ := hr
    have e7 : rowB [some x4, a, some (.int (m : Int)), b, some (d k), c, some (.lst (ms.map d)), none] = _ := e6
    rw [e7]
    refine ⟨ms ++ [rs], x5, _, by simp [q1], fun r hr => ?_, w2, rfl⟩
    rcases List.mem_append.mp hr with hr | hr
    · exact q2 r hr
    · rw [List.mem_singleton.mp hr]
      exact asc_sub m rs w1 (Int.le_refl _)
  · rintro s ⟨ms, x4, o, q1, q2, q3, rfl⟩
    rw [List.length_map, upto_len] at q1
    exact ⟨ms, x4, o, q1, q2, q3.less (by omega), rfl⟩
theorem system_ok {n : Nat} {x : D} {ws : List Wd} (h : Stm (n + 200) x) (hw : ws.length ≤ 3) {m : Nat} (h1 : 1 ≤ m) (h8 : m ≤ 8) : ∃ (sy : Sys) (x' : D), GoodSys ws m sy ∧ Stm n x' ∧ C.mf__law_system [x, d ws, .int m] = .ok (d sy) [x'] := by
  have hmul : ∀ c, m * c ≤ 8 * c := fun c => Nat.mul_le_mul_right c h8
  have hmm := hmul 2
  have hm3 := hmul 3
  have hm16 := hmul 16
  -- scenes
  obtain ⟨scs, x1, l1, p1, s1, e1⟩ := make (β := List Wd) (f := (d : Int → D)) (S := fun st o => [some st, some (d ws), some (.int (m : Int)), none, o, none, none, none]) (vs := [4]) (g := mgName 4) (m := mCall [0] C.mf__law_scene [.io 0, .ex (mRd 1)]) (fun sc => sc.Sublist ws) 3 (n + 170) (upto m) (by rw [upto_len]; omega) (fun _ _ _ => rfl) (fun _ _ _ => rfl)
    (fun k st y _ hk => by
      obtain ⟨sc, st2, q1, q2, e⟩ := scene_ok (n := k) (x := st) (ws := ws) (hk.less (by omega)) (by omega)
      exact ⟨sc, st2, q1, q2, by simp only [mSeq, mAsg, mgName, mgTup, mgCons, mgNil, mExpr, mRet, mRetN, mIf, mNext, mBrk, mCont, mRaise, mRaiseP, ofP, ofPT, two, twoB, one, chT, trT, caP, consP, nilP, vP, cP, tupP, lstP, mkT0, mkT1, mkT2, mkT3, mkT4, mkL0, mkL1, mkL2, mkL3, mkL4, mkL5, mkL6, mCons, nilA, mApp, m2, mNew2, mRd, mMv, mTest, mAndT, mOrT, mNotT, mAndV, mOrV, mNotV, mIfV, andV, orV, notV, mCall, mArgs, takeIo, putIo, R.bind, List.set_cons_succ, List.set_cons_zero, List.getElem?_cons_succ, List.getElem?_cons_zero, Option.join_some, Option.bind_some, Option.map_some, Option.bind, only, asB, truB_bl, truB_int, if_true, yesT, noO, partO, asI, onI, frz_int, frz_str, frz_bl, frz_non, frz_enc, imm_int, imm_bl, imm_str, imm_non, Enc.im, outsOf, e, putIo]⟩) (st := x) (h.less (by rw [upto_len]; omega))
  have r1 : mRange (mCons (mRd 2) nilA) [some x, some (d ws), some (.int (m : Int)), none, none, none, none, none] = .ok ((upto m).map d) [some x, some (d ws), some (.int (m : Int)), none, none, none, none, none] := mRange_int (by simp only [mSeq, mAsg, mgName, mgTup, mgCons, mgNil, mExpr, mRet, mRetN, mIf, mNext, mBrk, mCont, mRaise, mRaiseP, ofP, ofPT, two, twoB, one, chT, trT, caP, consP, nilP, vP, cP, tupP, lstP, mkT0, mkT1, mkT2, mkT3, mkT4, mkL0, mkL1, mkL2, mkL3, mkL4, mkL5, mkL6, mCons, nilA, mApp, m2, mNew2, mRd, mMv, mTest, mAndT, mOrT, mNotT, mAndV, mOrV, mNotV, mIfV, andV, orV, notV, mCall, mArgs, takeIo, putIo, R.bind, List.set_cons_succ, List.set_cons_zero, List.getElem?_cons_succ, List.getElem?_cons_zero, Option.join_some, Option.bind_some, Option.map_some, Option.bind, only, asB, truB_bl, truB_int, if_true, yesT, noO, partO, asI, onI, frz_int, frz_str, frz_bl, frz_non, frz_enc, imm_int, imm_bl, imm_str, imm_non, Enc.im, outsOf]) (by omega)
  have t1 := mTuple_lst (mComp_of r1 (vs := [4]) (g := mgName 4) (t := yesT) (m := mCall [0] C.mf__law_scene [.io 0, .ex (mRd 1)]) e1) (by rw [List.length_map, l1, upto_len]; omega)
  -- first states
  obtain ⟨fs, x2, p2, s2, e2⟩ := pick (α := Int) (S := fun st o => [some st, some (d ws), some (.int (m : Int)), some (d scs), o, none, none, none]) (vs := [4]) (g := mgName 4) (t := mTest (m2 (only dEq) (mCall [0] C.mf__law_next [.io 0, .ex (ofP (cP (.int 3)))]) (ofP (cP (.int 0))))) (m := mRd 4) 1 (n + 150) (upto m) (by rw [upto_len]; omega) (fun _ _ _ => rfl) (fun _ _ _ => rfl) (fun _ _ _ => by simp only [mSeq, mAsg, mgName, mgTup, mgCons, mgNil, mExpr, mRet, mRetN, mIf, mNext, mBrk, mCont, mRaise, mRaiseP, ofP, ofPT, two, twoB, one, chT, trT, caP, consP, nilP, vP, cP, tupP, lstP, mkT0, mkT1, mkT2, mkT3, mkT4, mkL0, mkL1, mkL2, mkL3, mkL4, mkL5, mkL6, mCons, nilA, mApp, m2, mNew2, mRd, mMv, mTest, mAndT, mOrT, mNotT, mAndV, mOrV, mNotV, mIfV, andV, orV, notV, mCall, mArgs, takeIo, putIo, R.bind, List.set_cons_succ, List.set_cons_zero, List.getElem?_cons_succ, List.getElem?_cons_zero, Option.join_some, Option.bind_some, Option.map_some, Option.bind, only, asB, truB_bl, truB_int, if_true, yesT, noO, partO, asI, onI, frz_int, frz_str, frz_bl, frz_non, frz_enc, imm_int, imm_bl, imm_str, imm_non, Enc.im, outsOf])
    (fun k st y _ hk => by
      obtain ⟨b, st2, q1, e⟩ := next_eq0 (m := 3) hk (by decide)
      exact ⟨b, st2, q1, e _ _ rfl rfl⟩) (st := x1) (s1.less (by rw [upto_len]; omega))
  have r2 : mRange (mCons (mRd 2) nilA) [some x1, some (d ws), some (.int (m : Int)), some (d scs), none, none, none, none] = .ok ((upto m).map d) [some x1, some (d ws), some (.int (m : Int)), some (d scs), none, none, none, none] := mRange_int (by simp only [mSeq, mAsg, mgName, mgTup, mgCons, mgNil, mExpr, mRet, mRetN, mIf, mNext, mBrk, mCont, mRaise, mRaiseP, ofP, ofPT, two, twoB, one, chT, trT, caP, consP, nilP, vP, cP, tupP, lstP, mkT0, mkT1, mkT2, mkT3, mkT4, mkL0, mkL1, mkL2, mkL3, mkL4, mkL5, mkL6, mCons, nilA, mApp, m2, mNew2, mRd, mMv, mTest, mAndT, mOrT, mNotT, mAndV, mOrV, mNotV, mIfV, andV, orV, notV, mCall, mArgs, takeIo, putIo, R.bind, List.set_cons_succ, List.set_cons_zero, List.getElem?_cons_succ, List.getElem?_cons_zero, Option.join_some, Option.bind_some, Option.map_some, Option.bind, only, asB, truB_bl, truB_int, if_true, yesT, noO, partO, asI, onI, frz_int, frz_str, frz_bl, frz_non, frz_enc, imm_int, imm_bl, imm_str, imm_non, Enc.im, outsOf]) (by omega)
  have t2 := mComp_of r2 (vs := [4]) (g := mgName 4) (t := mTest (m2 (only dEq) (mCall [0] C.mf__law_next [.io 0, .ex (ofP (cP (.int 3)))]) (ofP (cP (.int 0))))) (m := mRd 4) e2
  have af := asc_sub (m := (m : Int)) m fs p2 (Int.le_refl _)
  -- at least one
  have k3 : ∃ (fs3 : List Int) (x3 : D), fs3 ≠ [] ∧ asc fs3 0 m = true ∧ Stm (n + 140) x3 ∧ mIf (ofPT (twoB dEq (caP dLen (consP (vP 5) nilP)) (cP (.int 0)))) (mAsg (mApp mkLst (mCons (mCall [0] C.mf__law_next [.io 0, .ex (mRd 2)]) nilA)) (mgName 5)) mNext [some x2, some (d ws), some (.int (m : Int)), some (d scs), none, some (.lst (fs.map d)), none, none] = .nx [some x3, some (d ws), some (.int (m : Int)), some (d scs), none, some (.lst (fs3.map d)), none, none] := by
    have ev := dEq_ii (fs.length) 0
    by_cases hf : fs = []
    · subst hf
      obtain ⟨v, x3, h0, h1', q3, e⟩ := stm_next (n := n + 140) (x := x2) (s2.less (by omega)) (m := (m : Int)) (by omega)
      refine ⟨[v], x3, by simp, asc_one h0 h1', q3, ?_⟩
      simp only [mSeq, mAsg, mgName, mgTup, mgCons, mgNil, mExpr, mRet, mRetN, mIf, mNext, mBrk, mCont, mRaise, mRaiseP, ofP, ofPT, two, twoB, one, chT, trT, caP, consP, nilP, vP, cP, tupP, lstP, mkT0, mkT1, mkT2, mkT3, mkT4, mkL0, mkL1, mkL2, mkL3, mkL4, mkL5, mkL6, mCons, nilA, mApp, m2, mNew2, mRd, mMv, mTest, mAndT, mOrT, mNotT, mAndV, mOrV, mNotV, mIfV, andV, orV, notV, mCall, mArgs, takeIo, putIo, R.bind, List.set_cons_succ, List.set_cons_zero, List.getElem?_cons_succ, List.getElem?_cons_zero, Option.join_some, Option.bind_some, Option.map_some, Option.bind, only, asB, truB_bl, truB_int, if_true, yesT, noO, partO, asI, onI, frz_int, frz_str, frz_bl, frz_non, frz_enc, imm_int, imm_bl, imm_str, imm_non, Enc.im, outsOf, imm_tup, imms_nil, imms_cons, dEq_ii, dNe_ii, dPl_int, dPlF_int, dLen_lst, dLen_tup, dLen_fls, dLen_d, putIo, List.length_map, onIc, dLe, dLt, dGt, dGe, dSub, decide_true, decide_false, Bool.not_true, Bool.not_false, Bool.false_eq_true, if_false, Bool.and_self, Bool.and_false, Bool.and_true, Bool.false_and, Bool.true_and, List.length_nil, Int.natCast_zero, e, List.map_nil]
      rfl
    · refine ⟨fs, x2, hf, af, s2.less (by omega), ?_⟩
      have hz : ¬ ((fs.length : Nat) : Int) = 0 := by
        have := List.length_pos_iff.mpr hf
        omega
      simp only [mSeq, mAsg, mgName, mgTup, mgCons, mgNil, mExpr, mRet, mRetN, mIf, mNext, mBrk, mCont, mRaise, mRaiseP, ofP, ofPT, two, twoB, one, chT, trT, caP, consP, nilP, vP, cP, tupP, lstP, mkT0, mkT1, mkT2, mkT3, mkT4, mkL0, mkL1, mkL2, mkL3, mkL4, mkL5, mkL6, mCons, nilA, mApp, m2, mNew2, mRd, mMv, mTest, mAndT, mOrT, mNotT, mAndV, mOrV, mNotV, mIfV, andV, orV, notV, mCall, mArgs, takeIo, putIo, R.bind, List.set_cons_succ, List.set_cons_zero, List.getElem?_cons_succ, List.getElem?_cons_zero, Option.join_some, Option.bind_some, Option.map_some, Option.bind, only, asB, truB_bl, truB_int, if_true, yesT, noO, partO, asI, onI, frz_int, frz_str, frz_bl, frz_non, frz_enc, imm_int, imm_bl, imm_str, imm_non, Enc.im, outsOf, dLen_lst, List.length_map, ev, decide_eq_false hz, Bool.false_eq_true, if_false]
  obtain ⟨fs3, x3, f1, f2, s3, e3⟩ := k3
  obtain ⟨ms, x4, o, g1, g2, s4, e4⟩ := moves_ok (n := n) (x3 := x3) (a := some (d ws)) (b := some (d scs)) (c := some (.lst (fs3.map d))) (m := m) (s3.less (by
    have a1 : m * (m * 2) ≤ 8 * (8 * 2) := Nat.mul_le_mul h8 (Nat.mul_le_mul_right 2 h8)
    omega)) h1 (by omega)
  refine ⟨⟨scs, fs3, ms⟩, x4, ⟨by rw [l1, upto_len], p1, f1, f2, g1, g2⟩, s4, ?_⟩
  unfold C.mf__law_system mDef C.mb__law_system
  rw [if_pos (by rfl)]
  simp only [List.map_cons, List.map_nil, List.replicate, List.cons_append, List.nil_append]
  have z1 : mAsg (mTuple (mComp (mRange (mCons (mRd 2) nilA)) [4] (mgName 4) yesT (mCall [0] C.mf__law_scene [.io 0, .ex (mRd 1)]))) (mgName 3) [some x, some (d ws), some (.int (m : Int)), none, none, none, none, none] = .nx [some x1, some (d ws), some (.int (m : Int)), some (d scs), none, none, none, none] := by
    unfold mAsg
    rw [t1]; rfl
  have z2 : mAsg (mComp (mRange (mCons (mRd 2) nilA)) [4] (mgName 4) (mTest (m2 (only dEq) (mCall [0] C.mf__law_next [.io 0, .ex (ofP (cP (.int 3)))]) (ofP (cP (.int 0))))) (mRd 4)) (mgName 5) [some x1, some (d ws), some (.int (m : Int)), some (d scs), none, none, none, none] = .nx [some x2, some (d ws), some (.int (m : Int)), some (d scs), none, some (.lst (fs.map d)), none, none] := by
    unfold mAsg
    rw [t2]; rfl
  rw [mSeq, z1]
  dsimp only
  rw [mSeq, z2]
  dsimp only
  rw [mSeq, e3]
  dsimp only
  have z3 : mAsg (mApp mkLst nilA) (mgName 6) [some x3, some (d ws), some (.int (m : Int)), some (d scs), none, some (.lst (fs3.map d)), none, none] = .nx [some x3, some (d ws), some (.int (m : Int)), some (d scs), none, some (.lst (fs3.map d)), some (.lst []), none] := by
    simp only [mSeq, mAsg, mgName, mgTup, mgCons, mgNil, mExpr, mRet, mRetN, mIf, mNext, mBrk, mCont, mRaise, mRaiseP, ofP, ofPT, two, twoB, one, chT, trT, caP, consP, nilP, vP, cP, tupP, lstP, mkT0, mkT1, mkT2, mkT3, mkT4, mkL0, mkL1, mkL2, mkL3, mkL4, mkL5, mkL6, mCons, nilA, mApp, m2, mNew2, mRd, mMv, mTest, mAndT, mOrT, mNotT, mAndV, mOrV, mNotV, mIfV, andV, orV, notV, mCall, mArgs, takeIo, putIo, R.bind, List.set_cons_succ, List.set_cons_zero, List.getElem?_cons_succ, List.getElem?_cons_zero, Option.join_some, Option.bind_some, Option.map_some, Option.bind, only, asB, truB_bl, truB_int, if_true, yesT, noO, partO, asI, onI, frz_int, frz_str, frz_bl, frz_non, frz_enc, imm_int, imm_bl, imm_str, imm_non, Enc.im, outsOf]
  rw [mSeq, z3]
  dsimp only
  rw [mSeq]
  have e4' := e4
  unfold rowB rowT at e4'
  rw [e4']
  dsimp only
  have z4 : mTuple (mRd 5) [some x4, some (d ws), some (.int (m : Int)), some (d scs), o, some (.lst (fs3.map d)), some (.lst (ms.map d)), none] = .ok (d fs3) [some x4, some (d ws), some (.int (m : Int)), some (d scs), o, some (.fls (fs3.map d)), some (.lst (ms.map d)), none] := mTuple_fls (by simp only [mSeq, mAsg, mgName, mgTup, mgCons, mgNil, mExpr, mRet, mRetN, mIf, mNext, mBrk, mCont, mRaise, mRaiseP, ofP, ofPT, two, twoB, one, chT, trT, caP, consP, nilP, vP, cP, tupP, lstP, mkT0, mkT1, mkT2, mkT3, mkT4, mkL0, mkL1, mkL2, mkL3, mkL4, mkL5, mkL6, mCons, nilA, mApp, m2, mNew2, mRd, mMv, mTest, mAndT, mOrT, mNotT, mAndV, mOrV, mNotV, mIfV, andV, orV, notV, mCall, mArgs, takeIo, putIo, R.bind, List.set_cons_succ, List.set_cons_zero, List.getElem?_cons_succ, List.getElem?_cons_zero, Option.join_some, Option.bind_some, Option.map_some, Option.bind, only, asB, truB_bl, truB_int, if_true, yesT, noO, partO, asI, onI, frz_int, frz_str, frz_bl, frz_non, frz_enc, imm_int, imm_bl, imm_str, imm_non, Enc.im, outsOf, frz_lst])
  have z5 : mTuple (mRd 6) [some x4, some (d ws), some (.int (m : Int)), some (d scs), o, some (.fls (fs3.map d)), some (.lst (ms.map d)), none] = .ok (d ms) [some x4, some (d ws), some (.int (m : Int)), some (d scs), o, some (.fls (fs3.map d)), some (.fls (ms.map d)), none] := mTuple_fls (by simp only [mSeq, mAsg, mgName, mgTup, mgCons, mgNil, mExpr, mRet, mRetN, mIf, mNext, mBrk, mCont, mRaise, mRaiseP, ofP, ofPT, two, twoB, one, chT, trT, caP, consP, nilP, vP, cP, tupP, lstP, mkT0, mkT1, mkT2, mkT3, mkT4, mkL0, mkL1, mkL2, mkL3, mkL4, mkL5, mkL6, mCons, nilA, mApp, m2, mNew2, mRd, mMv, mTest, mAndT, mOrT, mNotT, mAndV, mOrV, mNotV, mIfV, andV, orV, notV, mCall, mArgs, takeIo, putIo, R.bind, List.set_cons_succ, List.set_cons_zero, List.getElem?_cons_succ, List.getElem?_cons_zero, Option.join_some, Option.bind_some, Option.map_some, Option.bind, only, asB, truB_bl, truB_int, if_true, yesT, noO, partO, asI, onI, frz_int, frz_str, frz_bl, frz_non, frz_enc, imm_int, imm_bl, imm_str, imm_non, Enc.im, outsOf, frz_lst])
  simp only [mSeq, mAsg, mgName, mgTup, mgCons, mgNil, mExpr, mRet, mRetN, mIf, mNext, mBrk, mCont, mRaise, mRaiseP, ofP, ofPT, two, twoB, one, chT, trT, caP, consP, nilP, vP, cP, tupP, lstP, mkT0, mkT1, mkT2, mkT3, mkT4, mkL0, mkL1, mkL2, mkL3, mkL4, mkL5, mkL6, mCons, nilA, mApp, m2, mNew2, mRd, mMv, mTest, mAndT, mOrT, mNotT, mAndV, mOrV, mNotV, mIfV, andV, orV, notV, mCall, mArgs, takeIo, putIo, R.bind, List.set_cons_succ, List.set_cons_zero, List.getElem?_cons_succ, List.getElem?_cons_zero, Option.join_some, Option.bind_some, Option.map_some, Option.bind, only, asB, truB_bl, truB_int, if_true, yesT, noO, partO, asI, onI, frz_int, frz_str, frz_bl, frz_non, frz_enc, imm_int, imm_bl, imm_str, imm_non, Enc.im, outsOf, z4, z5]
  rfl
end Sim

namespace Sim
open PySem PySem.Spec PyProof.Rows L2
open Enc

theorem dIx_d {α : Type} [DecidableEq α] [Enc α] (xs : List α) (i : Int) (z : α) (h0 : 0 ≤ i) (h1 : i < xs.length) : dIx (d xs) (.int i) = some (d (xs.getD i.toNat z)) := by
  show atD (xs.map d) i = _
  have h := atD_map' d xs i.toNat (by omega)
  rw [show ((i.toNat : Nat) : Int) = i by omega] at h
  rw [h, List.getD_eq_getElem?_getD, List.getElem?_eq_getElem (by omega)]; rfl
theorem all_pures {α : Type} {f : α → D} {s0 : Sl} {S : α → Sl} {vs : List Nat} {g : D → Sl → Option Sl} {m : Sl → R D} {mi : Sl → R (List D)} (q : α → Bool) (xs : List α) (hz : xs.length ≤ 1000) {s1 : Sl} (hi : mi s1 = .ok (xs.map f) s0)
    (hg : ∀ x ∈ xs, g (f x) s0 = some (S x)) (hw : ∀ x ∈ xs, wipeS (S x) vs = s0) (hw0 : wipeS s0 vs = s0) (hb : backS s0 s0 vs = s0) (hm : ∀ x ∈ xs, ∃ s2, m (S x) = .ok (.bl (q x)) s2 ∧ wipeS s2 vs = s0) :
    (mApp (only1 dAll) (mCons (mComp mi vs g yesT m) nilA)) s1 = .ok (.bl (xs.all q)) s0 := by
  have key := comp_pure (f := f) (vs := vs) (g := g) (t := yesT) (m := m) (s := s0) (fun _ => true) (fun x => .bl (q x)) xs [] (fun x hx => ⟨_, hg x hx, rfl, hw x hx, fun _ => hm x hx⟩) (by simp; omega)
  rw [List.nil_append, show (xs.filter fun _ => true) = xs from List.filter_eq_self.mpr fun _ _ => rfl] at key
  have e2 := mComp_of (vs := vs) (g := g) (t := yesT) (m := m) hi (by rw [hw0]; exact key)
  rw [hb] at e2
  unfold mApp mCons nilA
  rw [e2]
  have e3 : dAll [.lst (xs.map fun x => D.bl (q x))] = some (.bl (xs.all q)) := by
    unfold dAll listOf
    show ((blsOf (xs.map fun x => D.bl (q x))).map fun bs => D.bl (bs.all id)) = _
    rw [show (xs.map fun x => D.bl (q x)) = (xs.map q).map D.bl by rw [List.map_map]; rfl, blsOf_map, Option.map_some, List.all_map]; rfl
  show (match only1 dAll [.lst (xs.map fun x => D.bl (q x))] with
    | some d => R.ok d s0
    | none => R.stuck) = _
  unfold only1
  rw [e3]; rfl
/-! ### paths -/
def inr (n : Int) (x : Int) : Bool := decide (0 ≤ x) && decide (x < n)
def goes (ms : List (List Int)) (p x : Int) : Bool := decide (x ∈ ms.getD p.toNat [])
def stepB (ms : List (List Int)) : Option Int → List Int → Bool
  | _, [] => true
  | none, x :: xs => inr ms.length x && stepB ms (some x) xs
  | some p, x :: xs => inr ms.length x && goes ms p x && stepB ms (some x) xs
def pathB (ms : List (List Int)) (row : List Int) : Bool := decide (row ≠ []) && stepB ms none row
theorem path_zip (ms : List (List Int)) : ∀ (x : Int) (xs : List Int), ((((x :: xs).zip xs).all fun q => goes ms q.1 q.2) && (xs.all (inr ms.length))) = stepB ms (some x) xs
  | x, [] => rfl
  | x, y :: ys => by
    have ih := path_zip ms y ys
    unfold stepB
    rw [← ih, List.zip_cons_cons, List.all_cons, List.all_cons]
    dsimp only
    cases goes ms x y <;> cases inr (↑ms.length) y <;> simp
theorem path_all (ms : List (List Int)) (row : List Int) : (row.all (inr ms.length) && ((row.zip (row.drop 1)).all fun q => goes ms q.1 q.2)) = stepB ms none row := by
  cases row with
  | nil => rfl
  | cons x xs =>
    unfold stepB
    rw [← path_zip ms x xs, List.all_cons, List.drop_succ_cons, List.drop_zero]
    cases inr (↑ms.length) x <;> cases (xs.all (inr ms.length)) <;> simp
theorem inr_iff {n x : Int} : inr n x = true ↔ 0 ≤ x ∧ x < n := by unfold inr; simp
theorem sys_ix2 (sy : Sys) : dIx (d sy) (.int 2) = some (d sy.c) := rfl
theorem sys_ix1 (sy : Sys) : dIx (d sy) (.int 1) = some (d sy.b) := rfl
theorem sys_ix0 (sy : Sys) : dIx (d sy) (.int 0) = some (d sy.a) := rfl
theorem chain_inr {s : Sl} {x n : Int} {i j : Nat} {xs : List (List Int)} (hx : s[i]?.join = some (.int x)) (hj : s[j]?.join = some (d xs)) : ofP (chain2 dLe dLt (cP (.int 0)) (vP i) (caP dLen (consP (vP j) nilP))) s = .ok (.bl (inr xs.length x)) s := by
  unfold inr
  by_cases h1 : (0 : Int) ≤ x <;> by_cases h2 : x < (xs.length : Int) <;> simp only [mSeq, mAsg, mgName, mgTup, mgCons, mgNil, mExpr, mRet, mRetN, mIf, mNext, mBrk, mCont, mRaise, mRaiseP, ofP, ofPT, two, twoB, one, chT, trT, caP, consP, nilP, vP, cP, tupP, lstP, mkT0, mkT1, mkT2, mkT3, mkT4, mkL0, mkL1, mkL2, mkL3, mkL4, mkL5, mkL6, mCons, nilA, mApp, m2, mNew2, mRd, mMv, mTest, mAndT, mOrT, mNotT, mAndV, mOrV, mNotV, mIfV, andV, orV, notV, mCall, mArgs, takeIo, putIo, R.bind, List.set_cons_succ, List.set_cons_zero, List.getElem?_cons_succ, List.getElem?_cons_zero, Option.join_some, Option.bind_some, Option.map_some, Option.bind, only, asB, truB_bl, truB_int, if_true, yesT, noO, partO, asI, onI, frz_int, frz_str, frz_bl, frz_non, frz_enc, imm_int, imm_bl, imm_str, imm_non, Enc.im, outsOf, imm_tup, imms_nil, imms_cons, dEq_ii, dNe_ii, dPl_int, dPlF_int, dLen_lst, dLen_tup, dLen_fls, dLen_d, putIo, List.length_map, onIc, dLe, dLt, dGt, dGe, dSub, decide_true, decide_false, Bool.not_true, Bool.not_false, Bool.false_eq_true, if_false, Bool.and_self, Bool.and_false, Bool.and_true, Bool.false_and, Bool.true_and, chain2, hx, hj, h1, h2]
theorem mZip_d {s : Sl} {row : List Int} (h : s[1]?.join = some (d row)) (hs : s.set 1 (some (d row)) = s) (hl : row.length ≤ 1000) : mZip (mCons (mRd 1) (mCons (mSl (vP 1) (partO (cP (.int 1))) noO) nilA)) s = .ok ((row.zip (row.drop 1)).map d) s := by
  have e1 : mRd 1 s = .ok (d row) s := by
    unfold mRd
    rw [h]
    dsimp only
    rw [frz_enc, hs]
  have e2 : mSl (vP 1) (partO (cP (.int 1))) noO s = .ok (d (row.drop 1)) s := by
    have e3 : dSl (d row) (some 1) none = some (d (row.drop 1)) := by
      show (if imms (row.map d) = true then some (D.tup (cutD (row.map d) (some 1) none)) else none) = _
      rw [imms_enc, if_pos rfl]
      have := cutD_from d row 1
      rw [show ((1 : Nat) : Int) = 1 from rfl] at this
      rw [this]; rfl
    unfold mSl vP partO cP noO
    rw [h]
    show (match dSl (d row) (some 1) none with
      | some z => R.ok z s
      | none => R.stuck) = _
    rw [e3]
  have e4 : mCons (mRd 1) (mCons (mSl (vP 1) (partO (cP (.int 1))) noO) nilA) s = .ok [d row, d (row.drop 1)] s := by
    unfold mCons nilA
    rw [e1]
    show ((mSl (vP 1) (partO (cP (.int 1))) noO s).bind fun x s1 => (R.ok [] s1).bind fun xs s2 => R.ok (x :: xs) s2).bind (fun xs s2 => R.ok (d row :: xs) s2) = _
    rw [e2]; rfl
  unfold mZip
  rw [e4]
  show (if imms (row.map d) = true ∧ imms ((row.drop 1).map d) = true then R.ok (((row.map d).zip ((row.drop 1).map d)).map fun p => D.tup [p.1, p.2]) s else R.stuck) = _
  rw [if_pos ⟨imms_enc _, imms_enc _⟩]
  congr 1
  rw [List.zip_map, List.map_map]; rfl
theorem is_path_ok (sy : Sys) (row : List Int) (hl : row.length ≤ 1000) : C.mf_is_path [d sy, d row] = .ok (.bl (pathB sy.c row)) [] := by
  generalize hS : [some (d sy), some (d row), some (d sy.c), (none : Option D), none] = S
  have r0 : mAsg (ofP (two dIx (vP 0) (cP (.int 2)))) (mgName 2) [some (d sy), some (d row), none, none, none] = .nx S := by
    rw [← hS]
    simp only [mSeq, mAsg, mgName, mgTup, mgCons, mgNil, mExpr, mRet, mRetN, mIf, mNext, mBrk, mCont, mRaise, mRaiseP, ofP, ofPT, two, twoB, one, chT, trT, caP, consP, nilP, vP, cP, tupP, lstP, mkT0, mkT1, mkT2, mkT3, mkT4, mkL0, mkL1, mkL2, mkL3, mkL4, mkL5, mkL6, mCons, nilA, mApp, m2, mNew2, mRd, mMv, mTest, mAndT, mOrT, mNotT, mAndV, mOrV, mNotV, mIfV, andV, orV, notV, mCall, mArgs, takeIo, putIo, R.bind, List.set_cons_succ, List.set_cons_zero, List.getElem?_cons_succ, List.getElem?_cons_zero, Option.join_some, Option.bind_some, Option.map_some, Option.bind, only, asB, truB_bl, truB_int, if_true, yesT, noO, partO, asI, onI, frz_int, frz_str, frz_bl, frz_non, frz_enc, imm_int, imm_bl, imm_str, imm_non, Enc.im, outsOf, imm_tup, imms_nil, imms_cons, dEq_ii, dNe_ii, dPl_int, dPlF_int, dLen_lst, dLen_tup, dLen_fls, dLen_d, putIo, List.length_map, onIc, dLe, dLt, dGt, dGe, dSub, decide_true, decide_false, Bool.not_true, Bool.not_false, Bool.false_eq_true, if_false, Bool.and_self, Bool.and_false, Bool.and_true, Bool.false_and, Bool.true_and, sys_ix2]
  have q1 : (ofPT (trT (vP 1))) S = .ok (decide (row ≠ [])) S := by
    rw [← hS]
    simp only [mSeq, mAsg, mgName, mgTup, mgCons, mgNil, mExpr, mRet, mRetN, mIf, mNext, mBrk, mCont, mRaise, mRaiseP, ofP, ofPT, two, twoB, one, chT, trT, caP, consP, nilP, vP, cP, tupP, lstP, mkT0, mkT1, mkT2, mkT3, mkT4, mkL0, mkL1, mkL2, mkL3, mkL4, mkL5, mkL6, mCons, nilA, mApp, m2, mNew2, mRd, mMv, mTest, mAndT, mOrT, mNotT, mAndV, mOrV, mNotV, mIfV, andV, orV, notV, mCall, mArgs, takeIo, putIo, R.bind, List.set_cons_succ, List.set_cons_zero, List.getElem?_cons_succ, List.getElem?_cons_zero, Option.join_some, Option.bind_some, Option.map_some, Option.bind, only, asB, truB_bl, truB_int, if_true, yesT, noO, partO, asI, onI, frz_int, frz_str, frz_bl, frz_non, frz_enc, imm_int, imm_bl, imm_str, imm_non, Enc.im, outsOf, imm_tup, imms_nil, imms_cons, dEq_ii, dNe_ii, dPl_int, dPlF_int, dLen_lst, dLen_tup, dLen_fls, dLen_d, putIo, List.length_map, onIc, dLe, dLt, dGt, dGe, dSub, decide_true, decide_false, Bool.not_true, Bool.not_false, Bool.false_eq_true, if_false, Bool.and_self, Bool.and_false, Bool.and_true, Bool.false_and, Bool.true_and, truB_d]
  have e1 := all_pures (f := (d : Int → D)) (s0 := S) (S := fun x => [some (d sy), some (d row), some (d sy.c), some (d x), none]) (vs := [3]) (g := mgName 3) (m := ofP (chain2 dLe dLt (cP (.int 0)) (vP 3) (caP dLen (consP (vP 2) nilP)))) (mi := mItems (mRd 1)) (s1 := S) (inr sy.c.length) row hl
    (by rw [← hS]; exact mItems_rd rfl rfl) (fun _ _ => by rw [← hS]; rfl) (fun _ _ => by rw [← hS]; rfl) (by rw [← hS]; rfl) (by rw [← hS]; rfl) (fun x _ => ⟨_, chain_inr (n := 0) rfl rfl, by rw [← hS]; rfl⟩)
  have q2 : mTest (mApp (only1 dAll) (mCons (mComp (mItems (mRd 1)) [3] (mgName 3) yesT (ofP (chain2 dLe dLt (cP (.int 0)) (vP 3) (caP dLen (consP (vP 2) nilP))))) nilA)) S = .ok (row.all (inr sy.c.length)) S := by
    unfold mTest
    rw [e1]; rfl
  have q3 : row.all (inr sy.c.length) = true → mApp (only1 dAll) (mCons (mComp (mZip (mCons (mRd 1) (mCons (mSl (vP 1) (partO (cP (.int 1))) noO) nilA))) [3, 4] (mgTup 2 (mgCons (mgName 3) (mgCons (mgName 4) mgNil))) yesT (ofP (two dIn (vP 4) (two dIx (vP 2) (vP 3))))) nilA) S = .ok (.bl ((row.zip (row.drop 1)).all fun q => goes sy.c q.1 q.2)) S := fun hall =>
    all_pures (f := (d : Int × Int → D)) (s0 := S) (S := fun x => [some (d sy), some (d row), some (d sy.c), some (d x.1), some (d x.2)]) (vs := [3, 4]) (s1 := S) (fun q => goes sy.c q.1 q.2) (row.zip (row.drop 1)) (by rw [List.length_zip]; omega)
      (mZip_d (by rw [← hS]; rfl) (by rw [← hS]; rfl) hl) (fun _ _ => by rw [← hS]; rfl) (fun _ _ => by rw [← hS]; rfl) (by rw [← hS]; rfl) (by rw [← hS]; rfl) (fun x hx => by
        obtain ⟨x, y⟩ := x
        have hm := (List.of_mem_zip hx).1
        have hi := inr_iff.mp (List.all_eq_true.mp hall x hm)
        have e := dIx_d sy.c x [] hi.1 hi.2
        have e2 : dIn (.int y) (.tup ((sy.c.getD x.toNat []).map d)) = _ := dIn_tup y (sy.c.getD x.toNat [])
        refine ⟨[some (d sy), some (d row), some (d sy.c), some (d x), some (d y)], ?_, by rw [← hS]; rfl⟩
        unfold goes
        rw [d_lst (sy.c.getD x.toNat [])] at e
        simp only [mSeq, mAsg, mgName, mgTup, mgCons, mgNil, mExpr, mRet, mRetN, mIf, mNext, mBrk, mCont, mRaise, mRaiseP, ofP, ofPT, two, twoB, one, chT, trT, caP, consP, nilP, vP, cP, tupP, lstP, mkT0, mkT1, mkT2, mkT3, mkT4, mkL0, mkL1, mkL2, mkL3, mkL4, mkL5, mkL6, mCons, nilA, mApp, m2, mNew2, mRd, mMv, mTest, mAndT, mOrT, mNotT, mAndV, mOrV, mNotV, mIfV, andV, orV, notV, mCall, mArgs, takeIo, putIo, R.bind, List.set_cons_succ, List.set_cons_zero, List.getElem?_cons_succ, List.getElem?_cons_zero, Option.join_some, Option.bind_some, Option.map_some, Option.bind, only, asB, truB_bl, truB_int, if_true, yesT, noO, partO, asI, onI, frz_int, frz_str, frz_bl, frz_non, frz_enc, imm_int, imm_bl, imm_str, imm_non, Enc.im, outsOf, imm_tup, imms_nil, imms_cons, dEq_ii, dNe_ii, dPl_int, dPlF_int, dLen_lst, dLen_tup, dLen_fls, dLen_d, putIo, List.length_map, onIc, dLe, dLt, dGt, dGe, dSub, decide_true, decide_false, Bool.not_true, Bool.not_false, Bool.false_eq_true, if_false, Bool.and_self, Bool.and_false, Bool.and_true, Bool.false_and, Bool.true_and, d_int, e, e2])
  unfold C.mf_is_path mDef C.mb_is_path
  rw [if_pos (by rfl)]
  simp only [List.map_cons, List.map_nil, List.replicate, List.cons_append, List.nil_append]
  rw [mSeq, r0]
  dsimp only
  unfold pathB
  rw [← path_all]
  by_cases h1 : row = []
  · subst h1
    simp only [mSeq, mIf, mOrT, mNotT, q1, R.bind, ne_eq, not_true_eq_false, decide_false, Bool.not_false, if_true, Bool.false_and]
    rfl
  · cases h2 : row.all (inr sy.c.length) with
    | false =>
      rw [h2] at q2
      simp only [mSeq, mIf, mOrT, mNotT, q1, q2, R.bind, ne_eq, h1, not_false_eq_true, decide_true, Bool.not_true, Bool.false_eq_true, if_false, Bool.not_false, if_true, Bool.false_and, Bool.and_false]
      rfl
    | true =>
      have q3 := q3 h2
      rw [h2] at q2
      simp only [mSeq, mIf, mOrT, mNotT, mNext, mRet, q1, q2, q3, R.bind, ne_eq, h1, not_false_eq_true, decide_true, Bool.not_true, Bool.false_eq_true, if_false, Bool.true_and, outsOf]
end Sim

namespace Sim.C
def mb__law_is_path : Sl → RS := (mSeq (mAsg (ofP (two dGt (caP dLen (consP (vP 1) nilP)) (cP (.int 0)))) (mgName 2))
  (mSeq (mFor (mRange (mCons (ofP (caP dLen (consP (vP 1) nilP))) nilA)) (mgName 3)
  (mAsg (ofP (andV (vP 2) (andV (chain2 dLe dLt (cP (.int 0)) (two dIx (vP 1) (vP 3)) (caP dLen (consP (two dIx (vP 0) (cP (.int 0))) nilP))) (orV (two dEq (vP 3) (cP (.int 0))) (two dIn (two dIx (vP 1) (vP 3)) (two dIx (two dIx (vP 0) (cP (.int 2))) (two dIx (vP 1) (two dSub (vP 3) (cP (.int 1)))))))))) (mgName 2)))
  (mRet (mMv 2))))
def mf__law_is_path : List D → RF := mDef 2 4 [] mb__law_is_path
end Sim.C

namespace Sim
open PySem PySem.Spec PyProof.Rows L2
open Enc

theorem same_ok {x y : D} {t : Str} (h1 : dRepr [.lst [x]] = some (.str t)) (h2 : dRepr [.lst [y]] = some (.str t)) (ht : PyData.strOk t = true) : C.mf__law_same [x, y] = .ok (.bl true) [] := by
  have e := dEq_strs ht
  unfold C.mf__law_same mDef C.mb__law_same
  rw [if_pos (by rfl)]
  simp only [List.map_cons, List.map_nil, List.replicate, List.cons_append, List.nil_append]
  simp only [mSeq, mAsg, mgName, mgTup, mgCons, mgNil, mExpr, mRet, mRetN, mIf, mNext, mBrk, mCont, mRaise, mRaiseP, ofP, ofPT, two, twoB, one, chT, trT, caP, consP, nilP, vP, cP, tupP, lstP, mkT0, mkT1, mkT2, mkT3, mkT4, mkL0, mkL1, mkL2, mkL3, mkL4, mkL5, mkL6, mCons, nilA, mApp, m2, mNew2, mRd, mMv, mTest, mAndT, mOrT, mNotT, mAndV, mOrV, mNotV, mIfV, andV, orV, notV, mCall, mArgs, takeIo, putIo, R.bind, List.set_cons_succ, List.set_cons_zero, List.getElem?_cons_succ, List.getElem?_cons_zero, Option.join_some, Option.bind_some, Option.map_some, Option.bind, only, asB, truB_bl, truB_int, if_true, yesT, noO, partO, asI, onI, frz_int, frz_str, frz_bl, frz_non, frz_enc, imm_int, imm_bl, imm_str, imm_non, Enc.im, outsOf, imm_tup, imms_nil, imms_cons, dEq_ii, dNe_ii, dPl_int, dPlF_int, dLen_lst, dLen_tup, dLen_fls, dLen_d, putIo, List.length_map, onIc, dLe, dLt, dGt, dGe, dSub, decide_true, decide_false, Bool.not_true, Bool.not_false, Bool.false_eq_true, if_false, Bool.and_self, Bool.and_false, Bool.and_true, Bool.false_and, Bool.true_and, h1, h2, e]
theorem track_ok (sy : Sys) (row : List Int) (hl : row.length ≤ 1000) : C.mf_is_track [d sy, d row] = .ok (.bl (pathB sy.c row && decide (row.getD 0 0 ∈ sy.b))) [] := by
  have e := is_path_ok sy row hl
  unfold C.mf_is_track mDef C.mb_is_track
  rw [if_pos (by rfl)]
  simp only [List.map_cons, List.map_nil, List.replicate, List.cons_append, List.nil_append]
  cases hp : pathB sy.c row with
  | false =>
    rw [hp] at e
    simp only [mSeq, mAsg, mgName, mgTup, mgCons, mgNil, mExpr, mRet, mRetN, mIf, mNext, mBrk, mCont, mRaise, mRaiseP, ofP, ofPT, two, twoB, one, chT, trT, caP, consP, nilP, vP, cP, tupP, lstP, mkT0, mkT1, mkT2, mkT3, mkT4, mkL0, mkL1, mkL2, mkL3, mkL4, mkL5, mkL6, mCons, nilA, mApp, m2, mNew2, mRd, mMv, mTest, mAndT, mOrT, mNotT, mAndV, mOrV, mNotV, mIfV, andV, orV, notV, mCall, mArgs, takeIo, putIo, R.bind, List.set_cons_succ, List.set_cons_zero, List.getElem?_cons_succ, List.getElem?_cons_zero, Option.join_some, Option.bind_some, Option.map_some, Option.bind, only, asB, truB_bl, truB_int, if_true, yesT, noO, partO, asI, onI, frz_int, frz_str, frz_bl, frz_non, frz_enc, imm_int, imm_bl, imm_str, imm_non, Enc.im, outsOf, imm_tup, imms_nil, imms_cons, dEq_ii, dNe_ii, dPl_int, dPlF_int, dLen_lst, dLen_tup, dLen_fls, dLen_d, putIo, List.length_map, onIc, dLe, dLt, dGt, dGe, dSub, decide_true, decide_false, Bool.not_true, Bool.not_false, Bool.false_eq_true, if_false, Bool.and_self, Bool.and_false, Bool.and_true, Bool.false_and, Bool.true_and, e]
  | true =>
    rw [hp] at e
    have hne : row ≠ [] := by
      unfold pathB at hp
      rw [Bool.and_eq_true, decide_eq_true_eq] at hp
      exact hp.1
    have e0 : dIx (d row) (.int 0) = some (.int (row.getD 0 0)) := dIx_d row 0 0 (by decide) (by have := List.length_pos_iff.mpr hne; omega)
    have e1 : dIn (.int (row.getD 0 0)) (d sy.b) = some (.bl (decide (row.getD 0 0 ∈ sy.b))) := dIn_tup (row.getD 0 0) sy.b
    simp only [mSeq, mAsg, mgName, mgTup, mgCons, mgNil, mExpr, mRet, mRetN, mIf, mNext, mBrk, mCont, mRaise, mRaiseP, ofP, ofPT, two, twoB, one, chT, trT, caP, consP, nilP, vP, cP, tupP, lstP, mkT0, mkT1, mkT2, mkT3, mkT4, mkL0, mkL1, mkL2, mkL3, mkL4, mkL5, mkL6, mCons, nilA, mApp, m2, mNew2, mRd, mMv, mTest, mAndT, mOrT, mNotT, mAndV, mOrV, mNotV, mIfV, andV, orV, notV, mCall, mArgs, takeIo, putIo, R.bind, List.set_cons_succ, List.set_cons_zero, List.getElem?_cons_succ, List.getElem?_cons_zero, Option.join_some, Option.bind_some, Option.map_some, Option.bind, only, asB, truB_bl, truB_int, if_true, yesT, noO, partO, asI, onI, frz_int, frz_str, frz_bl, frz_non, frz_enc, imm_int, imm_bl, imm_str, imm_non, Enc.im, outsOf, imm_tup, imms_nil, imms_cons, dEq_ii, dNe_ii, dPl_int, dPlF_int, dLen_lst, dLen_tup, dLen_fls, dLen_d, putIo, List.length_map, onIc, dLe, dLt, dGt, dGe, dSub, decide_true, decide_false, Bool.not_true, Bool.not_false, Bool.false_eq_true, if_false, Bool.and_self, Bool.and_false, Bool.and_true, Bool.false_and, Bool.true_and, e, e0, sys_ix1, e1]
theorem stepB_inr {ms : List (List Int)} : ∀ (row : List Int) (o : Option Int), stepB ms o row = true → ∀ x ∈ row, 0 ≤ x ∧ x < ms.length
  | y :: ys, none, h, x, hx => by
    unfold stepB at h
    rw [Bool.and_eq_true] at h
    rcases List.mem_cons.mp hx with rfl | hx
    · exact inr_iff.mp h.1
    · exact stepB_inr ys _ h.2 x hx
  | y :: ys, some p, h, x, hx => by
    unfold stepB at h
    rw [Bool.and_eq_true, Bool.and_eq_true] at h
    rcases List.mem_cons.mp hx with rfl | hx
    · exact inr_iff.mp h.1.1
    · exact stepB_inr ys _ h.2 x hx
theorem pathB_inr {ms : List (List Int)} {row : List Int} (h : pathB ms row = true) : ∀ x ∈ row, 0 ≤ x ∧ x < ms.length := by
  unfold pathB at h
  rw [Bool.and_eq_true] at h
  exact stepB_inr row none h.2
def runT (scs : List (List Wd)) (row : List Int) : List (List Wd) := row.map fun k => scs.getD k.toNat []
theorem runC_ok (sy : Sys) (row : List Int) {s0 : Sl} {S : D → Sl} {v : Nat} {i : Nat} {mi : Sl → R (List D)} {s1 : Sl} (hl : row.length ≤ 1000) (hin : ∀ x ∈ row, 0 ≤ x ∧ x < sy.a.length) (hi : mi s1 = .ok (row.map d) s0) (hg : ∀ x, mgName v x s0 = some (S x)) (hw : ∀ x, wipeS (S x) [v] = s0) (hw0 : wipeS s0 [v] = s0) (hb : backS s0 s0 [v] = s0)
    (h0 : ∀ x, (S x)[i]?.join = some (d sy)) (h1 : ∀ x, (S x)[v]?.join = some x) : mComp mi [v] (mgName v) yesT (ofP (two dIx (two dIx (vP i) (cP (.int 0))) (vP v))) s1 = .ok (.lst ((runT sy.a row).map d)) s0 := by
  have key := comp_pure (f := (d : Int → D)) (vs := [v]) (g := mgName v) (t := yesT) (m := ofP (two dIx (two dIx (vP i) (cP (.int 0))) (vP v))) (s := s0) (fun _ => true) (fun k => d (sy.a.getD k.toNat [])) row [] (fun x hx => ⟨_, hg (d x), rfl, hw _, fun _ => ⟨S (d x), by
    have e := dIx_d sy.a x [] (hin x hx).1 (hin x hx).2
    rw [← d_int] at e
    simp only [mSeq, mAsg, mgName, mgTup, mgCons, mgNil, mExpr, mRet, mRetN, mIf, mNext, mBrk, mCont, mRaise, mRaiseP, ofP, ofPT, two, twoB, one, chT, trT, caP, consP, nilP, vP, cP, tupP, lstP, mkT0, mkT1, mkT2, mkT3, mkT4, mkL0, mkL1, mkL2, mkL3, mkL4, mkL5, mkL6, mCons, nilA, mApp, m2, mNew2, mRd, mMv, mTest, mAndT, mOrT, mNotT, mAndV, mOrV, mNotV, mIfV, andV, orV, notV, mCall, mArgs, takeIo, putIo, R.bind, List.set_cons_succ, List.set_cons_zero, List.getElem?_cons_succ, List.getElem?_cons_zero, Option.join_some, Option.bind_some, Option.map_some, Option.bind, only, asB, truB_bl, truB_int, if_true, yesT, noO, partO, asI, onI, frz_int, frz_str, frz_bl, frz_non, frz_enc, imm_int, imm_bl, imm_str, imm_non, Enc.im, outsOf, imm_tup, imms_nil, imms_cons, dEq_ii, dNe_ii, dPl_int, dPlF_int, dLen_lst, dLen_tup, dLen_fls, dLen_d, putIo, List.length_map, onIc, dLe, dLt, dGt, dGe, dSub, decide_true, decide_false, Bool.not_true, Bool.not_false, Bool.false_eq_true, if_false, Bool.and_self, Bool.and_false, Bool.and_true, Bool.false_and, Bool.true_and, h0, h1, sys_ix0, e], hw _⟩⟩) (by simp; omega)
  rw [List.nil_append, show (row.filter fun _ => true) = row from List.filter_eq_self.mpr fun _ _ => rfl] at key
  have e2 := mComp_of (vs := [v]) (g := mgName v) (t := yesT) hi (by rw [hw0]; exact key)
  rw [hb] at e2
  rw [e2]
  unfold runT
  rw [List.map_map]; rfl
theorem run_ok (sy : Sys) (row : List Int) (hl : row.length ≤ 1000) (hs : sy.a.length = sy.c.length) : C.mf_run_of [d sy, d row] = if pathB sy.c row = true then .ok (d (runT sy.a row)) [] else .exc "NotAllowed" [] [] := by
  have e := is_path_ok sy row hl
  unfold C.mf_run_of mDef C.mb_run_of
  rw [if_pos (by rfl)]
  simp only [List.map_cons, List.map_nil, List.replicate, List.cons_append, List.nil_append]
  cases hp : pathB sy.c row with
  | false =>
    rw [hp] at e
    simp only [mSeq, mAsg, mgName, mgTup, mgCons, mgNil, mExpr, mRet, mRetN, mIf, mNext, mBrk, mCont, mRaise, mRaiseP, ofP, ofPT, two, twoB, one, chT, trT, caP, consP, nilP, vP, cP, tupP, lstP, mkT0, mkT1, mkT2, mkT3, mkT4, mkL0, mkL1, mkL2, mkL3, mkL4, mkL5, mkL6, mCons, nilA, mApp, m2, mNew2, mRd, mMv, mTest, mAndT, mOrT, mNotT, mAndV, mOrV, mNotV, mIfV, andV, orV, notV, mCall, mArgs, takeIo, putIo, R.bind, List.set_cons_succ, List.set_cons_zero, List.getElem?_cons_succ, List.getElem?_cons_zero, Option.join_some, Option.bind_some, Option.map_some, Option.bind, only, asB, truB_bl, truB_int, if_true, yesT, noO, partO, asI, onI, frz_int, frz_str, frz_bl, frz_non, frz_enc, imm_int, imm_bl, imm_str, imm_non, Enc.im, outsOf, imm_tup, imms_nil, imms_cons, dEq_ii, dNe_ii, dPl_int, dPlF_int, dLen_lst, dLen_tup, dLen_fls, dLen_d, putIo, List.length_map, onIc, dLe, dLt, dGt, dGe, dSub, decide_true, decide_false, Bool.not_true, Bool.not_false, Bool.false_eq_true, if_false, Bool.and_self, Bool.and_false, Bool.and_true, Bool.false_and, Bool.true_and, e]
  | true =>
    rw [hp] at e
    have hin := pathB_inr hp
    have r := runC_ok sy row (s0 := [some (d sy), some (d row), none]) (S := fun x => [some (d sy), some (d row), some x]) (v := 2) (i := 0) (mi := mItems (mRd 1)) (s1 := [some (d sy), some (d row), none]) hl (fun x hx => by rw [hs]; exact hin x hx) (mItems_rd rfl rfl) (fun _ => rfl) (fun _ => rfl) rfl rfl (fun _ => rfl) (fun _ => rfl)
    have r2 := mTuple_lst r (by rw [List.length_map]; unfold runT; rw [List.length_map]; omega)
    simp only [mSeq, mAsg, mgName, mgTup, mgCons, mgNil, mExpr, mRet, mRetN, mIf, mNext, mBrk, mCont, mRaise, mRaiseP, ofP, ofPT, two, twoB, one, chT, trT, caP, consP, nilP, vP, cP, tupP, lstP, mkT0, mkT1, mkT2, mkT3, mkT4, mkL0, mkL1, mkL2, mkL3, mkL4, mkL5, mkL6, mCons, nilA, mApp, m2, mNew2, mRd, mMv, mTest, mAndT, mOrT, mNotT, mAndV, mOrV, mNotV, mIfV, andV, orV, notV, mCall, mArgs, takeIo, putIo, R.bind, List.set_cons_succ, List.set_cons_zero, List.getElem?_cons_succ, List.getElem?_cons_zero, Option.join_some, Option.bind_some, Option.map_some, Option.bind, only, asB, truB_bl, truB_int, if_true, yesT, noO, partO, asI, onI, frz_int, frz_str, frz_bl, frz_non, frz_enc, imm_int, imm_bl, imm_str, imm_non, Enc.im, outsOf, imm_tup, imms_nil, imms_cons, dEq_ii, dNe_ii, dPl_int, dPlF_int, dLen_lst, dLen_tup, dLen_fls, dLen_d, putIo, List.length_map, onIc, dLe, dLt, dGt, dGe, dSub, decide_true, decide_false, Bool.not_true, Bool.not_false, Bool.false_eq_true, if_false, Bool.and_self, Bool.and_false, Bool.and_true, Bool.false_and, Bool.true_and, e, r2]
    rfl
/-! ### the law's paths -/
theorem stepB_snoc (ms : List (List Int)) (x : Int) : ∀ (row : List Int) (o : Option Int), stepB ms o (row ++ [x]) = (stepB ms o row && inr ms.length x && (match (o.toList ++ row).getLast? with | none => true | some p => goes ms p x))
  | [], none => by simp [stepB]
  | [], some p => by simp [stepB]
  | y :: ys, none => by
    rw [List.cons_append]
    unfold stepB
    rw [stepB_snoc ms x ys (some y)]
    simp [Bool.and_assoc]
  | y :: ys, some p => by
    rw [List.cons_append]
    unfold stepB
    rw [stepB_snoc ms x ys (some y)]
    have e : (((some y : Option Int).toList) ++ ys).getLast? = ((some p : Option Int).toList ++ (y :: ys)).getLast? := by
      simp [List.getLast?_cons]
    rw [e]
    simp [Bool.and_assoc]
def lawP : Sl → RS := (mAsg (ofP (andV (vP 2) (andV (chain2 dLe dLt (cP (.int 0)) (two dIx (vP 1) (vP 3)) (caP dLen (consP (two dIx (vP 0) (cP (.int 0))) nilP))) (orV (two dEq (vP 3) (cP (.int 0))) (two dIn (two dIx (vP 1) (vP 3)) (two dIx (two dIx (vP 0) (cP (.int 2))) (two dIx (vP 1) (two dSub (vP 3) (cP (.int 1)))))))))) (mgName 2))
theorem lawP_ok (sy : Sys) (row : List Int) (hs : sy.a.length = sy.c.length) (k : Nat) (hk : k < row.length) : lawP [some (d sy), some (d row), some (.bl (stepB sy.c none (row.take k))), some (.int (k : Int))] = .nx [some (d sy), some (d row), some (.bl (stepB sy.c none (row.take (k + 1)))), some (.int (k : Int))] := by
  have et : row.take (k + 1) = row.take k ++ [row[k]] := by rw [List.take_succ, List.getElem?_eq_getElem hk]; rfl
  have e0 : dIx (d row) (.int (k : Int)) = some (.int row[k]) := by
    have := dIx_d row (k : Int) 0 (by omega) (by omega)
    rw [Int.toNat_natCast, List.getD_eq_getElem?_getD, List.getElem?_eq_getElem hk] at this
    exact this
  rw [et, stepB_snoc]
  unfold lawP
  cases h1 : stepB sy.c none (row.take k) with
  | false => simp only [mSeq, mAsg, mgName, mgTup, mgCons, mgNil, mExpr, mRet, mRetN, mIf, mNext, mBrk, mCont, mRaise, mRaiseP, ofP, ofPT, two, twoB, one, chT, trT, caP, consP, nilP, vP, cP, tupP, lstP, mkT0, mkT1, mkT2, mkT3, mkT4, mkL0, mkL1, mkL2, mkL3, mkL4, mkL5, mkL6, mCons, nilA, mApp, m2, mNew2, mRd, mMv, mTest, mAndT, mOrT, mNotT, mAndV, mOrV, mNotV, mIfV, andV, orV, notV, mCall, mArgs, takeIo, putIo, R.bind, List.set_cons_succ, List.set_cons_zero, List.getElem?_cons_succ, List.getElem?_cons_zero, Option.join_some, Option.bind_some, Option.map_some, Option.bind, only, asB, truB_bl, truB_int, if_true, yesT, noO, partO, asI, onI, frz_int, frz_str, frz_bl, frz_non, frz_enc, imm_int, imm_bl, imm_str, imm_non, Enc.im, outsOf, imm_tup, imms_nil, imms_cons, dEq_ii, dNe_ii, dPl_int, dPlF_int, dLen_lst, dLen_tup, dLen_fls, dLen_d, putIo, List.length_map, onIc, dLe, dLt, dGt, dGe, dSub, decide_true, decide_false, Bool.not_true, Bool.not_false, Bool.false_eq_true, if_false, Bool.and_self, Bool.and_false, Bool.and_true, Bool.false_and, Bool.true_and]
  | true =>
    by_cases h2 : (0 : Int) ≤ row[k]
    · by_cases h3 : row[k] < (sy.a.length : Int)
      · have hi : inr sy.c.length row[k] = true := inr_iff.mpr ⟨h2, by rw [← hs]; exact h3⟩
        by_cases h4 : k = 0
        · subst h4
          have e00 : dIx (d row) (.int 0) = some (.int row[0]) := e0
          simp only [mSeq, mAsg, mgName, mgTup, mgCons, mgNil, mExpr, mRet, mRetN, mIf, mNext, mBrk, mCont, mRaise, mRaiseP, ofP, ofPT, two, twoB, one, chT, trT, caP, consP, nilP, vP, cP, tupP, lstP, mkT0, mkT1, mkT2, mkT3, mkT4, mkL0, mkL1, mkL2, mkL3, mkL4, mkL5, mkL6, mCons, nilA, mApp, m2, mNew2, mRd, mMv, mTest, mAndT, mOrT, mNotT, mAndV, mOrV, mNotV, mIfV, andV, orV, notV, mCall, mArgs, takeIo, putIo, R.bind, List.set_cons_succ, List.set_cons_zero, List.getElem?_cons_succ, List.getElem?_cons_zero, Option.join_some, Option.bind_some, Option.map_some, Option.bind, only, asB, truB_bl, truB_int, if_true, yesT, noO, partO, asI, onI, frz_int, frz_str, frz_bl, frz_non, frz_enc, imm_int, imm_bl, imm_str, imm_non, Enc.im, outsOf, imm_tup, imms_nil, imms_cons, dEq_ii, dNe_ii, dPl_int, dPlF_int, dLen_lst, dLen_tup, dLen_fls, dLen_d, putIo, List.length_map, onIc, dLe, dLt, dGt, dGe, dSub, decide_true, decide_false, Bool.not_true, Bool.not_false, Bool.false_eq_true, if_false, Bool.and_self, Bool.and_false, Bool.and_true, Bool.false_and, Bool.true_and, e00, chain2, sys_ix0, h2, h3, hi, Int.natCast_zero, List.take_zero]
          simp
        · have hk1 : k - 1 < row.length := by omega
          have e1 : dIx (d row) (.int ((k : Int) - 1)) = some (.int row[k - 1]) := by
            have := dIx_d row ((k : Int) - 1) 0 (by omega) (by omega)
            rw [show ((k : Int) - 1).toNat = k - 1 by omega, List.getD_eq_getElem?_getD, List.getElem?_eq_getElem hk1] at this
            exact this
          have hp := stepB_inr (row.take k) none h1 row[k - 1] (by
            rw [List.mem_take_iff_getElem]
            exact ⟨k - 1, by omega, rfl⟩)
          have e2 := dIx_d sy.c row[k - 1] [] hp.1 hp.2
          have e3 : dIn (.int row[k]) (d (sy.c.getD (row[k - 1]).toNat [])) = some (.bl (goes sy.c row[k - 1] row[k])) := dIn_tup row[k] (sy.c.getD (row[k - 1]).toNat [])
          have hz : ¬ ((k : Int) = 0) := by omega
          have el : (row.take k).getLast? = some row[k - 1] := by
            rw [List.getLast?_eq_getElem?, List.length_take, Nat.min_eq_left (by omega), List.getElem?_take, if_pos (by omega), List.getElem?_eq_getElem hk1]
          simp only [mSeq, mAsg, mgName, mgTup, mgCons, mgNil, mExpr, mRet, mRetN, mIf, mNext, mBrk, mCont, mRaise, mRaiseP, ofP, ofPT, two, twoB, one, chT, trT, caP, consP, nilP, vP, cP, tupP, lstP, mkT0, mkT1, mkT2, mkT3, mkT4, mkL0, mkL1, mkL2, mkL3, mkL4, mkL5, mkL6, mCons, nilA, mApp, m2, mNew2, mRd, mMv, mTest, mAndT, mOrT, mNotT, mAndV, mOrV, mNotV, mIfV, andV, orV, notV, mCall, mArgs, takeIo, putIo, R.bind, List.set_cons_succ, List.set_cons_zero, List.getElem?_cons_succ, List.getElem?_cons_zero, Option.join_some, Option.bind_some, Option.map_some, Option.bind, only, asB, truB_bl, truB_int, if_true, yesT, noO, partO, asI, onI, frz_int, frz_str, frz_bl, frz_non, frz_enc, imm_int, imm_bl, imm_str, imm_non, Enc.im, outsOf, imm_tup, imms_nil, imms_cons, dEq_ii, dNe_ii, dPl_int, dPlF_int, dLen_lst, dLen_tup, dLen_fls, dLen_d, putIo, List.length_map, onIc, dLe, dLt, dGt, dGe, dSub, decide_true, decide_false, Bool.not_true, Bool.not_false, Bool.false_eq_true, if_false, Bool.and_self, Bool.and_false, Bool.and_true, Bool.false_and, Bool.true_and, e0, e1, chain2, sys_ix0, sys_ix2, h2, h3, hi, hz, e2, e3]
          simp [el]
      · have hi : inr sy.c.length row[k] = false := by
          unfold inr
          rw [hs] at h3
          simp [h3]
        simp only [mSeq, mAsg, mgName, mgTup, mgCons, mgNil, mExpr, mRet, mRetN, mIf, mNext, mBrk, mCont, mRaise, mRaiseP, ofP, ofPT, two, twoB, one, chT, trT, caP, consP, nilP, vP, cP, tupP, lstP, mkT0, mkT1, mkT2, mkT3, mkT4, mkL0, mkL1, mkL2, mkL3, mkL4, mkL5, mkL6, mCons, nilA, mApp, m2, mNew2, mRd, mMv, mTest, mAndT, mOrT, mNotT, mAndV, mOrV, mNotV, mIfV, andV, orV, notV, mCall, mArgs, takeIo, putIo, R.bind, List.set_cons_succ, List.set_cons_zero, List.getElem?_cons_succ, List.getElem?_cons_zero, Option.join_some, Option.bind_some, Option.map_some, Option.bind, only, asB, truB_bl, truB_int, if_true, yesT, noO, partO, asI, onI, frz_int, frz_str, frz_bl, frz_non, frz_enc, imm_int, imm_bl, imm_str, imm_non, Enc.im, outsOf, imm_tup, imms_nil, imms_cons, dEq_ii, dNe_ii, dPl_int, dPlF_int, dLen_lst, dLen_tup, dLen_fls, dLen_d, putIo, List.length_map, onIc, dLe, dLt, dGt, dGe, dSub, decide_true, decide_false, Bool.not_true, Bool.not_false, Bool.false_eq_true, if_false, Bool.and_self, Bool.and_false, Bool.and_true, Bool.false_and, Bool.true_and, e0, chain2, sys_ix0, h2, h3, hi]
    · have hi : inr sy.c.length row[k] = false := by
        unfold inr
        simp [h2]
      simp only [mSeq, mAsg, mgName, mgTup, mgCons, mgNil, mExpr, mRet, mRetN, mIf, mNext, mBrk, mCont, mRaise, mRaiseP, ofP, ofPT, two, twoB, one, chT, trT, caP, consP, nilP, vP, cP, tupP, lstP, mkT0, mkT1, mkT2, mkT3, mkT4, mkL0, mkL1, mkL2, mkL3, mkL4, mkL5, mkL6, mCons, nilA, mApp, m2, mNew2, mRd, mMv, mTest, mAndT, mOrT, mNotT, mAndV, mOrV, mNotV, mIfV, andV, orV, notV, mCall, mArgs, takeIo, putIo, R.bind, List.set_cons_succ, List.set_cons_zero, List.getElem?_cons_succ, List.getElem?_cons_zero, Option.join_some, Option.bind_some, Option.map_some, Option.bind, only, asB, truB_bl, truB_int, if_true, yesT, noO, partO, asI, onI, frz_int, frz_str, frz_bl, frz_non, frz_enc, imm_int, imm_bl, imm_str, imm_non, Enc.im, outsOf, imm_tup, imms_nil, imms_cons, dEq_ii, dNe_ii, dPl_int, dPlF_int, dLen_lst, dLen_tup, dLen_fls, dLen_d, putIo, List.length_map, onIc, dLe, dLt, dGt, dGe, dSub, decide_true, decide_false, Bool.not_true, Bool.not_false, Bool.false_eq_true, if_false, Bool.and_self, Bool.and_false, Bool.and_true, Bool.false_and, Bool.true_and, e0, chain2, sys_ix0, h2, hi]
theorem law_path_ok (sy : Sys) (row : List Int) (hl : row.length ≤ 1000) (hs : sy.a.length = sy.c.length) : C.mf__law_is_path [d sy, d row] = .ok (.bl (pathB sy.c row)) [] := by
  have start : mAsg (ofP (two dGt (caP dLen (consP (vP 1) nilP)) (cP (.int 0)))) (mgName 2) [some (d sy), some (d row), none, none] = .nx [some (d sy), some (d row), some (.bl (decide ((0 : Int) < (row.length : Int)))), none] := by
    simp only [mSeq, mAsg, mgName, mgTup, mgCons, mgNil, mExpr, mRet, mRetN, mIf, mNext, mBrk, mCont, mRaise, mRaiseP, ofP, ofPT, two, twoB, one, chT, trT, caP, consP, nilP, vP, cP, tupP, lstP, mkT0, mkT1, mkT2, mkT3, mkT4, mkL0, mkL1, mkL2, mkL3, mkL4, mkL5, mkL6, mCons, nilA, mApp, m2, mNew2, mRd, mMv, mTest, mAndT, mOrT, mNotT, mAndV, mOrV, mNotV, mIfV, andV, orV, notV, mCall, mArgs, takeIo, putIo, R.bind, List.set_cons_succ, List.set_cons_zero, List.getElem?_cons_succ, List.getElem?_cons_zero, Option.join_some, Option.bind_some, Option.map_some, Option.bind, only, asB, truB_bl, truB_int, if_true, yesT, noO, partO, asI, onI, frz_int, frz_str, frz_bl, frz_non, frz_enc, imm_int, imm_bl, imm_str, imm_non, Enc.im, outsOf, imm_tup, imms_nil, imms_cons, dEq_ii, dNe_ii, dPl_int, dPlF_int, dLen_lst, dLen_tup, dLen_fls, dLen_d, putIo, List.length_map, onIc, dLe, dLt, dGt, dGe, dSub, decide_true, decide_false, Bool.not_true, Bool.not_false, Bool.false_eq_true, if_false, Bool.and_self, Bool.and_false, Bool.and_true, Bool.false_and, Bool.true_and]
  have body : ∃ o, mFor (mRange (mCons (ofP (caP dLen (consP (vP 1) nilP))) nilA)) (mgName 3) lawP [some (d sy), some (d row), some (.bl (decide ((0 : Int) < (row.length : Int)))), none] = .nx [some (d sy), some (d row), some (.bl (pathB sy.c row)), o] := by
    by_cases hr : row = []
    · subst hr
      exact ⟨none, rfl⟩
    have hp : (0 : Int) < (row.length : Int) := by have := List.length_pos_iff.mpr hr; omega
    rw [mFor_rangeN (s1 := [some (d sy), some (d row), some (.bl (decide ((0 : Int) < (row.length : Int)))), none]) (n := row.length) (by simp only [mSeq, mAsg, mgName, mgTup, mgCons, mgNil, mExpr, mRet, mRetN, mIf, mNext, mBrk, mCont, mRaise, mRaiseP, ofP, ofPT, two, twoB, one, chT, trT, caP, consP, nilP, vP, cP, tupP, lstP, mkT0, mkT1, mkT2, mkT3, mkT4, mkL0, mkL1, mkL2, mkL3, mkL4, mkL5, mkL6, mCons, nilA, mApp, m2, mNew2, mRd, mMv, mTest, mAndT, mOrT, mNotT, mAndV, mOrV, mNotV, mIfV, andV, orV, notV, mCall, mArgs, takeIo, putIo, R.bind, List.set_cons_succ, List.set_cons_zero, List.getElem?_cons_succ, List.getElem?_cons_zero, Option.join_some, Option.bind_some, Option.map_some, Option.bind, only, asB, truB_bl, truB_int, if_true, yesT, noO, partO, asI, onI, frz_int, frz_str, frz_bl, frz_non, frz_enc, imm_int, imm_bl, imm_str, imm_non, Enc.im, outsOf, imm_tup, imms_nil, imms_cons, dEq_ii, dNe_ii, dPl_int, dPlF_int, dLen_lst, dLen_tup, dLen_fls, dLen_d, putIo, List.length_map, onIc, dLe, dLt, dGt, dGe, dSub, decide_true, decide_false, Bool.not_true, Bool.not_false, Bool.false_eq_true, if_false, Bool.and_self, Bool.and_false, Bool.and_true, Bool.false_and, Bool.true_and]) (by omega)]
    refine loop_list (P := fun r => ∃ o, r = .nx [some (d sy), some (d row), some (.bl (pathB sy.c row)), o]) (fun i s => ∃ o, s = [some (d sy), some (d row), some (.bl (stepB sy.c none (row.take i))), o]) ?_ ?_ ⟨none, by rw [decide_eq_true hp]; rfl⟩
    · rintro i dd s hd ⟨o, rfl⟩
      rw [List.getElem?_map] at hd
      obtain ⟨k, hk, rfl⟩ := Option.map_eq_some_iff.mp hd
      have hi := (List.getElem?_eq_some_iff.mp hk).1
      rw [upto_len] at hi
      have ek : k = (i : Int) := by
        unfold upto at hk
        rw [List.getElem?_map, List.getElem?_range hi] at hk
        exact (Option.some.inj hk).symm
      subst ek
      refine ⟨_, rfl, ?_⟩
      have e := lawP_ok sy row hs i hi
      simp only [List.set_cons_succ, List.set_cons_zero, d_int]
      rw [e]
      exact ⟨_, rfl⟩
    · rintro s ⟨o, rfl⟩
      refine ⟨o, ?_⟩
      rw [List.length_map, upto_len, List.take_length]
      unfold pathB
      rw [decide_eq_true hr, Bool.true_and]
  obtain ⟨o, body⟩ := body
  unfold C.mf__law_is_path mDef C.mb__law_is_path
  rw [if_pos (by rfl)]
  simp only [List.map_cons, List.map_nil, List.replicate, List.cons_append, List.nil_append]
  rw [mSeq, start]
  dsimp only
  rw [mSeq]
  unfold lawP at body
  rw [body]
  simp only [mSeq, mAsg, mgName, mgTup, mgCons, mgNil, mExpr, mRet, mRetN, mIf, mNext, mBrk, mCont, mRaise, mRaiseP, ofP, ofPT, two, twoB, one, chT, trT, caP, consP, nilP, vP, cP, tupP, lstP, mkT0, mkT1, mkT2, mkT3, mkT4, mkL0, mkL1, mkL2, mkL3, mkL4, mkL5, mkL6, mCons, nilA, mApp, m2, mNew2, mRd, mMv, mTest, mAndT, mOrT, mNotT, mAndV, mOrV, mNotV, mIfV, andV, orV, notV, mCall, mArgs, takeIo, putIo, R.bind, List.set_cons_succ, List.set_cons_zero, List.getElem?_cons_succ, List.getElem?_cons_zero, Option.join_some, Option.bind_some, Option.map_some, Option.bind, only, asB, truB_bl, truB_int, if_true, yesT, noO, partO, asI, onI, frz_int, frz_str, frz_bl, frz_non, frz_enc, imm_int, imm_bl, imm_str, imm_non, Enc.im, outsOf, imm_tup, imms_nil, imms_cons, dEq_ii, dNe_ii, dPl_int, dPlF_int, dLen_lst, dLen_tup, dLen_fls, dLen_d, putIo, List.length_map, onIc, dLe, dLt, dGt, dGe, dSub, decide_true, decide_false, Bool.not_true, Bool.not_false, Bool.false_eq_true, if_false, Bool.and_self, Bool.and_false, Bool.and_true, Bool.false_and, Bool.true_and]
end Sim

namespace Sim
open PySem PySem.Spec PyProof.Rows L2
open Enc

theorem dSl_upto {α : Type} [DecidableEq α] [Enc α] (xs : List α) (k : Nat) : dSl (d xs) none (some (k : Int)) = some (d (xs.take k)) := by
  show (if imms (xs.map d) = true then some (D.tup (cutD (xs.map d) none (some (k : Int)))) else none) = _
  rw [imms_enc, if_pos rfl, cutD_upto]; rfl
theorem dSl_from {α : Type} [DecidableEq α] [Enc α] (xs : List α) (k : Nat) : dSl (d xs) (some (k : Int)) none = some (d (xs.drop k)) := by
  show (if imms (xs.map d) = true then some (D.tup (cutD (xs.map d) (some (k : Int)) none)) else none) = _
  rw [imms_enc, if_pos rfl, cutD_from]; rfl
theorem dSl_last {α : Type} [DecidableEq α] [Enc α] (xs : List α) : dSl (d xs) (some (-1)) none = some (d (xs.drop (xs.length - 1))) := by
  show (if imms (xs.map d) = true then some (D.tup (cutD (xs.map d) (some (-1)) none)) else none) = _
  rw [imms_enc, if_pos rfl, cutD_last]; rfl
theorem dPlF_d {α : Type} [DecidableEq α] [Enc α] (xs ys : List α) (h : xs.length + ys.length ≤ 1000000) : dPlF (d xs) (d ys) = some (d (xs ++ ys)) := by
  have := dPlF_tup (xs := xs.map d) (ys := ys.map d) (by rw [List.length_map, List.length_map]; exact h) (imms_enc xs) (imms_enc ys)
  rw [← List.map_append] at this
  exact this
theorem dPlF_lists {α : Type} [DecidableEq α] [Enc α] (xs ys : List α) (h : xs.length + ys.length ≤ 1000000) : dPlF (.fls (xs.map d)) (.lst (ys.map d)) = some (.lst ((xs ++ ys).map d)) := by
  have := dPlF_lst (.fls (xs.map d)) (xs.map d) (ys.map d) (.inr rfl) (.lst (ys.map d)) (.inl rfl) (by rw [List.length_map, List.length_map]; exact h) (imms_enc xs) (imms_enc ys)
  rw [← List.map_append] at this
  exact this
/-- xs[:k] + (y,) + xs[k + 1:] -/
def putAt {α : Type} (xs : List α) (k : Nat) (y : α) : List α := xs.take k ++ [y] ++ xs.drop (k + 1)
theorem putAt_len {α : Type} (xs : List α) (k : Nat) (y : α) (h : k < xs.length) : (putAt xs k y).length = xs.length := by
  unfold putAt
  rw [List.length_append, List.length_append, List.length_take, List.length_drop, List.length_singleton]
  omega
theorem putAt_mem {α : Type} (xs : List α) (k : Nat) (y : α) : y ∈ putAt xs k y := by simp [putAt]
def putM (i j : Nat) (my : Sl → R D) : Sl → R D := m2 dPlF (m2 dPlF (mSl (vP i) noO (partO (vP j))) my) (mSl (vP i) (partO (two dPl (vP j) (cP (.int 1)))) noO)
theorem put_ok {α : Type} [DecidableEq α] [Enc α] {xs : List α} {i j : Nat} {k : Nat} {y : D} {my : Sl → R D} {s : Sl} {yv : α} (hx : s[i]?.join = some (d xs)) (hk : s[j]?.join = some (.int (k : Int))) (hl : xs.length ≤ 1000) (hkl : k ≤ xs.length) (hy : my s = .ok y s) (he : y = d [yv]) :
    putM i j my s = .ok (d (putAt xs k yv)) s := by
  subst he
  unfold putM
  have h1 := dSl_upto xs k
  have h2 := dSl_from xs (k + 1)
  rw [show (((k + 1 : Nat)) : Int) = (k : Int) + 1 by omega] at h2
  have h3 := dPlF_d (xs.take k) [yv] (by rw [List.length_take]; simp; omega)
  have h4 := dPlF_d (xs.take k ++ [yv]) (xs.drop (k + 1)) (by rw [List.length_append, List.length_take, List.length_drop]; simp; omega)
  unfold putAt
  simp only [mSeq, mAsg, mgName, mgTup, mgCons, mgNil, mExpr, mRet, mRetN, mIf, mNext, mBrk, mCont, mRaise, mRaiseP, ofP, ofPT, two, twoB, one, chT, trT, caP, consP, nilP, vP, cP, tupP, lstP, mkT0, mkT1, mkT2, mkT3, mkT4, mkL0, mkL1, mkL2, mkL3, mkL4, mkL5, mkL6, mCons, nilA, mApp, m2, mNew2, mRd, mMv, mTest, mAndT, mOrT, mNotT, mAndV, mOrV, mNotV, mIfV, andV, orV, notV, mCall, mArgs, takeIo, putIo, R.bind, List.set_cons_succ, List.set_cons_zero, List.getElem?_cons_succ, List.getElem?_cons_zero, Option.join_some, Option.bind_some, Option.map_some, Option.bind, only, asB, truB_bl, truB_int, if_true, yesT, noO, partO, asI, onI, frz_int, frz_str, frz_bl, frz_non, frz_enc, imm_int, imm_bl, imm_str, imm_non, Enc.im, outsOf, imm_tup, imms_nil, imms_cons, dEq_ii, dNe_ii, dPl_int, dPlF_int, dLen_lst, dLen_tup, dLen_fls, dLen_d, putIo, List.length_map, onIc, dLe, dLt, dGt, dGe, dSub, decide_true, decide_false, Bool.not_true, Bool.not_false, Bool.false_eq_true, if_false, Bool.and_self, Bool.and_false, Bool.and_true, Bool.false_and, Bool.true_and, mSl, hx, hk, h1, h2, h3, h4, hy]
theorem filter_of_sub {ws sc : List Wd} (hn : ws.Nodup) (h : sc.Sublist ws) : (ws.filter fun w => decide (w ∈ sc)) = sc := by
  induction h with
  | slnil => rfl
  | @cons l1 l2 a h ih =>
    have hn' := List.nodup_cons.mp hn
    have ha : a ∉ l1 := fun hm => hn'.1 (h.subset hm)
    rw [List.filter_cons, if_neg (by simpa using ha)]
    exact ih hn'.2
  | @cons_cons l1 l2 a h ih =>
    have hn' := List.nodup_cons.mp hn
    rw [List.filter_cons, if_pos (by simp)]
    congr 1
    have e : (l2.filter fun w => decide (w ∈ a :: l1)) = l2.filter fun w => decide (w ∈ l1) := by
      apply List.filter_congr
      intro x hx
      have : x ≠ a := fun e => hn'.1 (e ▸ hx)
      simp [this]
    rw [e]
    exact ih hn'.2
theorem seq_nx {m n : Sl → RS} {s s1 : Sl} (h : m s = .nx s1) : mSeq m n s = n s1 := by unfold mSeq; rw [h]
theorem getD_mem {α : Type} {xs : List α} {i : Nat} {z : α} (h : i < xs.length) : xs.getD i z ∈ xs := by
  rw [List.getD_eq_getElem?_getD, List.getElem?_eq_getElem h]
  exact List.getElem_mem h
theorem wt_wd (x : Wd) : wt x = 50 := rfl
theorem wt_int (x : Int) : wt x = 50 := rfl
theorem wts_eq {α : Type} [DecidableEq α] [Enc α] (xs : List α) : wt xs = wts xs := rfl
theorem sm_scene {ws : List Wd} (ht : Taken ws) {sc : List Wd} (h : sc.Sublist ws) : sm sc := fun w hw => by
  obtain ⟨j, hj⟩ := List.getElem?_of_mem (h.subset hw)
  have := (ht j w hj).1.2.1
  show w.1.length ≤ 50
  omega
theorem wt_scene {ws : List Wd} (hl : ws.length ≤ 3) {sc : List Wd} (h : sc.Sublist ws) : wt sc ≤ 160 := by
  rw [wts_eq]
  have := wts_le (B := 50) sc fun x _ => Nat.le_of_eq (wt_wd x)
  have := h.length_le
  have : sc.length * (50 + 1) ≤ 3 * 51 := Nat.mul_le_mul (by omega) (Nat.le_refl _)
  omega

/-! ### a text, or a tuple of texts -/
inductive At where
  | w (x : Wd)
  | s (xs : List Wd)
deriving DecidableEq
instance : Enc At where
  d a := match a with
    | .w x => d x
    | .s x => d x
  p a := match a with
    | .w x => p x
    | .s x => p x
  hp a := by cases a <;> exact hp _
  lay a := by cases a <;> exact lay _
  dep := 1
  hdep a := by
    cases a with
    | w x => exact Nat.le_trans (hdep x) (by decide)
    | s x => exact hdep x
  eqv a b := by
    cases a with
    | w x => cases b with
      | w y => exact (eqv x y).trans (by rw [decide_eq_decide]; exact ⟨fun h => by rw [h], fun h => by injection h⟩)
      | s y =>
        show PyData.eqv (.str x.1) (.tuple (y.map p)) = _
        rw [decide_eq_false (fun h => by cases h)]
        unfold PyData.eqv; rfl
    | s x => cases b with
      | w y =>
        show PyData.eqv (.tuple (x.map p)) (.str y.1) = _
        rw [decide_eq_false (fun h => by cases h)]
        unfold PyData.eqv; rfl
      | s y => exact (eqv x y).trans (by rw [decide_eq_decide]; exact ⟨fun h => by rw [h], fun h => by injection h⟩)
  im a := by cases a <;> exact im _
  nx a := by cases a <;> exact nx _
  sm a := match a with
    | .w x => sm x
    | .s x => sm x
  wt a := match a with
    | .w x => wt x
    | .s x => wt x
  hsm a h := by
    cases a with
    | w x => exact hsm x h
    | s x => exact hsm x h
  one _ _ := trivial
theorem d_w (x : Wd) : d (At.w x) = d x := rfl
theorem d_s (x : List Wd) : d (At.s x) = d x := rfl
/-! ### all scenes -/
def scsF : List Wd → List (List Wd) → List (List Wd)
  | [], f => f
  | w :: ws, f => scsF ws (f ++ f.map fun a => a ++ [w])
def scs (ws : List Wd) : List (List Wd) := scsF ws [[]]
theorem scsF_len : ∀ (ws : List Wd) (f : List (List Wd)), (scsF ws f).length = f.length * 2 ^ ws.length
  | [], f => by simp [scsF]
  | w :: ws, f => by
    unfold scsF
    rw [scsF_len ws, List.length_append, List.length_map, List.length_cons, Nat.pow_succ, ← Nat.two_mul, Nat.mul_comm 2 f.length, Nat.mul_assoc, Nat.mul_comm 2]
theorem mem_scsF : ∀ (ws : List Wd) (f : List (List Wd)) (x : List Wd), x ∈ scsF ws f ↔ ∃ a ∈ f, ∃ t, t.Sublist ws ∧ x = a ++ t
  | [], f, x => by
    unfold scsF
    constructor
    · exact fun h => ⟨x, h, [], List.Sublist.refl _, by simp⟩
    · rintro ⟨a, ha, t, ht, rfl⟩
      rw [List.sublist_nil.mp ht, List.append_nil]; exact ha
  | w :: ws, f, x => by
    unfold scsF
    rw [mem_scsF ws]
    constructor
    · rintro ⟨a, ha, t, ht, rfl⟩
      rcases List.mem_append.mp ha with ha | ha
      · exact ⟨a, ha, t, ht.trans (List.sublist_cons_self _ _), rfl⟩
      · obtain ⟨b, hb, rfl⟩ := List.mem_map.mp ha
        exact ⟨b, hb, w :: t, ht.cons_cons _, by simp⟩
    · rintro ⟨a, ha, t, ht, rfl⟩
      cases ht with
      | cons _ ht => exact ⟨a, List.mem_append_left _ ha, t, ht, rfl⟩
      | cons_cons _ ht =>
        rename_i t
        exact ⟨a ++ [w], List.mem_append_right _ (List.mem_map.mpr ⟨a, ha, rfl⟩), t, ht, by simp⟩
theorem mem_scs {ws : List Wd} (hn : ws.Nodup) (x : List Wd) : x ∈ scs ws ↔ x = ws.filter fun w => decide (w ∈ x) := by
  unfold scs
  rw [mem_scsF]
  constructor
  · rintro ⟨a, ha, t, ht, rfl⟩
    have : a = [] := by simpa using ha
    subst this
    rw [List.nil_append]
    exact (filter_of_sub hn ht).symm
  · intro h
    exact ⟨[], by simp, x, by rw [h]; exact List.filter_sublist, by simp⟩
theorem scs_len {ws : List Wd} (h : ws.length ≤ 3) : (scs ws).length ≤ 8 := by
  unfold scs
  rw [scsF_len]
  have : 2 ^ ws.length ≤ 2 ^ 3 := Nat.pow_le_pow_right (by decide) h
  simpa using this
def scB : Sl → RS := (mAsg (m2 dPlF (mRd 1) (mComp (mItems (mRd 1)) [3] (mgName 3) yesT (mNew2 dPlF (vP 3) (tupP (consP (vP 2) nilP))))) (mgName 1))
theorem mItems_seq {i : Nat} {s s1 : Sl} {α : Type} [DecidableEq α] [Enc α] {xs : List α} (h : mRd i s = .ok (.fls (xs.map d)) s1) : mItems (mRd i) s = .ok (xs.map d) s1 := by
  unfold mItems
  rw [h]
  show (match itemsOf (frz (.fls (xs.map d))) with | some ds => R.ok ds s1 | none => .stuck) = _
  rw [frz_fls]; rfl
theorem scB_ok {a : D} {w : Wd} {f : List (List Wd)} (hf : f.length ≤ 100000) (hx : ∀ x ∈ f, x.length ≤ 1000) : scB [some a, some (.lst (f.map d)), some (d w), none] = .nx [some a, some (.lst ((f ++ f.map fun a => a ++ [w]).map d)), some (d w), none] := by
  have e0 : mRd 1 [some a, some (.lst (f.map d)), some (d w), none] = .ok (.fls (f.map d)) [some a, some (.fls (f.map d)), some (d w), none] := by simp only [mSeq, mAsg, mgName, mgTup, mgCons, mgNil, mExpr, mRet, mRetN, mIf, mNext, mBrk, mCont, mRaise, mRaiseP, ofP, ofPT, two, twoB, one, chT, trT, caP, consP, nilP, vP, cP, tupP, lstP, mkT0, mkT1, mkT2, mkT3, mkT4, mkL0, mkL1, mkL2, mkL3, mkL4, mkL5, mkL6, mCons, nilA, mApp, m2, mNew2, mRd, mMv, mTest, mAndT, mOrT, mNotT, mAndV, mOrV, mNotV, mIfV, andV, orV, notV, mCall, mArgs, takeIo, putIo, R.bind, List.set_cons_succ, List.set_cons_zero, List.getElem?_cons_succ, List.getElem?_cons_zero, Option.join_some, Option.bind_some, Option.map_some, Option.bind, only, asB, truB_bl, truB_int, if_true, yesT, noO, partO, asI, onI, frz_int, frz_str, frz_bl, frz_non, frz_enc, imm_int, imm_bl, imm_str, imm_non, Enc.im, outsOf, frz_lst]
  have e1 : mRd 1 [some a, some (.fls (f.map d)), some (d w), none] = .ok (.fls (f.map d)) [some a, some (.fls (f.map d)), some (d w), none] := by simp only [mSeq, mAsg, mgName, mgTup, mgCons, mgNil, mExpr, mRet, mRetN, mIf, mNext, mBrk, mCont, mRaise, mRaiseP, ofP, ofPT, two, twoB, one, chT, trT, caP, consP, nilP, vP, cP, tupP, lstP, mkT0, mkT1, mkT2, mkT3, mkT4, mkL0, mkL1, mkL2, mkL3, mkL4, mkL5, mkL6, mCons, nilA, mApp, m2, mNew2, mRd, mMv, mTest, mAndT, mOrT, mNotT, mAndV, mOrV, mNotV, mIfV, andV, orV, notV, mCall, mArgs, takeIo, putIo, R.bind, List.set_cons_succ, List.set_cons_zero, List.getElem?_cons_succ, List.getElem?_cons_zero, Option.join_some, Option.bind_some, Option.map_some, Option.bind, only, asB, truB_bl, truB_int, if_true, yesT, noO, partO, asI, onI, frz_int, frz_str, frz_bl, frz_non, frz_enc, imm_int, imm_bl, imm_str, imm_non, Enc.im, outsOf, frz_fls]
  have key := comp_pure (f := (d : List Wd → D)) (vs := [3]) (g := mgName 3) (t := yesT) (m := mNew2 dPlF (vP 3) (tupP (consP (vP 2) nilP))) (s := [some a, some (.fls (f.map d)), some (d w), none]) (fun _ => true) (fun x => d (x ++ [w])) f [] (fun x hm => by
    have hlx : dPlF (d x) (.tup [d w]) = some (d (x ++ [w])) := dPlF_d x [w] (by have := hx x hm; simp; omega)
    refine ⟨[some a, some (.fls (f.map d)), some (d w), some (d x)], rfl, rfl, rfl, fun _ => ⟨[some a, some (.fls (f.map d)), some (d w), some (d x)], ?_, rfl⟩⟩
    simp only [mSeq, mAsg, mgName, mgTup, mgCons, mgNil, mExpr, mRet, mRetN, mIf, mNext, mBrk, mCont, mRaise, mRaiseP, ofP, ofPT, two, twoB, one, chT, trT, caP, consP, nilP, vP, cP, tupP, lstP, mkT0, mkT1, mkT2, mkT3, mkT4, mkL0, mkL1, mkL2, mkL3, mkL4, mkL5, mkL6, mCons, nilA, mApp, m2, mNew2, mRd, mMv, mTest, mAndT, mOrT, mNotT, mAndV, mOrV, mNotV, mIfV, andV, orV, notV, mCall, mArgs, takeIo, putIo, R.bind, List.set_cons_succ, List.set_cons_zero, List.getElem?_cons_succ, List.getElem?_cons_zero, Option.join_some, Option.bind_some, Option.map_some, Option.bind, only, asB, truB_bl, truB_int, if_true, yesT, noO, partO, asI, onI, frz_int, frz_str, frz_bl, frz_non, frz_enc, imm_int, imm_bl, imm_str, imm_non, Enc.im, outsOf, imm_tup, imms_nil, imms_cons, dEq_ii, dNe_ii, dPl_int, dPlF_int, dLen_lst, dLen_tup, dLen_fls, dLen_d, putIo, List.length_map, onIc, dLe, dLt, dGt, dGe, dSub, decide_true, decide_false, Bool.not_true, Bool.not_false, Bool.false_eq_true, if_false, Bool.and_self, Bool.and_false, Bool.and_true, Bool.false_and, Bool.true_and, hlx]) (by simp; omega)
  rw [List.nil_append, show (f.filter fun _ => true) = f from List.filter_eq_self.mpr fun _ _ => rfl] at key
  have e2 := mComp_of (mItems_seq e1) (t := yesT) (m := mNew2 dPlF (vP 3) (tupP (consP (vP 2) nilP))) (vs := [3]) (g := mgName 3) key
  have e3 : f.map (fun x => d (x ++ [w])) = (f.map fun a => a ++ [w]).map d := by rw [List.map_map]; rfl
  rw [e3] at e2
  have e4 := dPlF_lists f (f.map fun a => a ++ [w]) (by rw [List.length_map]; omega)
  unfold scB mAsg m2
  rw [e0]
  simp only [R.bind]
  rw [e2]
  dsimp only
  rw [e4]
  rfl
theorem scenes_loop {a : D} : ∀ (ws : List Wd) (f : List (List Wd)) (o : Option D), f.length * 2 ^ ws.length ≤ 1000 → (∀ x ∈ f, x.length + ws.length ≤ 1000) → ∃ o', mLoop (mgName 2) scB (ws.map d) [some a, some (.lst (f.map d)), o, none] = .nx [some a, some (.lst ((scsF ws f).map d)), o', none]
  | [], f, o, _, _ => ⟨o, rfl⟩
  | w :: ws, f, o, h1, h2 => by
    rw [List.length_cons, Nat.pow_succ] at h1
    have h0 : f.length * 1 ≤ f.length * (2 ^ ws.length * 2) := Nat.mul_le_mul (Nat.le_refl _) (by have := Nat.one_le_two_pow (n := ws.length); omega)
    have e := scB_ok (a := a) (w := w) (f := f) (by omega) (fun x hx => by have := h2 x hx; omega)
    obtain ⟨o', e'⟩ := scenes_loop (a := a) ws (f ++ f.map fun a => a ++ [w]) (some (d w)) (by
      rw [List.length_append, List.length_map, ← Nat.two_mul, Nat.mul_comm 2, Nat.mul_assoc, Nat.mul_comm 2]; exact h1) (fun x hx => by
      rcases List.mem_append.mp hx with hx | hx
      · have := h2 x hx
        rw [List.length_cons] at this
        omega
      · obtain ⟨y, hy, rfl⟩ := List.mem_map.mp hx
        have := h2 y hy
        rw [List.length_cons] at this
        rw [List.length_append, List.length_singleton]
        omega)
    refine ⟨o', ?_⟩
    rw [List.map_cons]
    unfold mLoop
    simp only [mgName, List.set_cons_succ, List.set_cons_zero]
    rw [e]
    exact e'
theorem scenes_ok (ws : List Wd) (h : ws.length ≤ 3) : C.mf__law_scenes [d ws] = .ok (d (scs ws)) [] := by
  have hp : 2 ^ ws.length ≤ 2 ^ 3 := Nat.pow_le_pow_right (by decide) h
  obtain ⟨o, e⟩ := scenes_loop (a := d ws) ws [[]] none (by simp; omega) (fun x hx => by
    have : x = [] := by simpa using hx
    subst this; simp; omega)
  have e1 : mItems (mRd 0) [some (d ws), some (.lst [.tup []]), none, none] = .ok (ws.map d) [some (d ws), some (.lst [.tup []]), none, none] := mItems_rd rfl rfl
  have e2 : mFor (mItems (mRd 0)) (mgName 2) scB [some (d ws), some (.lst [.tup []]), none, none] = .nx [some (d ws), some (.lst ((scs ws).map d)), o, none] := by
    unfold mFor
    rw [e1]
    exact e
  have e3 : mTuple (mRd 1) [some (d ws), some (.lst ((scs ws).map d)), o, none] = .ok (d (scs ws)) [some (d ws), some (.fls ((scs ws).map d)), o, none] :=
    mTuple_fls (by simp only [mSeq, mAsg, mgName, mgTup, mgCons, mgNil, mExpr, mRet, mRetN, mIf, mNext, mBrk, mCont, mRaise, mRaiseP, ofP, ofPT, two, twoB, one, chT, trT, caP, consP, nilP, vP, cP, tupP, lstP, mkT0, mkT1, mkT2, mkT3, mkT4, mkL0, mkL1, mkL2, mkL3, mkL4, mkL5, mkL6, mCons, nilA, mApp, m2, mNew2, mRd, mMv, mTest, mAndT, mOrT, mNotT, mAndV, mOrV, mNotV, mIfV, andV, orV, notV, mCall, mArgs, takeIo, putIo, R.bind, List.set_cons_succ, List.set_cons_zero, List.getElem?_cons_succ, List.getElem?_cons_zero, Option.join_some, Option.bind_some, Option.map_some, Option.bind, only, asB, truB_bl, truB_int, if_true, yesT, noO, partO, asI, onI, frz_int, frz_str, frz_bl, frz_non, frz_enc, imm_int, imm_bl, imm_str, imm_non, Enc.im, outsOf, frz_lst]) trivial
  unfold C.mf__law_scenes mDef
  rw [show C.mb__law_scenes = mSeq (mAsg (mApp mkLst (mCons (ofP (tupP nilP)) nilA)) (mgName 1)) (mSeq (mFor (mItems (mRd 0)) (mgName 2) scB) (mRet (mTuple (mRd 1)))) from rfl, if_pos (by rfl)]
  simp only [List.map_cons, List.map_nil, List.replicate, List.cons_append, List.nil_append]
  have t1 : mAsg (mApp mkLst (mCons (ofP (tupP nilP)) nilA)) (mgName 1) [some (d ws), none, none, none] = .nx [some (d ws), some (.lst [.tup []]), none, none] := by simp only [mSeq, mAsg, mgName, mgTup, mgCons, mgNil, mExpr, mRet, mRetN, mIf, mNext, mBrk, mCont, mRaise, mRaiseP, ofP, ofPT, two, twoB, one, chT, trT, caP, consP, nilP, vP, cP, tupP, lstP, mkT0, mkT1, mkT2, mkT3, mkT4, mkL0, mkL1, mkL2, mkL3, mkL4, mkL5, mkL6, mCons, nilA, mApp, m2, mNew2, mRd, mMv, mTest, mAndT, mOrT, mNotT, mAndV, mOrV, mNotV, mIfV, andV, orV, notV, mCall, mArgs, takeIo, putIo, R.bind, List.set_cons_succ, List.set_cons_zero, List.getElem?_cons_succ, List.getElem?_cons_zero, Option.join_some, Option.bind_some, Option.map_some, Option.bind, only, asB, truB_bl, truB_int, if_true, yesT, noO, partO, asI, onI, frz_int, frz_str, frz_bl, frz_non, frz_enc, imm_int, imm_bl, imm_str, imm_non, Enc.im, outsOf, imm_tup, imms_nil, imms_cons, dEq_ii, dNe_ii, dPl_int, dPlF_int, dLen_lst, dLen_tup, dLen_fls, dLen_d, putIo, List.length_map, onIc, dLe, dLt, dGt, dGe, dSub, decide_true, decide_false, Bool.not_true, Bool.not_false, Bool.false_eq_true, if_false, Bool.and_self, Bool.and_false, Bool.and_true, Bool.false_and, Bool.true_and]
  rw [seq_nx t1, seq_nx e2, mRet, e3]
  rfl
/-! ### runs -/
def runB1 : Sl → RS := (mIf (mTest (m2 (only dEq) (mCall [0] C.mf__law_next [.io 0, .ex (ofP (cP (.int 3)))]) (ofP (cP (.int 0)))))
  (mAsg (mCall [0] C.mf__law_scene [.io 0, .ex (mRd 1)]) (mgName 4))
  mNext)
def runB2 : Sl → RS := (mExpr (mAppend 5 (mRd 4)))
def runL : Sl → RS := (mFor (mRange (mCons (mRd 2) nilA)) (mgName 3) (mSeq runB1 runB2))
def runI : Sl → RS := (mIf (mTest (m2 (only dGt) (mCall [0] C.mf__law_next [.io 0, .ex (ofP (cP (.int 3)))]) (ofP (cP (.int 0)))))
  (mRet (mTuple (mComp (mRange (mCons (mRd 2) nilA)) [3] (mgName 3) yesT (mCall [0] C.mf__law_scene [.io 0, .ex (mRd 1)]))))
  mNext)
theorem run_eq : C.mb__law_run = mSeq runI (mSeq (mAsg (mCall [0] C.mf__law_scene [.io 0, .ex (mRd 1)]) (mgName 4)) (mSeq (mAsg (mApp mkLst nilA) (mgName 5)) (mSeq runL (mRet (mTuple (mRd 5)))))) := rfl
theorem range_up {a : Sl → R D} {s s1 : Sl} {n : Nat} (h : a s = .ok (.int (n : Int)) s1) (hn : n ≤ 1000000) : mRange (mCons a nilA) s = .ok ((upto n).map d) s1 := mRange_int h hn
section
variable {ws : List Wd} {n : Nat} {x : D}
theorem sub_len {sc : List Wd} (h : sc.Sublist ws) : sc.length ≤ ws.length := h.length_le
theorem runB1_ok (h : Stm (n + 1 + ws.length) x) (hw : ws.length ≤ 1000) {a2 a3 a5 : Option D} {sc : List Wd} (hs : sc.Sublist ws) : ∃ (sc' : List Wd) (x' : D), sc'.Sublist ws ∧ Stm n x' ∧ runB1 [some x, some (d ws), a2, a3, some (d sc), a5] = .nx [some x', some (d ws), a2, a3, some (d sc'), a5] := by
  obtain ⟨v, x1, v0, v1, s1, e1⟩ := stm_next (n := n + ws.length) (h.less (by omega)) (m := 3) (by decide)
  obtain ⟨sc', x2, hs', s2, e2⟩ := scene_ok (n := n) (ws := ws) s1 hw
  have ev := dEq_ii v 0
  by_cases hv : v = 0
  · refine ⟨sc', x2, hs', s2, ?_⟩
    unfold runB1
    simp only [mSeq, mAsg, mgName, mgTup, mgCons, mgNil, mExpr, mRet, mRetN, mIf, mNext, mBrk, mCont, mRaise, mRaiseP, ofP, ofPT, two, twoB, one, chT, trT, caP, consP, nilP, vP, cP, tupP, lstP, mkT0, mkT1, mkT2, mkT3, mkT4, mkL0, mkL1, mkL2, mkL3, mkL4, mkL5, mkL6, mCons, nilA, mApp, m2, mNew2, mRd, mMv, mTest, mAndT, mOrT, mNotT, mAndV, mOrV, mNotV, mIfV, andV, orV, notV, mCall, mArgs, takeIo, putIo, R.bind, List.set_cons_succ, List.set_cons_zero, List.getElem?_cons_succ, List.getElem?_cons_zero, Option.join_some, Option.bind_some, Option.map_some, Option.bind, only, asB, truB_bl, truB_int, if_true, yesT, noO, partO, asI, onI, frz_int, frz_str, frz_bl, frz_non, frz_enc, imm_int, imm_bl, imm_str, imm_non, Enc.im, outsOf, imm_tup, imms_nil, imms_cons, dEq_ii, dNe_ii, dPl_int, dPlF_int, dLen_lst, dLen_tup, dLen_fls, dLen_d, putIo, List.length_map, onIc, dLe, dLt, dGt, dGe, dSub, decide_true, decide_false, Bool.not_true, Bool.not_false, Bool.false_eq_true, if_false, Bool.and_self, Bool.and_false, Bool.and_true, Bool.false_and, Bool.true_and, e1, e2, ev, decide_eq_true hv]
  · refine ⟨sc, x1, hs, s1.less (by omega), ?_⟩
    unfold runB1
    simp only [mSeq, mAsg, mgName, mgTup, mgCons, mgNil, mExpr, mRet, mRetN, mIf, mNext, mBrk, mCont, mRaise, mRaiseP, ofP, ofPT, two, twoB, one, chT, trT, caP, consP, nilP, vP, cP, tupP, lstP, mkT0, mkT1, mkT2, mkT3, mkT4, mkL0, mkL1, mkL2, mkL3, mkL4, mkL5, mkL6, mCons, nilA, mApp, m2, mNew2, mRd, mMv, mTest, mAndT, mOrT, mNotT, mAndV, mOrV, mNotV, mIfV, andV, orV, notV, mCall, mArgs, takeIo, putIo, R.bind, List.set_cons_succ, List.set_cons_zero, List.getElem?_cons_succ, List.getElem?_cons_zero, Option.join_some, Option.bind_some, Option.map_some, Option.bind, only, asB, truB_bl, truB_int, if_true, yesT, noO, partO, asI, onI, frz_int, frz_str, frz_bl, frz_non, frz_enc, imm_int, imm_bl, imm_str, imm_non, Enc.im, outsOf, imm_tup, imms_nil, imms_cons, dEq_ii, dNe_ii, dPl_int, dPlF_int, dLen_lst, dLen_tup, dLen_fls, dLen_d, putIo, List.length_map, onIc, dLe, dLt, dGt, dGe, dSub, decide_true, decide_false, Bool.not_true, Bool.not_false, Bool.false_eq_true, if_false, Bool.and_self, Bool.and_false, Bool.and_true, Bool.false_and, Bool.true_and, e1, ev, decide_eq_false hv]
theorem law_run_ok {m : Nat} (h : Stm (n + 1 + ws.length + m * (1 + ws.length)) x) (hw : ws.length ≤ 1000) (hm : m ≤ 1000) : ∃ (run : List (List Wd)) (x' : D), run.length = m ∧ (∀ sc ∈ run, sc.Sublist ws) ∧ Stm n x' ∧ C.mf__law_run [x, d ws, .int (m : Int)] = .ok (d run) [x'] := by
  obtain ⟨v, x1, v0, v1, s1, e1⟩ := stm_next (n := n + ws.length + m * (1 + ws.length)) (h.less (by omega)) (m := 3) (by decide)
  unfold C.mf__law_run mDef
  rw [run_eq, if_pos (by rfl)]
  simp only [List.map_cons, List.map_nil, List.replicate, List.cons_append, List.nil_append]
  have eg : dGt (.int v) (.int 0) = some (.bl (decide ((0 : Int) < v))) := rfl
  by_cases hv : (0 : Int) < v
  · obtain ⟨ys, x2, l2, p2, s2, e2⟩ := make (f := (d : Int → D)) (S := fun st o => [some st, some (d ws), some (.int (m : Int)), o, none, none]) (vs := [3]) (g := mgName 3) (m := mCall [0] C.mf__law_scene [.io 0, .ex (mRd 1)]) (fun sc : List Wd => sc.Sublist ws) ws.length n (upto m) (by rw [upto_len]; exact hm) (fun _ _ _ => rfl) (fun _ _ _ => rfl) (fun k st i _ hk => by
      obtain ⟨sc, st2, q1, q2, q3⟩ := scene_ok (n := k) (ws := ws) hk hw
      refine ⟨sc, st2, q1, q2, ?_⟩
      simp only [mSeq, mAsg, mgName, mgTup, mgCons, mgNil, mExpr, mRet, mRetN, mIf, mNext, mBrk, mCont, mRaise, mRaiseP, ofP, ofPT, two, twoB, one, chT, trT, caP, consP, nilP, vP, cP, tupP, lstP, mkT0, mkT1, mkT2, mkT3, mkT4, mkL0, mkL1, mkL2, mkL3, mkL4, mkL5, mkL6, mCons, nilA, mApp, m2, mNew2, mRd, mMv, mTest, mAndT, mOrT, mNotT, mAndV, mOrV, mNotV, mIfV, andV, orV, notV, mCall, mArgs, takeIo, putIo, R.bind, List.set_cons_succ, List.set_cons_zero, List.getElem?_cons_succ, List.getElem?_cons_zero, Option.join_some, Option.bind_some, Option.map_some, Option.bind, only, asB, truB_bl, truB_int, if_true, yesT, noO, partO, asI, onI, frz_int, frz_str, frz_bl, frz_non, frz_enc, imm_int, imm_bl, imm_str, imm_non, Enc.im, outsOf, imm_tup, imms_nil, imms_cons, dEq_ii, dNe_ii, dPl_int, dPlF_int, dLen_lst, dLen_tup, dLen_fls, dLen_d, putIo, List.length_map, onIc, dLe, dLt, dGt, dGe, dSub, decide_true, decide_false, Bool.not_true, Bool.not_false, Bool.false_eq_true, if_false, Bool.and_self, Bool.and_false, Bool.and_true, Bool.false_and, Bool.true_and, q3]) (st := x1) (s1.less (by rw [upto_len]; have : m * ws.length ≤ m * (1 + ws.length) := Nat.mul_le_mul (Nat.le_refl _) (by omega); omega))
    rw [upto_len] at l2
    refine ⟨ys, x2, l2, p2, s2, ?_⟩
    have e3 := mComp_of (mRange_int (a := mRd 2) (s := [some x1, some (d ws), some (.int (m : Int)), none, none, none]) (s1 := [some x1, some (d ws), some (.int (m : Int)), none, none, none]) (n := m) (by simp only [mSeq, mAsg, mgName, mgTup, mgCons, mgNil, mExpr, mRet, mRetN, mIf, mNext, mBrk, mCont, mRaise, mRaiseP, ofP, ofPT, two, twoB, one, chT, trT, caP, consP, nilP, vP, cP, tupP, lstP, mkT0, mkT1, mkT2, mkT3, mkT4, mkL0, mkL1, mkL2, mkL3, mkL4, mkL5, mkL6, mCons, nilA, mApp, m2, mNew2, mRd, mMv, mTest, mAndT, mOrT, mNotT, mAndV, mOrV, mNotV, mIfV, andV, orV, notV, mCall, mArgs, takeIo, putIo, R.bind, List.set_cons_succ, List.set_cons_zero, List.getElem?_cons_succ, List.getElem?_cons_zero, Option.join_some, Option.bind_some, Option.map_some, Option.bind, only, asB, truB_bl, truB_int, if_true, yesT, noO, partO, asI, onI, frz_int, frz_str, frz_bl, frz_non, frz_enc, imm_int, imm_bl, imm_str, imm_non, Enc.im, outsOf]) (by omega)) (t := yesT) (m := mCall [0] C.mf__law_scene [.io 0, .ex (mRd 1)]) (vs := [3]) (g := mgName 3) e2
    have e4 := mTuple_lst e3 (by rw [List.length_map]; omega)
    have t1 : runI [some x, some (d ws), some (.int (m : Int)), none, none, none] = .ret (d ys) [some x2, some (d ws), some (.int (m : Int)), none, none, none] := by
      have q : mTest (m2 (only dGt) (mCall [0] C.mf__law_next [.io 0, .ex (ofP (cP (.int 3)))]) (ofP (cP (.int 0)))) [some x, some (d ws), some (.int (m : Int)), none, none, none] = .ok true [some x1, some (d ws), some (.int (m : Int)), none, none, none] := by simp only [mSeq, mAsg, mgName, mgTup, mgCons, mgNil, mExpr, mRet, mRetN, mIf, mNext, mBrk, mCont, mRaise, mRaiseP, ofP, ofPT, two, twoB, one, chT, trT, caP, consP, nilP, vP, cP, tupP, lstP, mkT0, mkT1, mkT2, mkT3, mkT4, mkL0, mkL1, mkL2, mkL3, mkL4, mkL5, mkL6, mCons, nilA, mApp, m2, mNew2, mRd, mMv, mTest, mAndT, mOrT, mNotT, mAndV, mOrV, mNotV, mIfV, andV, orV, notV, mCall, mArgs, takeIo, putIo, R.bind, List.set_cons_succ, List.set_cons_zero, List.getElem?_cons_succ, List.getElem?_cons_zero, Option.join_some, Option.bind_some, Option.map_some, Option.bind, only, asB, truB_bl, truB_int, if_true, yesT, noO, partO, asI, onI, frz_int, frz_str, frz_bl, frz_non, frz_enc, imm_int, imm_bl, imm_str, imm_non, Enc.im, outsOf, imm_tup, imms_nil, imms_cons, dEq_ii, dNe_ii, dPl_int, dPlF_int, dLen_lst, dLen_tup, dLen_fls, dLen_d, putIo, List.length_map, onIc, dLe, dLt, dGt, dGe, dSub, decide_true, decide_false, Bool.not_true, Bool.not_false, Bool.false_eq_true, if_false, Bool.and_self, Bool.and_false, Bool.and_true, Bool.false_and, Bool.true_and, e1, eg, decide_eq_true hv]
      unfold runI mIf
      rw [q]
      dsimp only
      rw [if_pos rfl, mRet, e4]
      rfl
    rw [mSeq, t1]
    rfl
  · have t1 : runI [some x, some (d ws), some (.int (m : Int)), none, none, none] = .nx [some x1, some (d ws), some (.int (m : Int)), none, none, none] := by
      unfold runI
      simp only [mSeq, mAsg, mgName, mgTup, mgCons, mgNil, mExpr, mRet, mRetN, mIf, mNext, mBrk, mCont, mRaise, mRaiseP, ofP, ofPT, two, twoB, one, chT, trT, caP, consP, nilP, vP, cP, tupP, lstP, mkT0, mkT1, mkT2, mkT3, mkT4, mkL0, mkL1, mkL2, mkL3, mkL4, mkL5, mkL6, mCons, nilA, mApp, m2, mNew2, mRd, mMv, mTest, mAndT, mOrT, mNotT, mAndV, mOrV, mNotV, mIfV, andV, orV, notV, mCall, mArgs, takeIo, putIo, R.bind, List.set_cons_succ, List.set_cons_zero, List.getElem?_cons_succ, List.getElem?_cons_zero, Option.join_some, Option.bind_some, Option.map_some, Option.bind, only, asB, truB_bl, truB_int, if_true, yesT, noO, partO, asI, onI, frz_int, frz_str, frz_bl, frz_non, frz_enc, imm_int, imm_bl, imm_str, imm_non, Enc.im, outsOf, imm_tup, imms_nil, imms_cons, dEq_ii, dNe_ii, dPl_int, dPlF_int, dLen_lst, dLen_tup, dLen_fls, dLen_d, putIo, List.length_map, onIc, dLe, dLt, dGt, dGe, dSub, decide_true, decide_false, Bool.not_true, Bool.not_false, Bool.false_eq_true, if_false, Bool.and_self, Bool.and_false, Bool.and_true, Bool.false_and, Bool.true_and, e1, eg, decide_eq_false hv]
    obtain ⟨sc, x2, hs, s2, e2⟩ := scene_ok (n := n + m * (1 + ws.length)) (ws := ws) (s1.less (by omega)) hw
    have t2 : mAsg (mCall [0] C.mf__law_scene [.io 0, .ex (mRd 1)]) (mgName 4) [some x1, some (d ws), some (.int (m : Int)), none, none, none] = .nx [some x2, some (d ws), some (.int (m : Int)), none, some (d sc), none] := by simp only [mSeq, mAsg, mgName, mgTup, mgCons, mgNil, mExpr, mRet, mRetN, mIf, mNext, mBrk, mCont, mRaise, mRaiseP, ofP, ofPT, two, twoB, one, chT, trT, caP, consP, nilP, vP, cP, tupP, lstP, mkT0, mkT1, mkT2, mkT3, mkT4, mkL0, mkL1, mkL2, mkL3, mkL4, mkL5, mkL6, mCons, nilA, mApp, m2, mNew2, mRd, mMv, mTest, mAndT, mOrT, mNotT, mAndV, mOrV, mNotV, mIfV, andV, orV, notV, mCall, mArgs, takeIo, putIo, R.bind, List.set_cons_succ, List.set_cons_zero, List.getElem?_cons_succ, List.getElem?_cons_zero, Option.join_some, Option.bind_some, Option.map_some, Option.bind, only, asB, truB_bl, truB_int, if_true, yesT, noO, partO, asI, onI, frz_int, frz_str, frz_bl, frz_non, frz_enc, imm_int, imm_bl, imm_str, imm_non, Enc.im, outsOf, imm_tup, imms_nil, imms_cons, dEq_ii, dNe_ii, dPl_int, dPlF_int, dLen_lst, dLen_tup, dLen_fls, dLen_d, putIo, List.length_map, onIc, dLe, dLt, dGt, dGe, dSub, decide_true, decide_false, Bool.not_true, Bool.not_false, Bool.false_eq_true, if_false, Bool.and_self, Bool.and_false, Bool.and_true, Bool.false_and, Bool.true_and, e2]
    have t3 : mAsg (mApp mkLst nilA) (mgName 5) [some x2, some (d ws), some (.int (m : Int)), none, some (d sc), none] = .nx [some x2, some (d ws), some (.int (m : Int)), none, some (d sc), some (.lst [])] := by simp only [mSeq, mAsg, mgName, mgTup, mgCons, mgNil, mExpr, mRet, mRetN, mIf, mNext, mBrk, mCont, mRaise, mRaiseP, ofP, ofPT, two, twoB, one, chT, trT, caP, consP, nilP, vP, cP, tupP, lstP, mkT0, mkT1, mkT2, mkT3, mkT4, mkL0, mkL1, mkL2, mkL3, mkL4, mkL5, mkL6, mCons, nilA, mApp, m2, mNew2, mRd, mMv, mTest, mAndT, mOrT, mNotT, mAndV, mOrV, mNotV, mIfV, andV, orV, notV, mCall, mArgs, takeIo, putIo, R.bind, List.set_cons_succ, List.set_cons_zero, List.getElem?_cons_succ, List.getElem?_cons_zero, Option.join_some, Option.bind_some, Option.map_some, Option.bind, only, asB, truB_bl, truB_int, if_true, yesT, noO, partO, asI, onI, frz_int, frz_str, frz_bl, frz_non, frz_enc, imm_int, imm_bl, imm_str, imm_non, Enc.im, outsOf, imm_tup, imms_nil, imms_cons, dEq_ii, dNe_ii, dPl_int, dPlF_int, dLen_lst, dLen_tup, dLen_fls, dLen_d, putIo, List.length_map, onIc, dLe, dLt, dGt, dGe, dSub, decide_true, decide_false, Bool.not_true, Bool.not_false, Bool.false_eq_true, if_false, Bool.and_self, Bool.and_false, Bool.and_true, Bool.false_and, Bool.true_and]
    have t4 : ∃ (run : List (List Wd)) (x' : D) (o p : Option D), run.length = m ∧ (∀ sc ∈ run, sc.Sublist ws) ∧ Stm n x' ∧ runL [some x2, some (d ws), some (.int (m : Int)), none, some (d sc), some (.lst [])] = .nx [some x', some (d ws), some (.int (m : Int)), o, p, some (.lst (run.map d))] := by
      unfold runL
      rw [mFor_rangeN (s1 := [some x2, some (d ws), some (.int (m : Int)), none, some (d sc), some (.lst [])]) (n := m) (by simp only [mSeq, mAsg, mgName, mgTup, mgCons, mgNil, mExpr, mRet, mRetN, mIf, mNext, mBrk, mCont, mRaise, mRaiseP, ofP, ofPT, two, twoB, one, chT, trT, caP, consP, nilP, vP, cP, tupP, lstP, mkT0, mkT1, mkT2, mkT3, mkT4, mkL0, mkL1, mkL2, mkL3, mkL4, mkL5, mkL6, mCons, nilA, mApp, m2, mNew2, mRd, mMv, mTest, mAndT, mOrT, mNotT, mAndV, mOrV, mNotV, mIfV, andV, orV, notV, mCall, mArgs, takeIo, putIo, R.bind, List.set_cons_succ, List.set_cons_zero, List.getElem?_cons_succ, List.getElem?_cons_zero, Option.join_some, Option.bind_some, Option.map_some, Option.bind, only, asB, truB_bl, truB_int, if_true, yesT, noO, partO, asI, onI, frz_int, frz_str, frz_bl, frz_non, frz_enc, imm_int, imm_bl, imm_str, imm_non, Enc.im, outsOf]) (by omega)]
      refine loop_list (P := fun r => ∃ (run : List (List Wd)) (x' : D) (o p : Option D), run.length = m ∧ (∀ sc ∈ run, sc.Sublist ws) ∧ Stm n x' ∧ r = .nx [some x', some (d ws), some (.int (m : Int)), o, p, some (.lst (run.map d))])
        (fun i s => ∃ (run : List (List Wd)) (x' : D) (o : Option D) (sc : List Wd), run.length = i ∧ (∀ sc ∈ run, sc.Sublist ws) ∧ sc.Sublist ws ∧ Stm (n + (m - i) * (1 + ws.length)) x' ∧ s = [some x', some (d ws), some (.int (m : Int)), o, some (d sc), some (.lst (run.map d))]) ?_ ?_ ⟨[], x2, none, sc, rfl, by simp, hs, s2, rfl⟩
      · rintro i dd s hd ⟨run, x', o, sc, l, q, qs, st, rfl⟩
        rw [List.getElem?_map] at hd
        obtain ⟨k, hk, rfl⟩ := Option.map_eq_some_iff.mp hd
        have hi := (List.getElem?_eq_some_iff.mp hk).1
        rw [upto_len] at hi
        refine ⟨_, rfl, ?_⟩
        have ec : (m - i) * (1 + ws.length) = (m - (i + 1)) * (1 + ws.length) + (1 + ws.length) := by
          rw [← Nat.succ_mul]; congr 1; omega
        obtain ⟨sc', x3, q1, q2, q3⟩ := runB1_ok (n := n + (m - (i + 1)) * (1 + ws.length)) (ws := ws) (x := x') (st.less (by omega)) hw (a2 := some (.int (m : Int))) (a3 := some (d k)) (a5 := some (.lst (run.map d))) qs
        have hz : run.length < sizeLine := size_lt (by omega)
        have q4 : runB2 [some x3, some (d ws), some (.int (m : Int)), some (d k), some (d sc'), some (.lst (run.map d))] = .nx [some x3, some (d ws), some (.int (m : Int)), some (d k), some (d sc'), some (.lst ((run ++ [sc']).map d))] := by
          unfold runB2
          simp only [mSeq, mAsg, mgName, mgTup, mgCons, mgNil, mExpr, mRet, mRetN, mIf, mNext, mBrk, mCont, mRaise, mRaiseP, ofP, ofPT, two, twoB, one, chT, trT, caP, consP, nilP, vP, cP, tupP, lstP, mkT0, mkT1, mkT2, mkT3, mkT4, mkL0, mkL1, mkL2, mkL3, mkL4, mkL5, mkL6, mCons, nilA, mApp, m2, mNew2, mRd, mMv, mTest, mAndT, mOrT, mNotT, mAndV, mOrV, mNotV, mIfV, andV, orV, notV, mCall, mArgs, takeIo, putIo, R.bind, List.set_cons_succ, List.set_cons_zero, List.getElem?_cons_succ, List.getElem?_cons_zero, Option.join_some, Option.bind_some, Option.map_some, Option.bind, only, asB, truB_bl, truB_int, if_true, yesT, noO, partO, asI, onI, frz_int, frz_str, frz_bl, frz_non, frz_enc, imm_int, imm_bl, imm_str, imm_non, Enc.im, outsOf, imm_tup, imms_nil, imms_cons, dEq_ii, dNe_ii, dPl_int, dPlF_int, dLen_lst, dLen_tup, dLen_fls, dLen_d, putIo, List.length_map, onIc, dLe, dLt, dGt, dGe, dSub, decide_true, decide_false, Bool.not_true, Bool.not_false, Bool.false_eq_true, if_false, Bool.and_self, Bool.and_false, Bool.and_true, Bool.false_and, Bool.true_and, mAppend, hz, List.map_append, List.map_cons, List.map_nil]
        simp only [mgName, List.set_cons_succ, List.set_cons_zero]
        rw [seq_nx q3, q4]
        exact ⟨run ++ [sc'], x3, some (d k), sc', by rw [List.length_append, l]; rfl, fun z hz => by
          rcases List.mem_append.mp hz with hz | hz
          · exact q z hz
          · rw [List.mem_singleton.mp hz]; exact q1, q1, q2, rfl⟩
      · rintro s ⟨run, x', o, sc, l, q, qs, st, rfl⟩
        rw [List.length_map, upto_len] at l
        exact ⟨run, x', o, some (d sc), l, q, st.less (by omega), rfl⟩
    obtain ⟨run, x3, o, p, l, q, s3, t4⟩ := t4
    have t5 : mTuple (mRd 5) [some x3, some (d ws), some (.int (m : Int)), o, p, some (.lst (run.map d))] = .ok (d run) [some x3, some (d ws), some (.int (m : Int)), o, p, some (.fls (run.map d))] := mTuple_fls (by simp only [mSeq, mAsg, mgName, mgTup, mgCons, mgNil, mExpr, mRet, mRetN, mIf, mNext, mBrk, mCont, mRaise, mRaiseP, ofP, ofPT, two, twoB, one, chT, trT, caP, consP, nilP, vP, cP, tupP, lstP, mkT0, mkT1, mkT2, mkT3, mkT4, mkL0, mkL1, mkL2, mkL3, mkL4, mkL5, mkL6, mCons, nilA, mApp, m2, mNew2, mRd, mMv, mTest, mAndT, mOrT, mNotT, mAndV, mOrV, mNotV, mIfV, andV, orV, notV, mCall, mArgs, takeIo, putIo, R.bind, List.set_cons_succ, List.set_cons_zero, List.getElem?_cons_succ, List.getElem?_cons_zero, Option.join_some, Option.bind_some, Option.map_some, Option.bind, only, asB, truB_bl, truB_int, if_true, yesT, noO, partO, asI, onI, frz_int, frz_str, frz_bl, frz_non, frz_enc, imm_int, imm_bl, imm_str, imm_non, Enc.im, outsOf, frz_lst]) trivial
    refine ⟨run, x3, l, q, s3, ?_⟩
    rw [seq_nx t1, seq_nx t2, seq_nx t3, seq_nx t4, mRet, t5]
    rfl
end
end Sim

namespace Sim
open PySem PySem.Spec PyProof.Rows L2
open Enc
/-! ### loops without a count -/
theorem whl_rule {c : Sl → R Bool} {body : Sl → RS} {Post : Sl → Prop} (I : Nat → Sl → Prop)
    (st : ∀ n s, I n s → ∃ b s1, c s = .ok b s1 ∧ (b = true → ∃ s2 n', body s1 = .nx s2 ∧ n' < n ∧ I n' s2) ∧ (b = false → Post s1)) :
    ∀ n s, I n s → ∃ s', mWhl c body s = .nx s' ∧ Post s' := by
  have key : ∀ n s, I n s → ∃ k s', mWhile c body k s = .nx s' ∧ Post s' := by
    intro n
    induction n using Nat.strongRecOn with
    | _ n ih =>
      intro s hI
      obtain ⟨b, s1, e1, ht, hf⟩ := st n s hI
      cases b with
      | false =>
        refine ⟨1, s1, ?_, hf rfl⟩
        unfold mWhile
        rw [e1]
        dsimp only
        rw [if_neg (by decide)]
      | true =>
        obtain ⟨s2, n', e2, hn, hI2⟩ := ht rfl
        obtain ⟨k, s', e3, hp⟩ := ih n' hn s2 hI2
        refine ⟨k + 1, s', ?_, hp⟩
        unfold mWhile
        rw [e1]
        dsimp only
        rw [if_pos rfl, e2]
        exact e3
  intro n s hI
  obtain ⟨k, s', e, hp⟩ := key n s hI
  refine ⟨s', ?_, hp⟩
  rw [mWhl_of k (by rw [e]; intro h; cases h), e]


theorem nodup_lt : ∀ (n : Nat) (l : List Nat), l.Nodup → (∀ x ∈ l, x < n) → l.length ≤ n
  | 0, [], _, _ => Nat.le_refl _
  | 0, x :: l, _, h => by have := h x (by simp); omega
  | n + 1, l, hn, h => by
    by_cases hm : n ∈ l
    · have e := List.length_erase_of_mem hm
      have := nodup_lt n (l.erase n) (hn.erase n) fun x hx => by
        have hx' := (hn.mem_erase_iff).mp hx
        have := h x hx'.2
        have := hx'.1
        omega
      omega
    · have := nodup_lt n l hn fun x hx => by
        have := h x hx
        have : x ≠ n := fun e => hm (e ▸ hx)
        omega
      omega

/-! ### slices and ranges -/
theorem cutD_both {α : Type} (f : α → D) (xs : List α) (j k : Nat) : cutD (xs.map f) (some (j : Int)) (some (k : Int)) = ((xs.drop j).take (k - j)).map f := by
  rw [cutD_map, HT.sIx_nat, HT.sIx_nat]
  congr 1
  by_cases h : j ≤ xs.length
  · rw [Nat.min_eq_left h, List.take_eq_take_iff, List.length_drop]
    omega
  · rw [Nat.min_eq_right (show xs.length ≤ j by omega), List.drop_of_length_le (Nat.le_refl _), List.drop_of_length_le (show xs.length ≤ j by omega)]
    simp
theorem dSl_both {α : Type} [DecidableEq α] [Enc α] (xs : List α) (j k : Nat) : dSl (d xs) (some (j : Int)) (some (k : Int)) = some (d ((xs.drop j).take (k - j))) := by
  show (if imms (xs.map d) = true then some (D.tup (cutD (xs.map d) (some (j : Int)) (some (k : Int)))) else none) = _
  rw [imms_enc, if_pos rfl, cutD_both]; rfl
theorem dSl_back {α : Type} [DecidableEq α] [Enc α] (xs : List α) (k : Nat) (h1 : 1 ≤ k) (h2 : k ≤ xs.length) : dSl (d xs) (some (-(k : Int))) none = some (d (xs.drop (xs.length - k))) := by
  show (if imms (xs.map d) = true then some (D.tup (cutD (xs.map d) (some (-(k : Int))) none)) else none) = _
  rw [imms_enc, if_pos rfl, cutD_map]
  have e : HT.sIx xs.length 0 (some (-(k : Int))) = xs.length - k := by
    unfold HT.sIx
    simp only
    split <;> omega
  rw [e]
  show some (D.tup (((xs.drop (xs.length - k)).take (xs.length - (xs.length - k))).map d)) = _
  rw [List.take_of_length_le (by rw [List.length_drop]; omega)]; rfl
/-- the whole numbers from i on, n of them -/
def rg (i n : Nat) : List Nat := (List.range n).map fun k => i + k
abbrev nD (k : Nat) : D := .int (k : Int)
theorem mem_rg {i n k : Nat} : k ∈ rg i n ↔ i ≤ k ∧ k < i + n := by
  unfold rg
  rw [List.mem_map]
  constructor
  · rintro ⟨j, hj, rfl⟩
    have := List.mem_range.mp hj
    omega
  · intro h
    exact ⟨k - i, by rw [List.mem_range]; omega, by omega⟩
theorem rg_len (i n : Nat) : (rg i n).length = n := by simp [rg]
theorem rangeD_rg (i n : Nat) : rangeD (i : Int) n = (rg i n).map nD := by
  unfold rangeD rg
  rw [List.map_map]
  apply List.map_congr_left
  intro k _
  show D.int ((i : Int) + (k : Int)) = D.int (((i + k : Nat)) : Int)
  rw [Int.natCast_add]
theorem rng2_rg (i : Nat) (j : Int) (hi : i ≤ 1000) (hj : j.natAbs ≤ 1000000) : rng2 (i : Int) j = some ((rg i (j - i).toNat).map nD) := by
  unfold rng2
  rw [if_pos ⟨by omega, by omega⟩, rangeD_rg]
theorem mRange_two {a b : Sl → R D} {s s1 s2 : Sl} {i : Nat} {j : Int} (h : a s = .ok (.int (i : Int)) s1) (h2 : b s1 = .ok (.int j) s2) (hi : i ≤ 1000) (hj : j.natAbs ≤ 1000000) : mRange (mCons a (mCons b nilA)) s = .ok ((rg i (j - i).toNat).map nD) s2 := by
  unfold mRange mCons nilA
  rw [h]
  dsimp only [R.bind]
  rw [h2]
  show (match rngOf [.int (i : Int), .int j] with | some l => R.ok l s2 | none => .stuck) = _
  rw [show rngOf [.int (i : Int), .int j] = rng2 i j from rfl, rng2_rg i j hi hj]
/-- len([k for k in .. if q(k)]) > 0 -/
theorem some_pures {α : Type} {f : α → D} {s0 : Sl} {S : α → Sl} {vs : List Nat} {g : D → Sl → Option Sl} {t : Sl → R Bool} {m : Sl → R D} {mi : Sl → R (List D)} (q : α → Bool) (xs : List α) (hz : xs.length ≤ 1000) {s1 : Sl} (hi : mi s1 = .ok (xs.map f) s0)
    (hg : ∀ x ∈ xs, g (f x) s0 = some (S x)) (hw : ∀ x ∈ xs, wipeS (S x) vs = s0) (hw0 : wipeS s0 vs = s0) (hb : backS s0 s0 vs = s0) (ht : ∀ x ∈ xs, t (S x) = .ok (q x) (S x)) (hm : ∀ x ∈ xs, m (S x) = .ok (f x) (S x)) :
    m2 (only dGt) (mApp (only1 dLen) (mCons (mComp mi vs g t m) nilA)) (ofP (cP (.int 0))) s1 = .ok (.bl (xs.any q)) s0 := by
  have key := comp_pure (f := f) (vs := vs) (g := g) (t := t) (m := m) (s := s0) q f xs [] (fun x hx => ⟨_, hg x hx, ht x hx, hw x hx, fun _ => ⟨_, hm x hx, hw x hx⟩⟩) (by simp; omega)
  rw [List.nil_append] at key
  have e2 := mComp_of (vs := vs) (g := g) (t := t) (m := m) hi (by rw [hw0]; exact key)
  rw [hb] at e2
  have e3 : mApp (only1 dLen) (mCons (mComp mi vs g t m) nilA) s1 = .ok (.int ((xs.filter q).length : Nat)) s0 := by
    unfold mApp mCons nilA
    rw [e2]
    show (match only1 dLen [.lst ((xs.filter q).map f)] with | some d => R.ok d s0 | none => R.stuck) = _
    have : only1 dLen [.lst ((xs.filter q).map f)] = some (.int ((xs.filter q).length : Nat)) := by
      unfold only1
      rw [dLen_lst, List.length_map]; rfl
    rw [this]
  have e4 : decide ((0 : Int) < ((xs.filter q).length : Nat)) = xs.any q := by
    rw [Bool.eq_iff_iff, decide_eq_true_eq, List.any_eq_true]
    constructor
    · intro h
      have : 0 < (xs.filter q).length := by omega
      obtain ⟨x, hx⟩ := List.exists_mem_of_length_pos this
      rw [List.mem_filter] at hx
      exact ⟨x, hx⟩
    · rintro ⟨x, hx, hq⟩
      have : 0 < (xs.filter q).length := List.length_pos_of_mem (List.mem_filter.mpr ⟨hx, hq⟩)
      omega
  unfold m2
  rw [e3]
  show (match only dGt (.int ((xs.filter q).length : Nat)) (.int 0) with | some d => R.ok d s0 | none => R.stuck) = _
  have : only dGt (.int ((xs.filter q).length : Nat)) (.int 0) = some (.bl (xs.any q)) := by
    rw [← e4]
    exact only_bl rfl
  rw [this]
theorem any_pures {α : Type} {f : α → D} {s0 : Sl} {S : α → Sl} {vs : List Nat} {g : D → Sl → Option Sl} {m : Sl → R D} {mi : Sl → R (List D)} (q : α → Bool) (xs : List α) (hz : xs.length ≤ 1000) {s1 : Sl} (hi : mi s1 = .ok (xs.map f) s0)
    (hg : ∀ x ∈ xs, g (f x) s0 = some (S x)) (hw : ∀ x ∈ xs, wipeS (S x) vs = s0) (hw0 : wipeS s0 vs = s0) (hb : backS s0 s0 vs = s0) (hm : ∀ x ∈ xs, ∃ s2, m (S x) = .ok (.bl (q x)) s2 ∧ wipeS s2 vs = s0) :
    (mApp (only1 dAny) (mCons (mComp mi vs g yesT m) nilA)) s1 = .ok (.bl (xs.any q)) s0 := by
  have key := comp_pure (f := f) (vs := vs) (g := g) (t := yesT) (m := m) (s := s0) (fun _ => true) (fun x => .bl (q x)) xs [] (fun x hx => ⟨_, hg x hx, rfl, hw x hx, fun _ => hm x hx⟩) (by simp; omega)
  rw [List.nil_append, show (xs.filter fun _ => true) = xs from List.filter_eq_self.mpr fun _ _ => rfl] at key
  have e2 := mComp_of (vs := vs) (g := g) (t := yesT) (m := m) hi (by rw [hw0]; exact key)
  rw [hb] at e2
  unfold mApp mCons nilA
  rw [e2]
  have e3 : dAny [.lst (xs.map fun x => D.bl (q x))] = some (.bl (xs.any q)) := by
    unfold dAny listOf
    show ((blsOf (xs.map fun x => D.bl (q x))).map fun bs => D.bl (bs.any id)) = _
    rw [show (xs.map fun x => D.bl (q x)) = (xs.map q).map D.bl by rw [List.map_map]; rfl, blsOf_map, Option.map_some, List.any_map]; rfl
  show (match only1 dAny [.lst (xs.map fun x => D.bl (q x))] with
    | some d => R.ok d s0
    | none => R.stuck) = _
  unfold only1
  rw [e3]; rfl

theorem app1_ok {f : List D → Option D} {m : Sl → R D} {s s1 : Sl} {x y : D} (h : m s = .ok x s1) (hf : f [x] = some y) : mApp f (mCons m nilA) s = .ok y s1 := by
  unfold mApp mCons nilA
  rw [h]
  show (match f [x] with | some z => R.ok z s1 | none => R.stuck) = _
  rw [hf]

theorem next_lt {n : Nat} {x : D} (h : Stm (n + 1) x) {m : Int} (hm : 0 < m) : ∃ x', Stm n x' ∧ ∀ (s : Sl) (q r : Sl → R D) (i : Int), s[0]?.join = some x → q s = .ok (.int m) s → (∀ st, r (s.set 0 st) = .ok (.int i) (s.set 0 st)) → ∃ b, mTest (m2 (only dLt) (mCall [0] C.mf__law_next [.io 0, .ex q]) r) s = .ok b (s.set 0 (some x')) := by
  obtain ⟨v, x', h0, h1, hs, e⟩ := stm_next h hm
  refine ⟨x', hs, fun s q r i hq e2 hr => ⟨decide (v < i), ?_⟩⟩
  have ev : dLt (.int v) (.int i) = some (.bl (decide (v < i))) := rfl
  cases s with
  | nil => cases hq
  | cons y s =>
    have hy : y = some x := by simpa using hq
    subst hy
    have hr' := hr (some x')
    rw [List.set_cons_zero] at hr'
    simp only [mSeq, mAsg, mgName, mgTup, mgCons, mgNil, mExpr, mRet, mRetN, mIf, mNext, mBrk, mCont, mRaise, mRaiseP, ofP, ofPT, two, twoB, one, chT, trT, caP, consP, nilP, vP, cP, tupP, lstP, mkT0, mkT1, mkT2, mkT3, mkT4, mkL0, mkL1, mkL2, mkL3, mkL4, mkL5, mkL6, mCons, nilA, mApp, m2, mNew2, mRd, mMv, mTest, mAndT, mOrT, mNotT, mAndV, mOrV, mNotV, mIfV, andV, orV, notV, mCall, mArgs, takeIo, putIo, R.bind, List.set_cons_succ, List.set_cons_zero, List.getElem?_cons_succ, List.getElem?_cons_zero, Option.join_some, Option.bind_some, Option.map_some, Option.bind, only, asB, truB_bl, truB_int, if_true, yesT, noO, partO, asI, onI, frz_int, frz_str, frz_bl, frz_non, frz_enc, imm_int, imm_bl, imm_str, imm_non, Enc.im, outsOf, e2, e, hr', ev, putIo]

theorem pop_ok {i : Nat} {s : Sl} {w : List Int} {q : Int} (h : s[i]?.join = some (.lst ((w ++ [q]).map d))) : mPop i s = .ok (d q) (s.set i (some (.lst (w.map d)))) := by
  unfold mPop
  rw [h]
  dsimp only
  rw [if_pos (imms_enc _), List.map_append, List.length_append]
  show (match (w.map d ++ [d q])[(w.map d).length + 1 - 1]? with
    | some dd => R.ok dd (s.set i (some (.lst (w.map d ++ [d q]).dropLast)))
    | none => R.stuck) = _
  rw [Nat.add_sub_cancel, List.getElem?_append_right (Nat.le_refl _), Nat.sub_self, List.dropLast_concat]; rfl

end Sim

namespace Sim.K
open PySem PySem.Spec PyProof.Rows L2
def topS (i : Nat) : Stmt := PySem.Challenge.pw_spansay_k38_rounds_judged.main.body.getD i (.Pass ⟨0, 0, 0, 0⟩)
section
variable {P : Program} {w : World} {K : PySem.W.Frag} {mg : Str → Option Value} {base : Heap}

def clsTab : String → String → Option Bool := tabOf [("SpanError", [("SpanError", true), ("NotAllowed", false), ("TooLarge", false), ("Missing", false), ("BadPaper", false), ("ValueError", true)]), ("NotAllowed", [("SpanError", true), ("NotAllowed", true), ("TooLarge", false), ("Missing", false), ("BadPaper", false), ("ValueError", true)]), ("TooLarge", [("SpanError", true), ("NotAllowed", false), ("TooLarge", true), ("Missing", false), ("BadPaper", false), ("ValueError", true)]), ("Missing", [("SpanError", true), ("NotAllowed", false), ("TooLarge", false), ("Missing", true), ("BadPaper", false), ("ValueError", true)]), ("BadPaper", [("SpanError", true), ("NotAllowed", false), ("TooLarge", false), ("Missing", false), ("BadPaper", true), ("ValueError", true)])]
/-! ### _law_stream -/
abbrev N__law_stream : List Str := ["script", "numbers", "cell", "rest", "k", "mixed"]
theorem sc__law_stream : FnScope N__law_stream ["script"] (defScope (topS 11)) := ⟨rfl, rfl, rfl, by decide +kernel, rfl, by decide +kernel, by decide +kernel⟩
def mb__law_stream : Sl → RS := (mSeq (mAsg (mApp mkLst nilA) (mgName 1))
  (mSeq (mFor (mItems (mSl (vP 0) noO (partO (cP (.int 63))))) (mgName 2)
  (mSeq (mAsg (ofP (caP dAbs (consP (caP dInt (consP (vP 2) nilP)) nilP))) (mgName 3))
  (mIf (ofPT (twoB dGe (vP 3) (two dPow (cP (.int 10)) (cP (.int 18)))))
  (mFor (mRange (mCons (ofP (cP (.int 60))) nilA)) (mgName 4)
  (mSeq (mExpr (mAppend 1 (ofP (two dMod (caP dInt (consP (vP 3) nilP)) (cP (.int 1009))))))
  (mSeq (mAsg (ofP (two dDiv (vP 3) (cP (.int 1009)))) (mgName 3))
  (mIf (ofPT (twoB dEq (vP 3) (cP (.int 0))))
  mBrk
  mNext))))
  (mSeq (mAsg (ofP (two dMod (caP dInt (consP (vP 3) nilP)) (cP (.int 2147483647)))) (mgName 5))
  (mFor (mRange (mCons (ofP (cP (.int 10))) nilA)) (mgName 4)
  (mSeq (mAsg (ofP (two dMod (caP dInt (consP (two dPl (two dPl (two dMul (vP 5) (cP (.int 48271))) (two dMul (cP (.int 7)) (vP 4))) (cP (.int 11))) nilP)) (cP (.int 2147483647)))) (mgName 5))
  (mExpr (mAppend 1 (ofP (two dMod (two dMod (caP dInt (consP (two dPl (two dMul (vP 5) (cP (.int 69621))) (vP 4)) nilP)) (cP (.int 2147483629))) (cP (.int 1009))))))))))))
  (mSeq (mIf (ofPT (twoB dEq (caP dLen (consP (vP 1) nilP)) (cP (.int 0))))
  (mExpr (mAppend 1 (ofP (cP (.int 0)))))
  mNext)
  (mRet (mMv 1)))))
def mf__law_stream : List D → RF := mDef 1 6 [] mb__law_stream
theorem fn__law_stream {f : Addr} {fd : FuncData} (F : Fun K "_law_stream" "_law_stream" (topS 11) f fd) (z_int : mg "int" = none) (z_abs : mg "abs" = none) (z_range : mg "range" = none) (z_len : mg "len" = none) :
    FnG P w K mg base 1 f fd ["script"] (SpM K 1 [] mf__law_stream) := by
  refine fnok_of (pin := []) (k := 0) F sc__law_stream (by decide) (by decide) (fun cdv A outer s H E gd hr => ?_)
  have nd := sc__law_stream.nd
  have tk : Takes (cxOf (L2.CX P w) P w K mg base N__law_stream "_law_stream" (defScope (topS 11)) f cdv A outer s H E) (fun cls d _ H => E cls d H) := takes_of rfl rfl rfl rfl
  have hp : PassesOwn (model P w) (cxOf (L2.CX P w) P w K mg base N__law_stream "_law_stream" (defScope (topS 11)) f cdv A outer s H E).A (cxOf (L2.CX P w) P w K mg base N__law_stream "_law_stream" (defScope (topS 11)) f cdv A outer s H E).env (cxOf (L2.CX P w) P w K mg base N__law_stream "_law_stream" (defScope (topS 11)) f cdv A outer s H E).xe := passes_of rfl
  have hu : (cxOf (L2.CX P w) P w K mg base N__law_stream "_law_stream" (defScope (topS 11)) f cdv A outer s H E).A.units + 200 < cLine := units_of hr
  exact (sSs_cons (sS_set 1 nd (by decide) (sE_lst sA_nil))
  (sSs_cons (sS_for hp rfl (sI_seq (sE_sl (sP_v 0) sO_none (sO_some sP_int))) (sG_name 2 nd (pin_eq (by decide)))
  (sSs_cons (sS_set 3 nd (by decide) (sE_P (sP_abs rfl z_abs (sPA_cons (sP_int' rfl z_int (sPA_cons (sP_v 2) sPA_nil)) sPA_nil))))
  (sSs_one (sS_if (sT_P (sPT_cmp op_ge' opD_B0 (sP_v 3) (sP_pow sP_int sP_int)))
  (sSs_one (sS_for hp rfl (sI_range1 rfl z_range (sE_P sP_int)) (sG_name 4 nd (pin_eq (by decide)))
  (sSs_cons (sS_expr (sE_append 1 (sE_P (sP_mod (sP_int' rfl z_int (sPA_cons (sP_v 3) sPA_nil)) sP_int))))
  (sSs_cons (sS_set 3 nd (by decide) (sE_P (sP_div (sP_v 3) sP_int)))
  (sSs_one (sS_if (sT_P (sPT_cmp (op_eqD (un64 hu)) opD_eq (sP_v 3) sP_int))
  (sSs_one sS_brk)
  sSs_nil))))))
  (sSs_cons (sS_set 5 nd (by decide) (sE_P (sP_mod (sP_int' rfl z_int (sPA_cons (sP_v 3) sPA_nil)) sP_int)))
  (sSs_one (sS_for hp rfl (sI_range1 rfl z_range (sE_P sP_int)) (sG_name 4 nd (pin_eq (by decide)))
  (sSs_cons (sS_set 5 nd (by decide) (sE_P (sP_mod (sP_int' rfl z_int (sPA_cons (sP_plus (sP_plus (sP_mul (sP_v 5) sP_int) (sP_mul sP_int (sP_v 4))) sP_int) sPA_nil)) sP_int)))
  (sSs_one (sS_expr (sE_append 1 (sE_P (sP_mod (sP_mod (sP_int' rfl z_int (sPA_cons (sP_plus (sP_mul (sP_v 5) sP_int) (sP_v 4)) sPA_nil)) sP_int) sP_int)))))))))))))
  (sSs_cons (sS_if (sT_P (sPT_cmp (op_eqD (un64 hu)) opD_eq (sP_len rfl z_len (sPA_cons (sP_v 1) sPA_nil)) sP_int))
  (sSs_one (sS_expr (sE_append 1 (sE_P sP_int))))
  sSs_nil)
  (sSs_one (sS_ret (sE_mv 1))))))
theorem does__law_stream {f : Addr} {fd : FuncData} (F : Fun K "_law_stream" "_law_stream" (topS 11) f fd) (hm : mg "_law_stream" = some (.ref f)) (hk : PySem.W.keepIn K (.ref f) = true) (hb : Binds K fd ["script"] []) (z_int : mg "int" = none) (z_abs : mg "abs" = none) (z_range : mg "range" = none) (z_len : mg "len" = none) :
    Does P w K mg base 1 "_law_stream" 1 [] mf__law_stream := ⟨f, fd, ["script"], fn__law_stream F z_int z_abs z_range z_len, hm, hk, hb⟩

/-! ### _law_next -/
abbrev N__law_next : List Str := ["state", "many", "turn"]
theorem sc__law_next : FnScope N__law_next ["state", "many"] (defScope (topS 12)) := ⟨rfl, rfl, rfl, by decide +kernel, rfl, by decide +kernel, by decide +kernel⟩
def mb__law_next : Sl → RS := (mSeq (mAsg (ofP (two dPl (two dIx (vP 0) (cP (.int 1))) (cP (.int 1)))) (mgSetL 0 (cP (.int 1))))
  (mSeq (mAsg (ofP (two dDiv (two dIx (vP 0) (cP (.int 1))) (caP dLen (consP (two dIx (vP 0) (cP (.int 0))) nilP)))) (mgName 2))
  (mRet (ofP (two dMod (caP dInt (consP (two dPl (two dPl (two dIx (two dIx (vP 0) (cP (.int 0))) (two dMod (two dIx (vP 0) (cP (.int 1))) (caP dLen (consP (two dIx (vP 0) (cP (.int 0))) nilP)))) (two dMul (vP 2) (cP (.int 389)))) (two dMul (two dMul (two dIx (vP 0) (cP (.int 1))) (vP 2)) (cP (.int 17)))) nilP)) (vP 1))))))
def mf__law_next : List D → RF := mDef 2 3 [0] mb__law_next
theorem fn__law_next {f : Addr} {fd : FuncData} (F : Fun K "_law_next" "_law_next" (topS 12) f fd) (z_len : mg "len" = none) (z_int : mg "int" = none) :
    FnG P w K mg base 1 f fd ["state", "many"] (SpM K 2 [0] mf__law_next) := by
  refine fnok_of (pin := [0]) (k := 0) F sc__law_next (by decide) (by decide) (fun cdv A outer s H E gd hr => ?_)
  have nd := sc__law_next.nd
  have tk : Takes (cxOf (L2.CX P w) P w K mg base N__law_next "_law_next" (defScope (topS 12)) f cdv A outer s H E) (fun cls d _ H => E cls d H) := takes_of rfl rfl rfl rfl
  have hp : PassesOwn (model P w) (cxOf (L2.CX P w) P w K mg base N__law_next "_law_next" (defScope (topS 12)) f cdv A outer s H E).A (cxOf (L2.CX P w) P w K mg base N__law_next "_law_next" (defScope (topS 12)) f cdv A outer s H E).env (cxOf (L2.CX P w) P w K mg base N__law_next "_law_next" (defScope (topS 12)) f cdv A outer s H E).xe := passes_of rfl
  have hu : (cxOf (L2.CX P w) P w K mg base N__law_next "_law_next" (defScope (topS 12)) f cdv A outer s H E).A.units + 200 < cLine := units_of hr
  exact (sSs_cons (sS_asg (sE_P (sP_plus (sP_ix (sP_v 0) sP_int) sP_int)) (sG_setL 0 sP_int))
  (sSs_cons (sS_set 2 nd (by decide) (sE_P (sP_div (sP_ix (sP_v 0) sP_int) (sP_len rfl z_len (sPA_cons (sP_ix (sP_v 0) sP_int) sPA_nil)))))
  (sSs_one (sS_ret (sE_P (sP_mod (sP_int' rfl z_int (sPA_cons (sP_plus (sP_plus (sP_ix (sP_ix (sP_v 0) sP_int) (sP_mod (sP_ix (sP_v 0) sP_int) (sP_len rfl z_len (sPA_cons (sP_ix (sP_v 0) sP_int) sPA_nil)))) (sP_mul (sP_v 2) sP_int)) (sP_mul (sP_mul (sP_ix (sP_v 0) sP_int) (sP_v 2)) sP_int)) sPA_nil)) (sP_v 1)))))))
theorem does__law_next {f : Addr} {fd : FuncData} (F : Fun K "_law_next" "_law_next" (topS 12) f fd) (hm : mg "_law_next" = some (.ref f)) (hk : PySem.W.keepIn K (.ref f) = true) (hb : Binds K fd ["state", "many"] []) (z_len : mg "len" = none) (z_int : mg "int" = none) :
    Does P w K mg base 1 "_law_next" 2 [0] mf__law_next := ⟨f, fd, ["state", "many"], fn__law_next F z_len z_int, hm, hk, hb⟩

/-! ### _law_machine -/
abbrev N__law_machine : List Str := ["state", "letters", "rooms", "kind", "columns", "letter", "pick", "room", "shift", "moves", "column"]
theorem sc__law_machine : FnScope N__law_machine ["state", "letters", "rooms"] (defScope (topS 13)) := ⟨rfl, rfl, rfl, by decide +kernel, rfl, by decide +kernel, by decide +kernel⟩
def mb__law_machine : Sl → RS := (mSeq (mAsg (mCall [0] mf__law_next [.io 0, .ex (ofP (cP (.int 4)))]) (mgName 3))
  (mSeq (mAsg (mApp mkLst nilA) (mgName 4))
  (mSeq (mFor (mItems (mRd 1)) (mgName 5)
  (mSeq (mAsg (m2 dIx (mApp mkLst (mCons (mRd 3) (mCons (mCall [0] mf__law_next [.io 0, .ex (ofP (cP (.int 3)))]) nilA))) (ofP (caP dInt (consP (two dEq (vP 3) (cP (.int 3))) nilP)))) (mgName 6))
  (mIf (ofPT (twoB dEq (vP 6) (cP (.int 0))))
  (mExpr (mAppend 4 (mComp (mRange (mCons (mRd 2) nilA)) [7] (mgName 7) yesT (mCall [0] mf__law_next [.io 0, .ex (mRd 2)]))))
  (mIf (ofPT (twoB dEq (vP 6) (cP (.int 1))))
  (mExpr (mAppend 4 (mApp (only1 dSorted) (mCons (mComp (mRange (mCons (mRd 2) nilA)) [7] (mgName 7) yesT (mCall [0] mf__law_next [.io 0, .ex (mRd 2)])) nilA))))
  (mSeq (mAsg (mCall [0] mf__law_next [.io 0, .ex (mRd 2)]) (mgName 8))
  (mExpr (mAppend 4 (mComp (mRange (mCons (mRd 2) nilA)) [7] (mgName 7) yesT (ofP (two dMod (caP dInt (consP (two dPl (vP 7) (vP 8)) nilP)) (vP 2)))))))))))
  (mSeq (mAsg (mTuple (mComp (mRange (mCons (mRd 2) nilA)) [7] (mgName 7) yesT (mTuple (mComp (mItems (mRd 4)) [10] (mgName 10) yesT (ofP (two dIx (vP 10) (vP 7))))))) (mgName 9))
  (mRet (mApp mkTup (mCons (mRd 1) (mCons (mRd 9) (mCons (mTuple (mComp (mRange (mCons (mRd 2) nilA)) [7] (mgName 7) (mTest (m2 (only dEq) (mCall [0] mf__law_next [.io 0, .ex (ofP (cP (.int 2)))]) (ofP (cP (.int 0))))) (mRd 7))) nilA)))))))))
def mf__law_machine : List D → RF := mDef 3 11 [0] mb__law_machine
theorem fn__law_machine {f : Addr} {fd : FuncData} (F : Fun K "_law_machine" "_law_machine" (topS 13) f fd) (d__law_next : Does P w K mg base 1 "_law_next" 2 [0] mf__law_next) (z_int : mg "int" = none) (z_range : mg "range" = none) (z_sorted : mg "sorted" = none) (z_tuple : mg "tuple" = none) :
    FnG P w K mg base 2 f fd ["state", "letters", "rooms"] (SpM K 3 [0] mf__law_machine) := by
  refine fnok_of (pin := [0]) (k := 1) F sc__law_machine (by decide) (by decide) (fun cdv A outer s H E gd hr => ?_)
  have nd := sc__law_machine.nd
  have tk : Takes (cxOf (L2.CX P w) P w K mg base N__law_machine "_law_machine" (defScope (topS 13)) f cdv A outer s H E) (fun cls d _ H => E cls d H) := takes_of rfl rfl rfl rfl
  have hp : PassesOwn (model P w) (cxOf (L2.CX P w) P w K mg base N__law_machine "_law_machine" (defScope (topS 13)) f cdv A outer s H E).A (cxOf (L2.CX P w) P w K mg base N__law_machine "_law_machine" (defScope (topS 13)) f cdv A outer s H E).env (cxOf (L2.CX P w) P w K mg base N__law_machine "_law_machine" (defScope (topS 13)) f cdv A outer s H E).xe := passes_of rfl
  have hu : (cxOf (L2.CX P w) P w K mg base N__law_machine "_law_machine" (defScope (topS 13)) f cdv A outer s H E).A.units + 200 < cLine := units_of hr
  exact (sSs_cons (sS_set 3 nd (by decide) (sE_call d__law_next hr gd rfl tk (sM_io 0 (sM_ex (sE_P sP_int) sM_nil))))
  (sSs_cons (sS_set 4 nd (by decide) (sE_lst sA_nil))
  (sSs_cons (sS_for hp rfl (sI_seq (sE_rd 1)) (sG_name 5 nd (pin_eq (by decide)))
  (sSs_cons (sS_set 6 nd (by decide) (sE_ix (sE_lst (sA_cons (sE_rd 3) (sA_cons (sE_call d__law_next hr gd rfl tk (sM_io 0 (sM_ex (sE_P sP_int) sM_nil))) sA_nil))) (sE_P (sP_int' rfl z_int (sPA_cons (sP_cmp (op_eqD (un64 hu)) opD_eq (sP_v 3) sP_int) sPA_nil)))))
  (sSs_one (sS_if (sT_P (sPT_cmp (op_eqD (un64 hu)) opD_eq (sP_v 6) sP_int))
  (sSs_one (sS_expr (sE_append 4 (sE_lc rfl nd (own := [("room", 7)]) (nv := by decide) (blkOk_by (own := [("room", 7)]) (N := N__law_machine) (sc := defScope (topS 13)) (by decide +kernel)) (sI_range1 rfl z_range (sE_rd 2)) (fun _ => (sG_name 7 nd (pin_co (by decide)))) (fun _ => sTs_nil) (fun _ => (sE_call d__law_next hr gd rfl takes0 (sM_io 0 (sM_ex (sE_rd 2) sM_nil))))))))
  (sSs_one (sS_if (sT_P (sPT_cmp (op_eqD (un64 hu)) opD_eq (sP_v 6) sP_int))
  (sSs_one (sS_expr (sE_append 4 (sE_sorted rfl z_sorted (sA_cons (sE_lc rfl nd (own := [("room", 7)]) (nv := by decide) (blkOk_by (own := [("room", 7)]) (N := N__law_machine) (sc := defScope (topS 13)) (by decide +kernel)) (sI_range1 rfl z_range (sE_rd 2)) (fun _ => (sG_name 7 nd (pin_co (by decide)))) (fun _ => sTs_nil) (fun _ => (sE_call d__law_next hr gd rfl takes0 (sM_io 0 (sM_ex (sE_rd 2) sM_nil))))) sA_nil)))))
  (sSs_cons (sS_set 8 nd (by decide) (sE_call d__law_next hr gd rfl tk (sM_io 0 (sM_ex (sE_rd 2) sM_nil))))
  (sSs_one (sS_expr (sE_append 4 (sE_lc rfl nd (own := [("room", 7)]) (nv := by decide) (blkOk_by (own := [("room", 7)]) (N := N__law_machine) (sc := defScope (topS 13)) (by decide +kernel)) (sI_range1 rfl z_range (sE_rd 2)) (fun _ => (sG_name 7 nd (pin_co (by decide)))) (fun _ => sTs_nil) (fun _ => (sE_P (sP_mod (sP_int' rfl z_int (sPA_cons (sP_plus (sP_v 7) (sP_v 8)) sPA_nil)) (sP_v 2)))))))))))))))
  (sSs_cons (sS_set 9 nd (by decide) (sE_tuple rfl z_tuple (sE_lc rfl nd (own := [("room", 7)]) (nv := by decide) (blkOk_by (own := [("room", 7)]) (N := N__law_machine) (sc := defScope (topS 13)) (by decide +kernel)) (sI_range1 rfl z_range (sE_rd 2)) (fun _ => (sG_name 7 nd (pin_co (by decide)))) (fun _ => sTs_nil) (fun _ => (sE_tuple rfl z_tuple (sE_lc rfl nd (own := [("column", 10)]) (nv := by decide) (blkOk_by (own := [("column", 10)]) (by kernel_rfl)) (sI_seq (sE_rd 4)) (fun _ => (sG_name 10 nd (pin_co (by decide)))) (fun _ => sTs_nil) (fun _ => (sE_P (sP_ix (sP_v 10) (sP_v 7))))))))))
  (sSs_one (sS_ret (sE_tup (sA_cons (sE_rd 1) (sA_cons (sE_rd 9) (sA_cons (sE_tuple rfl z_tuple (sE_lc rfl nd (own := [("room", 7)]) (nv := by decide) (blkOk_by (own := [("room", 7)]) (N := N__law_machine) (sc := defScope (topS 13)) (by decide +kernel)) (sI_range1 rfl z_range (sE_rd 2)) (fun _ => (sG_name 7 nd (pin_co (by decide)))) (fun _ => (sTs_one (sT_cmp (op_eqD (un64 hu)) opD_eq (sE_call d__law_next hr gd rfl takes0 (sM_io 0 (sM_ex (sE_P sP_int) sM_nil))) (sE_P sP_int)))) (fun _ => (sE_rd 7)))) sA_nil))))))))))
theorem does__law_machine {f : Addr} {fd : FuncData} (F : Fun K "_law_machine" "_law_machine" (topS 13) f fd) (hm : mg "_law_machine" = some (.ref f)) (hk : PySem.W.keepIn K (.ref f) = true) (hb : Binds K fd ["state", "letters", "rooms"] []) (d__law_next : Does P w K mg base 1 "_law_next" 2 [0] mf__law_next) (z_int : mg "int" = none) (z_range : mg "range" = none) (z_sorted : mg "sorted" = none) (z_tuple : mg "tuple" = none) :
    Does P w K mg base 2 "_law_machine" 3 [0] mf__law_machine := ⟨f, fd, ["state", "letters", "rooms"], fn__law_machine F d__law_next z_int z_range z_sorted z_tuple, hm, hk, hb⟩

/-! ### _law_row -/
abbrev N__law_row : List Str := ["state", "letters", "many", "k"]
theorem sc__law_row : FnScope N__law_row ["state", "letters", "many"] (defScope (topS 18)) := ⟨rfl, rfl, rfl, by decide +kernel, rfl, by decide +kernel, by decide +kernel⟩
def mb__law_row : Sl → RS := (mRet (mTuple (mComp (mRange (mCons (mRd 2) nilA)) [3] (mgName 3) yesT (mIxv 1 (mCall [0] mf__law_next [.io 0, .ex (ofP (caP dLen (consP (vP 1) nilP)))])))))
def mf__law_row : List D → RF := mDef 3 4 [0] mb__law_row
theorem fn__law_row {f : Addr} {fd : FuncData} (F : Fun K "_law_row" "_law_row" (topS 18) f fd) (d__law_next : Does P w K mg base 1 "_law_next" 2 [0] mf__law_next) (z_range : mg "range" = none) (z_len : mg "len" = none) (z_tuple : mg "tuple" = none) :
    FnG P w K mg base 2 f fd ["state", "letters", "many"] (SpM K 3 [0] mf__law_row) := by
  refine fnok_of (pin := [0]) (k := 1) F sc__law_row (by decide) (by decide) (fun cdv A outer s H E gd hr => ?_)
  have nd := sc__law_row.nd
  have tk : Takes (cxOf (L2.CX P w) P w K mg base N__law_row "_law_row" (defScope (topS 18)) f cdv A outer s H E) (fun cls d _ H => E cls d H) := takes_of rfl rfl rfl rfl
  have hp : PassesOwn (model P w) (cxOf (L2.CX P w) P w K mg base N__law_row "_law_row" (defScope (topS 18)) f cdv A outer s H E).A (cxOf (L2.CX P w) P w K mg base N__law_row "_law_row" (defScope (topS 18)) f cdv A outer s H E).env (cxOf (L2.CX P w) P w K mg base N__law_row "_law_row" (defScope (topS 18)) f cdv A outer s H E).xe := passes_of rfl
  have hu : (cxOf (L2.CX P w) P w K mg base N__law_row "_law_row" (defScope (topS 18)) f cdv A outer s H E).A.units + 200 < cLine := units_of hr
  exact (sSs_one (sS_ret (sE_tuple rfl z_tuple (sE_lc rfl nd (own := [("k", 3)]) (nv := by decide) (blkOk_by (own := [("k", 3)]) (N := N__law_row) (sc := defScope (topS 18)) (by decide +kernel)) (sI_range1 rfl z_range (sE_rd 2)) (fun _ => (sG_name 3 nd (pin_co (by decide)))) (fun _ => sTs_nil) (fun _ => (sE_ixv 1 (sE_call d__law_next hr gd rfl takes0 (sM_io 0 (sM_ex (sE_P (sP_len rfl z_len (sPA_cons (sP_v 1) sPA_nil))) sM_nil)))))))))
theorem does__law_row {f : Addr} {fd : FuncData} (F : Fun K "_law_row" "_law_row" (topS 18) f fd) (hm : mg "_law_row" = some (.ref f)) (hk : PySem.W.keepIn K (.ref f) = true) (hb : Binds K fd ["state", "letters", "many"] []) (d__law_next : Does P w K mg base 1 "_law_next" 2 [0] mf__law_next) (z_range : mg "range" = none) (z_len : mg "len" = none) (z_tuple : mg "tuple" = none) :
    Does P w K mg base 2 "_law_row" 3 [0] mf__law_row := ⟨f, fd, ["state", "letters", "many"], fn__law_row F d__law_next z_range z_len z_tuple, hm, hk, hb⟩

/-! ### _law_deed -/
abbrev N__law_deed : List Str := ["machine", "row", "found", "room", "letter"]
theorem sc__law_deed : FnScope N__law_deed ["machine", "row"] (defScope (topS 14)) := ⟨rfl, rfl, rfl, by decide +kernel, rfl, by decide +kernel, by decide +kernel⟩
def mb__law_deed : Sl → RS := (mSeq (mAsg (mApp mkLst nilA) (mgName 2))
  (mSeq (mFor (mRange (mCons (ofP (caP dLen (consP (two dIx (vP 0) (cP (.int 1))) nilP))) nilA)) (mgName 3)
  (mSeq (mFor (mItems (mRd 1)) (mgName 4)
  (mAsg (ofP (two dIx (two dIx (two dIx (vP 0) (cP (.int 1))) (vP 3)) (two dIdx (two dIx (vP 0) (cP (.int 0))) (vP 4)))) (mgName 3)))
  (mExpr (mAppend 2 (mRd 3)))))
  (mRet (mTuple (mRd 2)))))
def mf__law_deed : List D → RF := mDef 2 5 [] mb__law_deed
theorem fn__law_deed {f : Addr} {fd : FuncData} (F : Fun K "_law_deed" "_law_deed" (topS 14) f fd) (z_len : mg "len" = none) (z_range : mg "range" = none) (z_tuple : mg "tuple" = none) :
    FnG P w K mg base 1 f fd ["machine", "row"] (SpM K 2 [] mf__law_deed) := by
  refine fnok_of (pin := []) (k := 0) F sc__law_deed (by decide) (by decide) (fun cdv A outer s H E gd hr => ?_)
  have nd := sc__law_deed.nd
  have tk : Takes (cxOf (L2.CX P w) P w K mg base N__law_deed "_law_deed" (defScope (topS 14)) f cdv A outer s H E) (fun cls d _ H => E cls d H) := takes_of rfl rfl rfl rfl
  have hp : PassesOwn (model P w) (cxOf (L2.CX P w) P w K mg base N__law_deed "_law_deed" (defScope (topS 14)) f cdv A outer s H E).A (cxOf (L2.CX P w) P w K mg base N__law_deed "_law_deed" (defScope (topS 14)) f cdv A outer s H E).env (cxOf (L2.CX P w) P w K mg base N__law_deed "_law_deed" (defScope (topS 14)) f cdv A outer s H E).xe := passes_of rfl
  have hu : (cxOf (L2.CX P w) P w K mg base N__law_deed "_law_deed" (defScope (topS 14)) f cdv A outer s H E).A.units + 200 < cLine := units_of hr
  exact (sSs_cons (sS_set 2 nd (by decide) (sE_lst sA_nil))
  (sSs_cons (sS_for hp rfl (sI_range1 rfl z_range (sE_P (sP_len rfl z_len (sPA_cons (sP_ix (sP_v 0) sP_int) sPA_nil)))) (sG_name 3 nd (pin_eq (by decide)))
  (sSs_cons (sS_for hp rfl (sI_seq (sE_rd 1)) (sG_name 4 nd (pin_eq (by decide)))
  (sSs_one (sS_set 3 nd (by decide) (sE_P (sP_ix (sP_ix (sP_ix (sP_v 0) sP_int) (sP_v 3)) (sP_index (un65 hu) (sP_ix (sP_v 0) sP_int) (sP_v 4)))))))
  (sSs_one (sS_expr (sE_append 2 (sE_rd 3))))))
  (sSs_one (sS_ret (sE_tuple rfl z_tuple (sE_rd 2))))))
theorem does__law_deed {f : Addr} {fd : FuncData} (F : Fun K "_law_deed" "_law_deed" (topS 14) f fd) (hm : mg "_law_deed" = some (.ref f)) (hk : PySem.W.keepIn K (.ref f) = true) (hb : Binds K fd ["machine", "row"] []) (z_len : mg "len" = none) (z_range : mg "range" = none) (z_tuple : mg "tuple" = none) :
    Does P w K mg base 1 "_law_deed" 2 [] mf__law_deed := ⟨f, fd, ["machine", "row"], fn__law_deed F z_len z_range z_tuple, hm, hk, hb⟩

/-! ### _law_times -/
abbrev N__law_times : List Str := ["deed", "room", "at", "times"]
theorem sc__law_times : FnScope N__law_times ["deed", "room"] (defScope (topS 15)) := ⟨rfl, rfl, rfl, by decide +kernel, rfl, by decide +kernel, by decide +kernel⟩
noncomputable def mb__law_times : Sl → RS := (mSeq (mAsg (ofP (two dIx (vP 0) (vP 1))) (mgName 2))
  (mSeq (mAsg (ofP (cP (.int 1))) (mgName 3))
  (mSeq (mWhl (mAndT (ofPT (twoB dNe (vP 2) (vP 1))) (ofPT (twoB dLe (vP 3) (caP dLen (consP (vP 0) nilP)))))
  (mSeq (mAsg (ofP (two dIx (vP 0) (vP 2))) (mgName 2))
  (mAsg (ofP (two dPl (vP 3) (cP (.int 1)))) (mgName 3))))
  (mRet (ofP (two dMul (vP 3) (caP dInt (consP (two dEq (vP 2) (vP 1)) nilP))))))))
noncomputable def mf__law_times : List D → RF := mDef 2 4 [] mb__law_times
theorem fn__law_times {f : Addr} {fd : FuncData} (F : Fun K "_law_times" "_law_times" (topS 15) f fd) (z_len : mg "len" = none) (z_int : mg "int" = none) :
    FnG P w K mg base 1 f fd ["deed", "room"] (SpM K 2 [] mf__law_times) := by
  refine fnok_of (pin := []) (k := 0) F sc__law_times (by decide) (by decide) (fun cdv A outer s H E gd hr => ?_)
  have nd := sc__law_times.nd
  have tk : Takes (cxOf (L2.CX P w) P w K mg base N__law_times "_law_times" (defScope (topS 15)) f cdv A outer s H E) (fun cls d _ H => E cls d H) := takes_of rfl rfl rfl rfl
  have hp : PassesOwn (model P w) (cxOf (L2.CX P w) P w K mg base N__law_times "_law_times" (defScope (topS 15)) f cdv A outer s H E).A (cxOf (L2.CX P w) P w K mg base N__law_times "_law_times" (defScope (topS 15)) f cdv A outer s H E).env (cxOf (L2.CX P w) P w K mg base N__law_times "_law_times" (defScope (topS 15)) f cdv A outer s H E).xe := passes_of rfl
  have hu : (cxOf (L2.CX P w) P w K mg base N__law_times "_law_times" (defScope (topS 15)) f cdv A outer s H E).A.units + 200 < cLine := units_of hr
  exact (sSs_cons (sS_set 2 nd (by decide) (sE_P (sP_ix (sP_v 0) (sP_v 1))))
  (sSs_cons (sS_set 3 nd (by decide) (sE_P sP_int))
  (sSs_cons (sS_while hp (sT_W (sW_and (sT_P (sPT_cmp (op_neD (un64 hu)) opD_ne (sP_v 2) (sP_v 1))) (sW_and1 (sT_P (sPT_cmp op_le' opD_B0 (sP_v 3) (sP_len rfl z_len (sPA_cons (sP_v 0) sPA_nil)))))))
  (sSs_cons (sS_set 2 nd (by decide) (sE_P (sP_ix (sP_v 0) (sP_v 2))))
  (sSs_one (sS_set 3 nd (by decide) (sE_P (sP_plus (sP_v 3) sP_int))))))
  (sSs_one (sS_ret (sE_P (sP_mul (sP_v 3) (sP_int' rfl z_int (sPA_cons (sP_cmp (op_eqD (un64 hu)) opD_eq (sP_v 2) (sP_v 1)) sPA_nil)))))))))
theorem does__law_times {f : Addr} {fd : FuncData} (F : Fun K "_law_times" "_law_times" (topS 15) f fd) (hm : mg "_law_times" = some (.ref f)) (hk : PySem.W.keepIn K (.ref f) = true) (hb : Binds K fd ["deed", "room"] []) (z_len : mg "len" = none) (z_int : mg "int" = none) :
    Does P w K mg base 1 "_law_times" 2 [] mf__law_times := ⟨f, fd, ["deed", "room"], fn__law_times F z_len z_int, hm, hk, hb⟩

/-! ### deed_of -/
abbrev N_deed_of : List Str := ["machine", "row", "letters", "moves", "_", "deed", "letter", "number", "room"]
theorem sc_deed_of : FnScope N_deed_of ["machine", "row"] (defScope (topS 7)) := ⟨rfl, rfl, rfl, by decide +kernel, rfl, by decide +kernel, by decide +kernel⟩
def mb_deed_of : Sl → RS := (mSeq (mAsg (mRd 0) (mgTup 3 (mgCons (mgName 2) (mgCons (mgName 3) (mgCons (mgName 4) mgNil)))))
  (mSeq (mAsg (mTupR (ofP (caP dLen (consP (vP 3) nilP)))) (mgName 5))
  (mSeq (mFor (mItems (mRd 1)) (mgName 6)
  (mSeq (mIf (ofPT (twoB dNotIn (vP 6) (vP 2)))
  (mRaise "NotAllowed")
  mNext)
  (mSeq (mAsg (ofP (two dIdx (vP 2) (vP 6))) (mgName 7))
  (mAsg (mTuple (mComp (mItems (mRd 5)) [8] (mgName 8) yesT (ofP (two dIx (two dIx (vP 3) (vP 8)) (vP 7))))) (mgName 5)))))
  (mRet (mMv 5)))))
def mf_deed_of : List D → RF := mDef 2 9 [] mb_deed_of
theorem fn_deed_of {f : Addr} {fd : FuncData} (F : Fun K "deed_of" "deed_of" (topS 7) f fd) {C_NotAllowed : Addr} (m_NotAllowed : PySem.W.nsIn K mainGlobals "NotAllowed" = some (some (.ref C_NotAllowed)) ∧ mg "NotAllowed" = some (.ref C_NotAllowed)) (c_NotAllowed : Cls K mg "NotAllowed" C_NotAllowed) (z_len : mg "len" = none) (z_tuple : mg "tuple" = none) (z_range : mg "range" = none) :
    FnG P w K mg base 1 f fd ["machine", "row"] (SpM K 2 [] mf_deed_of) := by
  refine fnok_of (pin := []) (k := 0) F sc_deed_of (by decide) (by decide) (fun cdv A outer s H E gd hr => ?_)
  have nd := sc_deed_of.nd
  have tk : Takes (cxOf (L2.CX P w) P w K mg base N_deed_of "deed_of" (defScope (topS 7)) f cdv A outer s H E) (fun cls d _ H => E cls d H) := takes_of rfl rfl rfl rfl
  have hp : PassesOwn (model P w) (cxOf (L2.CX P w) P w K mg base N_deed_of "deed_of" (defScope (topS 7)) f cdv A outer s H E).A (cxOf (L2.CX P w) P w K mg base N_deed_of "deed_of" (defScope (topS 7)) f cdv A outer s H E).env (cxOf (L2.CX P w) P w K mg base N_deed_of "deed_of" (defScope (topS 7)) f cdv A outer s H E).xe := passes_of rfl
  have hu : (cxOf (L2.CX P w) P w K mg base N_deed_of "deed_of" (defScope (topS 7)) f cdv A outer s H E).A.units + 200 < cLine := units_of hr
  exact (sSs_cons (sS_asg (sE_rd 0) (sG_tup 3 rfl (sGs_cons (sG_name 2 nd (pin_eq (by decide))) (sGs_cons (sG_name 3 nd (pin_eq (by decide))) (sGs_cons (sG_name 4 nd (pin_eq (by decide))) sGs_nil)))))
  (sSs_cons (sS_set 5 nd (by decide) (sE_tupR rfl rfl z_tuple rfl z_range (sE_P (sP_len rfl z_len (sPA_cons (sP_v 3) sPA_nil)))))
  (sSs_cons (sS_for hp rfl (sI_seq (sE_rd 1)) (sG_name 6 nd (pin_eq (by decide)))
  (sSs_cons (sS_if (sT_P (sPT_cmp (op_notInLT (un65 hu)) opD_notIn (sP_v 6) (sP_v 2)))
  (sSs_one (raise_of (k := "NotAllowed") c_NotAllowed rfl tk rfl rfl))
  sSs_nil)
  (sSs_cons (sS_set 7 nd (by decide) (sE_P (sP_index (un65 hu) (sP_v 2) (sP_v 6))))
  (sSs_one (sS_set 5 nd (by decide) (sE_tuple rfl z_tuple (sE_lc rfl nd (own := [("room", 8)]) (nv := by decide) (blkOk_by (own := [("room", 8)]) (N := N_deed_of) (sc := defScope (topS 7)) (by decide +kernel)) (sI_seq (sE_rd 5)) (fun _ => (sG_name 8 nd (pin_co (by decide)))) (fun _ => sTs_nil) (fun _ => (sE_P (sP_ix (sP_ix (sP_v 3) (sP_v 8)) (sP_v 7)))))))))))
  (sSs_one (sS_ret (sE_mv 5))))))
theorem does_deed_of {f : Addr} {fd : FuncData} (F : Fun K "deed_of" "deed_of" (topS 7) f fd) (hm : mg "deed_of" = some (.ref f)) (hk : PySem.W.keepIn K (.ref f) = true) (hb : Binds K fd ["machine", "row"] []) {C_NotAllowed : Addr} (m_NotAllowed : PySem.W.nsIn K mainGlobals "NotAllowed" = some (some (.ref C_NotAllowed)) ∧ mg "NotAllowed" = some (.ref C_NotAllowed)) (c_NotAllowed : Cls K mg "NotAllowed" C_NotAllowed) (z_len : mg "len" = none) (z_tuple : mg "tuple" = none) (z_range : mg "range" = none) :
    Does P w K mg base 1 "deed_of" 2 [] mf_deed_of := ⟨f, fd, ["machine", "row"], fn_deed_of F m_NotAllowed c_NotAllowed z_len z_tuple z_range, hm, hk, hb⟩

/-! ### times_around -/
abbrev N_times_around : List Str := ["deed", "room", "at", "times"]
theorem sc_times_around : FnScope N_times_around ["deed", "room"] (defScope (topS 8)) := ⟨rfl, rfl, rfl, by decide +kernel, rfl, by decide +kernel, by decide +kernel⟩
def mb_times_around : Sl → RS := (mSeq (mAsg (mRd 1) (mgName 2))
  (mSeq (mFor (mRange (mCons (ofP (cP (.int 1))) (mCons (ofP (two dPl (caP dLen (consP (vP 0) nilP)) (cP (.int 1)))) nilA))) (mgName 3)
  (mSeq (mAsg (ofP (two dIx (vP 0) (vP 2))) (mgName 2))
  (mIf (ofPT (twoB dEq (vP 2) (vP 1)))
  (mRet (mMv 3))
  mNext)))
  (mRet (ofP (cP (.int 0))))))
def mf_times_around : List D → RF := mDef 2 4 [] mb_times_around
theorem fn_times_around {f : Addr} {fd : FuncData} (F : Fun K "times_around" "times_around" (topS 8) f fd) (z_len : mg "len" = none) (z_range : mg "range" = none) :
    FnG P w K mg base 1 f fd ["deed", "room"] (SpM K 2 [] mf_times_around) := by
  refine fnok_of (pin := []) (k := 0) F sc_times_around (by decide) (by decide) (fun cdv A outer s H E gd hr => ?_)
  have nd := sc_times_around.nd
  have tk : Takes (cxOf (L2.CX P w) P w K mg base N_times_around "times_around" (defScope (topS 8)) f cdv A outer s H E) (fun cls d _ H => E cls d H) := takes_of rfl rfl rfl rfl
  have hp : PassesOwn (model P w) (cxOf (L2.CX P w) P w K mg base N_times_around "times_around" (defScope (topS 8)) f cdv A outer s H E).A (cxOf (L2.CX P w) P w K mg base N_times_around "times_around" (defScope (topS 8)) f cdv A outer s H E).env (cxOf (L2.CX P w) P w K mg base N_times_around "times_around" (defScope (topS 8)) f cdv A outer s H E).xe := passes_of rfl
  have hu : (cxOf (L2.CX P w) P w K mg base N_times_around "times_around" (defScope (topS 8)) f cdv A outer s H E).A.units + 200 < cLine := units_of hr
  exact (sSs_cons (sS_set 2 nd (by decide) (sE_rd 1))
  (sSs_cons (sS_for hp rfl (sI_range2 rfl z_range (sE_P sP_int) (sE_P (sP_plus (sP_len rfl z_len (sPA_cons (sP_v 0) sPA_nil)) sP_int))) (sG_name 3 nd (pin_eq (by decide)))
  (sSs_cons (sS_set 2 nd (by decide) (sE_P (sP_ix (sP_v 0) (sP_v 2))))
  (sSs_one (sS_if (sT_P (sPT_cmp (op_eqD (un64 hu)) opD_eq (sP_v 2) (sP_v 1)))
  (sSs_one (sS_ret (sE_mv 3)))
  sSs_nil))))
  (sSs_one (sS_ret (sE_P sP_int)))))
theorem does_times_around {f : Addr} {fd : FuncData} (F : Fun K "times_around" "times_around" (topS 8) f fd) (hm : mg "times_around" = some (.ref f)) (hk : PySem.W.keepIn K (.ref f) = true) (hb : Binds K fd ["deed", "room"] []) (z_len : mg "len" = none) (z_range : mg "range" = none) :
    Does P w K mg base 1 "times_around" 2 [] mf_times_around := ⟨f, fd, ["deed", "room"], fn_times_around F z_len z_range, hm, hk, hb⟩

/-! ### judge_round -/
abbrev N_judge_round : List Str := ["machine", "room", "row", "times", "deed"]
theorem sc_judge_round : FnScope N_judge_round ["machine", "room", "row", "times"] (defScope (topS 9)) := ⟨rfl, rfl, rfl, by decide +kernel, rfl, by decide +kernel, by decide +kernel⟩
def mb_judge_round : Sl → RS := (mSeq (mIf (mNotT (ofPT (chT (chain2 dLe dLt (cP (.int 0)) (vP 1) (caP dLen (consP (two dIx (vP 0) (cP (.int 1))) nilP))))))
  (mRaise "NotAllowed")
  mNext)
  (mSeq (mIf (mNotT (ofPT (trT (vP 2))))
  (mRaise "NotAllowed")
  mNext)
  (mSeq (mAsg (mCall [] mf_deed_of [.ex (mRd 0), .ex (mRd 2)]) (mgName 4))
  (mIf (mOrT (ofPT (twoB dLt (vP 3) (cP (.int 2)))) (mTest (m2 (only dNe) (mCall [] mf_times_around [.ex (mRd 4), .ex (mRd 1)]) (mRd 3))))
  (mRaise "BadPaper")
  mNext))))
def mf_judge_round : List D → RF := mDef 4 5 [] mb_judge_round
theorem fn_judge_round {f : Addr} {fd : FuncData} (F : Fun K "judge_round" "judge_round" (topS 9) f fd) {C_NotAllowed : Addr} (m_NotAllowed : PySem.W.nsIn K mainGlobals "NotAllowed" = some (some (.ref C_NotAllowed)) ∧ mg "NotAllowed" = some (.ref C_NotAllowed)) {C_BadPaper : Addr} (m_BadPaper : PySem.W.nsIn K mainGlobals "BadPaper" = some (some (.ref C_BadPaper)) ∧ mg "BadPaper" = some (.ref C_BadPaper)) (c_NotAllowed : Cls K mg "NotAllowed" C_NotAllowed) (c_BadPaper : Cls K mg "BadPaper" C_BadPaper) (d_deed_of : Does P w K mg base 1 "deed_of" 2 [] mf_deed_of) (d_times_around : Does P w K mg base 1 "times_around" 2 [] mf_times_around) (z_len : mg "len" = none) :
    FnG P w K mg base 2 f fd ["machine", "room", "row", "times"] (SpM K 4 [] mf_judge_round) := by
  refine fnok_of (pin := []) (k := 1) F sc_judge_round (by decide) (by decide) (fun cdv A outer s H E gd hr => ?_)
  have nd := sc_judge_round.nd
  have tk : Takes (cxOf (L2.CX P w) P w K mg base N_judge_round "judge_round" (defScope (topS 9)) f cdv A outer s H E) (fun cls d _ H => E cls d H) := takes_of rfl rfl rfl rfl
  have hp : PassesOwn (model P w) (cxOf (L2.CX P w) P w K mg base N_judge_round "judge_round" (defScope (topS 9)) f cdv A outer s H E).A (cxOf (L2.CX P w) P w K mg base N_judge_round "judge_round" (defScope (topS 9)) f cdv A outer s H E).env (cxOf (L2.CX P w) P w K mg base N_judge_round "judge_round" (defScope (topS 9)) f cdv A outer s H E).xe := passes_of rfl
  have hu : (cxOf (L2.CX P w) P w K mg base N_judge_round "judge_round" (defScope (topS 9)) f cdv A outer s H E).A.units + 200 < cLine := units_of hr
  exact (sSs_cons (sS_if (sT_not (sT_P (sPT_chain op_le' opD_B0 op_lt' opD_B0 sP_int (sP_v 1) (sP_len rfl z_len (sPA_cons (sP_ix (sP_v 0) sP_int) sPA_nil)))))
  (sSs_one (raise_of (k := "NotAllowed") c_NotAllowed rfl tk rfl rfl))
  sSs_nil)
  (sSs_cons (sS_if (sT_not (sT_P (sPT_tru (sP_v 2))))
  (sSs_one (raise_of (k := "NotAllowed") c_NotAllowed rfl tk rfl rfl))
  sSs_nil)
  (sSs_cons (sS_set 4 nd (by decide) (sE_call d_deed_of hr gd rfl tk (sM_ex (sE_rd 0) (sM_ex (sE_rd 2) sM_nil))))
  (sSs_one (sS_if (sT_W (sW_or (sT_P (sPT_cmp op_lt' opD_B0 (sP_v 3) sP_int)) (sW_or1 (sT_cmp (op_neD (un64 hu)) opD_ne (sE_call d_times_around hr gd rfl tk (sM_ex (sE_rd 4) (sM_ex (sE_rd 1) sM_nil))) (sE_rd 3)))))
  (sSs_one (raise_of (k := "BadPaper") c_BadPaper rfl tk rfl rfl))
  sSs_nil)))))
theorem does_judge_round {f : Addr} {fd : FuncData} (F : Fun K "judge_round" "judge_round" (topS 9) f fd) (hm : mg "judge_round" = some (.ref f)) (hk : PySem.W.keepIn K (.ref f) = true) (hb : Binds K fd ["machine", "room", "row", "times"] []) {C_NotAllowed : Addr} (m_NotAllowed : PySem.W.nsIn K mainGlobals "NotAllowed" = some (some (.ref C_NotAllowed)) ∧ mg "NotAllowed" = some (.ref C_NotAllowed)) {C_BadPaper : Addr} (m_BadPaper : PySem.W.nsIn K mainGlobals "BadPaper" = some (some (.ref C_BadPaper)) ∧ mg "BadPaper" = some (.ref C_BadPaper)) (c_NotAllowed : Cls K mg "NotAllowed" C_NotAllowed) (c_BadPaper : Cls K mg "BadPaper" C_BadPaper) (d_deed_of : Does P w K mg base 1 "deed_of" 2 [] mf_deed_of) (d_times_around : Does P w K mg base 1 "times_around" 2 [] mf_times_around) (z_len : mg "len" = none) :
    Does P w K mg base 2 "judge_round" 4 [] mf_judge_round := ⟨f, fd, ["machine", "room", "row", "times"], fn_judge_round F m_NotAllowed m_BadPaper c_NotAllowed c_BadPaper d_deed_of d_times_around z_len, hm, hk, hb⟩

/-! ### _law_told -/
abbrev N__law_told : List Str := ["machine", "room", "row", "times", "told", "e"]
theorem sc__law_told : FnScope N__law_told ["machine", "room", "row", "times"] (defScope (topS 17)) := ⟨rfl, rfl, rfl, by decide +kernel, rfl, by decide +kernel, by decide +kernel⟩
def mb__law_told : Sl → RS := (mSeq (mTryL [(fun c => clsTab c "NotAllowed", fun c fs s => mSuite 5 (two dIx (lstP (consP (cP (.str "odd")) (consP (cP (.str "refused")) nilP))) (caP dInt (consP (andV (isP 5 (dIsI [] (clsTab c)) (consP (vP 5) (consP (cP (.cls "SpanError")) nilP))) (notV (isP 5 (dIsI [] (clsTab c)) (consP (vP 5) (consP (tupP (consP (cP (.cls "TooLarge")) (consP (cP (.cls "Missing")) (consP (cP (.cls "BadPaper")) nilP)))) nilP))))) nilP))) fs s), (fun c => clsTab c "BadPaper", fun c fs s => mSuite 5 (two dIx (lstP (consP (cP (.str "odd")) (consP (cP (.str "bad")) nilP))) (caP dInt (consP (andV (isP 5 (dIsI [] (clsTab c)) (consP (vP 5) (consP (cP (.cls "SpanError")) nilP))) (notV (isP 5 (dIsI [] (clsTab c)) (consP (vP 5) (consP (tupP (consP (cP (.cls "TooLarge")) (consP (cP (.cls "Missing")) (consP (cP (.cls "NotAllowed")) nilP)))) nilP))))) nilP))) fs s)]
  (mAsg (mCall [] mf_judge_round [.ex (mRd 0), .ex (mRd 1), .ex (mRd 2), .ex (mRd 3)]) (mgName 4)))
  (mRet (ofP (two dIx (lstP (consP (cP (.str "odd")) (consP (cP (.str "none")) nilP))) (caP dInt (consP (two dIsN (vP 4) (cP .non)) nilP))))))
def mf__law_told : List D → RF := mDef 4 6 [] mb__law_told
theorem fn__law_told {f : Addr} {fd : FuncData} (F : Fun K "_law_told" "_law_told" (topS 17) f fd) {C_SpanError : Addr} (m_SpanError : PySem.W.nsIn K mainGlobals "SpanError" = some (some (.ref C_SpanError)) ∧ mg "SpanError" = some (.ref C_SpanError)) {C_NotAllowed : Addr} (m_NotAllowed : PySem.W.nsIn K mainGlobals "NotAllowed" = some (some (.ref C_NotAllowed)) ∧ mg "NotAllowed" = some (.ref C_NotAllowed)) {C_Missing : Addr} (m_Missing : PySem.W.nsIn K mainGlobals "Missing" = some (some (.ref C_Missing)) ∧ mg "Missing" = some (.ref C_Missing)) {C_TooLarge : Addr} (m_TooLarge : PySem.W.nsIn K mainGlobals "TooLarge" = some (some (.ref C_TooLarge)) ∧ mg "TooLarge" = some (.ref C_TooLarge)) {C_BadPaper : Addr} (m_BadPaper : PySem.W.nsIn K mainGlobals "BadPaper" = some (some (.ref C_BadPaper)) ∧ mg "BadPaper" = some (.ref C_BadPaper)) (c_BadPaper : Cls K mg "BadPaper" C_BadPaper) (c_NotAllowed : Cls K mg "NotAllowed" C_NotAllowed) (d_judge_round : Does P w K mg base 2 "judge_round" 4 [] mf_judge_round) (z_isinstance : mg "isinstance" = none) (z_int : mg "int" = none) (b_BadPaper : Below K clsTab "BadPaper") (b_NotAllowed : Below K clsTab "NotAllowed") (t_BadPaper : Catches K clsTab "BadPaper" C_BadPaper) (t_NotAllowed : Catches K clsTab "NotAllowed" C_NotAllowed) :
    FnG P w K mg base 3 f fd ["machine", "room", "row", "times"] (SpM K 4 [] mf__law_told) := by
  refine fnok_of (pin := []) (k := 2) F sc__law_told (by decide) (by decide) (fun cdv A outer s H E gd hr => ?_)
  have nd := sc__law_told.nd
  have tk : Takes (cxOf (L2.CX P w) P w K mg base N__law_told "_law_told" (defScope (topS 17)) f cdv A outer s H E) (fun cls d _ H => E cls d H) := takes_of rfl rfl rfl rfl
  have hp : PassesOwn (model P w) (cxOf (L2.CX P w) P w K mg base N__law_told "_law_told" (defScope (topS 17)) f cdv A outer s H E).A (cxOf (L2.CX P w) P w K mg base N__law_told "_law_told" (defScope (topS 17)) f cdv A outer s H E).env (cxOf (L2.CX P w) P w K mg base N__law_told "_law_told" (defScope (topS 17)) f cdv A outer s H E).xe := passes_of rfl
  have hu : (cxOf (L2.CX P w) P w K mg base N__law_told "_law_told" (defScope (topS 17)) f cdv A outer s H E).A.units + 200 < cLine := units_of hr
  exact (sSs_cons (simS_try_each rfl rfl nd tk (fun W' pn xe tk hp => (sSs_one (sS_set 4 nd (by decide) (sE_call d_judge_round hr gd rfl tk (sM_ex (sE_rd 0) (sM_ex (sE_rd 1) (sM_ex (sE_rd 2) (sM_ex (sE_rd 3) sM_nil)))))))) (simCl_cons (i := 5) (test := fun c => clsTab c "NotAllowed") (m := fun c => (two dIx (lstP (consP (cP (.str "odd")) (consP (cP (.str "refused")) nilP))) (caP dInt (consP (andV (isP 5 (dIsI [] (clsTab c)) (consP (vP 5) (consP (cP (.cls "SpanError")) nilP))) (notV (isP 5 (dIsI [] (clsTab c)) (consP (vP 5) (consP (tupP (consP (cP (.cls "TooLarge")) (consP (cP (.cls "Missing")) (consP (cP (.cls "BadPaper")) nilP)))) nilP))))) nilP)))) rfl rfl (by decide) ⟨rfl, by decide, Or.inl c_NotAllowed.gl⟩ t_NotAllowed (fun c D a oe dd pn hE hz hv hT => (sP_ix (sP_lst (sPA_cons sP_str (sPA_cons sP_str sPA_nil))) (sP_int' rfl z_int (sPA_cons (sP_and (sP_is 5 hz hv (b_NotAllowed c hT D hE).1 (b_NotAllowed c hT D hE).2 (fun k hk => (List.not_mem_nil hk).elim) rfl z_isinstance (sPA_cons (sP_v 5) (sPA_cons (sP_cls "SpanError" rfl rfl m_SpanError.2 m_SpanError.1) sPA_nil))) (sP_b1 (sP_not (sP_is 5 hz hv (b_NotAllowed c hT D hE).1 (b_NotAllowed c hT D hE).2 (fun k hk => (List.not_mem_nil hk).elim) rfl z_isinstance (sPA_cons (sP_v 5) (sPA_cons (sP_tup (sPA_cons (sP_cls "TooLarge" rfl rfl m_TooLarge.2 m_TooLarge.1) (sPA_cons (sP_cls "Missing" rfl rfl m_Missing.2 m_Missing.1) (sPA_cons (sP_cls "BadPaper" rfl rfl m_BadPaper.2 m_BadPaper.1) sPA_nil)))) sPA_nil)))))) sPA_nil)))) (simCl_cons (i := 5) (test := fun c => clsTab c "BadPaper") (m := fun c => (two dIx (lstP (consP (cP (.str "odd")) (consP (cP (.str "bad")) nilP))) (caP dInt (consP (andV (isP 5 (dIsI [] (clsTab c)) (consP (vP 5) (consP (cP (.cls "SpanError")) nilP))) (notV (isP 5 (dIsI [] (clsTab c)) (consP (vP 5) (consP (tupP (consP (cP (.cls "TooLarge")) (consP (cP (.cls "Missing")) (consP (cP (.cls "NotAllowed")) nilP)))) nilP))))) nilP)))) rfl rfl (by decide) ⟨rfl, by decide, Or.inl c_BadPaper.gl⟩ t_BadPaper (fun c D a oe dd pn hE hz hv hT => (sP_ix (sP_lst (sPA_cons sP_str (sPA_cons sP_str sPA_nil))) (sP_int' rfl z_int (sPA_cons (sP_and (sP_is 5 hz hv (b_BadPaper c hT D hE).1 (b_BadPaper c hT D hE).2 (fun k hk => (List.not_mem_nil hk).elim) rfl z_isinstance (sPA_cons (sP_v 5) (sPA_cons (sP_cls "SpanError" rfl rfl m_SpanError.2 m_SpanError.1) sPA_nil))) (sP_b1 (sP_not (sP_is 5 hz hv (b_BadPaper c hT D hE).1 (b_BadPaper c hT D hE).2 (fun k hk => (List.not_mem_nil hk).elim) rfl z_isinstance (sPA_cons (sP_v 5) (sPA_cons (sP_tup (sPA_cons (sP_cls "TooLarge" rfl rfl m_TooLarge.2 m_TooLarge.1) (sPA_cons (sP_cls "Missing" rfl rfl m_Missing.2 m_Missing.1) (sPA_cons (sP_cls "NotAllowed" rfl rfl m_NotAllowed.2 m_NotAllowed.1) sPA_nil)))) sPA_nil)))))) sPA_nil)))) simCl_nil)))
  (sSs_one (sS_ret (sE_P (sP_ix (sP_lst (sPA_cons sP_str (sPA_cons sP_str sPA_nil))) (sP_int' rfl z_int (sPA_cons (sP_cmp op_isN' opD_isN (sP_v 4) sP_non) sPA_nil)))))))
theorem does__law_told {f : Addr} {fd : FuncData} (F : Fun K "_law_told" "_law_told" (topS 17) f fd) (hm : mg "_law_told" = some (.ref f)) (hk : PySem.W.keepIn K (.ref f) = true) (hb : Binds K fd ["machine", "room", "row", "times"] []) {C_SpanError : Addr} (m_SpanError : PySem.W.nsIn K mainGlobals "SpanError" = some (some (.ref C_SpanError)) ∧ mg "SpanError" = some (.ref C_SpanError)) {C_NotAllowed : Addr} (m_NotAllowed : PySem.W.nsIn K mainGlobals "NotAllowed" = some (some (.ref C_NotAllowed)) ∧ mg "NotAllowed" = some (.ref C_NotAllowed)) {C_Missing : Addr} (m_Missing : PySem.W.nsIn K mainGlobals "Missing" = some (some (.ref C_Missing)) ∧ mg "Missing" = some (.ref C_Missing)) {C_TooLarge : Addr} (m_TooLarge : PySem.W.nsIn K mainGlobals "TooLarge" = some (some (.ref C_TooLarge)) ∧ mg "TooLarge" = some (.ref C_TooLarge)) {C_BadPaper : Addr} (m_BadPaper : PySem.W.nsIn K mainGlobals "BadPaper" = some (some (.ref C_BadPaper)) ∧ mg "BadPaper" = some (.ref C_BadPaper)) (c_BadPaper : Cls K mg "BadPaper" C_BadPaper) (c_NotAllowed : Cls K mg "NotAllowed" C_NotAllowed) (d_judge_round : Does P w K mg base 2 "judge_round" 4 [] mf_judge_round) (z_isinstance : mg "isinstance" = none) (z_int : mg "int" = none) (b_BadPaper : Below K clsTab "BadPaper") (b_NotAllowed : Below K clsTab "NotAllowed") (t_BadPaper : Catches K clsTab "BadPaper" C_BadPaper) (t_NotAllowed : Catches K clsTab "NotAllowed" C_NotAllowed) :
    Does P w K mg base 3 "_law_told" 4 [] mf__law_told := ⟨f, fd, ["machine", "room", "row", "times"], fn__law_told F m_SpanError m_NotAllowed m_Missing m_TooLarge m_BadPaper c_BadPaper c_NotAllowed d_judge_round z_isinstance z_int b_BadPaper b_NotAllowed t_BadPaper t_NotAllowed, hm, hk, hb⟩

/-! ### _law_changed -/
abbrev N__law_changed : List Str := ["state", "machine", "room", "row", "times", "kind"]
theorem sc__law_changed : FnScope N__law_changed ["state", "machine", "room", "row", "times"] (defScope (topS 19)) := ⟨rfl, rfl, rfl, by decide +kernel, rfl, by decide +kernel, by decide +kernel⟩
def mb__law_changed : Sl → RS := (mSeq (mAsg (mCall [0] mf__law_next [.io 0, .ex (ofP (cP (.int 6)))]) (mgName 5))
  (mSeq (mIf (ofPT (twoB dEq (vP 5) (cP (.int 0))))
  (mRet (mApp mkTup (mCons (m2 dIx (mApp mkLst (mCons (mCall [0] mf__law_next [.io 0, .ex (ofP (caP dLen (consP (two dIx (vP 1) (cP (.int 1))) nilP)))]) (mCons (ofP (one dNeg (cP (.int 1)))) (mCons (ofP (caP dLen (consP (two dIx (vP 1) (cP (.int 1))) nilP))) nilA)))) (mCall [0] mf__law_next [.io 0, .ex (ofP (cP (.int 3)))])) (mCons (mRd 3) (mCons (mRd 4) nilA)))))
  mNext)
  (mSeq (mIf (ofPT (twoB dEq (vP 5) (cP (.int 1))))
  (mRet (mApp mkTup (mCons (mRd 2) (mCons (mRd 3) (mCons (m2 dIx (mApp mkLst (mCons (ofP (two dSub (vP 4) (cP (.int 1)))) (mCons (ofP (two dPl (vP 4) (cP (.int 1)))) (mCons (ofP (two dMul (cP (.int 2)) (vP 4))) (mCons (ofP (two dDiv (vP 4) (cP (.int 2)))) (mCons (ofP (cP (.int 0))) (mCons (ofP (cP (.int 1))) (mCons (ofP (one dNeg (vP 4))) (mCons (ofP (two dPow (cP (.int 10)) (cP (.int 12)))) (mCons (ofP (two dMul (cP (.int 3)) (vP 4))) nilA)))))))))) (mCall [0] mf__law_next [.io 0, .ex (ofP (cP (.int 9)))])) nilA)))))
  mNext)
  (mSeq (mIf (ofPT (twoB dEq (vP 5) (cP (.int 2))))
  (mRet (mApp mkTup (mCons (mRd 2) (mCons (m2 dIx (mApp mkLst (mCons (mNew2 dPlF (vP 3) (vP 3)) (mCons (ofP (tupP nilP)) (mCons (mNew2 dPlF (vP 3) (tupP (consP (cP (.str "q")) nilP))) (mCons (m2 dPlF (ofP (tupP (consP (cP (.str "q")) nilP))) (mSl (vP 3) (partO (cP (.int 1))) noO)) (mCons (mSl (vP 3) (partO (cP (.int 1))) noO) (mCons (ofP (two dMulX (vP 3) (cP (.int 3)))) nilA))))))) (mCall [0] mf__law_next [.io 0, .ex (ofP (cP (.int 6)))])) (mCons (mRd 4) nilA)))))
  mNext)
  (mSeq (mIf (ofPT (twoB dEq (vP 5) (cP (.int 3))))
  (mRet (mApp mkTup (mCons (mRd 2) (mCons (mCall [0] mf__law_row [.io 0, .ex (ofP (two dIx (vP 1) (cP (.int 0)))), .ex (m2 dPlF (ofP (cP (.int 1))) (mCall [0] mf__law_next [.io 0, .ex (ofP (cP (.int 6)))]))]) (mCons (mRd 4) nilA)))))
  mNext)
  (mSeq (mIf (ofPT (twoB dEq (vP 5) (cP (.int 4))))
  (mRet (mApp mkTup (mCons (m2 (only dSub) (ofP (one dNeg (cP (.int 1)))) (mCall [0] mf__law_next [.io 0, .ex (ofP (cP (.int 2)))])) (mCons (ofP (tupP nilP)) (mCons (ofP (cP (.int 0))) nilA)))))
  mNext)
  (mRet (ofP (tupP (consP (vP 2) (consP (vP 3) (consP (vP 4) nilP))))))))))))
def mf__law_changed : List D → RF := mDef 5 6 [0] mb__law_changed
theorem fn__law_changed {f : Addr} {fd : FuncData} (F : Fun K "_law_changed" "_law_changed" (topS 19) f fd) (d__law_next : Does P w K mg base 1 "_law_next" 2 [0] mf__law_next) (d__law_row : Does P w K mg base 2 "_law_row" 3 [0] mf__law_row) (z_len : mg "len" = none) :
    FnG P w K mg base 3 f fd ["state", "machine", "room", "row", "times"] (SpM K 5 [0] mf__law_changed) := by
  refine fnok_of (pin := [0]) (k := 2) F sc__law_changed (by decide) (by decide) (fun cdv A outer s H E gd hr => ?_)
  have nd := sc__law_changed.nd
  have tk : Takes (cxOf (L2.CX P w) P w K mg base N__law_changed "_law_changed" (defScope (topS 19)) f cdv A outer s H E) (fun cls d _ H => E cls d H) := takes_of rfl rfl rfl rfl
  have hp : PassesOwn (model P w) (cxOf (L2.CX P w) P w K mg base N__law_changed "_law_changed" (defScope (topS 19)) f cdv A outer s H E).A (cxOf (L2.CX P w) P w K mg base N__law_changed "_law_changed" (defScope (topS 19)) f cdv A outer s H E).env (cxOf (L2.CX P w) P w K mg base N__law_changed "_law_changed" (defScope (topS 19)) f cdv A outer s H E).xe := passes_of rfl
  have hu : (cxOf (L2.CX P w) P w K mg base N__law_changed "_law_changed" (defScope (topS 19)) f cdv A outer s H E).A.units + 200 < cLine := units_of hr
  exact (sSs_cons (sS_set 5 nd (by decide) (sE_call (d__law_next.mono (by decide)) hr gd rfl tk (sM_io 0 (sM_ex (sE_P sP_int) sM_nil))))
  (sSs_cons (sS_if (sT_P (sPT_cmp (op_eqD (un64 hu)) opD_eq (sP_v 5) sP_int))
  (sSs_one (sS_ret (sE_tup (sA_cons (sE_ix (sE_lst (sA_cons (sE_call (d__law_next.mono (by decide)) hr gd rfl tk (sM_io 0 (sM_ex (sE_P (sP_len rfl z_len (sPA_cons (sP_ix (sP_v 1) sP_int) sPA_nil))) sM_nil))) (sA_cons (sE_P (sP_neg sP_int)) (sA_cons (sE_P (sP_len rfl z_len (sPA_cons (sP_ix (sP_v 1) sP_int) sPA_nil))) sA_nil)))) (sE_call (d__law_next.mono (by decide)) hr gd rfl tk (sM_io 0 (sM_ex (sE_P sP_int) sM_nil)))) (sA_cons (sE_rd 3) (sA_cons (sE_rd 4) sA_nil))))))
  sSs_nil)
  (sSs_cons (sS_if (sT_P (sPT_cmp (op_eqD (un64 hu)) opD_eq (sP_v 5) sP_int))
  (sSs_one (sS_ret (sE_tup (sA_cons (sE_rd 2) (sA_cons (sE_rd 3) (sA_cons (sE_ix (sE_lst (sA_cons (sE_P (sP_sub (sP_v 4) sP_int)) (sA_cons (sE_P (sP_plus (sP_v 4) sP_int)) (sA_cons (sE_P (sP_mul sP_int (sP_v 4))) (sA_cons (sE_P (sP_div (sP_v 4) sP_int)) (sA_cons (sE_P sP_int) (sA_cons (sE_P sP_int) (sA_cons (sE_P (sP_neg (sP_v 4))) (sA_cons (sE_P (sP_pow sP_int sP_int)) (sA_cons (sE_P (sP_mul sP_int (sP_v 4))) sA_nil)))))))))) (sE_call (d__law_next.mono (by decide)) hr gd rfl tk (sM_io 0 (sM_ex (sE_P sP_int) sM_nil)))) sA_nil))))))
  sSs_nil)
  (sSs_cons (sS_if (sT_P (sPT_cmp (op_eqD (un64 hu)) opD_eq (sP_v 5) sP_int))
  (sSs_one (sS_ret (sE_tup (sA_cons (sE_rd 2) (sA_cons (sE_ix (sE_lst (sA_cons (sE_plFP (sP_v 3) (sP_v 3)) (sA_cons (sE_P (sP_tup sPA_nil)) (sA_cons (sE_plFP (sP_v 3) (sP_tup (sPA_cons sP_str sPA_nil))) (sA_cons (sE_plF (sE_P (sP_tup (sPA_cons sP_str sPA_nil))) (sE_sl (sP_v 3) (sO_some sP_int) sO_none)) (sA_cons (sE_sl (sP_v 3) (sO_some sP_int) sO_none) (sA_cons (sE_P (sP_mulX (sP_v 3) sP_int)) sA_nil))))))) (sE_call (d__law_next.mono (by decide)) hr gd rfl tk (sM_io 0 (sM_ex (sE_P sP_int) sM_nil)))) (sA_cons (sE_rd 4) sA_nil))))))
  sSs_nil)
  (sSs_cons (sS_if (sT_P (sPT_cmp (op_eqD (un64 hu)) opD_eq (sP_v 5) sP_int))
  (sSs_one (sS_ret (sE_tup (sA_cons (sE_rd 2) (sA_cons (sE_call d__law_row hr gd rfl tk (sM_io 0 (sM_ex (sE_P (sP_ix (sP_v 1) sP_int)) (sM_ex (sE_plF (sE_P sP_int) (sE_call (d__law_next.mono (by decide)) hr gd rfl tk (sM_io 0 (sM_ex (sE_P sP_int) sM_nil)))) sM_nil)))) (sA_cons (sE_rd 4) sA_nil))))))
  sSs_nil)
  (sSs_cons (sS_if (sT_P (sPT_cmp (op_eqD (un64 hu)) opD_eq (sP_v 5) sP_int))
  (sSs_one (sS_ret (sE_tup (sA_cons (sE_sub (sE_P (sP_neg sP_int)) (sE_call (d__law_next.mono (by decide)) hr gd rfl tk (sM_io 0 (sM_ex (sE_P sP_int) sM_nil)))) (sA_cons (sE_P (sP_tup sPA_nil)) (sA_cons (sE_P sP_int) sA_nil))))))
  sSs_nil)
  (sSs_one (sS_ret (sE_P (sP_tup (sPA_cons (sP_v 2) (sPA_cons (sP_v 3) (sPA_cons (sP_v 4) sPA_nil)))))))))))))
theorem does__law_changed {f : Addr} {fd : FuncData} (F : Fun K "_law_changed" "_law_changed" (topS 19) f fd) (hm : mg "_law_changed" = some (.ref f)) (hk : PySem.W.keepIn K (.ref f) = true) (hb : Binds K fd ["state", "machine", "room", "row", "times"] []) (d__law_next : Does P w K mg base 1 "_law_next" 2 [0] mf__law_next) (d__law_row : Does P w K mg base 2 "_law_row" 3 [0] mf__law_row) (z_len : mg "len" = none) :
    Does P w K mg base 3 "_law_changed" 5 [0] mf__law_changed := ⟨f, fd, ["state", "machine", "room", "row", "times"], fn__law_changed F d__law_next d__law_row z_len, hm, hk, hb⟩

/-! ### _law_due -/
abbrev N__law_due : List Str := ["machine", "room", "row", "times", "letter"]
theorem sc__law_due : FnScope N__law_due ["machine", "room", "row", "times"] (defScope (topS 16)) := ⟨rfl, rfl, rfl, by decide +kernel, rfl, by decide +kernel, by decide +kernel⟩
noncomputable def mb__law_due : Sl → RS := (mSeq (mIf (mOrT (mNotT (ofPT (chT (chain2 dLe dLt (cP (.int 0)) (vP 1) (caP dLen (consP (two dIx (vP 0) (cP (.int 1))) nilP)))))) (mOrT (ofPT (twoB dEq (caP dLen (consP (vP 2) nilP)) (cP (.int 0)))) (mNotT (mTest (mApp (only1 dAll) (mCons (mComp (mItems (mRd 2)) [4] (mgName 4) yesT (ofP (two dIn (vP 4) (two dIx (vP 0) (cP (.int 0)))))) nilA))))))
  (mRet (ofP (cP (.str "refused"))))
  mNext)
  (mRet (m2 dIx (mApp mkLst (mCons (ofP (cP (.str "bad"))) (mCons (ofP (cP (.str "none"))) nilA))) (mApp (only1 dInt) (mCons (mAndV (ofP (two dGt (vP 3) (cP (.int 1)))) (m2 (only dEq) (mCall [] mf__law_times [.ex (mCall [] mf__law_deed [.ex (mRd 0), .ex (mRd 2)]), .ex (mRd 1)]) (mRd 3))) nilA)))))
noncomputable def mf__law_due : List D → RF := mDef 4 5 [] mb__law_due
theorem fn__law_due {f : Addr} {fd : FuncData} (F : Fun K "_law_due" "_law_due" (topS 16) f fd) (d__law_deed : Does P w K mg base 1 "_law_deed" 2 [] mf__law_deed) (d__law_times : Does P w K mg base 1 "_law_times" 2 [] mf__law_times) (z_len : mg "len" = none) (z_all : mg "all" = none) (z_int : mg "int" = none) :
    FnG P w K mg base 2 f fd ["machine", "room", "row", "times"] (SpM K 4 [] mf__law_due) := by
  refine fnok_of (pin := []) (k := 1) F sc__law_due (by decide) (by decide) (fun cdv A outer s H E gd hr => ?_)
  have nd := sc__law_due.nd
  have tk : Takes (cxOf (L2.CX P w) P w K mg base N__law_due "_law_due" (defScope (topS 16)) f cdv A outer s H E) (fun cls d _ H => E cls d H) := takes_of rfl rfl rfl rfl
  have hp : PassesOwn (model P w) (cxOf (L2.CX P w) P w K mg base N__law_due "_law_due" (defScope (topS 16)) f cdv A outer s H E).A (cxOf (L2.CX P w) P w K mg base N__law_due "_law_due" (defScope (topS 16)) f cdv A outer s H E).env (cxOf (L2.CX P w) P w K mg base N__law_due "_law_due" (defScope (topS 16)) f cdv A outer s H E).xe := passes_of rfl
  have hu : (cxOf (L2.CX P w) P w K mg base N__law_due "_law_due" (defScope (topS 16)) f cdv A outer s H E).A.units + 200 < cLine := units_of hr
  exact (sSs_cons (sS_if (sT_W (sW_or (sT_not (sT_P (sPT_chain op_le' opD_B0 op_lt' opD_B0 sP_int (sP_v 1) (sP_len rfl z_len (sPA_cons (sP_ix (sP_v 0) sP_int) sPA_nil))))) (sW_or (sT_P (sPT_cmp (op_eqD (un64 hu)) opD_eq (sP_len rfl z_len (sPA_cons (sP_v 2) sPA_nil)) sP_int)) (sW_or1 (sT_not (sT_E (sE_all rfl rfl z_all (sA_cons (sE_lc rfl nd (own := [("letter", 4)]) (nv := by decide) (blkOk_by (own := [("letter", 4)]) (N := N__law_due) (sc := defScope (topS 16)) (by decide +kernel)) (sI_seq (sE_rd 2)) (fun _ => (sG_name 4 nd (pin_co (by decide)))) (fun _ => sTs_nil) (fun _ => (sE_P (sP_cmp (op_inLT (un65 hu)) opD_in (sP_v 4) (sP_ix (sP_v 0) sP_int))))) sA_nil))))))))
  (sSs_one (sS_ret (sE_P sP_str)))
  sSs_nil)
  (sSs_one (sS_ret (sE_ix (sE_lst (sA_cons (sE_P sP_str) (sA_cons (sE_P sP_str) sA_nil))) (sE_int rfl z_int (sA_cons (sE_and (sE_P (sP_cmp op_gt' opD_B0 (sP_v 3) sP_int)) (sE_b1 (sE_cmp (op_eqD (un64 hu)) opD_eq (sE_call d__law_times hr gd rfl tk (sM_ex (sE_call d__law_deed hr gd rfl tk (sM_ex (sE_rd 0) (sM_ex (sE_rd 2) sM_nil))) (sM_ex (sE_rd 1) sM_nil))) (sE_rd 3)))) sA_nil))))))
theorem does__law_due {f : Addr} {fd : FuncData} (F : Fun K "_law_due" "_law_due" (topS 16) f fd) (hm : mg "_law_due" = some (.ref f)) (hk : PySem.W.keepIn K (.ref f) = true) (hb : Binds K fd ["machine", "room", "row", "times"] []) (d__law_deed : Does P w K mg base 1 "_law_deed" 2 [] mf__law_deed) (d__law_times : Does P w K mg base 1 "_law_times" 2 [] mf__law_times) (z_len : mg "len" = none) (z_all : mg "all" = none) (z_int : mg "int" = none) :
    Does P w K mg base 2 "_law_due" 4 [] mf__law_due := ⟨f, fd, ["machine", "room", "row", "times"], fn__law_due F d__law_deed d__law_times z_len z_all z_int, hm, hk, hb⟩

/-! ### law -/
abbrev N_law : List Str := ["script", "state", "turn", "letters", "machine", "row", "deed", "rounds", "room", "again", "asked"]
theorem sc_law : FnScope N_law ["script"] (defScope (topS 20)) := ⟨rfl, rfl, rfl, by decide +kernel, rfl, by decide +kernel, by decide +kernel⟩
noncomputable def mb_law : Sl → RS := (mSeq (mAsg (mApp mkLst (mCons (mCall [] mf__law_stream [.ex (mRd 0)]) (mCons (ofP (cP (.int 0))) nilA))) (mgName 1))
  (mSeq (mFor (mRange (mCons (ofP (cP (.int 4))) nilA)) (mgName 2)
  (mSeq (mAsg (m2 dIx (mApp mkLst (mCons (ofP (tupP (consP (cP (.int 0)) (consP (cP (.int 1)) (consP (cP (.int 2)) nilP))))) (mCons (ofP (tupP (consP (cP (.str "a")) (consP (cP (.str "b")) (consP (cP (.str "aa")) (consP (cP (.str "c")) nilP)))))) (mCons (ofP (tupP (consP (tupP nilP) (consP (tupP (consP (cP (.str "on")) nilP)) nilP)))) (mCons (ofP (tupP (consP (cP (.int 7)) nilP))) nilA))))) (mCall [0] mf__law_next [.io 1, .ex (ofP (cP (.int 4)))])) (mgName 3))
  (mSeq (mAsg (mCall [0] mf__law_machine [.io 1, .ex (mRd 3), .ex (m2 dPlF (ofP (cP (.int 1))) (mCall [0] mf__law_next [.io 1, .ex (ofP (cP (.int 9)))]))]) (mgName 4))
  (mSeq (mAsg (mCall [0] mf__law_row [.io 1, .ex (mRd 3), .ex (m2 dPlF (ofP (cP (.int 1))) (mCall [0] mf__law_next [.io 1, .ex (ofP (cP (.int 6)))]))]) (mgName 5))
  (mSeq (mAsg (mCall [] mf__law_deed [.ex (mRd 4), .ex (mRd 5)]) (mgName 6))
  (mSeq (mAsg (mComp (mRange (mCons (ofP (caP dLen (consP (vP 6) nilP))) nilA)) [8] (mgName 8) (mTest (m2 (only dGt) (mCall [] mf__law_times [.ex (mRd 6), .ex (mRd 8)]) (ofP (cP (.int 1))))) (mRd 8)) (mgName 7))
  (mSeq (mAsg (mCall [0] mf__law_next [.io 1, .ex (ofP (caP dLen (consP (vP 6) nilP)))]) (mgName 8))
  (mSeq (mIf (ofPT (twoB dGt (caP dLen (consP (vP 7) nilP)) (cP (.int 0))))
  (mSeq (mAsg (mIxv 7 (mCall [0] mf__law_next [.io 1, .ex (ofP (caP dLen (consP (vP 7) nilP)))])) (mgName 8))
  (mIf (mTest (m2 (only dNe) (mCall [] mf__law_told [.ex (mRd 4), .ex (mRd 8), .ex (mRd 5), .ex (mCall [] mf__law_times [.ex (mRd 6), .ex (mRd 8)])]) (ofP (cP (.str "none")))))
  (mRet (ofP (cP (.bl false))))
  mNext))
  mNext)
  (mFor (mRange (mCons (ofP (cP (.int 6))) nilA)) (mgName 9)
  (mSeq (mAsg (mCall [0] mf__law_changed [.io 1, .ex (mRd 4), .ex (mRd 8), .ex (mRd 5), .ex (mCall [] mf__law_times [.ex (mRd 6), .ex (mRd 8)])]) (mgName 10))
  (mIf (mTest (m2 (only dNe) (mCall [] mf__law_told [.ex (mRd 4), .ex (ofP (two dIx (vP 10) (cP (.int 0)))), .ex (ofP (two dIx (vP 10) (cP (.int 1)))), .ex (ofP (two dIx (vP 10) (cP (.int 2))))]) (mCall [] mf__law_due [.ex (mRd 4), .ex (ofP (two dIx (vP 10) (cP (.int 0)))), .ex (ofP (two dIx (vP 10) (cP (.int 1)))), .ex (ofP (two dIx (vP 10) (cP (.int 2))))])))
  (mRet (ofP (cP (.bl false))))
  mNext)))))))))))
  (mRet (ofP (cP (.bl true))))))
noncomputable def mf_law : List D → RF := mDef 1 11 [] mb_law
theorem fn_law {f : Addr} {fd : FuncData} (F : Fun K "law" "law" (topS 20) f fd) (d__law_stream : Does P w K mg base 1 "_law_stream" 1 [] mf__law_stream) (d__law_next : Does P w K mg base 1 "_law_next" 2 [0] mf__law_next) (d__law_machine : Does P w K mg base 2 "_law_machine" 3 [0] mf__law_machine) (d__law_row : Does P w K mg base 2 "_law_row" 3 [0] mf__law_row) (d__law_deed : Does P w K mg base 1 "_law_deed" 2 [] mf__law_deed) (d__law_times : Does P w K mg base 1 "_law_times" 2 [] mf__law_times) (d__law_told : Does P w K mg base 3 "_law_told" 4 [] mf__law_told) (d__law_changed : Does P w K mg base 3 "_law_changed" 5 [0] mf__law_changed) (d__law_due : Does P w K mg base 2 "_law_due" 4 [] mf__law_due) (z_range : mg "range" = none) (z_len : mg "len" = none) :
    FnG P w K mg base 4 f fd ["script"] (SpM K 1 [] mf_law) := by
  refine fnok_of (pin := []) (k := 3) F sc_law (by decide) (by decide) (fun cdv A outer s H E gd hr => ?_)
  have nd := sc_law.nd
  have tk : Takes (cxOf (L2.CX P w) P w K mg base N_law "law" (defScope (topS 20)) f cdv A outer s H E) (fun cls d _ H => E cls d H) := takes_of rfl rfl rfl rfl
  have hp : PassesOwn (model P w) (cxOf (L2.CX P w) P w K mg base N_law "law" (defScope (topS 20)) f cdv A outer s H E).A (cxOf (L2.CX P w) P w K mg base N_law "law" (defScope (topS 20)) f cdv A outer s H E).env (cxOf (L2.CX P w) P w K mg base N_law "law" (defScope (topS 20)) f cdv A outer s H E).xe := passes_of rfl
  have hu : (cxOf (L2.CX P w) P w K mg base N_law "law" (defScope (topS 20)) f cdv A outer s H E).A.units + 200 < cLine := units_of hr
  exact (sSs_cons (sS_set 1 nd (by decide) (sE_lst (sA_cons (sE_call (d__law_stream.mono (by decide)) hr gd rfl tk (sM_ex (sE_rd 0) sM_nil)) (sA_cons (sE_P sP_int) sA_nil))))
  (sSs_cons (sS_for hp rfl (sI_range1 rfl z_range (sE_P sP_int)) (sG_name 2 nd (pin_eq (by decide)))
  (sSs_cons (sS_set 3 nd (by decide) (sE_ix (sE_lst (sA_cons (sE_P (sP_tup (sPA_cons sP_int (sPA_cons sP_int (sPA_cons sP_int sPA_nil))))) (sA_cons (sE_P (sP_tup (sPA_cons sP_str (sPA_cons sP_str (sPA_cons sP_str (sPA_cons sP_str sPA_nil)))))) (sA_cons (sE_P (sP_tup (sPA_cons (sP_tup sPA_nil) (sPA_cons (sP_tup (sPA_cons sP_str sPA_nil)) sPA_nil)))) (sA_cons (sE_P (sP_tup (sPA_cons sP_int sPA_nil))) sA_nil))))) (sE_call (d__law_next.mono (by decide)) hr gd rfl tk (sM_io 1 (sM_ex (sE_P sP_int) sM_nil)))))
  (sSs_cons (sS_set 4 nd (by decide) (sE_call (d__law_machine.mono (by decide)) hr gd rfl tk (sM_io 1 (sM_ex (sE_rd 3) (sM_ex (sE_plF (sE_P sP_int) (sE_call (d__law_next.mono (by decide)) hr gd rfl tk (sM_io 1 (sM_ex (sE_P sP_int) sM_nil)))) sM_nil)))))
  (sSs_cons (sS_set 5 nd (by decide) (sE_call (d__law_row.mono (by decide)) hr gd rfl tk (sM_io 1 (sM_ex (sE_rd 3) (sM_ex (sE_plF (sE_P sP_int) (sE_call (d__law_next.mono (by decide)) hr gd rfl tk (sM_io 1 (sM_ex (sE_P sP_int) sM_nil)))) sM_nil)))))
  (sSs_cons (sS_set 6 nd (by decide) (sE_call (d__law_deed.mono (by decide)) hr gd rfl tk (sM_ex (sE_rd 4) (sM_ex (sE_rd 5) sM_nil))))
  (sSs_cons (sS_setLc 7 rfl nd (by decide) (own := [("room", 8)]) (nv := by decide) (blkOk_by (own := [("room", 8)]) (N := N_law) (sc := defScope (topS 20)) (by decide +kernel)) (sI_range1 rfl z_range (sE_P (sP_len rfl z_len (sPA_cons (sP_v 6) sPA_nil)))) (fun _ => (sG_name 8 nd (pin_co (by decide)))) (fun _ => (sTs_one (sT_cmp op_gt' opD_B0 (sE_call (d__law_times.mono (by decide)) hr gd rfl takes0 (sM_ex (sE_rd 6) (sM_ex (sE_rd 8) sM_nil))) (sE_P sP_int)))) (fun _ => (sE_rd 8)) (hsw := sw_true rfl rfl rfl (by decide +kernel)))
  (sSs_cons (sS_set 8 nd (by decide) (sE_call (d__law_next.mono (by decide)) hr gd rfl tk (sM_io 1 (sM_ex (sE_P (sP_len rfl z_len (sPA_cons (sP_v 6) sPA_nil))) sM_nil))))
  (sSs_cons (sS_if (sT_P (sPT_cmp op_gt' opD_B0 (sP_len rfl z_len (sPA_cons (sP_v 7) sPA_nil)) sP_int))
  (sSs_cons (sS_set 8 nd (by decide) (sE_ixv 7 (sE_call (d__law_next.mono (by decide)) hr gd rfl tk (sM_io 1 (sM_ex (sE_P (sP_len rfl z_len (sPA_cons (sP_v 7) sPA_nil))) sM_nil)))))
  (sSs_one (sS_if (sT_cmp (op_neD (un64 hu)) opD_ne (sE_call d__law_told hr gd rfl tk (sM_ex (sE_rd 4) (sM_ex (sE_rd 8) (sM_ex (sE_rd 5) (sM_ex (sE_call (d__law_times.mono (by decide)) hr gd rfl tk (sM_ex (sE_rd 6) (sM_ex (sE_rd 8) sM_nil))) sM_nil))))) (sE_P sP_str))
  (sSs_one (sS_ret (sE_P sP_bl)))
  sSs_nil)))
  sSs_nil)
  (sSs_one (sS_for hp rfl (sI_range1 rfl z_range (sE_P sP_int)) (sG_name 9 nd (pin_eq (by decide)))
  (sSs_cons (sS_set 10 nd (by decide) (sE_call d__law_changed hr gd rfl tk (sM_io 1 (sM_ex (sE_rd 4) (sM_ex (sE_rd 8) (sM_ex (sE_rd 5) (sM_ex (sE_call (d__law_times.mono (by decide)) hr gd rfl tk (sM_ex (sE_rd 6) (sM_ex (sE_rd 8) sM_nil))) sM_nil)))))))
  (sSs_one (sS_if (sT_cmp (op_neD (un64 hu)) opD_ne (sE_call d__law_told hr gd rfl tk (sM_ex (sE_rd 4) (sM_ex (sE_P (sP_ix (sP_v 10) sP_int)) (sM_ex (sE_P (sP_ix (sP_v 10) sP_int)) (sM_ex (sE_P (sP_ix (sP_v 10) sP_int)) sM_nil))))) (sE_call (d__law_due.mono (by decide)) hr gd rfl tk (sM_ex (sE_rd 4) (sM_ex (sE_P (sP_ix (sP_v 10) sP_int)) (sM_ex (sE_P (sP_ix (sP_v 10) sP_int)) (sM_ex (sE_P (sP_ix (sP_v 10) sP_int)) sM_nil))))))
  (sSs_one (sS_ret (sE_P sP_bl)))
  sSs_nil)))))))))))))
  (sSs_one (sS_ret (sE_P sP_bl)))))
theorem does_law {f : Addr} {fd : FuncData} (F : Fun K "law" "law" (topS 20) f fd) (hm : mg "law" = some (.ref f)) (hk : PySem.W.keepIn K (.ref f) = true) (hb : Binds K fd ["script"] []) (d__law_stream : Does P w K mg base 1 "_law_stream" 1 [] mf__law_stream) (d__law_next : Does P w K mg base 1 "_law_next" 2 [0] mf__law_next) (d__law_machine : Does P w K mg base 2 "_law_machine" 3 [0] mf__law_machine) (d__law_row : Does P w K mg base 2 "_law_row" 3 [0] mf__law_row) (d__law_deed : Does P w K mg base 1 "_law_deed" 2 [] mf__law_deed) (d__law_times : Does P w K mg base 1 "_law_times" 2 [] mf__law_times) (d__law_told : Does P w K mg base 3 "_law_told" 4 [] mf__law_told) (d__law_changed : Does P w K mg base 3 "_law_changed" 5 [0] mf__law_changed) (d__law_due : Does P w K mg base 2 "_law_due" 4 [] mf__law_due) (z_range : mg "range" = none) (z_len : mg "len" = none) :
    Does P w K mg base 4 "law" 1 [] mf_law := ⟨f, fd, ["script"], fn_law F d__law_stream d__law_next d__law_machine d__law_row d__law_deed d__law_times d__law_told d__law_changed d__law_due z_range z_len, hm, hk, hb⟩

end
theorem all_mk {l : PySem.W.OpenLaw} {w : World} {K : PySem.W.Frag} {h : Heap} {mg : Str → Option Value}  {C_SpanError C_NotAllowed C_TooLarge C_Missing C_BadPaper f__law_stream f__law_next f__law_machine f__law_row f__law_deed f__law_times f_deed_of f_times_around f_judge_round f__law_told f__law_changed f__law_due f_law fa : Addr} {od__law_stream an__law_stream od__law_next an__law_next od__law_machine an__law_machine od__law_row an__law_row od__law_deed an__law_deed od__law_times an__law_times od_deed_of an_deed_of od_times_around an_times_around od_judge_round an_judge_round od__law_told an__law_told od__law_changed an__law_changed od__law_due an__law_due od_law an_law : Option Addr} {sl__law_stream sl__law_next sl__law_machine sl__law_row sl__law_deed sl__law_times sl_deed_of sl_times_around sl_judge_round sl__law_told sl__law_changed sl__law_due sl_law : Array (Option Value)} {oc__law_stream kV__law_stream dc__law_stream pm__law_stream cd__law_stream ct__law_stream oc__law_next kV__law_next dc__law_next pm__law_next cd__law_next ct__law_next oc__law_machine kV__law_machine dc__law_machine pm__law_machine cd__law_machine ct__law_machine oc__law_row kV__law_row dc__law_row pm__law_row cd__law_row ct__law_row oc__law_deed kV__law_deed dc__law_deed pm__law_deed cd__law_deed ct__law_deed oc__law_times kV__law_times dc__law_times pm__law_times cd__law_times ct__law_times oc_deed_of kV_deed_of dc_deed_of pm_deed_of cd_deed_of ct_deed_of oc_times_around kV_times_around dc_times_around pm_times_around cd_times_around ct_times_around oc_judge_round kV_judge_round dc_judge_round pm_judge_round cd_judge_round ct_judge_round oc__law_told kV__law_told dc__law_told pm__law_told cd__law_told ct__law_told oc__law_changed kV__law_changed dc__law_changed pm__law_changed cd__law_changed ct__law_changed oc__law_due kV__law_due dc__law_due pm__law_due cd__law_due ct__law_due oc_law kV_law dc_law pm_law cd_law ct_law : Value} (X : K.In h) (G : h.Ns mainGlobals mg) (hfa : mg "law" = some (.ref fa))
    (a_SpanError : PySem.W.nsIn K mainGlobals "SpanError" = some (some (.ref C_SpanError)))
    (a_NotAllowed : PySem.W.nsIn K mainGlobals "NotAllowed" = some (some (.ref C_NotAllowed)))
    (a_TooLarge : PySem.W.nsIn K mainGlobals "TooLarge" = some (some (.ref C_TooLarge)))
    (a_Missing : PySem.W.nsIn K mainGlobals "Missing" = some (some (.ref C_Missing)))
    (a_BadPaper : PySem.W.nsIn K mainGlobals "BadPaper" = some (some (.ref C_BadPaper)))
    (kp_NotAllowed : PySem.W.keepIn K (.ref C_NotAllowed) = true)
    (ex_NotAllowed : PySem.W.excIn K C_NotAllowed [.type "ValueError", .type "Exception", .type "BaseException", .type "object"] "ValueError.__new__" = true)
    (sb_NotAllowed : PySem.W.subIn K (.ref C_NotAllowed) (.type "BaseException") = some true)
    (ty_NotAllowed : PySem.W.typeIn K (.ref C_NotAllowed) = some (.type "type"))
    (kp_BadPaper : PySem.W.keepIn K (.ref C_BadPaper) = true)
    (ex_BadPaper : PySem.W.excIn K C_BadPaper [.type "ValueError", .type "Exception", .type "BaseException", .type "object"] "ValueError.__new__" = true)
    (sb_BadPaper : PySem.W.subIn K (.ref C_BadPaper) (.type "BaseException") = some true)
    (ty_BadPaper : PySem.W.typeIn K (.ref C_BadPaper) = some (.type "type"))
    (i_SpanError : PySem.W.isClsIn K C_SpanError = true)
    (ty_SpanError : PySem.W.typeIn K (.ref C_SpanError) = some (.type "type"))
    (i_NotAllowed : PySem.W.isClsIn K C_NotAllowed = true)
    (i_TooLarge : PySem.W.isClsIn K C_TooLarge = true)
    (ty_TooLarge : PySem.W.typeIn K (.ref C_TooLarge) = some (.type "type"))
    (i_Missing : PySem.W.isClsIn K C_Missing = true)
    (ty_Missing : PySem.W.typeIn K (.ref C_Missing) = some (.type "type"))
    (i_BadPaper : PySem.W.isClsIn K C_BadPaper = true)
    (su_SpanError_BadPaper : PySem.W.subIn K (.ref C_SpanError) (.ref C_BadPaper) = some false)
    (su_NotAllowed_BadPaper : PySem.W.subIn K (.ref C_NotAllowed) (.ref C_BadPaper) = some false)
    (su_TooLarge_BadPaper : PySem.W.subIn K (.ref C_TooLarge) (.ref C_BadPaper) = some false)
    (su_Missing_BadPaper : PySem.W.subIn K (.ref C_Missing) (.ref C_BadPaper) = some false)
    (su_BadPaper_BadPaper : PySem.W.subIn K (.ref C_BadPaper) (.ref C_BadPaper) = some true)
    (su_SpanError_NotAllowed : PySem.W.subIn K (.ref C_SpanError) (.ref C_NotAllowed) = some false)
    (su_NotAllowed_NotAllowed : PySem.W.subIn K (.ref C_NotAllowed) (.ref C_NotAllowed) = some true)
    (su_TooLarge_NotAllowed : PySem.W.subIn K (.ref C_TooLarge) (.ref C_NotAllowed) = some false)
    (su_Missing_NotAllowed : PySem.W.subIn K (.ref C_Missing) (.ref C_NotAllowed) = some false)
    (su_BadPaper_NotAllowed : PySem.W.subIn K (.ref C_BadPaper) (.ref C_NotAllowed) = some false)
    (su_BadPaper_SpanError : PySem.W.subIn K (.ref C_BadPaper) (.ref C_SpanError) = some true)
    (su_BadPaper_TooLarge : PySem.W.subIn K (.ref C_BadPaper) (.ref C_TooLarge) = some false)
    (su_BadPaper_Missing : PySem.W.subIn K (.ref C_BadPaper) (.ref C_Missing) = some false)
    (su_NotAllowed_SpanError : PySem.W.subIn K (.ref C_NotAllowed) (.ref C_SpanError) = some true)
    (su_NotAllowed_TooLarge : PySem.W.subIn K (.ref C_NotAllowed) (.ref C_TooLarge) = some false)
    (su_NotAllowed_Missing : PySem.W.subIn K (.ref C_NotAllowed) (.ref C_Missing) = some false)
    (su_SpanError_SpanError : PySem.W.subIn K (.ref C_SpanError) (.ref C_SpanError) = some true)
    (su_TooLarge_TooLarge : PySem.W.subIn K (.ref C_TooLarge) (.ref C_TooLarge) = some true)
    (su_Missing_Missing : PySem.W.subIn K (.ref C_Missing) (.ref C_Missing) = some true)
    (g1_BadPaper : PySem.W.findIn K (.ref C_BadPaper) "__getattribute__" = some (some (.builtin "BaseException.__getattribute__")))
    (g2_BadPaper : PySem.W.findIn K (.ref C_BadPaper) "__getattr__" = some none)
    (g3_BadPaper : PySem.W.subIn K (.ref C_BadPaper) (.type "BaseException") = some true)
    (g4_BadPaper : PySem.W.hasDictIn K C_BadPaper = true)
    (g5_BadPaper : PySem.W.findIn K (.ref C_BadPaper) "__class__" = some (some (.builtin "object.__class__")))
    (g8_BadPaper : PySem.W.mroIn K C_BadPaper (.type "object") = some true)
    (sv_BadPaper : PySem.W.subIn K (.ref C_BadPaper) (.type "ValueError") = some true)
    (g1_NotAllowed : PySem.W.findIn K (.ref C_NotAllowed) "__getattribute__" = some (some (.builtin "BaseException.__getattribute__")))
    (g2_NotAllowed : PySem.W.findIn K (.ref C_NotAllowed) "__getattr__" = some none)
    (g3_NotAllowed : PySem.W.subIn K (.ref C_NotAllowed) (.type "BaseException") = some true)
    (g4_NotAllowed : PySem.W.hasDictIn K C_NotAllowed = true)
    (g5_NotAllowed : PySem.W.findIn K (.ref C_NotAllowed) "__class__" = some (some (.builtin "object.__class__")))
    (g8_NotAllowed : PySem.W.mroIn K C_NotAllowed (.type "object") = some true)
    (sv_NotAllowed : PySem.W.subIn K (.ref C_NotAllowed) (.type "ValueError") = some true)
    (g6 : PySem.W.specialIn K (.builtin "object.__class__") "__get__" = some (some (.builtin "getset_descriptor.__get__")))
    (g7 : PySem.W.takesIn K (.builtin "object.__class__") = some true)
    (y_ValueError : PySem.W.nsIn K mainGlobals "ValueError" = some none)
    (y_abs : PySem.W.nsIn K mainGlobals "abs" = some none)
    (y_all : PySem.W.nsIn K mainGlobals "all" = some none)
    (y_int : PySem.W.nsIn K mainGlobals "int" = some none)
    (y_isinstance : PySem.W.nsIn K mainGlobals "isinstance" = some none)
    (y_len : PySem.W.nsIn K mainGlobals "len" = some none)
    (y_range : PySem.W.nsIn K mainGlobals "range" = some none)
    (y_sorted : PySem.W.nsIn K mainGlobals "sorted" = some none)
    (y_tuple : PySem.W.nsIn K mainGlobals "tuple" = some none)
    (a__law_stream : PySem.W.nsIn K mainGlobals "_law_stream" = some (some (.ref f__law_stream)))
    (l__law_stream : K.lookup f__law_stream = some ⟨oc__law_stream, od__law_stream, .func (PySem.W.fnOf "_law_stream" "_law_stream" (defArgs (topS 11)) (defBody (topS 11)) (defScope (topS 11)) .none kV__law_stream dc__law_stream pm__law_stream an__law_stream cd__law_stream ct__law_stream), sl__law_stream⟩)
    (e__law_stream : PySem.W.codeIn K cd__law_stream "_law_stream" = true)
    (k__law_stream : PySem.W.keepIn K (.ref f__law_stream) = true)
    (a__law_next : PySem.W.nsIn K mainGlobals "_law_next" = some (some (.ref f__law_next)))
    (l__law_next : K.lookup f__law_next = some ⟨oc__law_next, od__law_next, .func (PySem.W.fnOf "_law_next" "_law_next" (defArgs (topS 12)) (defBody (topS 12)) (defScope (topS 12)) .none kV__law_next dc__law_next pm__law_next an__law_next cd__law_next ct__law_next), sl__law_next⟩)
    (e__law_next : PySem.W.codeIn K cd__law_next "_law_next" = true)
    (k__law_next : PySem.W.keepIn K (.ref f__law_next) = true)
    (a__law_machine : PySem.W.nsIn K mainGlobals "_law_machine" = some (some (.ref f__law_machine)))
    (l__law_machine : K.lookup f__law_machine = some ⟨oc__law_machine, od__law_machine, .func (PySem.W.fnOf "_law_machine" "_law_machine" (defArgs (topS 13)) (defBody (topS 13)) (defScope (topS 13)) .none kV__law_machine dc__law_machine pm__law_machine an__law_machine cd__law_machine ct__law_machine), sl__law_machine⟩)
    (e__law_machine : PySem.W.codeIn K cd__law_machine "_law_machine" = true)
    (k__law_machine : PySem.W.keepIn K (.ref f__law_machine) = true)
    (a__law_row : PySem.W.nsIn K mainGlobals "_law_row" = some (some (.ref f__law_row)))
    (l__law_row : K.lookup f__law_row = some ⟨oc__law_row, od__law_row, .func (PySem.W.fnOf "_law_row" "_law_row" (defArgs (topS 18)) (defBody (topS 18)) (defScope (topS 18)) .none kV__law_row dc__law_row pm__law_row an__law_row cd__law_row ct__law_row), sl__law_row⟩)
    (e__law_row : PySem.W.codeIn K cd__law_row "_law_row" = true)
    (k__law_row : PySem.W.keepIn K (.ref f__law_row) = true)
    (a__law_deed : PySem.W.nsIn K mainGlobals "_law_deed" = some (some (.ref f__law_deed)))
    (l__law_deed : K.lookup f__law_deed = some ⟨oc__law_deed, od__law_deed, .func (PySem.W.fnOf "_law_deed" "_law_deed" (defArgs (topS 14)) (defBody (topS 14)) (defScope (topS 14)) .none kV__law_deed dc__law_deed pm__law_deed an__law_deed cd__law_deed ct__law_deed), sl__law_deed⟩)
    (e__law_deed : PySem.W.codeIn K cd__law_deed "_law_deed" = true)
    (k__law_deed : PySem.W.keepIn K (.ref f__law_deed) = true)
    (a__law_times : PySem.W.nsIn K mainGlobals "_law_times" = some (some (.ref f__law_times)))
    (l__law_times : K.lookup f__law_times = some ⟨oc__law_times, od__law_times, .func (PySem.W.fnOf "_law_times" "_law_times" (defArgs (topS 15)) (defBody (topS 15)) (defScope (topS 15)) .none kV__law_times dc__law_times pm__law_times an__law_times cd__law_times ct__law_times), sl__law_times⟩)
    (e__law_times : PySem.W.codeIn K cd__law_times "_law_times" = true)
    (k__law_times : PySem.W.keepIn K (.ref f__law_times) = true)
    (a_deed_of : PySem.W.nsIn K mainGlobals "deed_of" = some (some (.ref f_deed_of)))
    (l_deed_of : K.lookup f_deed_of = some ⟨oc_deed_of, od_deed_of, .func (PySem.W.fnOf "deed_of" "deed_of" (defArgs (topS 7)) (defBody (topS 7)) (defScope (topS 7)) .none kV_deed_of dc_deed_of pm_deed_of an_deed_of cd_deed_of ct_deed_of), sl_deed_of⟩)
    (e_deed_of : PySem.W.codeIn K cd_deed_of "deed_of" = true)
    (k_deed_of : PySem.W.keepIn K (.ref f_deed_of) = true)
    (a_times_around : PySem.W.nsIn K mainGlobals "times_around" = some (some (.ref f_times_around)))
    (l_times_around : K.lookup f_times_around = some ⟨oc_times_around, od_times_around, .func (PySem.W.fnOf "times_around" "times_around" (defArgs (topS 8)) (defBody (topS 8)) (defScope (topS 8)) .none kV_times_around dc_times_around pm_times_around an_times_around cd_times_around ct_times_around), sl_times_around⟩)
    (e_times_around : PySem.W.codeIn K cd_times_around "times_around" = true)
    (k_times_around : PySem.W.keepIn K (.ref f_times_around) = true)
    (a_judge_round : PySem.W.nsIn K mainGlobals "judge_round" = some (some (.ref f_judge_round)))
    (l_judge_round : K.lookup f_judge_round = some ⟨oc_judge_round, od_judge_round, .func (PySem.W.fnOf "judge_round" "judge_round" (defArgs (topS 9)) (defBody (topS 9)) (defScope (topS 9)) .none kV_judge_round dc_judge_round pm_judge_round an_judge_round cd_judge_round ct_judge_round), sl_judge_round⟩)
    (e_judge_round : PySem.W.codeIn K cd_judge_round "judge_round" = true)
    (k_judge_round : PySem.W.keepIn K (.ref f_judge_round) = true)
    (a__law_told : PySem.W.nsIn K mainGlobals "_law_told" = some (some (.ref f__law_told)))
    (l__law_told : K.lookup f__law_told = some ⟨oc__law_told, od__law_told, .func (PySem.W.fnOf "_law_told" "_law_told" (defArgs (topS 17)) (defBody (topS 17)) (defScope (topS 17)) .none kV__law_told dc__law_told pm__law_told an__law_told cd__law_told ct__law_told), sl__law_told⟩)
    (e__law_told : PySem.W.codeIn K cd__law_told "_law_told" = true)
    (k__law_told : PySem.W.keepIn K (.ref f__law_told) = true)
    (a__law_changed : PySem.W.nsIn K mainGlobals "_law_changed" = some (some (.ref f__law_changed)))
    (l__law_changed : K.lookup f__law_changed = some ⟨oc__law_changed, od__law_changed, .func (PySem.W.fnOf "_law_changed" "_law_changed" (defArgs (topS 19)) (defBody (topS 19)) (defScope (topS 19)) .none kV__law_changed dc__law_changed pm__law_changed an__law_changed cd__law_changed ct__law_changed), sl__law_changed⟩)
    (e__law_changed : PySem.W.codeIn K cd__law_changed "_law_changed" = true)
    (k__law_changed : PySem.W.keepIn K (.ref f__law_changed) = true)
    (a__law_due : PySem.W.nsIn K mainGlobals "_law_due" = some (some (.ref f__law_due)))
    (l__law_due : K.lookup f__law_due = some ⟨oc__law_due, od__law_due, .func (PySem.W.fnOf "_law_due" "_law_due" (defArgs (topS 16)) (defBody (topS 16)) (defScope (topS 16)) .none kV__law_due dc__law_due pm__law_due an__law_due cd__law_due ct__law_due), sl__law_due⟩)
    (e__law_due : PySem.W.codeIn K cd__law_due "_law_due" = true)
    (k__law_due : PySem.W.keepIn K (.ref f__law_due) = true)
    (a_law : PySem.W.nsIn K mainGlobals "law" = some (some (.ref f_law)))
    (l_law : K.lookup f_law = some ⟨oc_law, od_law, .func (PySem.W.fnOf "law" "law" (defArgs (topS 20)) (defBody (topS 20)) (defScope (topS 20)) .none kV_law dc_law pm_law an_law cd_law ct_law), sl_law⟩)
    (e_law : PySem.W.codeIn K cd_law "law" = true)
    (k_law : PySem.W.keepIn K (.ref f_law) = true) :
    ∃ fd : FuncData, (∀ (s : Shared) (v : Value), BindsTo s fd ⟨[v], []⟩ [("script", v)]) ∧ ∀ base : Heap, K.In base → base.Ns mainGlobals mg → FnG l.prog w K mg base 4 fa fd ["script"] (SpM K 1 [] mf_law) := by
  have e := hfa.symm.trans (PySem.W.mg_of X G a_law)
  cases e
  have m_NotAllowed : PySem.W.nsIn K mainGlobals "NotAllowed" = some (some (.ref C_NotAllowed)) ∧ mg "NotAllowed" = some (.ref C_NotAllowed) := ⟨a_NotAllowed, PySem.W.mg_of X G a_NotAllowed⟩
  have m_BadPaper : PySem.W.nsIn K mainGlobals "BadPaper" = some (some (.ref C_BadPaper)) ∧ mg "BadPaper" = some (.ref C_BadPaper) := ⟨a_BadPaper, PySem.W.mg_of X G a_BadPaper⟩
  have m_SpanError : PySem.W.nsIn K mainGlobals "SpanError" = some (some (.ref C_SpanError)) ∧ mg "SpanError" = some (.ref C_SpanError) := ⟨a_SpanError, PySem.W.mg_of X G a_SpanError⟩
  have m_Missing : PySem.W.nsIn K mainGlobals "Missing" = some (some (.ref C_Missing)) ∧ mg "Missing" = some (.ref C_Missing) := ⟨a_Missing, PySem.W.mg_of X G a_Missing⟩
  have m_TooLarge : PySem.W.nsIn K mainGlobals "TooLarge" = some (some (.ref C_TooLarge)) ∧ mg "TooLarge" = some (.ref C_TooLarge) := ⟨a_TooLarge, PySem.W.mg_of X G a_TooLarge⟩
  have c_NotAllowed : Cls K mg "NotAllowed" C_NotAllowed := ⟨a_NotAllowed, PySem.W.mg_of X G a_NotAllowed, kp_NotAllowed, ex_NotAllowed, sb_NotAllowed, ty_NotAllowed⟩
  have c_BadPaper : Cls K mg "BadPaper" C_BadPaper := ⟨a_BadPaper, PySem.W.mg_of X G a_BadPaper, kp_BadPaper, ex_BadPaper, sb_BadPaper, ty_BadPaper⟩
  have t_BadPaper : Catches K clsTab "BadPaper" C_BadPaper := catches_of (List.forall_mem_cons.mpr ⟨fun b hb => ⟨C_SpanError, a_SpanError, by cases ((by decide : List.lookup "BadPaper" _ = some false).symm.trans hb); exact exm_of i_BadPaper ty_BadPaper sb_BadPaper su_SpanError_BadPaper⟩, List.forall_mem_cons.mpr ⟨fun b hb => ⟨C_NotAllowed, a_NotAllowed, by cases ((by decide : List.lookup "BadPaper" _ = some false).symm.trans hb); exact exm_of i_BadPaper ty_BadPaper sb_BadPaper su_NotAllowed_BadPaper⟩, List.forall_mem_cons.mpr ⟨fun b hb => ⟨C_TooLarge, a_TooLarge, by cases ((by decide : List.lookup "BadPaper" _ = some false).symm.trans hb); exact exm_of i_BadPaper ty_BadPaper sb_BadPaper su_TooLarge_BadPaper⟩, List.forall_mem_cons.mpr ⟨fun b hb => ⟨C_Missing, a_Missing, by cases ((by decide : List.lookup "BadPaper" _ = some false).symm.trans hb); exact exm_of i_BadPaper ty_BadPaper sb_BadPaper su_Missing_BadPaper⟩, List.forall_mem_cons.mpr ⟨fun b hb => ⟨C_BadPaper, a_BadPaper, by cases ((by decide : List.lookup "BadPaper" _ = some true).symm.trans hb); exact exm_of i_BadPaper ty_BadPaper sb_BadPaper su_BadPaper_BadPaper⟩, fun p hp => (List.not_mem_nil hp).elim⟩⟩⟩⟩⟩)
  have t_NotAllowed : Catches K clsTab "NotAllowed" C_NotAllowed := catches_of (List.forall_mem_cons.mpr ⟨fun b hb => ⟨C_SpanError, a_SpanError, by cases ((by decide : List.lookup "NotAllowed" _ = some false).symm.trans hb); exact exm_of i_NotAllowed ty_NotAllowed sb_NotAllowed su_SpanError_NotAllowed⟩, List.forall_mem_cons.mpr ⟨fun b hb => ⟨C_NotAllowed, a_NotAllowed, by cases ((by decide : List.lookup "NotAllowed" _ = some true).symm.trans hb); exact exm_of i_NotAllowed ty_NotAllowed sb_NotAllowed su_NotAllowed_NotAllowed⟩, List.forall_mem_cons.mpr ⟨fun b hb => ⟨C_TooLarge, a_TooLarge, by cases ((by decide : List.lookup "NotAllowed" _ = some false).symm.trans hb); exact exm_of i_NotAllowed ty_NotAllowed sb_NotAllowed su_TooLarge_NotAllowed⟩, List.forall_mem_cons.mpr ⟨fun b hb => ⟨C_Missing, a_Missing, by cases ((by decide : List.lookup "NotAllowed" _ = some false).symm.trans hb); exact exm_of i_NotAllowed ty_NotAllowed sb_NotAllowed su_Missing_NotAllowed⟩, List.forall_mem_cons.mpr ⟨fun b hb => ⟨C_BadPaper, a_BadPaper, by cases ((by decide : List.lookup "NotAllowed" _ = some false).symm.trans hb); exact exm_of i_NotAllowed ty_NotAllowed sb_NotAllowed su_BadPaper_NotAllowed⟩, fun p hp => (List.not_mem_nil hp).elim⟩⟩⟩⟩⟩)
  have ec_BadPaper : ExcC K C_BadPaper := ⟨g1_BadPaper, g2_BadPaper, g3_BadPaper, g4_BadPaper, g5_BadPaper, g6, g7, g8_BadPaper⟩
  have ec_NotAllowed : ExcC K C_NotAllowed := ⟨g1_NotAllowed, g2_NotAllowed, g3_NotAllowed, g4_NotAllowed, g5_NotAllowed, g6, g7, g8_NotAllowed⟩
  have b_BadPaper : Below K clsTab "BadPaper" := below_of (List.forall_mem_cons.mpr ⟨fun hb => (by cases ((by decide : List.lookup "BadPaper" _ = some false).symm.trans hb)), List.forall_mem_cons.mpr ⟨fun hb => (by cases ((by decide : List.lookup "BadPaper" _ = some false).symm.trans hb)), List.forall_mem_cons.mpr ⟨fun hb => (by cases ((by decide : List.lookup "BadPaper" _ = some false).symm.trans hb)), List.forall_mem_cons.mpr ⟨fun hb => (by cases ((by decide : List.lookup "BadPaper" _ = some false).symm.trans hb)), List.forall_mem_cons.mpr ⟨fun _ => ⟨C_BadPaper, a_BadPaper, ec_BadPaper, List.forall_mem_cons.mpr ⟨Or.inl ⟨C_SpanError, a_SpanError, (kit_ref i_SpanError ty_SpanError su_SpanError_SpanError su_BadPaper_SpanError)⟩, List.forall_mem_cons.mpr ⟨Or.inl ⟨C_NotAllowed, a_NotAllowed, (kit_ref i_NotAllowed ty_NotAllowed su_NotAllowed_NotAllowed su_BadPaper_NotAllowed)⟩, List.forall_mem_cons.mpr ⟨Or.inl ⟨C_TooLarge, a_TooLarge, (kit_ref i_TooLarge ty_TooLarge su_TooLarge_TooLarge su_BadPaper_TooLarge)⟩, List.forall_mem_cons.mpr ⟨Or.inl ⟨C_Missing, a_Missing, (kit_ref i_Missing ty_Missing su_Missing_Missing su_BadPaper_Missing)⟩, List.forall_mem_cons.mpr ⟨Or.inl ⟨C_BadPaper, a_BadPaper, (kit_ref i_BadPaper ty_BadPaper su_BadPaper_BadPaper su_BadPaper_BadPaper)⟩, List.forall_mem_cons.mpr ⟨Or.inr ⟨y_ValueError, kit_typ (by decide) sv_BadPaper⟩, fun p hp => (List.not_mem_nil hp).elim⟩⟩⟩⟩⟩⟩⟩, fun p hp => (List.not_mem_nil hp).elim⟩⟩⟩⟩⟩)
  have b_NotAllowed : Below K clsTab "NotAllowed" := below_of (List.forall_mem_cons.mpr ⟨fun hb => (by cases ((by decide : List.lookup "NotAllowed" _ = some false).symm.trans hb)), List.forall_mem_cons.mpr ⟨fun _ => ⟨C_NotAllowed, a_NotAllowed, ec_NotAllowed, List.forall_mem_cons.mpr ⟨Or.inl ⟨C_SpanError, a_SpanError, (kit_ref i_SpanError ty_SpanError su_SpanError_SpanError su_NotAllowed_SpanError)⟩, List.forall_mem_cons.mpr ⟨Or.inl ⟨C_NotAllowed, a_NotAllowed, (kit_ref i_NotAllowed ty_NotAllowed su_NotAllowed_NotAllowed su_NotAllowed_NotAllowed)⟩, List.forall_mem_cons.mpr ⟨Or.inl ⟨C_TooLarge, a_TooLarge, (kit_ref i_TooLarge ty_TooLarge su_TooLarge_TooLarge su_NotAllowed_TooLarge)⟩, List.forall_mem_cons.mpr ⟨Or.inl ⟨C_Missing, a_Missing, (kit_ref i_Missing ty_Missing su_Missing_Missing su_NotAllowed_Missing)⟩, List.forall_mem_cons.mpr ⟨Or.inl ⟨C_BadPaper, a_BadPaper, (kit_ref i_BadPaper ty_BadPaper su_BadPaper_BadPaper su_NotAllowed_BadPaper)⟩, List.forall_mem_cons.mpr ⟨Or.inr ⟨y_ValueError, kit_typ (by decide) sv_NotAllowed⟩, fun p hp => (List.not_mem_nil hp).elim⟩⟩⟩⟩⟩⟩⟩, List.forall_mem_cons.mpr ⟨fun hb => (by cases ((by decide : List.lookup "NotAllowed" _ = some false).symm.trans hb)), List.forall_mem_cons.mpr ⟨fun hb => (by cases ((by decide : List.lookup "NotAllowed" _ = some false).symm.trans hb)), List.forall_mem_cons.mpr ⟨fun hb => (by cases ((by decide : List.lookup "NotAllowed" _ = some false).symm.trans hb)), fun p hp => (List.not_mem_nil hp).elim⟩⟩⟩⟩⟩)
  have z_ValueError := PySem.W.mg_none_of X G y_ValueError
  have n_ValueError := y_ValueError
  have z_abs := PySem.W.mg_none_of X G y_abs
  have n_abs := y_abs
  have z_all := PySem.W.mg_none_of X G y_all
  have n_all := y_all
  have z_int := PySem.W.mg_none_of X G y_int
  have n_int := y_int
  have z_isinstance := PySem.W.mg_none_of X G y_isinstance
  have n_isinstance := y_isinstance
  have z_len := PySem.W.mg_none_of X G y_len
  have n_len := y_len
  have z_range := PySem.W.mg_none_of X G y_range
  have n_range := y_range
  have z_sorted := PySem.W.mg_none_of X G y_sorted
  have n_sorted := y_sorted
  have z_tuple := PySem.W.mg_none_of X G y_tuple
  have n_tuple := y_tuple
  have F__law_stream := fun_mk (st := topS 11) l__law_stream e__law_stream k__law_stream
  have B__law_stream := F__law_stream.binds (ps := ["script"]) fun _ _ _ _ _ _ us hl => match us, hl with | [_], _ => rfl
  have d__law_stream : ∀ base, Does l.prog w K mg base 1 "_law_stream" 1 [] mf__law_stream := fun base => does__law_stream F__law_stream (PySem.W.mg_of X G a__law_stream) k__law_stream B__law_stream z_int z_abs z_range z_len
  have F__law_next := fun_mk (st := topS 12) l__law_next e__law_next k__law_next
  have B__law_next := F__law_next.binds (ps := ["state", "many"]) fun _ _ _ _ _ _ us hl => match us, hl with | [_, _], _ => rfl
  have d__law_next : ∀ base, Does l.prog w K mg base 1 "_law_next" 2 [0] mf__law_next := fun base => does__law_next F__law_next (PySem.W.mg_of X G a__law_next) k__law_next B__law_next z_len z_int
  have F__law_machine := fun_mk (st := topS 13) l__law_machine e__law_machine k__law_machine
  have B__law_machine := F__law_machine.binds (ps := ["state", "letters", "rooms"]) fun _ _ _ _ _ _ us hl => match us, hl with | [_, _, _], _ => rfl
  have d__law_machine : ∀ base, Does l.prog w K mg base 2 "_law_machine" 3 [0] mf__law_machine := fun base => does__law_machine F__law_machine (PySem.W.mg_of X G a__law_machine) k__law_machine B__law_machine (d__law_next base) z_int z_range z_sorted z_tuple
  have F__law_row := fun_mk (st := topS 18) l__law_row e__law_row k__law_row
  have B__law_row := F__law_row.binds (ps := ["state", "letters", "many"]) fun _ _ _ _ _ _ us hl => match us, hl with | [_, _, _], _ => rfl
  have d__law_row : ∀ base, Does l.prog w K mg base 2 "_law_row" 3 [0] mf__law_row := fun base => does__law_row F__law_row (PySem.W.mg_of X G a__law_row) k__law_row B__law_row (d__law_next base) z_range z_len z_tuple
  have F__law_deed := fun_mk (st := topS 14) l__law_deed e__law_deed k__law_deed
  have B__law_deed := F__law_deed.binds (ps := ["machine", "row"]) fun _ _ _ _ _ _ us hl => match us, hl with | [_, _], _ => rfl
  have d__law_deed : ∀ base, Does l.prog w K mg base 1 "_law_deed" 2 [] mf__law_deed := fun base => does__law_deed F__law_deed (PySem.W.mg_of X G a__law_deed) k__law_deed B__law_deed z_len z_range z_tuple
  have F__law_times := fun_mk (st := topS 15) l__law_times e__law_times k__law_times
  have B__law_times := F__law_times.binds (ps := ["deed", "room"]) fun _ _ _ _ _ _ us hl => match us, hl with | [_, _], _ => rfl
  have d__law_times : ∀ base, Does l.prog w K mg base 1 "_law_times" 2 [] mf__law_times := fun base => does__law_times F__law_times (PySem.W.mg_of X G a__law_times) k__law_times B__law_times z_len z_int
  have F_deed_of := fun_mk (st := topS 7) l_deed_of e_deed_of k_deed_of
  have B_deed_of := F_deed_of.binds (ps := ["machine", "row"]) fun _ _ _ _ _ _ us hl => match us, hl with | [_, _], _ => rfl
  have d_deed_of : ∀ base, Does l.prog w K mg base 1 "deed_of" 2 [] mf_deed_of := fun base => does_deed_of F_deed_of (PySem.W.mg_of X G a_deed_of) k_deed_of B_deed_of m_NotAllowed c_NotAllowed z_len z_tuple z_range
  have F_times_around := fun_mk (st := topS 8) l_times_around e_times_around k_times_around
  have B_times_around := F_times_around.binds (ps := ["deed", "room"]) fun _ _ _ _ _ _ us hl => match us, hl with | [_, _], _ => rfl
  have d_times_around : ∀ base, Does l.prog w K mg base 1 "times_around" 2 [] mf_times_around := fun base => does_times_around F_times_around (PySem.W.mg_of X G a_times_around) k_times_around B_times_around z_len z_range
  have F_judge_round := fun_mk (st := topS 9) l_judge_round e_judge_round k_judge_round
  have B_judge_round := F_judge_round.binds (ps := ["machine", "room", "row", "times"]) fun _ _ _ _ _ _ us hl => match us, hl with | [_, _, _, _], _ => rfl
  have d_judge_round : ∀ base, Does l.prog w K mg base 2 "judge_round" 4 [] mf_judge_round := fun base => does_judge_round F_judge_round (PySem.W.mg_of X G a_judge_round) k_judge_round B_judge_round m_NotAllowed m_BadPaper c_NotAllowed c_BadPaper (d_deed_of base) (d_times_around base) z_len
  have F__law_told := fun_mk (st := topS 17) l__law_told e__law_told k__law_told
  have B__law_told := F__law_told.binds (ps := ["machine", "room", "row", "times"]) fun _ _ _ _ _ _ us hl => match us, hl with | [_, _, _, _], _ => rfl
  have d__law_told : ∀ base, Does l.prog w K mg base 3 "_law_told" 4 [] mf__law_told := fun base => does__law_told F__law_told (PySem.W.mg_of X G a__law_told) k__law_told B__law_told m_SpanError m_NotAllowed m_Missing m_TooLarge m_BadPaper c_BadPaper c_NotAllowed (d_judge_round base) z_isinstance z_int b_BadPaper b_NotAllowed t_BadPaper t_NotAllowed
  have F__law_changed := fun_mk (st := topS 19) l__law_changed e__law_changed k__law_changed
  have B__law_changed := F__law_changed.binds (ps := ["state", "machine", "room", "row", "times"]) fun _ _ _ _ _ _ us hl => match us, hl with | [_, _, _, _, _], _ => rfl
  have d__law_changed : ∀ base, Does l.prog w K mg base 3 "_law_changed" 5 [0] mf__law_changed := fun base => does__law_changed F__law_changed (PySem.W.mg_of X G a__law_changed) k__law_changed B__law_changed (d__law_next base) (d__law_row base) z_len
  have F__law_due := fun_mk (st := topS 16) l__law_due e__law_due k__law_due
  have B__law_due := F__law_due.binds (ps := ["machine", "room", "row", "times"]) fun _ _ _ _ _ _ us hl => match us, hl with | [_, _, _, _], _ => rfl
  have d__law_due : ∀ base, Does l.prog w K mg base 2 "_law_due" 4 [] mf__law_due := fun base => does__law_due F__law_due (PySem.W.mg_of X G a__law_due) k__law_due B__law_due (d__law_deed base) (d__law_times base) z_len z_all z_int
  have F_law := fun_mk (st := topS 20) l_law e_law k_law
  exact ⟨PySem.W.fnOf "law" "law" (defArgs (topS 20)) (defBody (topS 20)) (defScope (topS 20)) .none kV_law dc_law pm_law an_law cd_law ct_law, fun s v => .of_eq rfl, fun base _ _ => fn_law F_law (d__law_stream base) (d__law_next base) (d__law_machine base) (d__law_row base) (d__law_deed base) (d__law_times base) (d__law_told base) (d__law_changed base) (d__law_due base) z_range z_len⟩
end Sim.K

namespace Sim.K
noncomputable def lw1 : Sl → RS := (mAsg (mApp mkLst (mCons (mCall [] mf__law_stream [.ex (mRd 0)]) (mCons (ofP (cP (.int 0))) nilA))) (mgName 1))
noncomputable def lw2 : Sl → RS := (mFor (mRange (mCons (ofP (cP (.int 4))) nilA)) (mgName 2)
  (mSeq (mAsg (m2 dIx (mApp mkLst (mCons (ofP (tupP (consP (cP (.int 0)) (consP (cP (.int 1)) (consP (cP (.int 2)) nilP))))) (mCons (ofP (tupP (consP (cP (.str "a")) (consP (cP (.str "b")) (consP (cP (.str "aa")) (consP (cP (.str "c")) nilP)))))) (mCons (ofP (tupP (consP (tupP nilP) (consP (tupP (consP (cP (.str "on")) nilP)) nilP)))) (mCons (ofP (tupP (consP (cP (.int 7)) nilP))) nilA))))) (mCall [0] mf__law_next [.io 1, .ex (ofP (cP (.int 4)))])) (mgName 3))
  (mSeq (mAsg (mCall [0] mf__law_machine [.io 1, .ex (mRd 3), .ex (m2 dPlF (ofP (cP (.int 1))) (mCall [0] mf__law_next [.io 1, .ex (ofP (cP (.int 9)))]))]) (mgName 4))
  (mSeq (mAsg (mCall [0] mf__law_row [.io 1, .ex (mRd 3), .ex (m2 dPlF (ofP (cP (.int 1))) (mCall [0] mf__law_next [.io 1, .ex (ofP (cP (.int 6)))]))]) (mgName 5))
  (mSeq (mAsg (mCall [] mf__law_deed [.ex (mRd 4), .ex (mRd 5)]) (mgName 6))
  (mSeq (mAsg (mComp (mRange (mCons (ofP (caP dLen (consP (vP 6) nilP))) nilA)) [8] (mgName 8) (mTest (m2 (only dGt) (mCall [] mf__law_times [.ex (mRd 6), .ex (mRd 8)]) (ofP (cP (.int 1))))) (mRd 8)) (mgName 7))
  (mSeq (mAsg (mCall [0] mf__law_next [.io 1, .ex (ofP (caP dLen (consP (vP 6) nilP)))]) (mgName 8))
  (mSeq (mIf (ofPT (twoB dGt (caP dLen (consP (vP 7) nilP)) (cP (.int 0))))
  (mSeq (mAsg (mIxv 7 (mCall [0] mf__law_next [.io 1, .ex (ofP (caP dLen (consP (vP 7) nilP)))])) (mgName 8))
  (mIf (mTest (m2 (only dNe) (mCall [] mf__law_told [.ex (mRd 4), .ex (mRd 8), .ex (mRd 5), .ex (mCall [] mf__law_times [.ex (mRd 6), .ex (mRd 8)])]) (ofP (cP (.str "none")))))
  (mRet (ofP (cP (.bl false))))
  mNext))
  mNext)
  (mFor (mRange (mCons (ofP (cP (.int 6))) nilA)) (mgName 9)
  (mSeq (mAsg (mCall [0] mf__law_changed [.io 1, .ex (mRd 4), .ex (mRd 8), .ex (mRd 5), .ex (mCall [] mf__law_times [.ex (mRd 6), .ex (mRd 8)])]) (mgName 10))
  (mIf (mTest (m2 (only dNe) (mCall [] mf__law_told [.ex (mRd 4), .ex (ofP (two dIx (vP 10) (cP (.int 0)))), .ex (ofP (two dIx (vP 10) (cP (.int 1)))), .ex (ofP (two dIx (vP 10) (cP (.int 2))))]) (mCall [] mf__law_due [.ex (mRd 4), .ex (ofP (two dIx (vP 10) (cP (.int 0)))), .ex (ofP (two dIx (vP 10) (cP (.int 1)))), .ex (ofP (two dIx (vP 10) (cP (.int 2))))])))
  (mRet (ofP (cP (.bl false))))
  mNext)))))))))))
noncomputable def lw3 : Sl → RS := (mRet (ofP (cP (.bl true))))
noncomputable def lwB : Sl → RS := (mSeq lw1 (mSeq lw2 lw3))
theorem lw_eq : mb_law = lwB := rfl
noncomputable def lf1 : Sl → RS := (mAsg (m2 dIx (mApp mkLst (mCons (ofP (tupP (consP (cP (.int 0)) (consP (cP (.int 1)) (consP (cP (.int 2)) nilP))))) (mCons (ofP (tupP (consP (cP (.str "a")) (consP (cP (.str "b")) (consP (cP (.str "aa")) (consP (cP (.str "c")) nilP)))))) (mCons (ofP (tupP (consP (tupP nilP) (consP (tupP (consP (cP (.str "on")) nilP)) nilP)))) (mCons (ofP (tupP (consP (cP (.int 7)) nilP))) nilA))))) (mCall [0] mf__law_next [.io 1, .ex (ofP (cP (.int 4)))])) (mgName 3))
noncomputable def lf2 : Sl → RS := (mAsg (mCall [0] mf__law_machine [.io 1, .ex (mRd 3), .ex (m2 dPlF (ofP (cP (.int 1))) (mCall [0] mf__law_next [.io 1, .ex (ofP (cP (.int 9)))]))]) (mgName 4))
noncomputable def lf3 : Sl → RS := (mAsg (mCall [0] mf__law_row [.io 1, .ex (mRd 3), .ex (m2 dPlF (ofP (cP (.int 1))) (mCall [0] mf__law_next [.io 1, .ex (ofP (cP (.int 6)))]))]) (mgName 5))
noncomputable def lf4 : Sl → RS := (mAsg (mCall [] mf__law_deed [.ex (mRd 4), .ex (mRd 5)]) (mgName 6))
noncomputable def lf5 : Sl → RS := (mAsg (mComp (mRange (mCons (ofP (caP dLen (consP (vP 6) nilP))) nilA)) [8] (mgName 8) (mTest (m2 (only dGt) (mCall [] mf__law_times [.ex (mRd 6), .ex (mRd 8)]) (ofP (cP (.int 1))))) (mRd 8)) (mgName 7))
noncomputable def lf6 : Sl → RS := (mAsg (mCall [0] mf__law_next [.io 1, .ex (ofP (caP dLen (consP (vP 6) nilP)))]) (mgName 8))
noncomputable def lf7 : Sl → RS := (mIf (ofPT (twoB dGt (caP dLen (consP (vP 7) nilP)) (cP (.int 0))))
  (mSeq (mAsg (mIxv 7 (mCall [0] mf__law_next [.io 1, .ex (ofP (caP dLen (consP (vP 7) nilP)))])) (mgName 8))
  (mIf (mTest (m2 (only dNe) (mCall [] mf__law_told [.ex (mRd 4), .ex (mRd 8), .ex (mRd 5), .ex (mCall [] mf__law_times [.ex (mRd 6), .ex (mRd 8)])]) (ofP (cP (.str "none")))))
  (mRet (ofP (cP (.bl false))))
  mNext))
  mNext)
noncomputable def lf8 : Sl → RS := (mFor (mRange (mCons (ofP (cP (.int 6))) nilA)) (mgName 9)
  (mSeq (mAsg (mCall [0] mf__law_changed [.io 1, .ex (mRd 4), .ex (mRd 8), .ex (mRd 5), .ex (mCall [] mf__law_times [.ex (mRd 6), .ex (mRd 8)])]) (mgName 10))
  (mIf (mTest (m2 (only dNe) (mCall [] mf__law_told [.ex (mRd 4), .ex (ofP (two dIx (vP 10) (cP (.int 0)))), .ex (ofP (two dIx (vP 10) (cP (.int 1)))), .ex (ofP (two dIx (vP 10) (cP (.int 2))))]) (mCall [] mf__law_due [.ex (mRd 4), .ex (ofP (two dIx (vP 10) (cP (.int 0)))), .ex (ofP (two dIx (vP 10) (cP (.int 1)))), .ex (ofP (two dIx (vP 10) (cP (.int 2))))])))
  (mRet (ofP (cP (.bl false))))
  mNext)))
noncomputable def lfB : Sl → RS := (mSeq lf1 (mSeq lf2 (mSeq lf3 (mSeq lf4 (mSeq lf5 (mSeq lf6 (mSeq lf7 lf8)))))))
theorem lf_eq : lw2 = mFor (mRange (mCons (ofP (cP (.int 4))) nilA)) (mgName 2) lfB := rfl
noncomputable def lg1 : Sl → RS := (mAsg (mCall [0] mf__law_changed [.io 1, .ex (mRd 4), .ex (mRd 8), .ex (mRd 5), .ex (mCall [] mf__law_times [.ex (mRd 6), .ex (mRd 8)])]) (mgName 10))
noncomputable def lg2 : Sl → RS := (mIf (mTest (m2 (only dNe) (mCall [] mf__law_told [.ex (mRd 4), .ex (ofP (two dIx (vP 10) (cP (.int 0)))), .ex (ofP (two dIx (vP 10) (cP (.int 1)))), .ex (ofP (two dIx (vP 10) (cP (.int 2))))]) (mCall [] mf__law_due [.ex (mRd 4), .ex (ofP (two dIx (vP 10) (cP (.int 0)))), .ex (ofP (two dIx (vP 10) (cP (.int 1)))), .ex (ofP (two dIx (vP 10) (cP (.int 2))))])))
  (mRet (ofP (cP (.bl false))))
  mNext)
noncomputable def lgB : Sl → RS := (mSeq lg1 lg2)
theorem lg_eq : lf8 = mFor (mRange (mCons (ofP (cP (.int 6))) nilA)) (mgName 9) lgB := rfl
end Sim.K

namespace Sim
open PySem PySem.Spec PyProof.Rows L2
open Enc

/-! ### letters: numbers, texts, tuples of texts -/
inductive Lt where
  | n (i : Int)
  | w (x : Wd)
  | s (xs : List Wd)
deriving DecidableEq
instance : Enc Lt where
  d a := match a with
    | .n x => d x
    | .w x => d x
    | .s x => d x
  p a := match a with
    | .n x => p x
    | .w x => p x
    | .s x => p x
  hp a := by cases a <;> exact hp _
  lay a := by cases a <;> exact lay _
  dep := 1
  hdep a := by
    cases a with
    | n x => exact Nat.le_trans (hdep x) (by decide)
    | w x => exact Nat.le_trans (hdep x) (by decide)
    | s x => exact hdep x
  eqv a b := by
    cases a with
    | n x => cases b with
      | n y => exact (eqv x y).trans (by rw [decide_eq_decide]; exact ⟨fun h => by rw [h], fun h => by injection h⟩)
      | w y =>
        show PyData.eqv (.int x) (.str y.1) = _
        rw [decide_eq_false (fun h => by cases h)]
        unfold PyData.eqv; rfl
      | s y =>
        show PyData.eqv (.int x) (.tuple (y.map p)) = _
        rw [decide_eq_false (fun h => by cases h)]
        unfold PyData.eqv; rfl
    | w x => cases b with
      | n y =>
        show PyData.eqv (.str x.1) (.int y) = _
        rw [decide_eq_false (fun h => by cases h)]
        unfold PyData.eqv; rfl
      | w y => exact (eqv x y).trans (by rw [decide_eq_decide]; exact ⟨fun h => by rw [h], fun h => by injection h⟩)
      | s y =>
        show PyData.eqv (.str x.1) (.tuple (y.map p)) = _
        rw [decide_eq_false (fun h => by cases h)]
        unfold PyData.eqv; rfl
    | s x => cases b with
      | n y =>
        show PyData.eqv (.tuple (x.map p)) (.int y) = _
        rw [decide_eq_false (fun h => by cases h)]
        unfold PyData.eqv; rfl
      | w y =>
        show PyData.eqv (.tuple (x.map p)) (.str y.1) = _
        rw [decide_eq_false (fun h => by cases h)]
        unfold PyData.eqv; rfl
      | s y => exact (eqv x y).trans (by rw [decide_eq_decide]; exact ⟨fun h => by rw [h], fun h => by injection h⟩)
  im a := by cases a <;> exact im _
  nx a := by cases a <;> exact nx _
  sm a := match a with
    | .n x => sm x
    | .w x => sm x
    | .s x => sm x
  wt a := match a with
    | .n x => wt x
    | .w x => wt x
    | .s x => wt x
  hsm a h := by
    cases a with
    | n x => exact hsm x h
    | w x => exact hsm x h
    | s x => exact hsm x h
  one _ _ := trivial
/-! ### x's place in t -/
theorem dIdx_enc {α : Type} [DecidableEq α] [Enc α] (x : α) (xs : List α) (hx : x ∈ xs) (h : dep α ≤ 50 := by decide) : dIdx (d x |> fun _ => d xs) (d x) = some (.int (xs.idxOf x : Nat)) := by
  show (match toPs (xs.map d), toP (d x) with
    | some ps, some q => if (SeqAt.shaped (.tuple ps) && SeqAt.shaped q && decide (true ∈ eqs ps q)) = true then some (D.int ((eqs ps q).idxOf true : Nat)) else none
    | _, _ => none) = _
  rw [toPs_enc, hp]
  dsimp only
  have e : eqs (xs.map p) (p x) = xs.map fun y => decide (y = x) := by
    unfold eqs
    rw [List.map_map]
    apply List.map_congr_left
    intro y _
    exact eqv y x
  have e2 : (xs.map fun y => decide (y = x)).idxOf true = xs.idxOf x := by
    clear hx e
    induction xs with
    | nil => rfl
    | cons y ys ih =>
      rw [List.map_cons, List.idxOf_cons, List.idxOf_cons, ih]
      by_cases hy : y = x
      · simp [hy]
      · have : (y == x) = false := beq_false_of_ne hy
        simp [hy, this]
  rw [e, e2, show SeqAt.shaped (.tuple (xs.map p)) = true from shaped_enc xs (by show dep α + 1 ≤ 60; omega), shaped_enc x (by omega)]
  have hm : true ∈ xs.map fun y => decide (y = x) := List.mem_map.mpr ⟨x, hx, by simp⟩
  rw [decide_eq_true hm]
  rfl
/-! ### machines -/
abbrev Mach := Tri (List Lt) (List (List Int)) (List Int)
structure GoodM (M : Mach) (m : Nat) : Prop where
  pos : 1 ≤ m
  le : m ≤ 100
  len : M.b.length = m
  row : ∀ r ∈ M.b, r.length = M.a.length
  inr : ∀ r ∈ M.b, ∀ x ∈ r, 0 ≤ x ∧ x < (m : Int)
  la : M.a.length ≤ 100
  na : M.a ≠ []
def mv (M : Mach) (r : Int) (l : Lt) : Int := (M.b.getD r.toNat []).getD (M.a.idxOf l) 0
section
variable {M : Mach} {m : Nat}
theorem mv_in (g : GoodM M m) {r : Int} {l : Lt} (h : 0 ≤ r ∧ r < (m : Int)) (hl : l ∈ M.a) : 0 ≤ mv M r l ∧ mv M r l < (m : Int) := by
  have hr : M.b.getD r.toNat [] ∈ M.b := getD_mem (by have := g.len; omega)
  have hx : (M.b.getD r.toNat []).getD (M.a.idxOf l) 0 ∈ M.b.getD r.toNat [] := getD_mem (by rw [g.row _ hr]; exact List.idxOf_lt_length_iff.mpr hl)
  exact g.inr _ hr _ hx
theorem fold_in (g : GoodM M m) : ∀ (row : List Lt) (r : Int), 0 ≤ r ∧ r < (m : Int) → (∀ l ∈ row, l ∈ M.a) → 0 ≤ row.foldl (mv M) r ∧ row.foldl (mv M) r < (m : Int)
  | [], r, h, _ => h
  | l :: row, r, h, hl => fold_in g row (mv M r l) (mv_in g h (hl l (by simp))) fun x hx => hl x (by simp [hx])
theorem m_ix0 : dIx (d M) (.int 0) = some (d M.a) := rfl
theorem m_ix1 : dIx (d M) (.int 1) = some (d M.b) := rfl
theorem ixr (g : GoodM M m) {r : Int} (h : 0 ≤ r ∧ r < (m : Int)) : dIx (d M.b) (.int r) = some (d (M.b.getD r.toNat [])) := dIx_d M.b r [] h.1 (by rw [g.len]; exact h.2)
theorem ixl (g : GoodM M m) {r : Int} {l : Lt} (h : 0 ≤ r ∧ r < (m : Int)) (hl : l ∈ M.a) : dIx (d (M.b.getD r.toNat [])) (.int (M.a.idxOf l : Nat)) = some (.int (mv M r l)) := by
  have hr : M.b.getD r.toNat [] ∈ M.b := getD_mem (by have := g.len; omega)
  have := dIx_d (M.b.getD r.toNat []) (M.a.idxOf l : Nat) 0 (by omega) (by rw [g.row _ hr]; have := List.idxOf_lt_length_iff.mpr hl; omega)
  rw [Int.toNat_natCast] at this
  exact this
theorem ixd {l : Lt} (hl : l ∈ M.a) : dIdx (d M.a) (d l) = some (.int (M.a.idxOf l : Nat)) := dIdx_enc l M.a hl
/-- the deed of a row -/
def dl (M : Mach) (m : Nat) (row : List Lt) : List Int := (upto m).map fun r => row.foldl (mv M) r
theorem dl_len (row : List Lt) : (dl M m row).length = m := by unfold dl; rw [List.length_map, upto_len]
theorem dl_in (g : GoodM M m) {row : List Lt} (hl : ∀ l ∈ row, l ∈ M.a) : ∀ x ∈ dl M m row, 0 ≤ x ∧ x < (m : Int) := fun x hx => by
  obtain ⟨r, hr, rfl⟩ := List.mem_map.mp hx
  exact fold_in g row r (mem_upto.mp hr) hl
/-! ### _law_deed -/
def ldI : Sl → RS := (mAsg (ofP (two dIx (two dIx (two dIx (vP 0) (cP (.int 1))) (vP 3)) (two dIdx (two dIx (vP 0) (cP (.int 0))) (vP 4)))) (mgName 3))
def ldB : Sl → RS := (mSeq (mFor (mItems (mRd 1)) (mgName 4) ldI) (mExpr (mAppend 2 (mRd 3))))
theorem ld_eq : K.mb__law_deed = mSeq (mAsg (mApp mkLst nilA) (mgName 2)) (mSeq (mFor (mRange (mCons (ofP (caP dLen (consP (two dIx (vP 0) (cP (.int 1))) nilP))) nilA)) (mgName 3) ldB) (mRet (mTuple (mRd 2)))) := rfl
theorem ld_loop (g : GoodM M m) {a1 a2 : Option D} : ∀ (row : List Lt) (r : Int) (o : Option D), 0 ≤ r ∧ r < (m : Int) → (∀ l ∈ row, l ∈ M.a) → ∃ o', mLoop (mgName 4) ldI (row.map d) [some (d M), a1, a2, some (.int r), o] = .nx [some (d M), a1, a2, some (.int (row.foldl (mv M) r)), o']
  | [], r, o, _, _ => ⟨o, rfl⟩
  | l :: row, r, o, h, hl => by
    have hm := hl l (by simp)
    obtain ⟨o', e⟩ := ld_loop g (a1 := a1) (a2 := a2) row (mv M r l) (some (d l)) (mv_in g h hm) fun x hx => hl x (by simp [hx])
    refine ⟨o', ?_⟩
    rw [List.map_cons]
    unfold mLoop
    have e1 : ldI [some (d M), a1, a2, some (.int r), some (d l)] = .nx [some (d M), a1, a2, some (.int (mv M r l)), some (d l)] := by
      unfold ldI
      simp only [mSeq, mAsg, mgName, mgTup, mgCons, mgNil, mExpr, mRet, mRetN, mIf, mNext, mBrk, mCont, mRaise, mRaiseP, ofP, ofPT, two, twoB, one, chT, trT, caP, consP, nilP, vP, cP, tupP, lstP, mkT0, mkT1, mkT2, mkT3, mkT4, mkL0, mkL1, mkL2, mkL3, mkL4, mkL5, mkL6, mCons, nilA, mApp, m2, mNew2, mRd, mMv, mTest, mAndT, mOrT, mNotT, mAndV, mOrV, mNotV, mIfV, andV, orV, notV, mCall, mArgs, takeIo, putIo, R.bind, List.set_cons_succ, List.set_cons_zero, List.getElem?_cons_succ, List.getElem?_cons_zero, Option.join_some, Option.bind_some, Option.map_some, Option.bind, only, asB, truB_bl, truB_int, if_true, yesT, noO, partO, asI, onI, frz_int, frz_str, frz_bl, frz_non, frz_enc, imm_int, imm_bl, imm_str, imm_non, Enc.im, outsOf, imm_tup, imms_nil, imms_cons, dEq_ii, dNe_ii, dPl_int, dPlF_int, dLen_lst, dLen_tup, dLen_fls, dLen_d, putIo, List.length_map, onIc, dLe, dLt, dGt, dGe, dSub, decide_true, decide_false, Bool.not_true, Bool.not_false, Bool.false_eq_true, if_false, Bool.and_self, Bool.and_false, Bool.and_true, Bool.false_and, Bool.true_and, m_ix0, m_ix1, ixr g h, ixl g h hm, ixd hm]
    simp only [mgName, List.set_cons_succ, List.set_cons_zero]
    rw [e1]
    exact e
theorem law_deed_ok (g : GoodM M m) (row : List Lt) (hr : row.length ≤ 1000) (hl : ∀ l ∈ row, l ∈ M.a) : K.mf__law_deed [d M, d row] = .ok (d (dl M m row)) [] := by
  have el : dLen [d M.b] = some (.int (m : Int)) := by rw [dLen_d, g.len]
  have t1 : mAsg (mApp mkLst nilA) (mgName 2) [some (d M), some (d row), none, none, none] = .nx [some (d M), some (d row), some (.lst []), none, none] := by simp only [mSeq, mAsg, mgName, mgTup, mgCons, mgNil, mExpr, mRet, mRetN, mIf, mNext, mBrk, mCont, mRaise, mRaiseP, ofP, ofPT, two, twoB, one, chT, trT, caP, consP, nilP, vP, cP, tupP, lstP, mkT0, mkT1, mkT2, mkT3, mkT4, mkL0, mkL1, mkL2, mkL3, mkL4, mkL5, mkL6, mCons, nilA, mApp, m2, mNew2, mRd, mMv, mTest, mAndT, mOrT, mNotT, mAndV, mOrV, mNotV, mIfV, andV, orV, notV, mCall, mArgs, takeIo, putIo, R.bind, List.set_cons_succ, List.set_cons_zero, List.getElem?_cons_succ, List.getElem?_cons_zero, Option.join_some, Option.bind_some, Option.map_some, Option.bind, only, asB, truB_bl, truB_int, if_true, yesT, noO, partO, asI, onI, frz_int, frz_str, frz_bl, frz_non, frz_enc, imm_int, imm_bl, imm_str, imm_non, Enc.im, outsOf, imm_tup, imms_nil, imms_cons, dEq_ii, dNe_ii, dPl_int, dPlF_int, dLen_lst, dLen_tup, dLen_fls, dLen_d, putIo, List.length_map, onIc, dLe, dLt, dGt, dGe, dSub, decide_true, decide_false, Bool.not_true, Bool.not_false, Bool.false_eq_true, if_false, Bool.and_self, Bool.and_false, Bool.and_true, Bool.false_and, Bool.true_and]
  have t2 : ∃ o3 o4, mFor (mRange (mCons (ofP (caP dLen (consP (two dIx (vP 0) (cP (.int 1))) nilP))) nilA)) (mgName 3) ldB [some (d M), some (d row), some (.lst []), none, none] = .nx [some (d M), some (d row), some (.lst ((dl M m row).map d)), o3, o4] := by
    have gle := g.le
    rw [mFor_rangeN (s1 := [some (d M), some (d row), some (.lst []), none, none]) (n := m) (by simp only [mSeq, mAsg, mgName, mgTup, mgCons, mgNil, mExpr, mRet, mRetN, mIf, mNext, mBrk, mCont, mRaise, mRaiseP, ofP, ofPT, two, twoB, one, chT, trT, caP, consP, nilP, vP, cP, tupP, lstP, mkT0, mkT1, mkT2, mkT3, mkT4, mkL0, mkL1, mkL2, mkL3, mkL4, mkL5, mkL6, mCons, nilA, mApp, m2, mNew2, mRd, mMv, mTest, mAndT, mOrT, mNotT, mAndV, mOrV, mNotV, mIfV, andV, orV, notV, mCall, mArgs, takeIo, putIo, R.bind, List.set_cons_succ, List.set_cons_zero, List.getElem?_cons_succ, List.getElem?_cons_zero, Option.join_some, Option.bind_some, Option.map_some, Option.bind, only, asB, truB_bl, truB_int, if_true, yesT, noO, partO, asI, onI, frz_int, frz_str, frz_bl, frz_non, frz_enc, imm_int, imm_bl, imm_str, imm_non, Enc.im, outsOf, imm_tup, imms_nil, imms_cons, dEq_ii, dNe_ii, dPl_int, dPlF_int, dLen_lst, dLen_tup, dLen_fls, dLen_d, putIo, List.length_map, onIc, dLe, dLt, dGt, dGe, dSub, decide_true, decide_false, Bool.not_true, Bool.not_false, Bool.false_eq_true, if_false, Bool.and_self, Bool.and_false, Bool.and_true, Bool.false_and, Bool.true_and, m_ix1, el]) (by omega)]
    refine loop_list (P := fun q => ∃ o3 o4, q = .nx [some (d M), some (d row), some (.lst ((dl M m row).map d)), o3, o4]) (fun i s => ∃ o3 o4, s = [some (d M), some (d row), some (.lst (((dl M m row).take i).map d)), o3, o4]) ?_ ?_ ⟨none, none, by rw [List.take_zero]; rfl⟩
    · rintro i dd s hd ⟨o3, o4, rfl⟩
      rw [List.getElem?_map] at hd
      obtain ⟨r, hc, rfl⟩ := Option.map_eq_some_iff.mp hd
      have hi := (List.getElem?_eq_some_iff.mp hc).1
      have hri := mem_upto.mp (List.mem_of_getElem? hc)
      refine ⟨_, rfl, ?_⟩
      obtain ⟨o', e⟩ := ld_loop g (a1 := some (d row)) (a2 := some (.lst (((dl M m row).take i).map d))) row r o4 hri hl
      have e1 : mFor (mItems (mRd 1)) (mgName 4) ldI [some (d M), some (d row), some (.lst (((dl M m row).take i).map d)), some (.int r), o4] = .nx [some (d M), some (d row), some (.lst (((dl M m row).take i).map d)), some (.int (row.foldl (mv M) r)), o'] := by
        unfold mFor
        rw [mItems_rd (xs := row) rfl rfl]
        exact e
      have hz : ((dl M m row).take i).length < sizeLine := size_lt (by rw [List.length_take, dl_len]; omega)
      have et : (dl M m row).take (i + 1) = (dl M m row).take i ++ [row.foldl (mv M) r] := by
        rw [List.take_succ]
        unfold dl
        rw [List.getElem?_map, hc]; rfl
      simp only [mgName, List.set_cons_succ, List.set_cons_zero]
      unfold ldB
      show Turn _ _ (mSeq _ _ [some (d M), some (d row), some (.lst (((dl M m row).take i).map d)), some (.int r), o4])
      rw [seq_nx e1, expr_ok (append_ok (ds0 := ((dl M m row).take i).map d) (ds := ((dl M m row).take i).map d) (s1 := [some (d M), some (d row), some (.lst (((dl M m row).take i).map d)), some (.int (row.foldl (mv M) r)), o']) (y := .int (row.foldl (mv M) r)) (by simp only [mSeq, mAsg, mgName, mgTup, mgCons, mgNil, mExpr, mRet, mRetN, mIf, mNext, mBrk, mCont, mRaise, mRaiseP, ofP, ofPT, two, twoB, one, chT, trT, caP, consP, nilP, vP, cP, tupP, lstP, mkT0, mkT1, mkT2, mkT3, mkT4, mkL0, mkL1, mkL2, mkL3, mkL4, mkL5, mkL6, mCons, nilA, mApp, m2, mNew2, mRd, mMv, mTest, mAndT, mOrT, mNotT, mAndV, mOrV, mNotV, mIfV, andV, orV, notV, mCall, mArgs, takeIo, putIo, R.bind, List.set_cons_succ, List.set_cons_zero, List.getElem?_cons_succ, List.getElem?_cons_zero, Option.join_some, Option.bind_some, Option.map_some, Option.bind, only, asB, truB_bl, truB_int, if_true, yesT, noO, partO, asI, onI, frz_int, frz_str, frz_bl, frz_non, frz_enc, imm_int, imm_bl, imm_str, imm_non, Enc.im, outsOf, imm_tup, imms_nil, imms_cons, dEq_ii, dNe_ii, dPl_int, dPlF_int, dLen_lst, dLen_tup, dLen_fls, dLen_d, putIo, List.length_map, onIc, dLe, dLt, dGt, dGe, dSub, decide_true, decide_false, Bool.not_true, Bool.not_false, Bool.false_eq_true, if_false, Bool.and_self, Bool.and_false, Bool.and_true, Bool.false_and, Bool.true_and]) rfl rfl (by rw [List.length_map, List.length_take, dl_len]; omega))]
      refine ⟨some (.int (row.foldl (mv M) r)), o', ?_⟩
      rw [et, List.map_append]; rfl
    · rintro s ⟨o3, o4, rfl⟩
      refine ⟨o3, o4, ?_⟩
      rw [List.length_map, upto_len, List.take_of_length_le (by rw [dl_len]; exact Nat.le_refl _)]
  obtain ⟨o3, o4, t2⟩ := t2
  have t3 : mTuple (mRd 2) [some (d M), some (d row), some (.lst ((dl M m row).map d)), o3, o4] = .ok (d (dl M m row)) [some (d M), some (d row), some (.fls ((dl M m row).map d)), o3, o4] := mTuple_fls (by simp only [mSeq, mAsg, mgName, mgTup, mgCons, mgNil, mExpr, mRet, mRetN, mIf, mNext, mBrk, mCont, mRaise, mRaiseP, ofP, ofPT, two, twoB, one, chT, trT, caP, consP, nilP, vP, cP, tupP, lstP, mkT0, mkT1, mkT2, mkT3, mkT4, mkL0, mkL1, mkL2, mkL3, mkL4, mkL5, mkL6, mCons, nilA, mApp, m2, mNew2, mRd, mMv, mTest, mAndT, mOrT, mNotT, mAndV, mOrV, mNotV, mIfV, andV, orV, notV, mCall, mArgs, takeIo, putIo, R.bind, List.set_cons_succ, List.set_cons_zero, List.getElem?_cons_succ, List.getElem?_cons_zero, Option.join_some, Option.bind_some, Option.map_some, Option.bind, only, asB, truB_bl, truB_int, if_true, yesT, noO, partO, asI, onI, frz_int, frz_str, frz_bl, frz_non, frz_enc, imm_int, imm_bl, imm_str, imm_non, Enc.im, outsOf, frz_lst]) trivial
  unfold K.mf__law_deed mDef
  rw [ld_eq, if_pos (by rfl)]
  simp only [List.map_cons, List.map_nil, List.replicate, List.cons_append, List.nil_append]
  rw [seq_nx t1, seq_nx t2, mRet, t3]
  rfl
end
end Sim

namespace Sim
open PySem PySem.Spec PyProof.Rows L2
open Enc
section
variable {M : Mach} {m : Nat}
/-! ### deed_of -/
def doC : Sl → R D := mTuple (mComp (mItems (mRd 5)) [8] (mgName 8) yesT (ofP (two dIx (two dIx (vP 3) (vP 8)) (vP 7))))
def doI : Sl → RS := (mSeq (mIf (ofPT (twoB dNotIn (vP 6) (vP 2)))
  (mRaise "NotAllowed")
  mNext)
  (mSeq (mAsg (ofP (two dIdx (vP 2) (vP 6))) (mgName 7))
  (mAsg doC (mgName 5))))
def doA : Sl → RS := (mAsg (mRd 0) (mgTup 3 (mgCons (mgName 2) (mgCons (mgName 3) (mgCons (mgName 4) mgNil)))))
def doR : Sl → RS := (mAsg (mTupR (ofP (caP dLen (consP (vP 3) nilP)))) (mgName 5))
theorem do_eq : K.mb_deed_of = mSeq doA (mSeq doR (mSeq (mFor (mItems (mRd 1)) (mgName 6) doI) (mRet (mMv 5)))) := rfl
abbrev doS (M : Mach) (row : List Lt) (dd : List Int) (o6 o7 : Option D) : Sl := [some (d M), some (d row), some (d M.a), some (d M.b), some (d M.c), some (d dd), o6, o7, none]
theorem doI_ok (g : GoodM M m) {row : List Lt} {dd : List Int} {l : Lt} {o7 : Option D} (hd : ∀ x ∈ dd, 0 ≤ x ∧ x < (m : Int)) (hl : l ∈ M.a) (hn : dd.length ≤ 1000) : doI (doS M row dd (some (d l)) o7) = .nx (doS M row (dd.map fun r => mv M r l) (some (d l)) (some (.int (M.a.idxOf l : Nat)))) := by
  have e1 : dNotIn (d l) (d M.a) = some (.bl false) := by
    have := dNotIn_tup l M.a
    rw [decide_eq_true hl] at this
    exact this
  have z1 : mIf (ofPT (twoB dNotIn (vP 6) (vP 2))) (mRaise "NotAllowed") mNext (doS M row dd (some (d l)) o7) = .nx (doS M row dd (some (d l)) o7) := by simp only [mSeq, mAsg, mgName, mgTup, mgCons, mgNil, mExpr, mRet, mRetN, mIf, mNext, mBrk, mCont, mRaise, mRaiseP, ofP, ofPT, two, twoB, one, chT, trT, caP, consP, nilP, vP, cP, tupP, lstP, mkT0, mkT1, mkT2, mkT3, mkT4, mkL0, mkL1, mkL2, mkL3, mkL4, mkL5, mkL6, mCons, nilA, mApp, m2, mNew2, mRd, mMv, mTest, mAndT, mOrT, mNotT, mAndV, mOrV, mNotV, mIfV, andV, orV, notV, mCall, mArgs, takeIo, putIo, R.bind, List.set_cons_succ, List.set_cons_zero, List.getElem?_cons_succ, List.getElem?_cons_zero, Option.join_some, Option.bind_some, Option.map_some, Option.bind, only, asB, truB_bl, truB_int, if_true, yesT, noO, partO, asI, onI, frz_int, frz_str, frz_bl, frz_non, frz_enc, imm_int, imm_bl, imm_str, imm_non, Enc.im, outsOf, imm_tup, imms_nil, imms_cons, dEq_ii, dNe_ii, dPl_int, dPlF_int, dLen_lst, dLen_tup, dLen_fls, dLen_d, putIo, List.length_map, onIc, dLe, dLt, dGt, dGe, dSub, decide_true, decide_false, Bool.not_true, Bool.not_false, Bool.false_eq_true, if_false, Bool.and_self, Bool.and_false, Bool.and_true, Bool.false_and, Bool.true_and, e1]
  have z2 : mAsg (ofP (two dIdx (vP 2) (vP 6))) (mgName 7) (doS M row dd (some (d l)) o7) = .nx (doS M row dd (some (d l)) (some (.int (M.a.idxOf l : Nat)))) := by simp only [mSeq, mAsg, mgName, mgTup, mgCons, mgNil, mExpr, mRet, mRetN, mIf, mNext, mBrk, mCont, mRaise, mRaiseP, ofP, ofPT, two, twoB, one, chT, trT, caP, consP, nilP, vP, cP, tupP, lstP, mkT0, mkT1, mkT2, mkT3, mkT4, mkL0, mkL1, mkL2, mkL3, mkL4, mkL5, mkL6, mCons, nilA, mApp, m2, mNew2, mRd, mMv, mTest, mAndT, mOrT, mNotT, mAndV, mOrV, mNotV, mIfV, andV, orV, notV, mCall, mArgs, takeIo, putIo, R.bind, List.set_cons_succ, List.set_cons_zero, List.getElem?_cons_succ, List.getElem?_cons_zero, Option.join_some, Option.bind_some, Option.map_some, Option.bind, only, asB, truB_bl, truB_int, if_true, yesT, noO, partO, asI, onI, frz_int, frz_str, frz_bl, frz_non, frz_enc, imm_int, imm_bl, imm_str, imm_non, Enc.im, outsOf, imm_tup, imms_nil, imms_cons, dEq_ii, dNe_ii, dPl_int, dPlF_int, dLen_lst, dLen_tup, dLen_fls, dLen_d, putIo, List.length_map, onIc, dLe, dLt, dGt, dGe, dSub, decide_true, decide_false, Bool.not_true, Bool.not_false, Bool.false_eq_true, if_false, Bool.and_self, Bool.and_false, Bool.and_true, Bool.false_and, Bool.true_and, ixd hl]
  have key := comp_pure (f := (d : Int → D)) (vs := [8]) (g := mgName 8) (t := yesT) (m := ofP (two dIx (two dIx (vP 3) (vP 8)) (vP 7))) (s := doS M row dd (some (d l)) (some (.int (M.a.idxOf l : Nat)))) (fun _ => true) (fun r => .int (mv M r l)) dd [] (fun r hr => by
    have h := hd r hr
    refine ⟨[some (d M), some (d row), some (d M.a), some (d M.b), some (d M.c), some (d dd), some (d l), some (.int (M.a.idxOf l : Nat)), some (d r)], rfl, rfl, rfl, fun _ => ⟨[some (d M), some (d row), some (d M.a), some (d M.b), some (d M.c), some (d dd), some (d l), some (.int (M.a.idxOf l : Nat)), some (d r)], ?_, rfl⟩⟩
    simp only [mSeq, mAsg, mgName, mgTup, mgCons, mgNil, mExpr, mRet, mRetN, mIf, mNext, mBrk, mCont, mRaise, mRaiseP, ofP, ofPT, two, twoB, one, chT, trT, caP, consP, nilP, vP, cP, tupP, lstP, mkT0, mkT1, mkT2, mkT3, mkT4, mkL0, mkL1, mkL2, mkL3, mkL4, mkL5, mkL6, mCons, nilA, mApp, m2, mNew2, mRd, mMv, mTest, mAndT, mOrT, mNotT, mAndV, mOrV, mNotV, mIfV, andV, orV, notV, mCall, mArgs, takeIo, putIo, R.bind, List.set_cons_succ, List.set_cons_zero, List.getElem?_cons_succ, List.getElem?_cons_zero, Option.join_some, Option.bind_some, Option.map_some, Option.bind, only, asB, truB_bl, truB_int, if_true, yesT, noO, partO, asI, onI, frz_int, frz_str, frz_bl, frz_non, frz_enc, imm_int, imm_bl, imm_str, imm_non, Enc.im, outsOf, imm_tup, imms_nil, imms_cons, dEq_ii, dNe_ii, dPl_int, dPlF_int, dLen_lst, dLen_tup, dLen_fls, dLen_d, putIo, List.length_map, onIc, dLe, dLt, dGt, dGe, dSub, decide_true, decide_false, Bool.not_true, Bool.not_false, Bool.false_eq_true, if_false, Bool.and_self, Bool.and_false, Bool.and_true, Bool.false_and, Bool.true_and, d_int, ixr g h, ixl g h hl]) (by simp; omega)
  rw [List.nil_append, show (dd.filter fun _ => true) = dd from List.filter_eq_self.mpr fun _ _ => rfl] at key
  have e2 := mComp_of (mItems_rd (i := 5) (s := doS M row dd (some (d l)) (some (.int (M.a.idxOf l : Nat)))) (xs := dd) rfl rfl) (t := yesT) (m := ofP (two dIx (two dIx (vP 3) (vP 8)) (vP 7))) (vs := [8]) (g := mgName 8) key
  have e3 := mTuple_lst e2 (by rw [List.length_map]; omega)
  have z3 : mAsg doC (mgName 5) (doS M row dd (some (d l)) (some (.int (M.a.idxOf l : Nat)))) = .nx (doS M row (dd.map fun r => mv M r l) (some (d l)) (some (.int (M.a.idxOf l : Nat)))) := by
    have : (dd.map fun r => D.int (mv M r l)) = (dd.map fun r => mv M r l).map d := by rw [List.map_map]; rfl
    unfold doC mAsg
    rw [e3, this]; rfl
  unfold doI
  rw [seq_nx z1, seq_nx z2, z3]
theorem doI_bad {row : List Lt} {dd : List Int} {l : Lt} {o7 : Option D} (hl : l ∉ M.a) : doI (doS M row dd (some (d l)) o7) = .exc "NotAllowed" [] (doS M row dd (some (d l)) o7) := by
  have e1 : dNotIn (d l) (d M.a) = some (.bl true) := by
    have := dNotIn_tup l M.a
    rw [decide_eq_false hl] at this
    exact this
  unfold doI
  simp only [mSeq, mAsg, mgName, mgTup, mgCons, mgNil, mExpr, mRet, mRetN, mIf, mNext, mBrk, mCont, mRaise, mRaiseP, ofP, ofPT, two, twoB, one, chT, trT, caP, consP, nilP, vP, cP, tupP, lstP, mkT0, mkT1, mkT2, mkT3, mkT4, mkL0, mkL1, mkL2, mkL3, mkL4, mkL5, mkL6, mCons, nilA, mApp, m2, mNew2, mRd, mMv, mTest, mAndT, mOrT, mNotT, mAndV, mOrV, mNotV, mIfV, andV, orV, notV, mCall, mArgs, takeIo, putIo, R.bind, List.set_cons_succ, List.set_cons_zero, List.getElem?_cons_succ, List.getElem?_cons_zero, Option.join_some, Option.bind_some, Option.map_some, Option.bind, only, asB, truB_bl, truB_int, if_true, yesT, noO, partO, asI, onI, frz_int, frz_str, frz_bl, frz_non, frz_enc, imm_int, imm_bl, imm_str, imm_non, Enc.im, outsOf, imm_tup, imms_nil, imms_cons, dEq_ii, dNe_ii, dPl_int, dPlF_int, dLen_lst, dLen_tup, dLen_fls, dLen_d, putIo, List.length_map, onIc, dLe, dLt, dGt, dGe, dSub, decide_true, decide_false, Bool.not_true, Bool.not_false, Bool.false_eq_true, if_false, Bool.and_self, Bool.and_false, Bool.and_true, Bool.false_and, Bool.true_and, e1]
theorem do_loop (g : GoodM M m) {row0 : List Lt} : ∀ (row : List Lt) (dd : List Int) (o6 o7 : Option D), (∀ x ∈ dd, 0 ≤ x ∧ x < (m : Int)) → dd.length ≤ 1000 → ∃ o6' o7' dd', mLoop (mgName 6) doI (row.map d) (doS M row0 dd o6 o7) =
    if (∀ l ∈ row, l ∈ M.a) then .nx (doS M row0 (dd.map fun r => row.foldl (mv M) r) o6' o7') else .exc "NotAllowed" [] (doS M row0 dd' o6' o7')
  | [], dd, o6, o7, _, _ => ⟨o6, o7, dd, by rw [if_pos (by simp)]; simp [mLoop]⟩
  | l :: row, dd, o6, o7, hd, hn => by
    by_cases hl : l ∈ M.a
    · obtain ⟨o6', o7', dd', e⟩ := do_loop g (row0 := row0) row (dd.map fun r => mv M r l) (some (d l)) (some (.int (M.a.idxOf l : Nat))) (fun x hx => by
        obtain ⟨r, hr, rfl⟩ := List.mem_map.mp hx
        exact mv_in g (hd r hr) hl) (by rw [List.length_map]; exact hn)
      refine ⟨o6', o7', dd', ?_⟩
      rw [List.map_cons]
      unfold mLoop
      have e1 := doI_ok g (row := row0) (dd := dd) (l := l) (o7 := o7) hd hl hn
      simp only [mgName, List.set_cons_succ, List.set_cons_zero]
      show (match doI (doS M row0 dd (some (d l)) o7) with | _ => _) = _
      rw [e1]
      dsimp only
      have e' := e
      simp only [List.map_map] at e'
      rw [e']
      by_cases ha : ∀ x ∈ row, x ∈ M.a
      · rw [if_pos ha, if_pos (fun x hx => by 
          rcases List.mem_cons.mp hx with rfl | hx
          · exact hl
          · exact ha x hx)]
        rfl
      · rw [if_neg ha, if_neg (fun h => ha fun x hx => h x (by simp [hx]))]
    · refine ⟨some (d l), o7, dd, ?_⟩
      rw [List.map_cons]
      unfold mLoop
      have e1 := doI_bad (row := row0) (dd := dd) (l := l) (o7 := o7) hl
      simp only [mgName, List.set_cons_succ, List.set_cons_zero]
      show (match doI (doS M row0 dd (some (d l)) o7) with | _ => _) = _
      rw [e1, if_neg (fun h => hl (h l (by simp)))]
theorem deed_of_ok (g : GoodM M m) (row : List Lt) : K.mf_deed_of [d M, d row] = if (∀ l ∈ row, l ∈ M.a) then .ok (d (dl M m row)) [] else .exc "NotAllowed" [] [] := by
  have gle := g.le
  have el : dLen [d M.b] = some (.int (m : Int)) := by rw [dLen_d, g.len]
  have t1 : doA [some (d M), some (d row), none, none, none, none, none, none, none] = .nx [some (d M), some (d row), some (d M.a), some (d M.b), some (d M.c), none, none, none, none] := by
    unfold doA
    simp only [mSeq, mAsg, mgName, mgTup, mgCons, mgNil, mExpr, mRet, mRetN, mIf, mNext, mBrk, mCont, mRaise, mRaiseP, ofP, ofPT, two, twoB, one, chT, trT, caP, consP, nilP, vP, cP, tupP, lstP, mkT0, mkT1, mkT2, mkT3, mkT4, mkL0, mkL1, mkL2, mkL3, mkL4, mkL5, mkL6, mCons, nilA, mApp, m2, mNew2, mRd, mMv, mTest, mAndT, mOrT, mNotT, mAndV, mOrV, mNotV, mIfV, andV, orV, notV, mCall, mArgs, takeIo, putIo, R.bind, List.set_cons_succ, List.set_cons_zero, List.getElem?_cons_succ, List.getElem?_cons_zero, Option.join_some, Option.bind_some, Option.map_some, Option.bind, only, asB, truB_bl, truB_int, if_true, yesT, noO, partO, asI, onI, frz_int, frz_str, frz_bl, frz_non, frz_enc, imm_int, imm_bl, imm_str, imm_non, Enc.im, outsOf, imm_tup, imms_nil, imms_cons, dEq_ii, dNe_ii, dPl_int, dPlF_int, dLen_lst, dLen_tup, dLen_fls, dLen_d, putIo, List.length_map, onIc, dLe, dLt, dGt, dGe, dSub, decide_true, decide_false, Bool.not_true, Bool.not_false, Bool.false_eq_true, if_false, Bool.and_self, Bool.and_false, Bool.and_true, Bool.false_and, Bool.true_and]
    rfl
  have t2 : doR [some (d M), some (d row), some (d M.a), some (d M.b), some (d M.c), none, none, none, none] = .nx (doS M row (upto m) none none) := by
    have e0 : ofP (caP dLen (consP (vP 3) nilP)) [some (d M), some (d row), some (d M.a), some (d M.b), some (d M.c), none, none, none, none] = .ok (.int (m : Int)) [some (d M), some (d row), some (d M.a), some (d M.b), some (d M.c), none, none, none, none] := by simp only [mSeq, mAsg, mgName, mgTup, mgCons, mgNil, mExpr, mRet, mRetN, mIf, mNext, mBrk, mCont, mRaise, mRaiseP, ofP, ofPT, two, twoB, one, chT, trT, caP, consP, nilP, vP, cP, tupP, lstP, mkT0, mkT1, mkT2, mkT3, mkT4, mkL0, mkL1, mkL2, mkL3, mkL4, mkL5, mkL6, mCons, nilA, mApp, m2, mNew2, mRd, mMv, mTest, mAndT, mOrT, mNotT, mAndV, mOrV, mNotV, mIfV, andV, orV, notV, mCall, mArgs, takeIo, putIo, R.bind, List.set_cons_succ, List.set_cons_zero, List.getElem?_cons_succ, List.getElem?_cons_zero, Option.join_some, Option.bind_some, Option.map_some, Option.bind, only, asB, truB_bl, truB_int, if_true, yesT, noO, partO, asI, onI, frz_int, frz_str, frz_bl, frz_non, frz_enc, imm_int, imm_bl, imm_str, imm_non, Enc.im, outsOf, imm_tup, imms_nil, imms_cons, dEq_ii, dNe_ii, dPl_int, dPlF_int, dLen_lst, dLen_tup, dLen_fls, dLen_d, putIo, List.length_map, onIc, dLe, dLt, dGt, dGe, dSub, decide_true, decide_false, Bool.not_true, Bool.not_false, Bool.false_eq_true, if_false, Bool.and_self, Bool.and_false, Bool.and_true, Bool.false_and, Bool.true_and, el]
    have e1 : rangeD 0 (m : Int).toNat = (upto m).map d := by rw [Int.toNat_natCast, range_D]
    have e2 : mTupR (ofP (caP dLen (consP (vP 3) nilP))) [some (d M), some (d row), some (d M.a), some (d M.b), some (d M.c), none, none, none, none] = .ok (d (upto m)) [some (d M), some (d row), some (d M.a), some (d M.b), some (d M.c), none, none, none, none] := by
      unfold mTupR
      rw [e0]
      show (if (m : Int).natAbs ≤ 1000000 then R.ok (D.tup (rangeD 0 (m : Int).toNat)) [some (d M), some (d row), some (d M.a), some (d M.b), some (d M.c), none, none, none, none] else R.stuck) = _
      rw [if_pos (by omega), e1]
      rfl
    unfold doR mAsg
    rw [e2]
    rfl
  obtain ⟨o6, o7, dd', e⟩ := do_loop g (row0 := row) row (upto m) none none (fun x hx => mem_upto.mp hx) (by rw [upto_len]; omega)
  have t3 : mFor (mItems (mRd 1)) (mgName 6) doI (doS M row (upto m) none none) = if (∀ l ∈ row, l ∈ M.a) then .nx (doS M row (dl M m row) o6 o7) else .exc "NotAllowed" [] (doS M row dd' o6 o7) := by
    unfold mFor
    rw [mItems_rd (xs := row) rfl rfl]
    exact e
  unfold K.mf_deed_of mDef
  rw [do_eq, if_pos (by rfl)]
  simp only [List.map_cons, List.map_nil, List.replicate, List.cons_append, List.nil_append]
  rw [seq_nx t1, seq_nx t2, mSeq, t3]
  by_cases h : ∀ l ∈ row, l ∈ M.a
  · rw [if_pos h, if_pos h]
    simp only [mSeq, mAsg, mgName, mgTup, mgCons, mgNil, mExpr, mRet, mRetN, mIf, mNext, mBrk, mCont, mRaise, mRaiseP, ofP, ofPT, two, twoB, one, chT, trT, caP, consP, nilP, vP, cP, tupP, lstP, mkT0, mkT1, mkT2, mkT3, mkT4, mkL0, mkL1, mkL2, mkL3, mkL4, mkL5, mkL6, mCons, nilA, mApp, m2, mNew2, mRd, mMv, mTest, mAndT, mOrT, mNotT, mAndV, mOrV, mNotV, mIfV, andV, orV, notV, mCall, mArgs, takeIo, putIo, R.bind, List.set_cons_succ, List.set_cons_zero, List.getElem?_cons_succ, List.getElem?_cons_zero, Option.join_some, Option.bind_some, Option.map_some, Option.bind, only, asB, truB_bl, truB_int, if_true, yesT, noO, partO, asI, onI, frz_int, frz_str, frz_bl, frz_non, frz_enc, imm_int, imm_bl, imm_str, imm_non, Enc.im, outsOf, imm_tup, imms_nil, imms_cons, dEq_ii, dNe_ii, dPl_int, dPlF_int, dLen_lst, dLen_tup, dLen_fls, dLen_d, putIo, List.length_map, onIc, dLe, dLt, dGt, dGe, dSub, decide_true, decide_false, Bool.not_true, Bool.not_false, Bool.false_eq_true, if_false, Bool.and_self, Bool.and_false, Bool.and_true, Bool.false_and, Bool.true_and]
  · rw [if_neg h, if_neg h]
    rfl
/-! ### times -/
def nxt (dd : List Int) (x : Int) : Int := dd.getD x.toNat 0
def itr (dd : List Int) : Nat → Int → Int
  | 0, x => x
  | k + 1, x => nxt dd (itr dd k x)
structure GoodD (dd : List Int) (m : Nat) : Prop where
  len : dd.length = m
  inr : ∀ x ∈ dd, 0 ≤ x ∧ x < (m : Int)
  le : m ≤ 1000
def Times (dd : List Int) (r : Int) : Int := match (rg 1 dd.length).find? fun k => decide (itr dd k r = r) with
  | some k => (k : Int)
  | none => 0
end
section
variable {dd : List Int} {m : Nat} {r : Int}
theorem nxt_in (g : GoodD dd m) {x : Int} (h : 0 ≤ x ∧ x < (m : Int)) : 0 ≤ nxt dd x ∧ nxt dd x < (m : Int) := g.inr _ (getD_mem (by have := g.len; omega))
theorem itr_in (g : GoodD dd m) (h : 0 ≤ r ∧ r < (m : Int)) : ∀ k, 0 ≤ itr dd k r ∧ itr dd k r < (m : Int)
  | 0 => h
  | k + 1 => nxt_in g (itr_in g h k)
theorem itr_add (j : Nat) : ∀ k, itr dd (k + j) r = itr dd k (itr dd j r)
  | 0 => by rw [Nat.zero_add]; rfl
  | k + 1 => by
    rw [show k + 1 + j = (k + j) + 1 by omega]
    show nxt dd (itr dd (k + j) r) = nxt dd (itr dd k (itr dd j r))
    rw [itr_add j k]
theorem ix_nxt (g : GoodD dd m) {x : Int} (h : 0 ≤ x ∧ x < (m : Int)) : dIx (d dd) (.int x) = some (.int (nxt dd x)) := dIx_d dd x 0 h.1 (by rw [g.len]; exact h.2)
/-- who comes back, comes back within so many steps -/
theorem back_soon (g : GoodD dd m) (h : 0 ≤ r ∧ r < (m : Int)) (hb : itr dd (m + 1) r = r) (hn : ∀ k, 1 ≤ k → k ≤ m → itr dd k r ≠ r) : False := by
  have nd : ((List.range (m + 1)).map fun k => (itr dd k r).toNat).Nodup := by
    rw [List.Nodup, List.pairwise_map]
    refine List.Pairwise.imp_of_mem (fun {i j} hi hj hij => ?_) (List.nodup_range (n := m + 1))
    have hi := List.mem_range.mp hi
    have hj := List.mem_range.mp hj
    have key : ∀ i j, i < j → j ≤ m → itr dd i r ≠ itr dd j r := fun i j hlt hj e => by
      have e1 : itr dd (m + 1 - j + i) r = r := by
        rw [itr_add, e, ← itr_add, show m + 1 - j + j = m + 1 by omega, hb]
      exact hn (m + 1 - j + i) (by omega) (by omega) e1
    intro e
    have a := itr_in g h i
    have b := itr_in g h j
    have e' : itr dd i r = itr dd j r := by omega
    rcases Nat.lt_or_gt_of_ne hij with q | q
    · exact key i j q (by omega) e'
    · exact key j i q (by omega) e'.symm
  have := nodup_lt m _ nd fun x hx => by
    obtain ⟨k, _, rfl⟩ := List.mem_map.mp hx
    have := itr_in g h k
    omega
  rw [List.length_map, List.length_range] at this
  omega
theorem times_some {k : Nat} (h1 : 1 ≤ k) (h2 : k ≤ dd.length) (hk : itr dd k r = r) (hn : ∀ j, 1 ≤ j → j < k → itr dd j r ≠ r) : Times dd r = (k : Int) := by
  have e : (rg 1 dd.length).find? (fun k => decide (itr dd k r = r)) = some k := by
    rw [List.find?_eq_some_iff_append]
    refine ⟨by simp [hk], rg 1 (k - 1), rg (k + 1) (dd.length - k), ?_, fun a ha => ?_⟩
    · unfold rg
      rw [show dd.length = (k - 1) + (1 + (dd.length - k)) by omega, List.range_add, List.map_append, List.range_add, List.map_append, List.map_append, show k - 1 + (1 + (dd.length - k)) - k = dd.length - k by omega]
      congr 1
      simp only [List.map_map]
      rw [show List.range 1 = [0] from rfl]
      simp only [List.map_cons, List.map_nil, List.cons_append, List.nil_append, Function.comp_def]
      congr 1
      · omega
      · apply List.map_congr_left
        intro a _
        omega
    · have ha := mem_rg.mp ha
      have := hn a ha.1 (by omega)
      simpa using this
  unfold Times
  rw [e]
theorem times_none (hn : ∀ j, 1 ≤ j → j ≤ dd.length → itr dd j r ≠ r) : Times dd r = 0 := by
  have e : (rg 1 dd.length).find? (fun k => decide (itr dd k r = r)) = none := by
    rw [List.find?_eq_none]
    intro a ha
    have ha := mem_rg.mp ha
    have := hn a ha.1 (by omega)
    simpa using this
  unfold Times
  rw [e]
def taB : Sl → RS := (mSeq (mAsg (ofP (two dIx (vP 0) (vP 2))) (mgName 2))
  (mIf (ofPT (twoB dEq (vP 2) (vP 1)))
  (mRet (mMv 3))
  mNext))
theorem ta_eq : K.mb_times_around = mSeq (mAsg (mRd 1) (mgName 2)) (mSeq (mFor (mRange (mCons (ofP (cP (.int 1))) (mCons (ofP (two dPl (caP dLen (consP (vP 0) nilP)) (cP (.int 1)))) nilA))) (mgName 3) taB) (mRet (ofP (cP (.int 0))))) := rfl
theorem around_ok (g : GoodD dd m) (h : 0 ≤ r ∧ r < (m : Int)) : K.mf_times_around [d dd, .int r] = .ok (.int (Times dd r)) [] := by
  have gle := g.le
  have gl := g.len
  have t1 : mAsg (mRd 1) (mgName 2) [some (d dd), some (.int r), none, none] = .nx [some (d dd), some (.int r), some (.int r), none] := by simp only [mSeq, mAsg, mgName, mgTup, mgCons, mgNil, mExpr, mRet, mRetN, mIf, mNext, mBrk, mCont, mRaise, mRaiseP, ofP, ofPT, two, twoB, one, chT, trT, caP, consP, nilP, vP, cP, tupP, lstP, mkT0, mkT1, mkT2, mkT3, mkT4, mkL0, mkL1, mkL2, mkL3, mkL4, mkL5, mkL6, mCons, nilA, mApp, m2, mNew2, mRd, mMv, mTest, mAndT, mOrT, mNotT, mAndV, mOrV, mNotV, mIfV, andV, orV, notV, mCall, mArgs, takeIo, putIo, R.bind, List.set_cons_succ, List.set_cons_zero, List.getElem?_cons_succ, List.getElem?_cons_zero, Option.join_some, Option.bind_some, Option.map_some, Option.bind, only, asB, truB_bl, truB_int, if_true, yesT, noO, partO, asI, onI, frz_int, frz_str, frz_bl, frz_non, frz_enc, imm_int, imm_bl, imm_str, imm_non, Enc.im, outsOf, imm_tup, imms_nil, imms_cons, dEq_ii, dNe_ii, dPl_int, dPlF_int, dLen_lst, dLen_tup, dLen_fls, dLen_d, putIo, List.length_map, onIc, dLe, dLt, dGt, dGe, dSub, decide_true, decide_false, Bool.not_true, Bool.not_false, Bool.false_eq_true, if_false, Bool.and_self, Bool.and_false, Bool.and_true, Bool.false_and, Bool.true_and]
  have t2 : (∃ s, mFor (mRange (mCons (ofP (cP (.int 1))) (mCons (ofP (two dPl (caP dLen (consP (vP 0) nilP)) (cP (.int 1)))) nilA))) (mgName 3) taB [some (d dd), some (.int r), some (.int r), none] = .ret (.int (Times dd r)) s) ∨ (Times dd r = 0 ∧ ∃ s, mFor (mRange (mCons (ofP (cP (.int 1))) (mCons (ofP (two dPl (caP dLen (consP (vP 0) nilP)) (cP (.int 1)))) nilA))) (mgName 3) taB [some (d dd), some (.int r), some (.int r), none] = .nx s) := by
    have er := mRange_two (a := ofP (cP (.int 1))) (b := ofP (two dPl (caP dLen (consP (vP 0) nilP)) (cP (.int 1)))) (s := [some (d dd), some (.int r), some (.int r), none]) (s1 := [some (d dd), some (.int r), some (.int r), none]) (s2 := [some (d dd), some (.int r), some (.int r), none]) (i := 1) (j := (m : Int) + 1) rfl (by
      have el : dLen [d dd] = some (.int (m : Int)) := by rw [dLen_d, gl]
      simp only [mSeq, mAsg, mgName, mgTup, mgCons, mgNil, mExpr, mRet, mRetN, mIf, mNext, mBrk, mCont, mRaise, mRaiseP, ofP, ofPT, two, twoB, one, chT, trT, caP, consP, nilP, vP, cP, tupP, lstP, mkT0, mkT1, mkT2, mkT3, mkT4, mkL0, mkL1, mkL2, mkL3, mkL4, mkL5, mkL6, mCons, nilA, mApp, m2, mNew2, mRd, mMv, mTest, mAndT, mOrT, mNotT, mAndV, mOrV, mNotV, mIfV, andV, orV, notV, mCall, mArgs, takeIo, putIo, R.bind, List.set_cons_succ, List.set_cons_zero, List.getElem?_cons_succ, List.getElem?_cons_zero, Option.join_some, Option.bind_some, Option.map_some, Option.bind, only, asB, truB_bl, truB_int, if_true, yesT, noO, partO, asI, onI, frz_int, frz_str, frz_bl, frz_non, frz_enc, imm_int, imm_bl, imm_str, imm_non, Enc.im, outsOf, imm_tup, imms_nil, imms_cons, dEq_ii, dNe_ii, dPl_int, dPlF_int, dLen_lst, dLen_tup, dLen_fls, dLen_d, putIo, List.length_map, onIc, dLe, dLt, dGt, dGe, dSub, decide_true, decide_false, Bool.not_true, Bool.not_false, Bool.false_eq_true, if_false, Bool.and_self, Bool.and_false, Bool.and_true, Bool.false_and, Bool.true_and, el]) (by decide) (by omega)
    rw [show ((m : Int) + 1 - ((1 : Nat) : Int)).toNat = m by omega] at er
    unfold mFor
    rw [er]
    dsimp only
    refine loop_list (P := fun q => (∃ s, q = .ret (.int (Times dd r)) s) ∨ (Times dd r = 0 ∧ ∃ s, q = .nx s)) (fun i s => (∀ j, 1 ≤ j → j ≤ i → itr dd j r ≠ r) ∧ ∃ o, s = [some (d dd), some (.int r), some (.int (itr dd i r)), o]) ?_ ?_ ⟨fun j a b => by omega, none, rfl⟩
    · rintro i x s hd ⟨hn, o, rfl⟩
      rw [List.getElem?_map] at hd
      obtain ⟨k, hk, rfl⟩ := Option.map_eq_some_iff.mp hd
      have hi := (List.getElem?_eq_some_iff.mp hk).1
      rw [rg_len] at hi
      have ek : k = i + 1 := by
        unfold rg at hk
        rw [List.getElem?_map, List.getElem?_range hi] at hk
        have h2 : 1 + i = k := Option.some.inj hk
        omega
      subst ek
      refine ⟨_, rfl, ?_⟩
      have e1 := ix_nxt g (itr_in g h i)
      have e2 : nxt dd (itr dd i r) = itr dd (i + 1) r := rfl
      rw [e2] at e1
      have z1 : mAsg (ofP (two dIx (vP 0) (vP 2))) (mgName 2) [some (d dd), some (.int r), some (.int (itr dd i r)), some (nD (i + 1))] = .nx [some (d dd), some (.int r), some (.int (itr dd (i + 1) r)), some (nD (i + 1))] := by simp only [mSeq, mAsg, mgName, mgTup, mgCons, mgNil, mExpr, mRet, mRetN, mIf, mNext, mBrk, mCont, mRaise, mRaiseP, ofP, ofPT, two, twoB, one, chT, trT, caP, consP, nilP, vP, cP, tupP, lstP, mkT0, mkT1, mkT2, mkT3, mkT4, mkL0, mkL1, mkL2, mkL3, mkL4, mkL5, mkL6, mCons, nilA, mApp, m2, mNew2, mRd, mMv, mTest, mAndT, mOrT, mNotT, mAndV, mOrV, mNotV, mIfV, andV, orV, notV, mCall, mArgs, takeIo, putIo, R.bind, List.set_cons_succ, List.set_cons_zero, List.getElem?_cons_succ, List.getElem?_cons_zero, Option.join_some, Option.bind_some, Option.map_some, Option.bind, only, asB, truB_bl, truB_int, if_true, yesT, noO, partO, asI, onI, frz_int, frz_str, frz_bl, frz_non, frz_enc, imm_int, imm_bl, imm_str, imm_non, Enc.im, outsOf, imm_tup, imms_nil, imms_cons, dEq_ii, dNe_ii, dPl_int, dPlF_int, dLen_lst, dLen_tup, dLen_fls, dLen_d, putIo, List.length_map, onIc, dLe, dLt, dGt, dGe, dSub, decide_true, decide_false, Bool.not_true, Bool.not_false, Bool.false_eq_true, if_false, Bool.and_self, Bool.and_false, Bool.and_true, Bool.false_and, Bool.true_and, e1]
      have ee := dEq_ii (itr dd (i + 1) r) r
      unfold taB
      simp only [List.set_cons_succ, List.set_cons_zero]
      rw [seq_nx z1]
      by_cases hq : itr dd (i + 1) r = r
      · have ht := times_some (dd := dd) (r := r) (k := i + 1) (by omega) (by omega) hq fun j a b => hn j a (by omega)
        have z2 : mIf (ofPT (twoB dEq (vP 2) (vP 1))) (mRet (mMv 3)) mNext [some (d dd), some (.int r), some (.int (itr dd (i + 1) r)), some (nD (i + 1))] = .ret (nD (i + 1)) [some (d dd), some (.int r), some (.int (itr dd (i + 1) r)), none] := by
          rw [decide_eq_true hq] at ee
          simp only [mSeq, mAsg, mgName, mgTup, mgCons, mgNil, mExpr, mRet, mRetN, mIf, mNext, mBrk, mCont, mRaise, mRaiseP, ofP, ofPT, two, twoB, one, chT, trT, caP, consP, nilP, vP, cP, tupP, lstP, mkT0, mkT1, mkT2, mkT3, mkT4, mkL0, mkL1, mkL2, mkL3, mkL4, mkL5, mkL6, mCons, nilA, mApp, m2, mNew2, mRd, mMv, mTest, mAndT, mOrT, mNotT, mAndV, mOrV, mNotV, mIfV, andV, orV, notV, mCall, mArgs, takeIo, putIo, R.bind, List.set_cons_succ, List.set_cons_zero, List.getElem?_cons_succ, List.getElem?_cons_zero, Option.join_some, Option.bind_some, Option.map_some, Option.bind, only, asB, truB_bl, truB_int, if_true, yesT, noO, partO, asI, onI, frz_int, frz_str, frz_bl, frz_non, frz_enc, imm_int, imm_bl, imm_str, imm_non, Enc.im, outsOf, ee]
        rw [z2]
        exact .inl ⟨_, by rw [ht]⟩
      · have z2 : mIf (ofPT (twoB dEq (vP 2) (vP 1))) (mRet (mMv 3)) mNext [some (d dd), some (.int r), some (.int (itr dd (i + 1) r)), some (nD (i + 1))] = .nx [some (d dd), some (.int r), some (.int (itr dd (i + 1) r)), some (nD (i + 1))] := by
          rw [decide_eq_false hq] at ee
          simp only [mSeq, mAsg, mgName, mgTup, mgCons, mgNil, mExpr, mRet, mRetN, mIf, mNext, mBrk, mCont, mRaise, mRaiseP, ofP, ofPT, two, twoB, one, chT, trT, caP, consP, nilP, vP, cP, tupP, lstP, mkT0, mkT1, mkT2, mkT3, mkT4, mkL0, mkL1, mkL2, mkL3, mkL4, mkL5, mkL6, mCons, nilA, mApp, m2, mNew2, mRd, mMv, mTest, mAndT, mOrT, mNotT, mAndV, mOrV, mNotV, mIfV, andV, orV, notV, mCall, mArgs, takeIo, putIo, R.bind, List.set_cons_succ, List.set_cons_zero, List.getElem?_cons_succ, List.getElem?_cons_zero, Option.join_some, Option.bind_some, Option.map_some, Option.bind, only, asB, truB_bl, truB_int, if_true, yesT, noO, partO, asI, onI, frz_int, frz_str, frz_bl, frz_non, frz_enc, imm_int, imm_bl, imm_str, imm_non, Enc.im, outsOf, ee, Bool.false_eq_true, if_false]
        rw [z2]
        refine ⟨fun j a b => ?_, _, rfl⟩
        by_cases hj : j = i + 1
        · subst hj; exact hq
        · exact hn j a (by omega)
    · rintro s ⟨hn, o, rfl⟩
      rw [List.length_map, rg_len] at hn
      exact .inr ⟨times_none fun j a b => hn j a (by omega), _, rfl⟩
  unfold K.mf_times_around mDef
  rw [ta_eq, if_pos (by rfl)]
  simp only [List.map_cons, List.map_nil, List.replicate, List.cons_append, List.nil_append]
  rw [seq_nx t1, mSeq]
  rcases t2 with ⟨s, e⟩ | ⟨ht, s, e⟩
  · rw [e]; rfl
  · rw [e, ht]; rfl
def ltB : Sl → RS := (mSeq (mAsg (ofP (two dIx (vP 0) (vP 2))) (mgName 2)) (mAsg (ofP (two dPl (vP 3) (cP (.int 1)))) (mgName 3)))
def ltC : Sl → R Bool := (mAndT (ofPT (twoB dNe (vP 2) (vP 1))) (ofPT (twoB dLe (vP 3) (caP dLen (consP (vP 0) nilP)))))
theorem lt_eq : K.mb__law_times = mSeq (mAsg (ofP (two dIx (vP 0) (vP 1))) (mgName 2)) (mSeq (mAsg (ofP (cP (.int 1))) (mgName 3)) (mSeq (mWhl ltC ltB) (mRet (ofP (two dMul (vP 3) (caP dInt (consP (two dEq (vP 2) (vP 1)) nilP))))))) := rfl
theorem law_times_ok (g : GoodD dd m) (h : 0 ≤ r ∧ r < (m : Int)) : K.mf__law_times [d dd, .int r] = .ok (.int (Times dd r)) [] := by
  have gle := g.le
  have gl := g.len
  have el : dLen [d dd] = some (.int (m : Int)) := by rw [dLen_d, gl]
  have e0 : dIx (d dd) (.int r) = some (.int (itr dd 1 r)) := ix_nxt g h
  have t1 : mAsg (ofP (two dIx (vP 0) (vP 1))) (mgName 2) [some (d dd), some (.int r), none, none] = .nx [some (d dd), some (.int r), some (.int (itr dd 1 r)), none] := by simp only [mSeq, mAsg, mgName, mgTup, mgCons, mgNil, mExpr, mRet, mRetN, mIf, mNext, mBrk, mCont, mRaise, mRaiseP, ofP, ofPT, two, twoB, one, chT, trT, caP, consP, nilP, vP, cP, tupP, lstP, mkT0, mkT1, mkT2, mkT3, mkT4, mkL0, mkL1, mkL2, mkL3, mkL4, mkL5, mkL6, mCons, nilA, mApp, m2, mNew2, mRd, mMv, mTest, mAndT, mOrT, mNotT, mAndV, mOrV, mNotV, mIfV, andV, orV, notV, mCall, mArgs, takeIo, putIo, R.bind, List.set_cons_succ, List.set_cons_zero, List.getElem?_cons_succ, List.getElem?_cons_zero, Option.join_some, Option.bind_some, Option.map_some, Option.bind, only, asB, truB_bl, truB_int, if_true, yesT, noO, partO, asI, onI, frz_int, frz_str, frz_bl, frz_non, frz_enc, imm_int, imm_bl, imm_str, imm_non, Enc.im, outsOf, imm_tup, imms_nil, imms_cons, dEq_ii, dNe_ii, dPl_int, dPlF_int, dLen_lst, dLen_tup, dLen_fls, dLen_d, putIo, List.length_map, onIc, dLe, dLt, dGt, dGe, dSub, decide_true, decide_false, Bool.not_true, Bool.not_false, Bool.false_eq_true, if_false, Bool.and_self, Bool.and_false, Bool.and_true, Bool.false_and, Bool.true_and, e0]
  have t2 : mAsg (ofP (cP (.int 1))) (mgName 3) [some (d dd), some (.int r), some (.int (itr dd 1 r)), none] = .nx [some (d dd), some (.int r), some (.int (itr dd 1 r)), some (.int ((1 : Nat) : Int))] := by simp only [mSeq, mAsg, mgName, mgTup, mgCons, mgNil, mExpr, mRet, mRetN, mIf, mNext, mBrk, mCont, mRaise, mRaiseP, ofP, ofPT, two, twoB, one, chT, trT, caP, consP, nilP, vP, cP, tupP, lstP, mkT0, mkT1, mkT2, mkT3, mkT4, mkL0, mkL1, mkL2, mkL3, mkL4, mkL5, mkL6, mCons, nilA, mApp, m2, mNew2, mRd, mMv, mTest, mAndT, mOrT, mNotT, mAndV, mOrV, mNotV, mIfV, andV, orV, notV, mCall, mArgs, takeIo, putIo, R.bind, List.set_cons_succ, List.set_cons_zero, List.getElem?_cons_succ, List.getElem?_cons_zero, Option.join_some, Option.bind_some, Option.map_some, Option.bind, only, asB, truB_bl, truB_int, if_true, yesT, noO, partO, asI, onI, frz_int, frz_str, frz_bl, frz_non, frz_enc, imm_int, imm_bl, imm_str, imm_non, Enc.im, outsOf, imm_tup, imms_nil, imms_cons, dEq_ii, dNe_ii, dPl_int, dPlF_int, dLen_lst, dLen_tup, dLen_fls, dLen_d, putIo, List.length_map, onIc, dLe, dLt, dGt, dGe, dSub, decide_true, decide_false, Bool.not_true, Bool.not_false, Bool.false_eq_true, if_false, Bool.and_self, Bool.and_false, Bool.and_true, Bool.false_and, Bool.true_and]; rfl
  obtain ⟨s', e3, k, k1, k2, hn, hend, rfl⟩ := whl_rule (c := ltC) (body := ltB) (Post := fun s => ∃ k : Nat, 1 ≤ k ∧ k ≤ m + 1 ∧ (∀ j, 1 ≤ j → j < k → itr dd j r ≠ r) ∧ (itr dd k r = r ∨ k = m + 1) ∧ s = [some (d dd), some (.int r), some (.int (itr dd k r)), some (.int (k : Int))]) (fun n s => ∃ k : Nat, 1 ≤ k ∧ k ≤ m + 1 ∧ n = m + 1 - k ∧ (∀ j, 1 ≤ j → j < k → itr dd j r ≠ r) ∧ s = [some (d dd), some (.int r), some (.int (itr dd k r)), some (.int (k : Int))]) (by
    rintro n s ⟨k, k1, k2, rfl, hn, rfl⟩
    have en := dNe_ii (itr dd k r) r
    by_cases hq : itr dd k r = r
    · refine ⟨false, _, ?_, fun e => (by cases e), fun _ => ⟨k, k1, k2, hn, .inl hq, rfl⟩⟩
      rw [decide_eq_true hq] at en
      unfold ltC
      simp only [mSeq, mAsg, mgName, mgTup, mgCons, mgNil, mExpr, mRet, mRetN, mIf, mNext, mBrk, mCont, mRaise, mRaiseP, ofP, ofPT, two, twoB, one, chT, trT, caP, consP, nilP, vP, cP, tupP, lstP, mkT0, mkT1, mkT2, mkT3, mkT4, mkL0, mkL1, mkL2, mkL3, mkL4, mkL5, mkL6, mCons, nilA, mApp, m2, mNew2, mRd, mMv, mTest, mAndT, mOrT, mNotT, mAndV, mOrV, mNotV, mIfV, andV, orV, notV, mCall, mArgs, takeIo, putIo, R.bind, List.set_cons_succ, List.set_cons_zero, List.getElem?_cons_succ, List.getElem?_cons_zero, Option.join_some, Option.bind_some, Option.map_some, Option.bind, only, asB, truB_bl, truB_int, if_true, yesT, noO, partO, asI, onI, frz_int, frz_str, frz_bl, frz_non, frz_enc, imm_int, imm_bl, imm_str, imm_non, Enc.im, outsOf, en, Bool.not_true, Bool.false_eq_true, if_false]
    · rw [decide_eq_false hq] at en
      by_cases hk : (k : Int) ≤ (m : Int)
      · refine ⟨true, [some (d dd), some (.int r), some (.int (itr dd k r)), some (.int (k : Int))], ?_, fun _ => ⟨[some (d dd), some (.int r), some (.int (itr dd (k + 1) r)), some (.int ((k + 1 : Nat) : Int))], m + 1 - (k + 1), ?_, by omega, k + 1, by omega, by omega, rfl, fun j a b => ?_, rfl⟩, fun e => by cases e⟩
        · have ele : dLe (.int (k : Int)) (.int (m : Int)) = some (.bl true) := by
            show some (D.bl (decide ((k : Int) ≤ (m : Int)))) = _
            rw [decide_eq_true hk]
          unfold ltC
          simp only [mSeq, mAsg, mgName, mgTup, mgCons, mgNil, mExpr, mRet, mRetN, mIf, mNext, mBrk, mCont, mRaise, mRaiseP, ofP, ofPT, two, twoB, one, chT, trT, caP, consP, nilP, vP, cP, tupP, lstP, mkT0, mkT1, mkT2, mkT3, mkT4, mkL0, mkL1, mkL2, mkL3, mkL4, mkL5, mkL6, mCons, nilA, mApp, m2, mNew2, mRd, mMv, mTest, mAndT, mOrT, mNotT, mAndV, mOrV, mNotV, mIfV, andV, orV, notV, mCall, mArgs, takeIo, putIo, R.bind, List.set_cons_succ, List.set_cons_zero, List.getElem?_cons_succ, List.getElem?_cons_zero, Option.join_some, Option.bind_some, Option.map_some, Option.bind, only, asB, truB_bl, truB_int, if_true, yesT, noO, partO, asI, onI, frz_int, frz_str, frz_bl, frz_non, frz_enc, imm_int, imm_bl, imm_str, imm_non, Enc.im, outsOf, en, Bool.not_false, el, ele]
        · have e1 : dIx (d dd) (.int (itr dd k r)) = some (.int (itr dd (k + 1) r)) := ix_nxt g (itr_in g h k)
          have e2 : ((k + 1 : Nat) : Int) = (k : Int) + 1 := by omega
          unfold ltB
          rw [e2]
          simp only [mSeq, mAsg, mgName, mgTup, mgCons, mgNil, mExpr, mRet, mRetN, mIf, mNext, mBrk, mCont, mRaise, mRaiseP, ofP, ofPT, two, twoB, one, chT, trT, caP, consP, nilP, vP, cP, tupP, lstP, mkT0, mkT1, mkT2, mkT3, mkT4, mkL0, mkL1, mkL2, mkL3, mkL4, mkL5, mkL6, mCons, nilA, mApp, m2, mNew2, mRd, mMv, mTest, mAndT, mOrT, mNotT, mAndV, mOrV, mNotV, mIfV, andV, orV, notV, mCall, mArgs, takeIo, putIo, R.bind, List.set_cons_succ, List.set_cons_zero, List.getElem?_cons_succ, List.getElem?_cons_zero, Option.join_some, Option.bind_some, Option.map_some, Option.bind, only, asB, truB_bl, truB_int, if_true, yesT, noO, partO, asI, onI, frz_int, frz_str, frz_bl, frz_non, frz_enc, imm_int, imm_bl, imm_str, imm_non, Enc.im, outsOf, imm_tup, imms_nil, imms_cons, dEq_ii, dNe_ii, dPl_int, dPlF_int, dLen_lst, dLen_tup, dLen_fls, dLen_d, putIo, List.length_map, onIc, dLe, dLt, dGt, dGe, dSub, decide_true, decide_false, Bool.not_true, Bool.not_false, Bool.false_eq_true, if_false, Bool.and_self, Bool.and_false, Bool.and_true, Bool.false_and, Bool.true_and, e1]
        · by_cases hj : j = k
          · subst hj; exact hq
          · exact hn j a (by omega)
      · refine ⟨false, [some (d dd), some (.int r), some (.int (itr dd k r)), some (.int (k : Int))], ?_, fun e => (by cases e), fun _ => ⟨k, k1, k2, hn, .inr (by omega), rfl⟩⟩
        have ele : dLe (.int (k : Int)) (.int (m : Int)) = some (.bl false) := by
          show some (D.bl (decide ((k : Int) ≤ (m : Int)))) = _
          rw [decide_eq_false hk]
        unfold ltC
        simp only [mSeq, mAsg, mgName, mgTup, mgCons, mgNil, mExpr, mRet, mRetN, mIf, mNext, mBrk, mCont, mRaise, mRaiseP, ofP, ofPT, two, twoB, one, chT, trT, caP, consP, nilP, vP, cP, tupP, lstP, mkT0, mkT1, mkT2, mkT3, mkT4, mkL0, mkL1, mkL2, mkL3, mkL4, mkL5, mkL6, mCons, nilA, mApp, m2, mNew2, mRd, mMv, mTest, mAndT, mOrT, mNotT, mAndV, mOrV, mNotV, mIfV, andV, orV, notV, mCall, mArgs, takeIo, putIo, R.bind, List.set_cons_succ, List.set_cons_zero, List.getElem?_cons_succ, List.getElem?_cons_zero, Option.join_some, Option.bind_some, Option.map_some, Option.bind, only, asB, truB_bl, truB_int, if_true, yesT, noO, partO, asI, onI, frz_int, frz_str, frz_bl, frz_non, frz_enc, imm_int, imm_bl, imm_str, imm_non, Enc.im, outsOf, en, Bool.not_false, el, ele]) _ _ ⟨1, Nat.le_refl _, by omega, rfl, fun j a b => by omega, rfl⟩
  have ee := dEq_ii (itr dd k r) r
  have fin : (k : Int) * (if itr dd k r = r then 1 else 0) = Times dd r := by
    by_cases hq : itr dd k r = r
    · rw [if_pos hq, Int.mul_one]
      by_cases hk : k ≤ m
      · exact (times_some k1 (by omega) hq hn).symm
      · have hk1 : k = m + 1 := by omega
        subst hk1
        exact (back_soon g h hq fun j a b => hn j a (by omega)).elim
    · rw [if_neg hq, Int.mul_zero]
      have hk1 : k = m + 1 := hend.resolve_left hq
      exact (times_none fun j a b => hn j a (by omega)).symm
  have t4 : mRet (ofP (two dMul (vP 3) (caP dInt (consP (two dEq (vP 2) (vP 1)) nilP)))) [some (d dd), some (.int r), some (.int (itr dd k r)), some (.int (k : Int))] = .ret (.int (Times dd r)) [some (d dd), some (.int r), some (.int (itr dd k r)), some (.int (k : Int))] := by
    rw [← fin]
    by_cases hq : itr dd k r = r
    · rw [decide_eq_true hq] at ee
      have e1 : dInt [.bl true] = some (.int 1) := rfl
      have cm : cMul (k : Int) 1 := by
        have := log2_small (n := (k : Int).natAbs) (k := 20) (by omega) (by decide)
        have e1 : (1 : Int).natAbs.log2 = 0 := by decide
        unfold cMul
        omega
      rw [if_pos hq]
      simp only [mSeq, mAsg, mgName, mgTup, mgCons, mgNil, mExpr, mRet, mRetN, mIf, mNext, mBrk, mCont, mRaise, mRaiseP, ofP, ofPT, two, twoB, one, chT, trT, caP, consP, nilP, vP, cP, tupP, lstP, mkT0, mkT1, mkT2, mkT3, mkT4, mkL0, mkL1, mkL2, mkL3, mkL4, mkL5, mkL6, mCons, nilA, mApp, m2, mNew2, mRd, mMv, mTest, mAndT, mOrT, mNotT, mAndV, mOrV, mNotV, mIfV, andV, orV, notV, mCall, mArgs, takeIo, putIo, R.bind, List.set_cons_succ, List.set_cons_zero, List.getElem?_cons_succ, List.getElem?_cons_zero, Option.join_some, Option.bind_some, Option.map_some, Option.bind, only, asB, truB_bl, truB_int, if_true, yesT, noO, partO, asI, onI, frz_int, frz_str, frz_bl, frz_non, frz_enc, imm_int, imm_bl, imm_str, imm_non, Enc.im, outsOf, ee, e1, dMul, onIc, cm]
    · rw [decide_eq_false hq] at ee
      have e1 : dInt [.bl false] = some (.int 0) := rfl
      have cm : cMul (k : Int) 0 := by
        have := log2_small (n := (k : Int).natAbs) (k := 20) (by omega) (by decide)
        have e1 : (0 : Int).natAbs.log2 = 0 := by decide
        unfold cMul
        omega
      rw [if_neg hq]
      simp only [mSeq, mAsg, mgName, mgTup, mgCons, mgNil, mExpr, mRet, mRetN, mIf, mNext, mBrk, mCont, mRaise, mRaiseP, ofP, ofPT, two, twoB, one, chT, trT, caP, consP, nilP, vP, cP, tupP, lstP, mkT0, mkT1, mkT2, mkT3, mkT4, mkL0, mkL1, mkL2, mkL3, mkL4, mkL5, mkL6, mCons, nilA, mApp, m2, mNew2, mRd, mMv, mTest, mAndT, mOrT, mNotT, mAndV, mOrV, mNotV, mIfV, andV, orV, notV, mCall, mArgs, takeIo, putIo, R.bind, List.set_cons_succ, List.set_cons_zero, List.getElem?_cons_succ, List.getElem?_cons_zero, Option.join_some, Option.bind_some, Option.map_some, Option.bind, only, asB, truB_bl, truB_int, if_true, yesT, noO, partO, asI, onI, frz_int, frz_str, frz_bl, frz_non, frz_enc, imm_int, imm_bl, imm_str, imm_non, Enc.im, outsOf, ee, e1, dMul, onIc, cm]
  unfold K.mf__law_times mDef
  rw [lt_eq, if_pos (by rfl)]
  simp only [List.map_cons, List.map_nil, List.replicate, List.cons_append, List.nil_append]
  rw [seq_nx t1, seq_nx t2, seq_nx e3, t4]
  rfl
end
end Sim

namespace Sim
open PySem PySem.Spec PyProof.Rows L2
open Enc
section
variable {M : Mach} {m : Nat} {r t : Int} {row : List Lt}
theorem good_dl (g : GoodM M m) (hl : ∀ l ∈ row, l ∈ M.a) : GoodD (dl M m row) m := ⟨dl_len row, dl_in g hl, by have := g.le; omega⟩
/-- what is refused -/
def Ref (M : Mach) (m : Nat) (r : Int) (row : List Lt) : Prop := ¬ (0 ≤ r ∧ r < (m : Int)) ∨ row = [] ∨ ¬ ∀ l ∈ row, l ∈ M.a
instance : Decidable (Ref M m r row) := by unfold Ref; infer_instance
def Rnd (M : Mach) (m : Nat) (r : Int) (row : List Lt) (t : Int) : Prop := 2 ≤ t ∧ Times (dl M m row) r = t
instance : Decidable (Rnd M m r row t) := by unfold Rnd; infer_instance
def jr1 : Sl → RS := (mIf (mNotT (ofPT (chT (chain2 dLe dLt (cP (.int 0)) (vP 1) (caP dLen (consP (two dIx (vP 0) (cP (.int 1))) nilP))))))
  (mRaise "NotAllowed")
  mNext)
def jr2 : Sl → RS := (mIf (mNotT (ofPT (trT (vP 2))))
  (mRaise "NotAllowed")
  mNext)
def jr3 : Sl → RS := (mAsg (mCall [] K.mf_deed_of [.ex (mRd 0), .ex (mRd 2)]) (mgName 4))
def jr4 : Sl → RS := (mIf (mOrT (ofPT (twoB dLt (vP 3) (cP (.int 2)))) (mTest (m2 (only dNe) (mCall [] K.mf_times_around [.ex (mRd 4), .ex (mRd 1)]) (mRd 3))))
  (mRaise "BadPaper")
  mNext)
theorem jr_eq : K.mb_judge_round = mSeq jr1 (mSeq jr2 (mSeq jr3 jr4)) := rfl
theorem in_chain (g : GoodM M m) {s : Sl} (h0 : s[0]?.join = some (d M)) (h1 : s[1]?.join = some (.int r)) : ofPT (chT (chain2 dLe dLt (cP (.int 0)) (vP 1) (caP dLen (consP (two dIx (vP 0) (cP (.int 1))) nilP)))) s = .ok (decide (0 ≤ r ∧ r < (m : Int))) s := by
  have el : dLen [d M.b] = some (.int (m : Int)) := by rw [dLen_d, g.len]
  by_cases a : (0 : Int) ≤ r
  · by_cases b : r < (m : Int)
    · have : decide (0 ≤ r ∧ r < (m : Int)) = true := decide_eq_true ⟨a, b⟩
      rw [this]
      simp only [mSeq, mAsg, mgName, mgTup, mgCons, mgNil, mExpr, mRet, mRetN, mIf, mNext, mBrk, mCont, mRaise, mRaiseP, ofP, ofPT, two, twoB, one, chT, trT, caP, consP, nilP, vP, cP, tupP, lstP, mkT0, mkT1, mkT2, mkT3, mkT4, mkL0, mkL1, mkL2, mkL3, mkL4, mkL5, mkL6, mCons, nilA, mApp, m2, mNew2, mRd, mMv, mTest, mAndT, mOrT, mNotT, mAndV, mOrV, mNotV, mIfV, andV, orV, notV, mCall, mArgs, takeIo, putIo, R.bind, List.set_cons_succ, List.set_cons_zero, List.getElem?_cons_succ, List.getElem?_cons_zero, Option.join_some, Option.bind_some, Option.map_some, Option.bind, only, asB, truB_bl, truB_int, if_true, yesT, noO, partO, asI, onI, frz_int, frz_str, frz_bl, frz_non, frz_enc, imm_int, imm_bl, imm_str, imm_non, Enc.im, outsOf, imm_tup, imms_nil, imms_cons, dEq_ii, dNe_ii, dPl_int, dPlF_int, dLen_lst, dLen_tup, dLen_fls, dLen_d, putIo, List.length_map, onIc, dLe, dLt, dGt, dGe, dSub, decide_true, decide_false, Bool.not_true, Bool.not_false, Bool.false_eq_true, if_false, Bool.and_self, Bool.and_false, Bool.and_true, Bool.false_and, Bool.true_and, h0, h1, chain2, m_ix1, el, a, b]
    · have : decide (0 ≤ r ∧ r < (m : Int)) = false := decide_eq_false fun h => b h.2
      rw [this]
      simp only [mSeq, mAsg, mgName, mgTup, mgCons, mgNil, mExpr, mRet, mRetN, mIf, mNext, mBrk, mCont, mRaise, mRaiseP, ofP, ofPT, two, twoB, one, chT, trT, caP, consP, nilP, vP, cP, tupP, lstP, mkT0, mkT1, mkT2, mkT3, mkT4, mkL0, mkL1, mkL2, mkL3, mkL4, mkL5, mkL6, mCons, nilA, mApp, m2, mNew2, mRd, mMv, mTest, mAndT, mOrT, mNotT, mAndV, mOrV, mNotV, mIfV, andV, orV, notV, mCall, mArgs, takeIo, putIo, R.bind, List.set_cons_succ, List.set_cons_zero, List.getElem?_cons_succ, List.getElem?_cons_zero, Option.join_some, Option.bind_some, Option.map_some, Option.bind, only, asB, truB_bl, truB_int, if_true, yesT, noO, partO, asI, onI, frz_int, frz_str, frz_bl, frz_non, frz_enc, imm_int, imm_bl, imm_str, imm_non, Enc.im, outsOf, imm_tup, imms_nil, imms_cons, dEq_ii, dNe_ii, dPl_int, dPlF_int, dLen_lst, dLen_tup, dLen_fls, dLen_d, putIo, List.length_map, onIc, dLe, dLt, dGt, dGe, dSub, decide_true, decide_false, Bool.not_true, Bool.not_false, Bool.false_eq_true, if_false, Bool.and_self, Bool.and_false, Bool.and_true, Bool.false_and, Bool.true_and, h0, h1, chain2, m_ix1, el, a, b]
  · have : decide (0 ≤ r ∧ r < (m : Int)) = false := decide_eq_false fun h => a h.1
    rw [this]
    simp only [mSeq, mAsg, mgName, mgTup, mgCons, mgNil, mExpr, mRet, mRetN, mIf, mNext, mBrk, mCont, mRaise, mRaiseP, ofP, ofPT, two, twoB, one, chT, trT, caP, consP, nilP, vP, cP, tupP, lstP, mkT0, mkT1, mkT2, mkT3, mkT4, mkL0, mkL1, mkL2, mkL3, mkL4, mkL5, mkL6, mCons, nilA, mApp, m2, mNew2, mRd, mMv, mTest, mAndT, mOrT, mNotT, mAndV, mOrV, mNotV, mIfV, andV, orV, notV, mCall, mArgs, takeIo, putIo, R.bind, List.set_cons_succ, List.set_cons_zero, List.getElem?_cons_succ, List.getElem?_cons_zero, Option.join_some, Option.bind_some, Option.map_some, Option.bind, only, asB, truB_bl, truB_int, if_true, yesT, noO, partO, asI, onI, frz_int, frz_str, frz_bl, frz_non, frz_enc, imm_int, imm_bl, imm_str, imm_non, Enc.im, outsOf, imm_tup, imms_nil, imms_cons, dEq_ii, dNe_ii, dPl_int, dPlF_int, dLen_lst, dLen_tup, dLen_fls, dLen_d, putIo, List.length_map, onIc, dLe, dLt, dGt, dGe, dSub, decide_true, decide_false, Bool.not_true, Bool.not_false, Bool.false_eq_true, if_false, Bool.and_self, Bool.and_false, Bool.and_true, Bool.false_and, Bool.true_and, h0, h1, chain2, m_ix1, el, a]
theorem judge_ok (g : GoodM M m) : K.mf_judge_round [d M, .int r, d row, .int t] = if Ref M m r row then .exc "NotAllowed" [] [] else if Rnd M m r row t then .ok .non [] else .exc "BadPaper" [] [] := by
  unfold K.mf_judge_round mDef
  rw [jr_eq, if_pos (by rfl)]
  simp only [List.map_cons, List.map_nil, List.replicate, List.cons_append, List.nil_append]
  have c1 := in_chain g (r := r) (s := [some (d M), some (.int r), some (d row), some (.int t), none]) rfl rfl
  by_cases h1 : 0 ≤ r ∧ r < (m : Int)
  · rw [decide_eq_true h1] at c1
    have z1 : jr1 [some (d M), some (.int r), some (d row), some (.int t), none] = .nx [some (d M), some (.int r), some (d row), some (.int t), none] := by
      unfold jr1
      simp only [mIf, mNotT, c1, R.bind, Bool.not_true, Bool.false_eq_true, if_false, mNext]
    rw [seq_nx z1]
    have tr : truB (d row) = some (decide (row ≠ [])) := truB_d row
    by_cases h2 : row = []
    · rw [if_pos (show Ref M m r row from .inr (.inl h2))]
      rw [decide_eq_false (by simp [h2])] at tr
      have z2 : jr2 [some (d M), some (.int r), some (d row), some (.int t), none] = .exc "NotAllowed" [] [some (d M), some (.int r), some (d row), some (.int t), none] := by
        unfold jr2
        simp only [mSeq, mAsg, mgName, mgTup, mgCons, mgNil, mExpr, mRet, mRetN, mIf, mNext, mBrk, mCont, mRaise, mRaiseP, ofP, ofPT, two, twoB, one, chT, trT, caP, consP, nilP, vP, cP, tupP, lstP, mkT0, mkT1, mkT2, mkT3, mkT4, mkL0, mkL1, mkL2, mkL3, mkL4, mkL5, mkL6, mCons, nilA, mApp, m2, mNew2, mRd, mMv, mTest, mAndT, mOrT, mNotT, mAndV, mOrV, mNotV, mIfV, andV, orV, notV, mCall, mArgs, takeIo, putIo, R.bind, List.set_cons_succ, List.set_cons_zero, List.getElem?_cons_succ, List.getElem?_cons_zero, Option.join_some, Option.bind_some, Option.map_some, Option.bind, only, asB, truB_bl, truB_int, if_true, yesT, noO, partO, asI, onI, frz_int, frz_str, frz_bl, frz_non, frz_enc, imm_int, imm_bl, imm_str, imm_non, Enc.im, outsOf, imm_tup, imms_nil, imms_cons, dEq_ii, dNe_ii, dPl_int, dPlF_int, dLen_lst, dLen_tup, dLen_fls, dLen_d, putIo, List.length_map, onIc, dLe, dLt, dGt, dGe, dSub, decide_true, decide_false, Bool.not_true, Bool.not_false, Bool.false_eq_true, if_false, Bool.and_self, Bool.and_false, Bool.and_true, Bool.false_and, Bool.true_and, tr]
      rw [mSeq, z2]
      rfl
    · rw [decide_eq_true h2] at tr
      have z2 : jr2 [some (d M), some (.int r), some (d row), some (.int t), none] = .nx [some (d M), some (.int r), some (d row), some (.int t), none] := by
        unfold jr2
        simp only [mSeq, mAsg, mgName, mgTup, mgCons, mgNil, mExpr, mRet, mRetN, mIf, mNext, mBrk, mCont, mRaise, mRaiseP, ofP, ofPT, two, twoB, one, chT, trT, caP, consP, nilP, vP, cP, tupP, lstP, mkT0, mkT1, mkT2, mkT3, mkT4, mkL0, mkL1, mkL2, mkL3, mkL4, mkL5, mkL6, mCons, nilA, mApp, m2, mNew2, mRd, mMv, mTest, mAndT, mOrT, mNotT, mAndV, mOrV, mNotV, mIfV, andV, orV, notV, mCall, mArgs, takeIo, putIo, R.bind, List.set_cons_succ, List.set_cons_zero, List.getElem?_cons_succ, List.getElem?_cons_zero, Option.join_some, Option.bind_some, Option.map_some, Option.bind, only, asB, truB_bl, truB_int, if_true, yesT, noO, partO, asI, onI, frz_int, frz_str, frz_bl, frz_non, frz_enc, imm_int, imm_bl, imm_str, imm_non, Enc.im, outsOf, imm_tup, imms_nil, imms_cons, dEq_ii, dNe_ii, dPl_int, dPlF_int, dLen_lst, dLen_tup, dLen_fls, dLen_d, putIo, List.length_map, onIc, dLe, dLt, dGt, dGe, dSub, decide_true, decide_false, Bool.not_true, Bool.not_false, Bool.false_eq_true, if_false, Bool.and_self, Bool.and_false, Bool.and_true, Bool.false_and, Bool.true_and, tr]
      rw [seq_nx z2]
      have e := deed_of_ok g row
      by_cases h3 : ∀ l ∈ row, l ∈ M.a
      · rw [if_pos h3] at e
        rw [if_neg (show ¬ Ref M m r row from fun q => by
          rcases q with q | q | q
          · exact q h1
          · exact h2 q
          · exact q h3)]
        have z3 : jr3 [some (d M), some (.int r), some (d row), some (.int t), none] = .nx [some (d M), some (.int r), some (d row), some (.int t), some (d (dl M m row))] := by
          unfold jr3
          simp only [mSeq, mAsg, mgName, mgTup, mgCons, mgNil, mExpr, mRet, mRetN, mIf, mNext, mBrk, mCont, mRaise, mRaiseP, ofP, ofPT, two, twoB, one, chT, trT, caP, consP, nilP, vP, cP, tupP, lstP, mkT0, mkT1, mkT2, mkT3, mkT4, mkL0, mkL1, mkL2, mkL3, mkL4, mkL5, mkL6, mCons, nilA, mApp, m2, mNew2, mRd, mMv, mTest, mAndT, mOrT, mNotT, mAndV, mOrV, mNotV, mIfV, andV, orV, notV, mCall, mArgs, takeIo, putIo, R.bind, List.set_cons_succ, List.set_cons_zero, List.getElem?_cons_succ, List.getElem?_cons_zero, Option.join_some, Option.bind_some, Option.map_some, Option.bind, only, asB, truB_bl, truB_int, if_true, yesT, noO, partO, asI, onI, frz_int, frz_str, frz_bl, frz_non, frz_enc, imm_int, imm_bl, imm_str, imm_non, Enc.im, outsOf, imm_tup, imms_nil, imms_cons, dEq_ii, dNe_ii, dPl_int, dPlF_int, dLen_lst, dLen_tup, dLen_fls, dLen_d, putIo, List.length_map, onIc, dLe, dLt, dGt, dGe, dSub, decide_true, decide_false, Bool.not_true, Bool.not_false, Bool.false_eq_true, if_false, Bool.and_self, Bool.and_false, Bool.and_true, Bool.false_and, Bool.true_and, e]
        rw [seq_nx z3]
        have ea := around_ok (good_dl g h3) h1
        have en := dNe_ii (Times (dl M m row) r) t
        by_cases h4 : t < 2
        · have : ¬ Rnd M m r row t := fun q => by have := q.1; omega
          rw [if_neg this]
          unfold jr4
          simp only [mSeq, mAsg, mgName, mgTup, mgCons, mgNil, mExpr, mRet, mRetN, mIf, mNext, mBrk, mCont, mRaise, mRaiseP, ofP, ofPT, two, twoB, one, chT, trT, caP, consP, nilP, vP, cP, tupP, lstP, mkT0, mkT1, mkT2, mkT3, mkT4, mkL0, mkL1, mkL2, mkL3, mkL4, mkL5, mkL6, mCons, nilA, mApp, m2, mNew2, mRd, mMv, mTest, mAndT, mOrT, mNotT, mAndV, mOrV, mNotV, mIfV, andV, orV, notV, mCall, mArgs, takeIo, putIo, R.bind, List.set_cons_succ, List.set_cons_zero, List.getElem?_cons_succ, List.getElem?_cons_zero, Option.join_some, Option.bind_some, Option.map_some, Option.bind, only, asB, truB_bl, truB_int, if_true, yesT, noO, partO, asI, onI, frz_int, frz_str, frz_bl, frz_non, frz_enc, imm_int, imm_bl, imm_str, imm_non, Enc.im, outsOf, imm_tup, imms_nil, imms_cons, dEq_ii, dNe_ii, dPl_int, dPlF_int, dLen_lst, dLen_tup, dLen_fls, dLen_d, putIo, List.length_map, onIc, dLe, dLt, dGt, dGe, dSub, decide_true, decide_false, Bool.not_true, Bool.not_false, Bool.false_eq_true, if_false, Bool.and_self, Bool.and_false, Bool.and_true, Bool.false_and, Bool.true_and, h4]
        · by_cases h5 : Times (dl M m row) r = t
          · rw [if_pos (show Rnd M m r row t from ⟨by omega, h5⟩)]
            rw [decide_eq_true h5] at en
            unfold jr4
            simp only [mSeq, mAsg, mgName, mgTup, mgCons, mgNil, mExpr, mRet, mRetN, mIf, mNext, mBrk, mCont, mRaise, mRaiseP, ofP, ofPT, two, twoB, one, chT, trT, caP, consP, nilP, vP, cP, tupP, lstP, mkT0, mkT1, mkT2, mkT3, mkT4, mkL0, mkL1, mkL2, mkL3, mkL4, mkL5, mkL6, mCons, nilA, mApp, m2, mNew2, mRd, mMv, mTest, mAndT, mOrT, mNotT, mAndV, mOrV, mNotV, mIfV, andV, orV, notV, mCall, mArgs, takeIo, putIo, R.bind, List.set_cons_succ, List.set_cons_zero, List.getElem?_cons_succ, List.getElem?_cons_zero, Option.join_some, Option.bind_some, Option.map_some, Option.bind, only, asB, truB_bl, truB_int, if_true, yesT, noO, partO, asI, onI, frz_int, frz_str, frz_bl, frz_non, frz_enc, imm_int, imm_bl, imm_str, imm_non, Enc.im, outsOf, imm_tup, imms_nil, imms_cons, dEq_ii, dNe_ii, dPl_int, dPlF_int, dLen_lst, dLen_tup, dLen_fls, dLen_d, putIo, List.length_map, onIc, dLe, dLt, dGt, dGe, dSub, decide_true, decide_false, Bool.not_true, Bool.not_false, Bool.false_eq_true, if_false, Bool.and_self, Bool.and_false, Bool.and_true, Bool.false_and, Bool.true_and, h4, ea, en]
          · rw [if_neg (show ¬ Rnd M m r row t from fun q => h5 q.2)]
            rw [decide_eq_false h5] at en
            unfold jr4
            simp only [mSeq, mAsg, mgName, mgTup, mgCons, mgNil, mExpr, mRet, mRetN, mIf, mNext, mBrk, mCont, mRaise, mRaiseP, ofP, ofPT, two, twoB, one, chT, trT, caP, consP, nilP, vP, cP, tupP, lstP, mkT0, mkT1, mkT2, mkT3, mkT4, mkL0, mkL1, mkL2, mkL3, mkL4, mkL5, mkL6, mCons, nilA, mApp, m2, mNew2, mRd, mMv, mTest, mAndT, mOrT, mNotT, mAndV, mOrV, mNotV, mIfV, andV, orV, notV, mCall, mArgs, takeIo, putIo, R.bind, List.set_cons_succ, List.set_cons_zero, List.getElem?_cons_succ, List.getElem?_cons_zero, Option.join_some, Option.bind_some, Option.map_some, Option.bind, only, asB, truB_bl, truB_int, if_true, yesT, noO, partO, asI, onI, frz_int, frz_str, frz_bl, frz_non, frz_enc, imm_int, imm_bl, imm_str, imm_non, Enc.im, outsOf, imm_tup, imms_nil, imms_cons, dEq_ii, dNe_ii, dPl_int, dPlF_int, dLen_lst, dLen_tup, dLen_fls, dLen_d, putIo, List.length_map, onIc, dLe, dLt, dGt, dGe, dSub, decide_true, decide_false, Bool.not_true, Bool.not_false, Bool.false_eq_true, if_false, Bool.and_self, Bool.and_false, Bool.and_true, Bool.false_and, Bool.true_and, h4, ea, en]
      · rw [if_neg h3] at e
        rw [if_pos (show Ref M m r row from .inr (.inr h3))]
        have z3 : jr3 [some (d M), some (.int r), some (d row), some (.int t), none] = .exc "NotAllowed" [] [some (d M), some (.int r), some (d row), some (.int t), none] := by
          unfold jr3
          simp only [mSeq, mAsg, mgName, mgTup, mgCons, mgNil, mExpr, mRet, mRetN, mIf, mNext, mBrk, mCont, mRaise, mRaiseP, ofP, ofPT, two, twoB, one, chT, trT, caP, consP, nilP, vP, cP, tupP, lstP, mkT0, mkT1, mkT2, mkT3, mkT4, mkL0, mkL1, mkL2, mkL3, mkL4, mkL5, mkL6, mCons, nilA, mApp, m2, mNew2, mRd, mMv, mTest, mAndT, mOrT, mNotT, mAndV, mOrV, mNotV, mIfV, andV, orV, notV, mCall, mArgs, takeIo, putIo, R.bind, List.set_cons_succ, List.set_cons_zero, List.getElem?_cons_succ, List.getElem?_cons_zero, Option.join_some, Option.bind_some, Option.map_some, Option.bind, only, asB, truB_bl, truB_int, if_true, yesT, noO, partO, asI, onI, frz_int, frz_str, frz_bl, frz_non, frz_enc, imm_int, imm_bl, imm_str, imm_non, Enc.im, outsOf, imm_tup, imms_nil, imms_cons, dEq_ii, dNe_ii, dPl_int, dPlF_int, dLen_lst, dLen_tup, dLen_fls, dLen_d, putIo, List.length_map, onIc, dLe, dLt, dGt, dGe, dSub, decide_true, decide_false, Bool.not_true, Bool.not_false, Bool.false_eq_true, if_false, Bool.and_self, Bool.and_false, Bool.and_true, Bool.false_and, Bool.true_and, e]
        rw [mSeq, z3]
        rfl
  · rw [if_pos (show Ref M m r row from .inl h1)]
    rw [decide_eq_false h1] at c1
    have z1 : jr1 [some (d M), some (.int r), some (d row), some (.int t), none] = .exc "NotAllowed" [] [some (d M), some (.int r), some (d row), some (.int t), none] := by
      unfold jr1
      simp only [mIf, mNotT, c1, R.bind, Bool.not_false, if_true, mRaise]
    rw [mSeq, z1]
    rfl
/-! ### what the law is told -/
def verdict (M : Mach) (m : Nat) (r : Int) (row : List Lt) (t : Int) : Str := if Ref M m r row then "refused" else if Rnd M m r row t then "none" else "bad"
def tlB : Sl → RS := (mAsg (mCall [] K.mf_judge_round [.ex (mRd 0), .ex (mRd 1), .ex (mRd 2), .ex (mRd 3)]) (mgName 4))
def tlR : Sl → RS := (mRet (ofP (two dIx (lstP (consP (cP (.str "odd")) (consP (cP (.str "none")) nilP))) (caP dInt (consP (two dIsN (vP 4) (cP .non)) nilP)))))
def tlC : List MCl := [(fun c => K.clsTab c "NotAllowed", fun c fs s => mSuite 5 (two dIx (lstP (consP (cP (.str "odd")) (consP (cP (.str "refused")) nilP))) (caP dInt (consP (andV (isP 5 (dIsI [] (K.clsTab c)) (consP (vP 5) (consP (cP (.cls "SpanError")) nilP))) (notV (isP 5 (dIsI [] (K.clsTab c)) (consP (vP 5) (consP (tupP (consP (cP (.cls "TooLarge")) (consP (cP (.cls "Missing")) (consP (cP (.cls "BadPaper")) nilP)))) nilP))))) nilP))) fs s), (fun c => K.clsTab c "BadPaper", fun c fs s => mSuite 5 (two dIx (lstP (consP (cP (.str "odd")) (consP (cP (.str "bad")) nilP))) (caP dInt (consP (andV (isP 5 (dIsI [] (K.clsTab c)) (consP (vP 5) (consP (cP (.cls "SpanError")) nilP))) (notV (isP 5 (dIsI [] (K.clsTab c)) (consP (vP 5) (consP (tupP (consP (cP (.cls "TooLarge")) (consP (cP (.cls "Missing")) (consP (cP (.cls "NotAllowed")) nilP)))) nilP))))) nilP))) fs s)]
theorem tl_eq : K.mb__law_told = mSeq (mTryL tlC tlB) tlR := rfl
theorem tlC_ref (a b c e f : Option D) : mClauses tlC "NotAllowed" [] [a, b, c, e, f, none] = .ret (.str "refused") [a, b, c, e, f, none] := by kernel_rfl
theorem tlC_bad (a b c e f : Option D) : mClauses tlC "BadPaper" [] [a, b, c, e, f, none] = .ret (.str "bad") [a, b, c, e, f, none] := by kernel_rfl
theorem tlR_ok (a b c e f : Option D) : tlR [a, b, c, e, some .non, f] = .ret (.str "none") [a, b, c, e, some .non, f] := by kernel_rfl
theorem told_ok (g : GoodM M m) : K.mf__law_told [d M, .int r, d row, .int t] = .ok (.str (verdict M m r row t)) [] := by
  have e := judge_ok (r := r) (t := t) (row := row) g
  unfold K.mf__law_told mDef
  rw [tl_eq, if_pos (by rfl)]
  simp only [List.map_cons, List.map_nil, List.replicate, List.cons_append, List.nil_append]
  unfold verdict
  by_cases h1 : Ref M m r row
  · rw [if_pos h1] at e ⊢
    have z : tlB [some (d M), some (.int r), some (d row), some (.int t), none, none] = .exc "NotAllowed" [] [some (d M), some (.int r), some (d row), some (.int t), none, none] := by
      unfold tlB
      simp only [mSeq, mAsg, mgName, mgTup, mgCons, mgNil, mExpr, mRet, mRetN, mIf, mNext, mBrk, mCont, mRaise, mRaiseP, ofP, ofPT, two, twoB, one, chT, trT, caP, consP, nilP, vP, cP, tupP, lstP, mkT0, mkT1, mkT2, mkT3, mkT4, mkL0, mkL1, mkL2, mkL3, mkL4, mkL5, mkL6, mCons, nilA, mApp, m2, mNew2, mRd, mMv, mTest, mAndT, mOrT, mNotT, mAndV, mOrV, mNotV, mIfV, andV, orV, notV, mCall, mArgs, takeIo, putIo, R.bind, List.set_cons_succ, List.set_cons_zero, List.getElem?_cons_succ, List.getElem?_cons_zero, Option.join_some, Option.bind_some, Option.map_some, Option.bind, only, asB, truB_bl, truB_int, if_true, yesT, noO, partO, asI, onI, frz_int, frz_str, frz_bl, frz_non, frz_enc, imm_int, imm_bl, imm_str, imm_non, Enc.im, outsOf, imm_tup, imms_nil, imms_cons, dEq_ii, dNe_ii, dPl_int, dPlF_int, dLen_lst, dLen_tup, dLen_fls, dLen_d, putIo, List.length_map, onIc, dLe, dLt, dGt, dGe, dSub, decide_true, decide_false, Bool.not_true, Bool.not_false, Bool.false_eq_true, if_false, Bool.and_self, Bool.and_false, Bool.and_true, Bool.false_and, Bool.true_and, e]
    rw [mSeq, mTryL, z]
    dsimp only
    rw [tlC_ref]
    rfl
  · rw [if_neg h1] at e ⊢
    by_cases h2 : Rnd M m r row t
    · rw [if_pos h2] at e ⊢
      have z : tlB [some (d M), some (.int r), some (d row), some (.int t), none, none] = .nx [some (d M), some (.int r), some (d row), some (.int t), some .non, none] := by
        unfold tlB
        simp only [mSeq, mAsg, mgName, mgTup, mgCons, mgNil, mExpr, mRet, mRetN, mIf, mNext, mBrk, mCont, mRaise, mRaiseP, ofP, ofPT, two, twoB, one, chT, trT, caP, consP, nilP, vP, cP, tupP, lstP, mkT0, mkT1, mkT2, mkT3, mkT4, mkL0, mkL1, mkL2, mkL3, mkL4, mkL5, mkL6, mCons, nilA, mApp, m2, mNew2, mRd, mMv, mTest, mAndT, mOrT, mNotT, mAndV, mOrV, mNotV, mIfV, andV, orV, notV, mCall, mArgs, takeIo, putIo, R.bind, List.set_cons_succ, List.set_cons_zero, List.getElem?_cons_succ, List.getElem?_cons_zero, Option.join_some, Option.bind_some, Option.map_some, Option.bind, only, asB, truB_bl, truB_int, if_true, yesT, noO, partO, asI, onI, frz_int, frz_str, frz_bl, frz_non, frz_enc, imm_int, imm_bl, imm_str, imm_non, Enc.im, outsOf, imm_tup, imms_nil, imms_cons, dEq_ii, dNe_ii, dPl_int, dPlF_int, dLen_lst, dLen_tup, dLen_fls, dLen_d, putIo, List.length_map, onIc, dLe, dLt, dGt, dGe, dSub, decide_true, decide_false, Bool.not_true, Bool.not_false, Bool.false_eq_true, if_false, Bool.and_self, Bool.and_false, Bool.and_true, Bool.false_and, Bool.true_and, e]
      have z2 : mTryL tlC tlB [some (d M), some (.int r), some (d row), some (.int t), none, none] = .nx [some (d M), some (.int r), some (d row), some (.int t), some .non, none] := by
        rw [mTryL, z]
      rw [seq_nx z2, tlR_ok]
      rfl
    · rw [if_neg h2] at e ⊢
      have z : tlB [some (d M), some (.int r), some (d row), some (.int t), none, none] = .exc "BadPaper" [] [some (d M), some (.int r), some (d row), some (.int t), none, none] := by
        unfold tlB
        simp only [mSeq, mAsg, mgName, mgTup, mgCons, mgNil, mExpr, mRet, mRetN, mIf, mNext, mBrk, mCont, mRaise, mRaiseP, ofP, ofPT, two, twoB, one, chT, trT, caP, consP, nilP, vP, cP, tupP, lstP, mkT0, mkT1, mkT2, mkT3, mkT4, mkL0, mkL1, mkL2, mkL3, mkL4, mkL5, mkL6, mCons, nilA, mApp, m2, mNew2, mRd, mMv, mTest, mAndT, mOrT, mNotT, mAndV, mOrV, mNotV, mIfV, andV, orV, notV, mCall, mArgs, takeIo, putIo, R.bind, List.set_cons_succ, List.set_cons_zero, List.getElem?_cons_succ, List.getElem?_cons_zero, Option.join_some, Option.bind_some, Option.map_some, Option.bind, only, asB, truB_bl, truB_int, if_true, yesT, noO, partO, asI, onI, frz_int, frz_str, frz_bl, frz_non, frz_enc, imm_int, imm_bl, imm_str, imm_non, Enc.im, outsOf, imm_tup, imms_nil, imms_cons, dEq_ii, dNe_ii, dPl_int, dPlF_int, dLen_lst, dLen_tup, dLen_fls, dLen_d, putIo, List.length_map, onIc, dLe, dLt, dGt, dGe, dSub, decide_true, decide_false, Bool.not_true, Bool.not_false, Bool.false_eq_true, if_false, Bool.and_self, Bool.and_false, Bool.and_true, Bool.false_and, Bool.true_and, e]
      rw [mSeq, mTryL, z]
      dsimp only
      rw [tlC_bad]
      rfl
/-! ### what is due -/
def duA : Sl → R Bool := (mNotT (ofPT (chT (chain2 dLe dLt (cP (.int 0)) (vP 1) (caP dLen (consP (two dIx (vP 0) (cP (.int 1))) nilP))))))
def duB : Sl → R Bool := (ofPT (twoB dEq (caP dLen (consP (vP 2) nilP)) (cP (.int 0))))
def duC : Sl → R D := (mApp (only1 dAll) (mCons (mComp (mItems (mRd 2)) [4] (mgName 4) yesT (ofP (two dIn (vP 4) (two dIx (vP 0) (cP (.int 0)))))) nilA))
noncomputable def duD : Sl → R D := (mAndV (ofP (two dGt (vP 3) (cP (.int 1)))) (m2 (only dEq) (mCall [] K.mf__law_times [.ex (mCall [] K.mf__law_deed [.ex (mRd 0), .ex (mRd 2)]), .ex (mRd 1)]) (mRd 3)))
theorem du_eq : K.mb__law_due = mSeq (mIf (mOrT duA (mOrT duB (mNotT (mTest duC)))) (mRet (ofP (cP (.str "refused")))) mNext) (mRet (m2 dIx (mApp mkLst (mCons (ofP (cP (.str "bad"))) (mCons (ofP (cP (.str "none"))) nilA))) (mApp (only1 dInt) (mCons duD nilA)))) := rfl
theorem due_ok (g : GoodM M m) (hn : row.length ≤ 1000) : K.mf__law_due [d M, .int r, d row, .int t] = .ok (.str (verdict M m r row t)) [] := by
  generalize hS : [some (d M), some (.int r), some (d row), some (.int t), (none : Option D)] = S
  have a0 : ofPT (chT (chain2 dLe dLt (cP (.int 0)) (vP 1) (caP dLen (consP (two dIx (vP 0) (cP (.int 1))) nilP)))) S = .ok (decide (0 ≤ r ∧ r < (m : Int))) S := in_chain g (by rw [← hS]; rfl) (by rw [← hS]; rfl)
  have a1 : duA S = .ok (!decide (0 ≤ r ∧ r < (m : Int))) S := by
    unfold duA
    simp only [mNotT, a0, R.bind]
  have a2 : duB S = .ok (decide (row = [])) S := by
    rw [← hS]
    have ee := dEq_ii (row.length : Nat) 0
    have e1 : decide (((row.length : Nat) : Int) = 0) = decide (row = []) := by
      rw [decide_eq_decide]
      constructor
      · intro h; exact List.length_eq_zero_iff.mp (by omega)
      · intro h; rw [h]; rfl
    rw [e1] at ee
    unfold duB
    simp only [mSeq, mAsg, mgName, mgTup, mgCons, mgNil, mExpr, mRet, mRetN, mIf, mNext, mBrk, mCont, mRaise, mRaiseP, ofP, ofPT, two, twoB, one, chT, trT, caP, consP, nilP, vP, cP, tupP, lstP, mkT0, mkT1, mkT2, mkT3, mkT4, mkL0, mkL1, mkL2, mkL3, mkL4, mkL5, mkL6, mCons, nilA, mApp, m2, mNew2, mRd, mMv, mTest, mAndT, mOrT, mNotT, mAndV, mOrV, mNotV, mIfV, andV, orV, notV, mCall, mArgs, takeIo, putIo, R.bind, List.set_cons_succ, List.set_cons_zero, List.getElem?_cons_succ, List.getElem?_cons_zero, Option.join_some, Option.bind_some, Option.map_some, Option.bind, only, asB, truB_bl, truB_int, if_true, yesT, noO, partO, asI, onI, frz_int, frz_str, frz_bl, frz_non, frz_enc, imm_int, imm_bl, imm_str, imm_non, Enc.im, outsOf, imm_tup, imms_nil, imms_cons, dEq_ii, dNe_ii, dPl_int, dPlF_int, dLen_lst, dLen_tup, dLen_fls, dLen_d, putIo, List.length_map, onIc, dLe, dLt, dGt, dGe, dSub, decide_true, decide_false, Bool.not_true, Bool.not_false, Bool.false_eq_true, if_false, Bool.and_self, Bool.and_false, Bool.and_true, Bool.false_and, Bool.true_and, ee]
  have a3 : duC S = .ok (.bl (row.all fun l => decide (l ∈ M.a))) S := all_pures (f := (d : Lt → D)) (s0 := S) (S := fun x => [some (d M), some (.int r), some (d row), some (.int t), some (d x)]) (vs := [4]) (s1 := S) (fun l => decide (l ∈ M.a)) row hn (by rw [← hS]; exact mItems_rd rfl rfl) (fun _ _ => by rw [← hS]; rfl) (fun _ _ => by rw [← hS]; rfl) (by rw [← hS]; rfl) (by rw [← hS]; rfl) (fun l _ => by
    have e : dIn (d l) (d M.a) = some (.bl (decide (l ∈ M.a))) := dIn_tup l M.a
    refine ⟨[some (d M), some (.int r), some (d row), some (.int t), some (d l)], ?_, by rw [← hS]; rfl⟩
    simp only [mSeq, mAsg, mgName, mgTup, mgCons, mgNil, mExpr, mRet, mRetN, mIf, mNext, mBrk, mCont, mRaise, mRaiseP, ofP, ofPT, two, twoB, one, chT, trT, caP, consP, nilP, vP, cP, tupP, lstP, mkT0, mkT1, mkT2, mkT3, mkT4, mkL0, mkL1, mkL2, mkL3, mkL4, mkL5, mkL6, mCons, nilA, mApp, m2, mNew2, mRd, mMv, mTest, mAndT, mOrT, mNotT, mAndV, mOrV, mNotV, mIfV, andV, orV, notV, mCall, mArgs, takeIo, putIo, R.bind, List.set_cons_succ, List.set_cons_zero, List.getElem?_cons_succ, List.getElem?_cons_zero, Option.join_some, Option.bind_some, Option.map_some, Option.bind, only, asB, truB_bl, truB_int, if_true, yesT, noO, partO, asI, onI, frz_int, frz_str, frz_bl, frz_non, frz_enc, imm_int, imm_bl, imm_str, imm_non, Enc.im, outsOf, imm_tup, imms_nil, imms_cons, dEq_ii, dNe_ii, dPl_int, dPlF_int, dLen_lst, dLen_tup, dLen_fls, dLen_d, putIo, List.length_map, onIc, dLe, dLt, dGt, dGe, dSub, decide_true, decide_false, Bool.not_true, Bool.not_false, Bool.false_eq_true, if_false, Bool.and_self, Bool.and_false, Bool.and_true, Bool.false_and, Bool.true_and, m_ix0, e])
  have hall : (row.all fun l => decide (l ∈ M.a)) = decide (∀ l ∈ row, l ∈ M.a) := by
    rw [Bool.eq_iff_iff, List.all_eq_true, decide_eq_true_eq]
    exact ⟨fun h l hl => of_decide_eq_true (h l hl), fun h l hl => decide_eq_true (h l hl)⟩
  rw [hall] at a3
  unfold K.mf__law_due mDef
  rw [du_eq, if_pos (by rfl)]
  simp only [List.map_cons, List.map_nil, List.replicate, List.cons_append, List.nil_append]
  rw [hS]
  unfold verdict
  have ref : Ref M m r row → mIf (mOrT duA (mOrT duB (mNotT (mTest duC)))) (mRet (ofP (cP (.str "refused")))) mNext S = .ret (.str "refused") S := fun h => by
    by_cases h1 : 0 ≤ r ∧ r < (m : Int)
    · by_cases h2 : row = []
      · simp only [mIf, mOrT, mNotT, mTest, a1, a2, a3, R.bind, decide_eq_true h1, decide_eq_true h2, Bool.not_true, Bool.false_eq_true, if_false, if_true]
        rfl
      · have h3 : ¬ ∀ l ∈ row, l ∈ M.a := by
          rcases h with q | q | q
          · exact (q h1).elim
          · exact (h2 q).elim
          · exact q
        simp only [mIf, mOrT, mNotT, mTest, a1, a2, a3, R.bind, decide_eq_true h1, decide_eq_false h2, decide_eq_false h3, Bool.not_true, Bool.not_false, Bool.false_eq_true, if_false, if_true, asB]
        rfl
    · simp only [mIf, mOrT, a1, R.bind, decide_eq_false h1, Bool.not_false, if_true]
      rfl
  by_cases h : Ref M m r row
  · rw [if_pos h, mSeq, ref h, ← hS]
    rfl
  · have h1 : 0 ≤ r ∧ r < (m : Int) := Classical.byContradiction fun q => h (.inl q)
    have h2 : row ≠ [] := fun q => h (.inr (.inl q))
    have h3 : ∀ l ∈ row, l ∈ M.a := Classical.byContradiction fun q => h (.inr (.inr q))
    have nx : mIf (mOrT duA (mOrT duB (mNotT (mTest duC)))) (mRet (ofP (cP (.str "refused")))) mNext S = .nx S := by
      simp only [mIf, mOrT, mNotT, mTest, a1, a2, a3, R.bind, decide_eq_true h1, decide_eq_false h2, decide_eq_true h3, Bool.not_true, Bool.not_false, Bool.false_eq_true, if_false, asB, mNext]
    have e1 := law_deed_ok g row hn h3
    have e2 := law_times_ok (good_dl g h3) h1
    have ee := dEq_ii (Times (dl M m row) r) t
    have a4 : duD S = .ok (.bl (decide (Rnd M m r row t))) S := by
      rw [← hS]
      by_cases h4 : (1 : Int) < t
      · have er : decide (Rnd M m r row t) = decide (Times (dl M m row) r = t) := by
          rw [decide_eq_decide]
          exact ⟨fun q => q.2, fun q => ⟨by omega, q⟩⟩
        rw [er]
        unfold duD
        simp only [mSeq, mAsg, mgName, mgTup, mgCons, mgNil, mExpr, mRet, mRetN, mIf, mNext, mBrk, mCont, mRaise, mRaiseP, ofP, ofPT, two, twoB, one, chT, trT, caP, consP, nilP, vP, cP, tupP, lstP, mkT0, mkT1, mkT2, mkT3, mkT4, mkL0, mkL1, mkL2, mkL3, mkL4, mkL5, mkL6, mCons, nilA, mApp, m2, mNew2, mRd, mMv, mTest, mAndT, mOrT, mNotT, mAndV, mOrV, mNotV, mIfV, andV, orV, notV, mCall, mArgs, takeIo, putIo, R.bind, List.set_cons_succ, List.set_cons_zero, List.getElem?_cons_succ, List.getElem?_cons_zero, Option.join_some, Option.bind_some, Option.map_some, Option.bind, only, asB, truB_bl, truB_int, if_true, yesT, noO, partO, asI, onI, frz_int, frz_str, frz_bl, frz_non, frz_enc, imm_int, imm_bl, imm_str, imm_non, Enc.im, outsOf, imm_tup, imms_nil, imms_cons, dEq_ii, dNe_ii, dPl_int, dPlF_int, dLen_lst, dLen_tup, dLen_fls, dLen_d, putIo, List.length_map, onIc, dLe, dLt, dGt, dGe, dSub, decide_true, decide_false, Bool.not_true, Bool.not_false, Bool.false_eq_true, if_false, Bool.and_self, Bool.and_false, Bool.and_true, Bool.false_and, Bool.true_and, h4, e1, e2]
      · have er : decide (Rnd M m r row t) = false := decide_eq_false fun q => by have := q.1; omega
        rw [er]
        unfold duD
        simp only [mSeq, mAsg, mgName, mgTup, mgCons, mgNil, mExpr, mRet, mRetN, mIf, mNext, mBrk, mCont, mRaise, mRaiseP, ofP, ofPT, two, twoB, one, chT, trT, caP, consP, nilP, vP, cP, tupP, lstP, mkT0, mkT1, mkT2, mkT3, mkT4, mkL0, mkL1, mkL2, mkL3, mkL4, mkL5, mkL6, mCons, nilA, mApp, m2, mNew2, mRd, mMv, mTest, mAndT, mOrT, mNotT, mAndV, mOrV, mNotV, mIfV, andV, orV, notV, mCall, mArgs, takeIo, putIo, R.bind, List.set_cons_succ, List.set_cons_zero, List.getElem?_cons_succ, List.getElem?_cons_zero, Option.join_some, Option.bind_some, Option.map_some, Option.bind, only, asB, truB_bl, truB_int, if_true, yesT, noO, partO, asI, onI, frz_int, frz_str, frz_bl, frz_non, frz_enc, imm_int, imm_bl, imm_str, imm_non, Enc.im, outsOf, imm_tup, imms_nil, imms_cons, dEq_ii, dNe_ii, dPl_int, dPlF_int, dLen_lst, dLen_tup, dLen_fls, dLen_d, putIo, List.length_map, onIc, dLe, dLt, dGt, dGe, dSub, decide_true, decide_false, Bool.not_true, Bool.not_false, Bool.false_eq_true, if_false, Bool.and_self, Bool.and_false, Bool.and_true, Bool.false_and, Bool.true_and, h4]
    rw [if_neg h, seq_nx nx]
    have a5 : mApp (only1 dInt) (mCons duD nilA) S = .ok (.int (if Rnd M m r row t then 1 else 0)) S := app1_ok a4 (by
      by_cases h5 : Rnd M m r row t
      · rw [decide_eq_true h5, if_pos h5]; rfl
      · rw [decide_eq_false h5, if_neg h5]; rfl)
    have a6 : mApp mkLst (mCons (ofP (cP (.str "bad"))) (mCons (ofP (cP (.str "none"))) nilA)) S = .ok (.lst [.str "bad", .str "none"]) S := by rw [← hS]; simp only [mSeq, mAsg, mgName, mgTup, mgCons, mgNil, mExpr, mRet, mRetN, mIf, mNext, mBrk, mCont, mRaise, mRaiseP, ofP, ofPT, two, twoB, one, chT, trT, caP, consP, nilP, vP, cP, tupP, lstP, mkT0, mkT1, mkT2, mkT3, mkT4, mkL0, mkL1, mkL2, mkL3, mkL4, mkL5, mkL6, mCons, nilA, mApp, m2, mNew2, mRd, mMv, mTest, mAndT, mOrT, mNotT, mAndV, mOrV, mNotV, mIfV, andV, orV, notV, mCall, mArgs, takeIo, putIo, R.bind, List.set_cons_succ, List.set_cons_zero, List.getElem?_cons_succ, List.getElem?_cons_zero, Option.join_some, Option.bind_some, Option.map_some, Option.bind, only, asB, truB_bl, truB_int, if_true, yesT, noO, partO, asI, onI, frz_int, frz_str, frz_bl, frz_non, frz_enc, imm_int, imm_bl, imm_str, imm_non, Enc.im, outsOf, imm_tup, imms_nil, imms_cons, dEq_ii, dNe_ii, dPl_int, dPlF_int, dLen_lst, dLen_tup, dLen_fls, dLen_d, putIo, List.length_map, onIc, dLe, dLt, dGt, dGe, dSub, decide_true, decide_false, Bool.not_true, Bool.not_false, Bool.false_eq_true, if_false, Bool.and_self, Bool.and_false, Bool.and_true, Bool.false_and, Bool.true_and]
    have a7 : m2 dIx (mApp mkLst (mCons (ofP (cP (.str "bad"))) (mCons (ofP (cP (.str "none"))) nilA))) (mApp (only1 dInt) (mCons duD nilA)) S = .ok (.str (if Rnd M m r row t then "none" else "bad")) S := by
      unfold m2
      rw [a6]
      dsimp only [R.bind]
      rw [a5]
      dsimp only
      by_cases h5 : Rnd M m r row t
      · rw [if_pos h5, if_pos h5]; rfl
      · rw [if_neg h5, if_neg h5]; rfl
    rw [mRet, a7, ← hS]
    rfl
end
end Sim

namespace Sim
open PySem PySem.Spec PyProof.Rows L2
open Enc

/-! ### rows -/
theorem lrow_ok {n : Nat} {x : D} {ls : List Lt} (hne : ls ≠ []) (hl : ls.length ≤ 100) {k : Nat} (hk : k ≤ 100) (h : Stm (n + k) x) : ∃ (row : List Lt) (x' : D), row.length = k ∧ (∀ l ∈ row, l ∈ ls) ∧ Stm n x' ∧ K.mf__law_row [x, d ls, .int (k : Int)] = .ok (d row) [x'] := by
  have kn : K.mf__law_next = C.mf__law_next := rfl
  have hp := List.length_pos_iff.mpr hne
  obtain ⟨row, x2, l2, p2, s2, e2⟩ := make (f := (d : Int → D)) (S := fun st o => [some st, some (d ls), some (.int (k : Int)), o]) (vs := [3]) (g := mgName 3) (m := mIxv 1 (mCall [0] K.mf__law_next [.io 0, .ex (ofP (caP dLen (consP (vP 1) nilP)))])) (fun l : Lt => l ∈ ls) 1 n (upto k) (by rw [upto_len]; omega) (fun _ _ _ => rfl) (fun _ _ _ => rfl) (fun j st i _ hj => by
    obtain ⟨v, st2, v0, v1, s, en⟩ := stm_next hj (m := (ls.length : Int)) (by omega)
    have e4 : dIx (d ls) (.int v) = some (d (ls.getD v.toNat (.n 0))) := dIx_d ls v (.n 0) v0 v1
    refine ⟨ls.getD v.toNat (.n 0), st2, getD_mem (by omega), s, ?_⟩
    simp only [mSeq, mAsg, mgName, mgTup, mgCons, mgNil, mExpr, mRet, mRetN, mIf, mNext, mBrk, mCont, mRaise, mRaiseP, ofP, ofPT, two, twoB, one, chT, trT, caP, consP, nilP, vP, cP, tupP, lstP, mkT0, mkT1, mkT2, mkT3, mkT4, mkL0, mkL1, mkL2, mkL3, mkL4, mkL5, mkL6, mCons, nilA, mApp, m2, mNew2, mRd, mMv, mTest, mAndT, mOrT, mNotT, mAndV, mOrV, mNotV, mIfV, andV, orV, notV, mCall, mArgs, takeIo, putIo, R.bind, List.set_cons_succ, List.set_cons_zero, List.getElem?_cons_succ, List.getElem?_cons_zero, Option.join_some, Option.bind_some, Option.map_some, Option.bind, only, asB, truB_bl, truB_int, if_true, yesT, noO, partO, asI, onI, frz_int, frz_str, frz_bl, frz_non, frz_enc, imm_int, imm_bl, imm_str, imm_non, Enc.im, outsOf, imm_tup, imms_nil, imms_cons, dEq_ii, dNe_ii, dPl_int, dPlF_int, dLen_lst, dLen_tup, dLen_fls, dLen_d, putIo, List.length_map, onIc, dLe, dLt, dGt, dGe, dSub, decide_true, decide_false, Bool.not_true, Bool.not_false, Bool.false_eq_true, if_false, Bool.and_self, Bool.and_false, Bool.and_true, Bool.false_and, Bool.true_and, kn, mIxv, mIxV, en, e4]) (st := x) (by rw [upto_len]; exact h.less (by omega))
  rw [upto_len] at l2
  have e3 := mComp_of (mRange_int (a := mRd 2) (s := [some x, some (d ls), some (.int (k : Int)), none]) (s1 := [some x, some (d ls), some (.int (k : Int)), none]) (n := k) (by simp only [mSeq, mAsg, mgName, mgTup, mgCons, mgNil, mExpr, mRet, mRetN, mIf, mNext, mBrk, mCont, mRaise, mRaiseP, ofP, ofPT, two, twoB, one, chT, trT, caP, consP, nilP, vP, cP, tupP, lstP, mkT0, mkT1, mkT2, mkT3, mkT4, mkL0, mkL1, mkL2, mkL3, mkL4, mkL5, mkL6, mCons, nilA, mApp, m2, mNew2, mRd, mMv, mTest, mAndT, mOrT, mNotT, mAndV, mOrV, mNotV, mIfV, andV, orV, notV, mCall, mArgs, takeIo, putIo, R.bind, List.set_cons_succ, List.set_cons_zero, List.getElem?_cons_succ, List.getElem?_cons_zero, Option.join_some, Option.bind_some, Option.map_some, Option.bind, only, asB, truB_bl, truB_int, if_true, yesT, noO, partO, asI, onI, frz_int, frz_str, frz_bl, frz_non, frz_enc, imm_int, imm_bl, imm_str, imm_non, Enc.im, outsOf]) (by omega)) (t := yesT) (vs := [3]) (g := mgName 3) e2
  have e4 := mTuple_lst e3 (by rw [List.length_map]; omega)
  refine ⟨row, x2, l2, p2, s2, ?_⟩
  unfold K.mf__law_row mDef K.mb__law_row
  rw [if_pos (by rfl)]
  simp only [List.map_cons, List.map_nil, List.replicate, List.cons_append, List.nil_append]
  rw [mRet, e4]
  rfl
/-! ### machines -/
abbrev fL (c : List Int) : D := .fls (c.map D.int)
theorem frzs_app (a b : List D) : frzs (a ++ b) = frzs a ++ frzs b := by
  induction a with
  | nil => simp [frzs]
  | cons x xs ih =>
    rw [List.cons_append, show frzs (x :: (xs ++ b)) = frz x :: frzs (xs ++ b) by rw [frzs], show frzs (x :: xs) = frz x :: frzs xs by rw [frzs], ih, List.cons_append]
theorem frz_fL (c : List Int) : frz (fL c) = fL c := by unfold frz; rw [frzs_int]
theorem frz_lL (c : List Int) : frz (.lst (c.map D.int)) = fL c := by unfold frz; rw [frzs_int]
theorem frzs_one (x : D) : frzs [x] = [frz x] := by simp [frzs]
theorem frzs_cols : ∀ cols : List (List Int), frzs (cols.map fL) = cols.map fL
  | [] => by simp [frzs]
  | c :: cs => by
    rw [List.map_cons, show frzs (fL c :: cs.map fL) = frz (fL c) :: frzs (cs.map fL) by rw [frzs], frzs_cols cs, frz_fL]
structure Cols (cds : List D) (cols : List (List Int)) (m : Nat) : Prop where
  fz : frzs cds = cols.map fL
  len : cds.length = cols.length
  ok : ∀ c ∈ cols, c.length = m ∧ ∀ x ∈ c, 0 ≤ x ∧ x < (m : Int)
theorem Cols.snoc {cds : List D} {cols : List (List Int)} {m : Nat} (h : Cols cds cols m) {c : List Int} {x : D} (hx : frz x = fL c) (hl : c.length = m) (hc : ∀ x ∈ c, 0 ≤ x ∧ x < (m : Int)) : Cols (cds ++ [x]) (cols ++ [c]) m :=
  ⟨by rw [frzs_app, h.fz, frzs_one, hx, List.map_append]; rfl, by rw [List.length_append, List.length_append, h.len]; rfl, fun c' hm => by
    rcases List.mem_append.mp hm with hm | hm
    · exact h.ok c' hm
    · rw [List.mem_singleton.mp hm]; exact ⟨hl, hc⟩⟩
def maP : Sl → RS := (mAsg (m2 dIx (mApp mkLst (mCons (mRd 3) (mCons (mCall [0] C.mf__law_next [.io 0, .ex (ofP (cP (.int 3)))]) nilA))) (ofP (caP dInt (consP (two dEq (vP 3) (cP (.int 3))) nilP)))) (mgName 6))
def maC : Sl → R D := (mComp (mRange (mCons (mRd 2) nilA)) [7] (mgName 7) yesT (mCall [0] C.mf__law_next [.io 0, .ex (mRd 2)]))
def maH : Sl → R D := (mComp (mRange (mCons (mRd 2) nilA)) [7] (mgName 7) yesT (ofP (two dMod (caP dInt (consP (two dPl (vP 7) (vP 8)) nilP)) (vP 2))))
def maI : Sl → RS := (mIf (ofPT (twoB dEq (vP 6) (cP (.int 0))))
  (mExpr (mAppend 4 maC))
  (mIf (ofPT (twoB dEq (vP 6) (cP (.int 1))))
  (mExpr (mAppend 4 (mApp (only1 dSorted) (mCons maC nilA))))
  (mSeq (mAsg (mCall [0] C.mf__law_next [.io 0, .ex (mRd 2)]) (mgName 8))
  (mExpr (mAppend 4 maH)))))
def maR : Sl → R D := mTuple (mComp (mItems (mRd 4)) [10] (mgName 10) yesT (ofP (two dIx (vP 10) (vP 7))))
def maM : Sl → RS := (mAsg (mTuple (mComp (mRange (mCons (mRd 2) nilA)) [7] (mgName 7) yesT maR)) (mgName 9))
def maL : Sl → R D := (mTuple (mComp (mRange (mCons (mRd 2) nilA)) [7] (mgName 7) (mTest (m2 (only dEq) (mCall [0] C.mf__law_next [.io 0, .ex (ofP (cP (.int 2)))]) (ofP (cP (.int 0))))) (mRd 7)))
theorem ma_eq : K.mb__law_machine = mSeq (mAsg (mCall [0] C.mf__law_next [.io 0, .ex (ofP (cP (.int 4)))]) (mgName 3)) (mSeq (mAsg (mApp mkLst nilA) (mgName 4)) (mSeq (mFor (mItems (mRd 1)) (mgName 5) (mSeq maP maI)) (mSeq maM (mRet (mApp mkTup (mCons (mRd 1) (mCons (mRd 9) (mCons maL nilA)))))))) := rfl
section
variable {m : Nat} {o1 o3 o5 o8 o9 : Option D} {o6 : Option D}
theorem maC_ok {n : Nat} {x o4 : D} (h1 : 1 ≤ m) (hm : m ≤ 50) (h : Stm (n + m) x) : ∃ (c : List Int) (x' : D), c.length = m ∧ (∀ y ∈ c, 0 ≤ y ∧ y < (m : Int)) ∧ Stm n x' ∧ maC [some x, o1, some (.int (m : Int)), o3, some o4, o5, o6, none, o8, o9, none] = .ok (.lst (c.map D.int)) [some x', o1, some (.int (m : Int)), o3, some o4, o5, o6, none, o8, o9, none] := by
  obtain ⟨c, x2, l2, p2, s2, e2⟩ := make (f := (d : Int → D)) (S := fun st o => [some st, o1, some (.int (m : Int)), o3, some o4, o5, o6, o, o8, o9, none]) (vs := [7]) (g := mgName 7) (m := mCall [0] C.mf__law_next [.io 0, .ex (mRd 2)]) (fun y : Int => 0 ≤ y ∧ y < (m : Int)) 1 n (upto m) (by rw [upto_len]; omega) (fun _ _ _ => rfl) (fun _ _ _ => rfl) (fun j st i _ hj => by
    obtain ⟨v, st2, v0, v1, s, en⟩ := stm_next hj (m := (m : Int)) (by omega)
    refine ⟨v, st2, ⟨v0, v1⟩, s, ?_⟩
    simp only [mSeq, mAsg, mgName, mgTup, mgCons, mgNil, mExpr, mRet, mRetN, mIf, mNext, mBrk, mCont, mRaise, mRaiseP, ofP, ofPT, two, twoB, one, chT, trT, caP, consP, nilP, vP, cP, tupP, lstP, mkT0, mkT1, mkT2, mkT3, mkT4, mkL0, mkL1, mkL2, mkL3, mkL4, mkL5, mkL6, mCons, nilA, mApp, m2, mNew2, mRd, mMv, mTest, mAndT, mOrT, mNotT, mAndV, mOrV, mNotV, mIfV, andV, orV, notV, mCall, mArgs, takeIo, putIo, R.bind, List.set_cons_succ, List.set_cons_zero, List.getElem?_cons_succ, List.getElem?_cons_zero, Option.join_some, Option.bind_some, Option.map_some, Option.bind, only, asB, truB_bl, truB_int, if_true, yesT, noO, partO, asI, onI, frz_int, frz_str, frz_bl, frz_non, frz_enc, imm_int, imm_bl, imm_str, imm_non, Enc.im, outsOf, imm_tup, imms_nil, imms_cons, dEq_ii, dNe_ii, dPl_int, dPlF_int, dLen_lst, dLen_tup, dLen_fls, dLen_d, putIo, List.length_map, onIc, dLe, dLt, dGt, dGe, dSub, decide_true, decide_false, Bool.not_true, Bool.not_false, Bool.false_eq_true, if_false, Bool.and_self, Bool.and_false, Bool.and_true, Bool.false_and, Bool.true_and, en]
    rfl) (st := x) (by rw [upto_len]; exact h.less (by omega))
  rw [upto_len] at l2
  have e3 := mComp_of (mRange_int (a := mRd 2) (s := [some x, o1, some (.int (m : Int)), o3, some o4, o5, o6, none, o8, o9, none]) (s1 := [some x, o1, some (.int (m : Int)), o3, some o4, o5, o6, none, o8, o9, none]) (n := m) (by simp only [mSeq, mAsg, mgName, mgTup, mgCons, mgNil, mExpr, mRet, mRetN, mIf, mNext, mBrk, mCont, mRaise, mRaiseP, ofP, ofPT, two, twoB, one, chT, trT, caP, consP, nilP, vP, cP, tupP, lstP, mkT0, mkT1, mkT2, mkT3, mkT4, mkL0, mkL1, mkL2, mkL3, mkL4, mkL5, mkL6, mCons, nilA, mApp, m2, mNew2, mRd, mMv, mTest, mAndT, mOrT, mNotT, mAndV, mOrV, mNotV, mIfV, andV, orV, notV, mCall, mArgs, takeIo, putIo, R.bind, List.set_cons_succ, List.set_cons_zero, List.getElem?_cons_succ, List.getElem?_cons_zero, Option.join_some, Option.bind_some, Option.map_some, Option.bind, only, asB, truB_bl, truB_int, if_true, yesT, noO, partO, asI, onI, frz_int, frz_str, frz_bl, frz_non, frz_enc, imm_int, imm_bl, imm_str, imm_non, Enc.im, outsOf]) (by omega)) (t := yesT) (vs := [7]) (g := mgName 7) e2
  refine ⟨c, x2, l2, p2, s2, ?_⟩
  unfold maC
  rw [e3]
  rfl
theorem maH_ok {x o4 : D} {u : Int} (h1 : 1 ≤ m) (hm : m ≤ 50) : maH [some x, o1, some (.int (m : Int)), o3, some o4, o5, o6, none, some (.int u), o9, none] = .ok (.lst (((upto m).map fun k => (k + u) % (m : Int)).map D.int)) [some x, o1, some (.int (m : Int)), o3, some o4, o5, o6, none, some (.int u), o9, none] := by
  have key := comp_pure (f := (d : Int → D)) (vs := [7]) (g := mgName 7) (t := yesT) (m := ofP (two dMod (caP dInt (consP (two dPl (vP 7) (vP 8)) nilP)) (vP 2))) (s := [some x, o1, some (.int (m : Int)), o3, some o4, o5, o6, none, some (.int u), o9, none]) (fun _ => true) (fun k => .int ((k + u) % (m : Int))) (upto m) [] (fun k hk => by
    refine ⟨[some x, o1, some (.int (m : Int)), o3, some o4, o5, o6, some (d k), some (.int u), o9, none], rfl, rfl, rfl, fun _ => ⟨[some x, o1, some (.int (m : Int)), o3, some o4, o5, o6, some (d k), some (.int u), o9, none], ?_, rfl⟩⟩
    have ci : dInt [.int (k + u)] = some (.int (k + u)) := rfl
    have cp : cPos (k + u) (m : Int) := by show (0 : Int) < m; omega
    simp only [mSeq, mAsg, mgName, mgTup, mgCons, mgNil, mExpr, mRet, mRetN, mIf, mNext, mBrk, mCont, mRaise, mRaiseP, ofP, ofPT, two, twoB, one, chT, trT, caP, consP, nilP, vP, cP, tupP, lstP, mkT0, mkT1, mkT2, mkT3, mkT4, mkL0, mkL1, mkL2, mkL3, mkL4, mkL5, mkL6, mCons, nilA, mApp, m2, mNew2, mRd, mMv, mTest, mAndT, mOrT, mNotT, mAndV, mOrV, mNotV, mIfV, andV, orV, notV, mCall, mArgs, takeIo, putIo, R.bind, List.set_cons_succ, List.set_cons_zero, List.getElem?_cons_succ, List.getElem?_cons_zero, Option.join_some, Option.bind_some, Option.map_some, Option.bind, only, asB, truB_bl, truB_int, if_true, yesT, noO, partO, asI, onI, frz_int, frz_str, frz_bl, frz_non, frz_enc, imm_int, imm_bl, imm_str, imm_non, Enc.im, outsOf, imm_tup, imms_nil, imms_cons, dEq_ii, dNe_ii, dPl_int, dPlF_int, dLen_lst, dLen_tup, dLen_fls, dLen_d, putIo, List.length_map, onIc, dLe, dLt, dGt, dGe, dSub, decide_true, decide_false, Bool.not_true, Bool.not_false, Bool.false_eq_true, if_false, Bool.and_self, Bool.and_false, Bool.and_true, Bool.false_and, Bool.true_and, d_int, ci, dMod, onIc, cp]) (by rw [upto_len]; simp; omega)
  rw [List.nil_append, show ((upto m).filter fun _ => true) = upto m from List.filter_eq_self.mpr fun _ _ => rfl] at key
  have e3 := mComp_of (mRange_int (a := mRd 2) (s := [some x, o1, some (.int (m : Int)), o3, some o4, o5, o6, none, some (.int u), o9, none]) (s1 := [some x, o1, some (.int (m : Int)), o3, some o4, o5, o6, none, some (.int u), o9, none]) (n := m) (by simp only [mSeq, mAsg, mgName, mgTup, mgCons, mgNil, mExpr, mRet, mRetN, mIf, mNext, mBrk, mCont, mRaise, mRaiseP, ofP, ofPT, two, twoB, one, chT, trT, caP, consP, nilP, vP, cP, tupP, lstP, mkT0, mkT1, mkT2, mkT3, mkT4, mkL0, mkL1, mkL2, mkL3, mkL4, mkL5, mkL6, mCons, nilA, mApp, m2, mNew2, mRd, mMv, mTest, mAndT, mOrT, mNotT, mAndV, mOrV, mNotV, mIfV, andV, orV, notV, mCall, mArgs, takeIo, putIo, R.bind, List.set_cons_succ, List.set_cons_zero, List.getElem?_cons_succ, List.getElem?_cons_zero, Option.join_some, Option.bind_some, Option.map_some, Option.bind, only, asB, truB_bl, truB_int, if_true, yesT, noO, partO, asI, onI, frz_int, frz_str, frz_bl, frz_non, frz_enc, imm_int, imm_bl, imm_str, imm_non, Enc.im, outsOf]) (by omega)) (t := yesT) (m := ofP (two dMod (caP dInt (consP (two dPl (vP 7) (vP 8)) nilP)) (vP 2))) (vs := [7]) (g := mgName 7) key
  unfold maH
  rw [e3, List.map_map]
  rfl
theorem maI_ok {n : Nat} {x : D} {cds : List D} {cols : List (List Int)} {q : Int} (h1 : 1 ≤ m) (hm : m ≤ 50) (h : Stm (n + m + 1) x) (hc : Cols cds cols m) (hl : cds.length ≤ 100) : ∃ (cds' : List D) (c : List Int) (x' : D) (o8' : Option D), Cols cds' (cols ++ [c]) m ∧ Stm n x' ∧ maI [some x, o1, some (.int (m : Int)), o3, some (.lst cds), o5, some (.int q), none, o8, o9, none] = .nx [some x', o1, some (.int (m : Int)), o3, some (.lst cds'), o5, some (.int q), none, o8', o9, none] := by
  have e0 := dEq_ii q 0
  have e1 := dEq_ii q 1
  obtain ⟨c, x1, lc, pc, s1, ec⟩ := maC_ok (n := n + 1) (x := x) (o4 := .lst cds) (o1 := o1) (o3 := o3) (o5 := o5) (o6 := some (.int q)) (o8 := o8) (o9 := o9) h1 hm (h.less (by omega))
  by_cases q0 : q = 0
  · rw [decide_eq_true q0] at e0
    have z := append_ok (i := 4) (ds0 := cds) (ds := cds) ec rfl rfl (by omega)
    refine ⟨cds ++ [.lst (c.map D.int)], c, x1, o8, hc.snoc (frz_lL c) lc pc, s1.less (by omega), ?_⟩
    have z1 : ofPT (twoB dEq (vP 6) (cP (.int 0))) [some x, o1, some (.int (m : Int)), o3, some (.lst cds), o5, some (.int q), none, o8, o9, none] = .ok true [some x, o1, some (.int (m : Int)), o3, some (.lst cds), o5, some (.int q), none, o8, o9, none] := by simp only [mSeq, mAsg, mgName, mgTup, mgCons, mgNil, mExpr, mRet, mRetN, mIf, mNext, mBrk, mCont, mRaise, mRaiseP, ofP, ofPT, two, twoB, one, chT, trT, caP, consP, nilP, vP, cP, tupP, lstP, mkT0, mkT1, mkT2, mkT3, mkT4, mkL0, mkL1, mkL2, mkL3, mkL4, mkL5, mkL6, mCons, nilA, mApp, m2, mNew2, mRd, mMv, mTest, mAndT, mOrT, mNotT, mAndV, mOrV, mNotV, mIfV, andV, orV, notV, mCall, mArgs, takeIo, putIo, R.bind, List.set_cons_succ, List.set_cons_zero, List.getElem?_cons_succ, List.getElem?_cons_zero, Option.join_some, Option.bind_some, Option.map_some, Option.bind, only, asB, truB_bl, truB_int, if_true, yesT, noO, partO, asI, onI, frz_int, frz_str, frz_bl, frz_non, frz_enc, imm_int, imm_bl, imm_str, imm_non, Enc.im, outsOf, e0]
    unfold maI mIf
    rw [z1]
    dsimp only
    rw [if_pos rfl, expr_ok z]
    rfl
  · rw [decide_eq_false q0] at e0
    have z1 : ofPT (twoB dEq (vP 6) (cP (.int 0))) [some x, o1, some (.int (m : Int)), o3, some (.lst cds), o5, some (.int q), none, o8, o9, none] = .ok false [some x, o1, some (.int (m : Int)), o3, some (.lst cds), o5, some (.int q), none, o8, o9, none] := by simp only [mSeq, mAsg, mgName, mgTup, mgCons, mgNil, mExpr, mRet, mRetN, mIf, mNext, mBrk, mCont, mRaise, mRaiseP, ofP, ofPT, two, twoB, one, chT, trT, caP, consP, nilP, vP, cP, tupP, lstP, mkT0, mkT1, mkT2, mkT3, mkT4, mkL0, mkL1, mkL2, mkL3, mkL4, mkL5, mkL6, mCons, nilA, mApp, m2, mNew2, mRd, mMv, mTest, mAndT, mOrT, mNotT, mAndV, mOrV, mNotV, mIfV, andV, orV, notV, mCall, mArgs, takeIo, putIo, R.bind, List.set_cons_succ, List.set_cons_zero, List.getElem?_cons_succ, List.getElem?_cons_zero, Option.join_some, Option.bind_some, Option.map_some, Option.bind, only, asB, truB_bl, truB_int, if_true, yesT, noO, partO, asI, onI, frz_int, frz_str, frz_bl, frz_non, frz_enc, imm_int, imm_bl, imm_str, imm_non, Enc.im, outsOf, e0]
    by_cases q1 : q = 1
    · rw [decide_eq_true q1] at e1
      have z2 : ofPT (twoB dEq (vP 6) (cP (.int 1))) [some x, o1, some (.int (m : Int)), o3, some (.lst cds), o5, some (.int q), none, o8, o9, none] = .ok true [some x, o1, some (.int (m : Int)), o3, some (.lst cds), o5, some (.int q), none, o8, o9, none] := by simp only [mSeq, mAsg, mgName, mgTup, mgCons, mgNil, mExpr, mRet, mRetN, mIf, mNext, mBrk, mCont, mRaise, mRaiseP, ofP, ofPT, two, twoB, one, chT, trT, caP, consP, nilP, vP, cP, tupP, lstP, mkT0, mkT1, mkT2, mkT3, mkT4, mkL0, mkL1, mkL2, mkL3, mkL4, mkL5, mkL6, mCons, nilA, mApp, m2, mNew2, mRd, mMv, mTest, mAndT, mOrT, mNotT, mAndV, mOrV, mNotV, mIfV, andV, orV, notV, mCall, mArgs, takeIo, putIo, R.bind, List.set_cons_succ, List.set_cons_zero, List.getElem?_cons_succ, List.getElem?_cons_zero, Option.join_some, Option.bind_some, Option.map_some, Option.bind, only, asB, truB_bl, truB_int, if_true, yesT, noO, partO, asI, onI, frz_int, frz_str, frz_bl, frz_non, frz_enc, imm_int, imm_bl, imm_str, imm_non, Enc.im, outsOf, e1]
      have es : only1 dSorted [.lst (c.map D.int)] = some (fL (c.mergeSort fun a b => decide (a ≤ b))) := by
        have hi : ∀ xs : List Int, intsOf (xs.map D.int) = some xs := fun xs => by
          induction xs with
          | nil => rfl
          | cons a as ih => rw [List.map_cons]; unfold intsOf; rw [ih]; rfl
        have : dSorted [.lst (c.map D.int)] = some (fL (c.mergeSort fun a b => decide (a ≤ b))) := by
          unfold dSorted listOf
          show (intsOf (c.map D.int)).bind _ = _
          rw [hi]
          show (if c.length < 64 then some (D.fls ((c.mergeSort fun a b => decide (a ≤ b)).map .int)) else none) = _
          rw [if_pos (by omega)]
        unfold only1
        rw [this]
        exact if_pos (imms_enc (α := Int) _)
      have z := append_ok (i := 4) (ds0 := cds) (ds := cds) (app1_ok ec es) rfl rfl (by omega)
      refine ⟨cds ++ [fL (c.mergeSort fun a b => decide (a ≤ b))], c.mergeSort fun a b => decide (a ≤ b), x1, o8, hc.snoc (frz_fL _) (by rw [List.length_mergeSort]; exact lc) (fun y hy => pc y (List.mem_mergeSort.mp hy)), s1.less (by omega), ?_⟩
      unfold maI mIf
      rw [z1]
      dsimp only
      rw [if_neg (by decide), z2]
      dsimp only
      rw [if_pos rfl, expr_ok z]
      rfl
    · rw [decide_eq_false q1] at e1
      have z2 : ofPT (twoB dEq (vP 6) (cP (.int 1))) [some x, o1, some (.int (m : Int)), o3, some (.lst cds), o5, some (.int q), none, o8, o9, none] = .ok false [some x, o1, some (.int (m : Int)), o3, some (.lst cds), o5, some (.int q), none, o8, o9, none] := by simp only [mSeq, mAsg, mgName, mgTup, mgCons, mgNil, mExpr, mRet, mRetN, mIf, mNext, mBrk, mCont, mRaise, mRaiseP, ofP, ofPT, two, twoB, one, chT, trT, caP, consP, nilP, vP, cP, tupP, lstP, mkT0, mkT1, mkT2, mkT3, mkT4, mkL0, mkL1, mkL2, mkL3, mkL4, mkL5, mkL6, mCons, nilA, mApp, m2, mNew2, mRd, mMv, mTest, mAndT, mOrT, mNotT, mAndV, mOrV, mNotV, mIfV, andV, orV, notV, mCall, mArgs, takeIo, putIo, R.bind, List.set_cons_succ, List.set_cons_zero, List.getElem?_cons_succ, List.getElem?_cons_zero, Option.join_some, Option.bind_some, Option.map_some, Option.bind, only, asB, truB_bl, truB_int, if_true, yesT, noO, partO, asI, onI, frz_int, frz_str, frz_bl, frz_non, frz_enc, imm_int, imm_bl, imm_str, imm_non, Enc.im, outsOf, e1]
      obtain ⟨u, x2, u0, u1, s2, en⟩ := stm_next (n := n) (h.less (by omega)) (m := (m : Int)) (by omega)
      have z3 : mAsg (mCall [0] C.mf__law_next [.io 0, .ex (mRd 2)]) (mgName 8) [some x, o1, some (.int (m : Int)), o3, some (.lst cds), o5, some (.int q), none, o8, o9, none] = .nx [some x2, o1, some (.int (m : Int)), o3, some (.lst cds), o5, some (.int q), none, some (.int u), o9, none] := by simp only [mSeq, mAsg, mgName, mgTup, mgCons, mgNil, mExpr, mRet, mRetN, mIf, mNext, mBrk, mCont, mRaise, mRaiseP, ofP, ofPT, two, twoB, one, chT, trT, caP, consP, nilP, vP, cP, tupP, lstP, mkT0, mkT1, mkT2, mkT3, mkT4, mkL0, mkL1, mkL2, mkL3, mkL4, mkL5, mkL6, mCons, nilA, mApp, m2, mNew2, mRd, mMv, mTest, mAndT, mOrT, mNotT, mAndV, mOrV, mNotV, mIfV, andV, orV, notV, mCall, mArgs, takeIo, putIo, R.bind, List.set_cons_succ, List.set_cons_zero, List.getElem?_cons_succ, List.getElem?_cons_zero, Option.join_some, Option.bind_some, Option.map_some, Option.bind, only, asB, truB_bl, truB_int, if_true, yesT, noO, partO, asI, onI, frz_int, frz_str, frz_bl, frz_non, frz_enc, imm_int, imm_bl, imm_str, imm_non, Enc.im, outsOf, imm_tup, imms_nil, imms_cons, dEq_ii, dNe_ii, dPl_int, dPlF_int, dLen_lst, dLen_tup, dLen_fls, dLen_d, putIo, List.length_map, onIc, dLe, dLt, dGt, dGe, dSub, decide_true, decide_false, Bool.not_true, Bool.not_false, Bool.false_eq_true, if_false, Bool.and_self, Bool.and_false, Bool.and_true, Bool.false_and, Bool.true_and, en]
      have z := append_ok (i := 4) (ds0 := cds) (ds := cds) (maH_ok (x := x2) (o4 := .lst cds) (o1 := o1) (o3 := o3) (o5 := o5) (o6 := some (.int q)) (o9 := o9) (u := u) h1 hm) rfl rfl (by omega)
      refine ⟨cds ++ [.lst (((upto m).map fun k => (k + u) % (m : Int)).map D.int)], (upto m).map fun k => (k + u) % (m : Int), x2, some (.int u), hc.snoc (frz_lL _) (by rw [List.length_map, upto_len]) (fun y hy => by
        obtain ⟨k, _, rfl⟩ := List.mem_map.mp hy
        exact ⟨Int.emod_nonneg _ (by omega), Int.emod_lt_of_pos _ (by omega)⟩), s2, ?_⟩
      unfold maI mIf
      rw [z1]
      dsimp only
      rw [if_neg (by decide), z2]
      dsimp only
      rw [if_neg (by decide), seq_nx z3, expr_ok z]
      rfl
theorem maP_ok {n : Nat} {x : D} {kd : Int} {o4 : D} (k0 : 0 ≤ kd) (k1 : kd < 4) (h : Stm (n + 1) x) : ∃ (q : Int) (x' : D), Stm n x' ∧ maP [some x, o1, some (.int (m : Int)), some (.int kd), some o4, o5, o6, none, o8, o9, none] = .nx [some x', o1, some (.int (m : Int)), some (.int kd), some o4, o5, some (.int q), none, o8, o9, none] := by
  obtain ⟨v, x1, v0, v1, s1, en⟩ := stm_next h (m := 3) (by decide)
  have ee := dEq_ii kd 3
  by_cases h3 : kd = 3
  · rw [decide_eq_true h3] at ee
    have e1 : dInt [.bl true] = some (.int 1) := rfl
    have e2 : dIx (.lst [.int kd, .int v]) (.int 1) = some (.int v) := rfl
    refine ⟨v, x1, s1, ?_⟩
    unfold maP
    simp only [mSeq, mAsg, mgName, mgTup, mgCons, mgNil, mExpr, mRet, mRetN, mIf, mNext, mBrk, mCont, mRaise, mRaiseP, ofP, ofPT, two, twoB, one, chT, trT, caP, consP, nilP, vP, cP, tupP, lstP, mkT0, mkT1, mkT2, mkT3, mkT4, mkL0, mkL1, mkL2, mkL3, mkL4, mkL5, mkL6, mCons, nilA, mApp, m2, mNew2, mRd, mMv, mTest, mAndT, mOrT, mNotT, mAndV, mOrV, mNotV, mIfV, andV, orV, notV, mCall, mArgs, takeIo, putIo, R.bind, List.set_cons_succ, List.set_cons_zero, List.getElem?_cons_succ, List.getElem?_cons_zero, Option.join_some, Option.bind_some, Option.map_some, Option.bind, only, asB, truB_bl, truB_int, if_true, yesT, noO, partO, asI, onI, frz_int, frz_str, frz_bl, frz_non, frz_enc, imm_int, imm_bl, imm_str, imm_non, Enc.im, outsOf, en, ee, e1, e2]
  · rw [decide_eq_false h3] at ee
    have e1 : dInt [.bl false] = some (.int 0) := rfl
    have e2 : dIx (.lst [.int kd, .int v]) (.int 0) = some (.int kd) := rfl
    refine ⟨kd, x1, s1, ?_⟩
    unfold maP
    simp only [mSeq, mAsg, mgName, mgTup, mgCons, mgNil, mExpr, mRet, mRetN, mIf, mNext, mBrk, mCont, mRaise, mRaiseP, ofP, ofPT, two, twoB, one, chT, trT, caP, consP, nilP, vP, cP, tupP, lstP, mkT0, mkT1, mkT2, mkT3, mkT4, mkL0, mkL1, mkL2, mkL3, mkL4, mkL5, mkL6, mCons, nilA, mApp, m2, mNew2, mRd, mMv, mTest, mAndT, mOrT, mNotT, mAndV, mOrV, mNotV, mIfV, andV, orV, notV, mCall, mArgs, takeIo, putIo, R.bind, List.set_cons_succ, List.set_cons_zero, List.getElem?_cons_succ, List.getElem?_cons_zero, Option.join_some, Option.bind_some, Option.map_some, Option.bind, only, asB, truB_bl, truB_int, if_true, yesT, noO, partO, asI, onI, frz_int, frz_str, frz_bl, frz_non, frz_enc, imm_int, imm_bl, imm_str, imm_non, Enc.im, outsOf, en, ee, e1, e2]
theorem ma_loop {ls0 : List Lt} {kd : Int} (k0 : 0 ≤ kd) (k1 : kd < 4) (h1 : 1 ≤ m) (hm : m ≤ 50) : ∀ (ls : List Lt) (n : Nat) (x : D) (cds : List D) (cols : List (List Int)) (p5 p6 p8 : Option D), Stm (n + ls.length * (m + 2)) x → Cols cds cols m → cols.length + ls.length ≤ 100 →
    ∃ (x' : D) (cds' : List D) (cols' : List (List Int)) (r5 r6 r8 : Option D), Cols cds' cols' m ∧ cols'.length = cols.length + ls.length ∧ Stm n x' ∧ mLoop (mgName 5) (mSeq maP maI) (ls.map d) [some x, some (d ls0), some (.int (m : Int)), some (.int kd), some (.lst cds), p5, p6, none, p8, none, none] = .nx [some x', some (d ls0), some (.int (m : Int)), some (.int kd), some (.lst cds'), r5, r6, none, r8, none, none]
  | [], n, x, cds, cols, p5, p6, p8, h, hc, _ => ⟨x, cds, cols, p5, p6, p8, hc, rfl, h.less (by omega), rfl⟩
  | l :: ls, n, x, cds, cols, p5, p6, p8, h, hc, hl => by
    rw [List.length_cons] at h hl
    have em : (ls.length + 1) * (m + 2) = ls.length * (m + 2) + (m + 2) := by rw [Nat.succ_mul]
    obtain ⟨q, x1, s1, e1⟩ := maP_ok (n := n + ls.length * (m + 2) + m + 1) (x := x) (o1 := some (d ls0)) (o5 := some (d l)) (o6 := p6) (o8 := p8) (o9 := none) (o4 := .lst cds) (m := m) k0 k1 (h.less (by omega))
    obtain ⟨cds1, c, x2, r8, hc1, s2, e2⟩ := maI_ok (n := n + ls.length * (m + 2)) (x := x1) (o1 := some (d ls0)) (o3 := some (.int kd)) (o5 := some (d l)) (o8 := p8) (o9 := none) (q := q) h1 hm s1 hc (by rw [hc.len]; omega)
    obtain ⟨x3, cds', cols', r5, r6, r8', hc2, hl2, s3, e3⟩ := ma_loop k0 k1 h1 hm ls n x2 cds1 (cols ++ [c]) (some (d l)) (some (.int q)) r8 s2 hc1 (by rw [List.length_append, List.length_singleton]; omega)
    refine ⟨x3, cds', cols', r5, r6, r8', hc2, by rw [hl2, List.length_append, List.length_singleton, List.length_cons]; omega, s3, ?_⟩
    rw [List.map_cons]
    unfold mLoop
    simp only [mgName, List.set_cons_succ, List.set_cons_zero]
    rw [seq_nx e1, e2]
    exact e3
theorem maR_ok {x : D} {o1 o2 o3 o5 o6 o8 : Option D} {cds : List D} {cols : List (List Int)} {x4 : D} {k : Int} (hc : Cols cds cols m) (hl : cols.length ≤ 100) (h4 : x4 = .lst cds ∨ x4 = .fls (cols.map fL)) (hk : 0 ≤ k ∧ k < (m : Int)) :
    maR [some x, o1, o2, o3, some x4, o5, o6, some (.int k), o8, none, none] = .ok (d (cols.map fun c => c.getD k.toNat 0)) [some x, o1, o2, o3, some (.fls (cols.map fL)), o5, o6, some (.int k), o8, none, none] := by
  have fz : frz x4 = .fls (cols.map fL) := by
    rcases h4 with rfl | rfl
    · unfold frz; rw [hc.fz]
    · unfold frz; rw [frzs_cols]
  have fz2 : frz (.fls (cols.map fL)) = .fls (cols.map fL) := by unfold frz; rw [frzs_cols]
  have ei : mItems (mRd 4) [some x, o1, o2, o3, some x4, o5, o6, some (.int k), o8, none, none] = .ok (cols.map fL) [some x, o1, o2, o3, some (.fls (cols.map fL)), o5, o6, some (.int k), o8, none, none] := by
    show (match itemsOf (frz (frz x4)) with | some ds => R.ok ds [some x, o1, o2, o3, some (frz x4), o5, o6, some (.int k), o8, none, none] | none => .stuck) = _
    rw [fz, fz2]; rfl
  have key := comp_pure (f := fL) (vs := [10]) (g := mgName 10) (t := yesT) (m := ofP (two dIx (vP 10) (vP 7))) (s := [some x, o1, o2, o3, some (.fls (cols.map fL)), o5, o6, some (.int k), o8, none, none]) (fun _ => true) (fun c => .int (c.getD k.toNat 0)) cols [] (fun c hcm => by
    have e : dIx (fL c) (.int k) = some (.int (c.getD k.toNat 0)) := dIx_d c k 0 hk.1 (by rw [(hc.ok c hcm).1]; exact hk.2)
    refine ⟨[some x, o1, o2, o3, some (.fls (cols.map fL)), o5, o6, some (.int k), o8, none, some (fL c)], rfl, rfl, rfl, fun _ => ⟨[some x, o1, o2, o3, some (.fls (cols.map fL)), o5, o6, some (.int k), o8, none, some (fL c)], ?_, rfl⟩⟩
    simp only [mSeq, mAsg, mgName, mgTup, mgCons, mgNil, mExpr, mRet, mRetN, mIf, mNext, mBrk, mCont, mRaise, mRaiseP, ofP, ofPT, two, twoB, one, chT, trT, caP, consP, nilP, vP, cP, tupP, lstP, mkT0, mkT1, mkT2, mkT3, mkT4, mkL0, mkL1, mkL2, mkL3, mkL4, mkL5, mkL6, mCons, nilA, mApp, m2, mNew2, mRd, mMv, mTest, mAndT, mOrT, mNotT, mAndV, mOrV, mNotV, mIfV, andV, orV, notV, mCall, mArgs, takeIo, putIo, R.bind, List.set_cons_succ, List.set_cons_zero, List.getElem?_cons_succ, List.getElem?_cons_zero, Option.join_some, Option.bind_some, Option.map_some, Option.bind, only, asB, truB_bl, truB_int, if_true, yesT, noO, partO, asI, onI, frz_int, frz_str, frz_bl, frz_non, frz_enc, imm_int, imm_bl, imm_str, imm_non, Enc.im, outsOf, imm_tup, imms_nil, imms_cons, dEq_ii, dNe_ii, dPl_int, dPlF_int, dLen_lst, dLen_tup, dLen_fls, dLen_d, putIo, List.length_map, onIc, dLe, dLt, dGt, dGe, dSub, decide_true, decide_false, Bool.not_true, Bool.not_false, Bool.false_eq_true, if_false, Bool.and_self, Bool.and_false, Bool.and_true, Bool.false_and, Bool.true_and, e]) (by simp; omega)
  rw [List.nil_append, show (cols.filter fun _ => true) = cols from List.filter_eq_self.mpr fun _ _ => rfl] at key
  have e3 := mTuple_lst (mComp_of ei (t := yesT) (m := ofP (two dIx (vP 10) (vP 7))) (vs := [10]) (g := mgName 10) key) (by rw [List.length_map]; omega)
  unfold maR
  rw [e3]
  show R.ok (D.tup (cols.map fun c => D.int (c.getD k.toNat 0))) _ = R.ok (D.tup ((cols.map fun c => c.getD k.toNat 0).map d)) _
  rw [List.map_map]
  rfl
theorem maM_ok {x : D} {o1 o3 o5 o6 o8 : Option D} {cds : List D} {cols : List (List Int)} (hm : m ≤ 50) (hc : Cols cds cols m) (hl : cols.length ≤ 100) : ∃ x4, maM [some x, o1, some (.int (m : Int)), o3, some (.lst cds), o5, o6, none, o8, none, none] = .nx [some x, o1, some (.int (m : Int)), o3, some x4, o5, o6, none, o8, some (d ((upto m).map fun k => cols.map fun c => c.getD k.toNat 0)), none] := by
  have key := comp_inv (vs := [7]) (g := mgName 7) (t := yesT) (m := maR) (fun j s acc => ∃ x4, (x4 = .lst cds ∨ x4 = .fls (cols.map fL)) ∧ s = [some x, o1, some (.int (m : Int)), o3, some x4, o5, o6, none, o8, none, none] ∧ acc = (((upto m).map fun k => cols.map fun c => c.getD k.toNat 0).take j).map d) ((upto m).map d) 0 [some x, o1, some (.int (m : Int)), o3, some (.lst cds), o5, o6, none, o8, none, none] [] ?_ ⟨_, .inl rfl, rfl, rfl⟩
  · obtain ⟨acc', s', e, x4, _, rfl, rfl⟩ := key
    rw [Nat.zero_add, List.length_map, upto_len, List.take_of_length_le (by rw [List.length_map, upto_len]; exact Nat.le_refl _)] at e
    have e3 := mTuple_lst (mComp_of (mRange_int (a := mRd 2) (s := [some x, o1, some (.int (m : Int)), o3, some (.lst cds), o5, o6, none, o8, none, none]) (s1 := [some x, o1, some (.int (m : Int)), o3, some (.lst cds), o5, o6, none, o8, none, none]) (n := m) (by simp only [mSeq, mAsg, mgName, mgTup, mgCons, mgNil, mExpr, mRet, mRetN, mIf, mNext, mBrk, mCont, mRaise, mRaiseP, ofP, ofPT, two, twoB, one, chT, trT, caP, consP, nilP, vP, cP, tupP, lstP, mkT0, mkT1, mkT2, mkT3, mkT4, mkL0, mkL1, mkL2, mkL3, mkL4, mkL5, mkL6, mCons, nilA, mApp, m2, mNew2, mRd, mMv, mTest, mAndT, mOrT, mNotT, mAndV, mOrV, mNotV, mIfV, andV, orV, notV, mCall, mArgs, takeIo, putIo, R.bind, List.set_cons_succ, List.set_cons_zero, List.getElem?_cons_succ, List.getElem?_cons_zero, Option.join_some, Option.bind_some, Option.map_some, Option.bind, only, asB, truB_bl, truB_int, if_true, yesT, noO, partO, asI, onI, frz_int, frz_str, frz_bl, frz_non, frz_enc, imm_int, imm_bl, imm_str, imm_non, Enc.im, outsOf]) (by omega)) (t := yesT) (vs := [7]) (g := mgName 7) e) (by rw [List.length_map, List.length_map, upto_len]; omega)
    refine ⟨x4, ?_⟩
    unfold maM mAsg
    rw [e3]
    rfl
  · rintro j dd s acc hj ⟨x4, h4, rfl, rfl⟩
    rw [List.getElem?_map] at hj
    obtain ⟨k, hk, rfl⟩ := Option.map_eq_some_iff.mp hj
    have hki := mem_upto.mp (List.mem_of_getElem? hk)
    have hjl := (List.getElem?_eq_some_iff.mp hk).1
    rw [upto_len] at hjl
    rw [Nat.zero_add]
    refine ⟨[some x, o1, some (.int (m : Int)), o3, some x4, o5, o6, some (.int k), o8, none, none], rfl, .inr ⟨[some x, o1, some (.int (m : Int)), o3, some x4, o5, o6, some (.int k), o8, none, none], d (cols.map fun c => c.getD k.toNat 0), _, rfl, maR_ok hc hl h4 hki, size_lt ?_, .fls (cols.map fL), .inr rfl, rfl, ?_⟩⟩
    · rw [List.length_map, List.length_take, List.length_map, upto_len]; omega
    · rw [List.take_succ, List.getElem?_map, hk, List.map_append]
      rfl
theorem machine_ok {n : Nat} {x : D} {ls : List Lt} (hne : ls ≠ []) (hl : ls.length ≤ 4) (h1 : 1 ≤ m) (hm : m ≤ 9) (h : Stm (n + 80) x) : ∃ (M : Mach) (x' : D), M.a = ls ∧ GoodM M m ∧ Stm n x' ∧ K.mf__law_machine [x, d ls, .int (m : Int)] = .ok (d M) [x'] := by
  obtain ⟨kd, x1, k0, k1, s1, e1⟩ := stm_next (n := n + 79) h (m := 4) (by decide)
  have hmul : ls.length * (m + 2) ≤ 4 * 11 := Nat.mul_le_mul hl (by omega)
  have t1 : mAsg (mCall [0] C.mf__law_next [.io 0, .ex (ofP (cP (.int 4)))]) (mgName 3) [some x, some (d ls), some (.int (m : Int)), none, none, none, none, none, none, none, none] = .nx [some x1, some (d ls), some (.int (m : Int)), some (.int kd), none, none, none, none, none, none, none] := by simp only [mSeq, mAsg, mgName, mgTup, mgCons, mgNil, mExpr, mRet, mRetN, mIf, mNext, mBrk, mCont, mRaise, mRaiseP, ofP, ofPT, two, twoB, one, chT, trT, caP, consP, nilP, vP, cP, tupP, lstP, mkT0, mkT1, mkT2, mkT3, mkT4, mkL0, mkL1, mkL2, mkL3, mkL4, mkL5, mkL6, mCons, nilA, mApp, m2, mNew2, mRd, mMv, mTest, mAndT, mOrT, mNotT, mAndV, mOrV, mNotV, mIfV, andV, orV, notV, mCall, mArgs, takeIo, putIo, R.bind, List.set_cons_succ, List.set_cons_zero, List.getElem?_cons_succ, List.getElem?_cons_zero, Option.join_some, Option.bind_some, Option.map_some, Option.bind, only, asB, truB_bl, truB_int, if_true, yesT, noO, partO, asI, onI, frz_int, frz_str, frz_bl, frz_non, frz_enc, imm_int, imm_bl, imm_str, imm_non, Enc.im, outsOf, imm_tup, imms_nil, imms_cons, dEq_ii, dNe_ii, dPl_int, dPlF_int, dLen_lst, dLen_tup, dLen_fls, dLen_d, putIo, List.length_map, onIc, dLe, dLt, dGt, dGe, dSub, decide_true, decide_false, Bool.not_true, Bool.not_false, Bool.false_eq_true, if_false, Bool.and_self, Bool.and_false, Bool.and_true, Bool.false_and, Bool.true_and, e1]
  have t2 : mAsg (mApp mkLst nilA) (mgName 4) [some x1, some (d ls), some (.int (m : Int)), some (.int kd), none, none, none, none, none, none, none] = .nx [some x1, some (d ls), some (.int (m : Int)), some (.int kd), some (.lst []), none, none, none, none, none, none] := by simp only [mSeq, mAsg, mgName, mgTup, mgCons, mgNil, mExpr, mRet, mRetN, mIf, mNext, mBrk, mCont, mRaise, mRaiseP, ofP, ofPT, two, twoB, one, chT, trT, caP, consP, nilP, vP, cP, tupP, lstP, mkT0, mkT1, mkT2, mkT3, mkT4, mkL0, mkL1, mkL2, mkL3, mkL4, mkL5, mkL6, mCons, nilA, mApp, m2, mNew2, mRd, mMv, mTest, mAndT, mOrT, mNotT, mAndV, mOrV, mNotV, mIfV, andV, orV, notV, mCall, mArgs, takeIo, putIo, R.bind, List.set_cons_succ, List.set_cons_zero, List.getElem?_cons_succ, List.getElem?_cons_zero, Option.join_some, Option.bind_some, Option.map_some, Option.bind, only, asB, truB_bl, truB_int, if_true, yesT, noO, partO, asI, onI, frz_int, frz_str, frz_bl, frz_non, frz_enc, imm_int, imm_bl, imm_str, imm_non, Enc.im, outsOf, imm_tup, imms_nil, imms_cons, dEq_ii, dNe_ii, dPl_int, dPlF_int, dLen_lst, dLen_tup, dLen_fls, dLen_d, putIo, List.length_map, onIc, dLe, dLt, dGt, dGe, dSub, decide_true, decide_false, Bool.not_true, Bool.not_false, Bool.false_eq_true, if_false, Bool.and_self, Bool.and_false, Bool.and_true, Bool.false_and, Bool.true_and]
  obtain ⟨x2, cds, cols, r5, r6, r8, hc, hcl, s2, e2⟩ := ma_loop (m := m) (ls0 := ls) k0 k1 h1 (by omega) ls (n + 20) x1 [] [] none none none (s1.less (by omega)) ⟨by simp [frzs], rfl, by simp⟩ (by simp; omega)
  rw [List.length_nil, Nat.zero_add] at hcl
  have t3 : mFor (mItems (mRd 1)) (mgName 5) (mSeq maP maI) [some x1, some (d ls), some (.int (m : Int)), some (.int kd), some (.lst []), none, none, none, none, none, none] = .nx [some x2, some (d ls), some (.int (m : Int)), some (.int kd), some (.lst cds), r5, r6, none, r8, none, none] := by
    unfold mFor
    rw [mItems_rd (xs := ls) rfl rfl]
    exact e2
  obtain ⟨x4, t4⟩ := maM_ok (x := x2) (o1 := some (d ls)) (o3 := some (.int kd)) (o5 := r5) (o6 := r6) (o8 := r8) (by omega) hc (by omega)
  obtain ⟨lets, x3, p3, s3, e3⟩ := pick (α := Int) (S := fun st o => [some st, some (d ls), some (.int (m : Int)), some (.int kd), some x4, r5, r6, o, r8, some (d ((upto m).map fun k => cols.map fun c => c.getD k.toNat 0)), none]) (vs := [7]) (g := mgName 7) (t := mTest (m2 (only dEq) (mCall [0] C.mf__law_next [.io 0, .ex (ofP (cP (.int 2)))]) (ofP (cP (.int 0))))) (m := mRd 7) 1 n (upto m) (by rw [upto_len]; omega) (fun _ _ _ => rfl) (fun _ _ _ => rfl) (fun _ _ _ => by simp only [mSeq, mAsg, mgName, mgTup, mgCons, mgNil, mExpr, mRet, mRetN, mIf, mNext, mBrk, mCont, mRaise, mRaiseP, ofP, ofPT, two, twoB, one, chT, trT, caP, consP, nilP, vP, cP, tupP, lstP, mkT0, mkT1, mkT2, mkT3, mkT4, mkL0, mkL1, mkL2, mkL3, mkL4, mkL5, mkL6, mCons, nilA, mApp, m2, mNew2, mRd, mMv, mTest, mAndT, mOrT, mNotT, mAndV, mOrV, mNotV, mIfV, andV, orV, notV, mCall, mArgs, takeIo, putIo, R.bind, List.set_cons_succ, List.set_cons_zero, List.getElem?_cons_succ, List.getElem?_cons_zero, Option.join_some, Option.bind_some, Option.map_some, Option.bind, only, asB, truB_bl, truB_int, if_true, yesT, noO, partO, asI, onI, frz_int, frz_str, frz_bl, frz_non, frz_enc, imm_int, imm_bl, imm_str, imm_non, Enc.im, outsOf])
    (fun k st y _ hk => by
      obtain ⟨b, st2, q1, e⟩ := next_eq0 (m := 2) hk (by decide)
      exact ⟨b, st2, q1, e _ _ rfl rfl⟩) (st := x2) (s2.less (by rw [upto_len]; omega))
  have e4 := mTuple_lst (mComp_of (mRange_int (a := mRd 2) (s := [some x2, some (d ls), some (.int (m : Int)), some (.int kd), some x4, r5, r6, none, r8, some (d ((upto m).map fun k => cols.map fun c => c.getD k.toNat 0)), none]) (s1 := [some x2, some (d ls), some (.int (m : Int)), some (.int kd), some x4, r5, r6, none, r8, some (d ((upto m).map fun k => cols.map fun c => c.getD k.toNat 0)), none]) (n := m) (by simp only [mSeq, mAsg, mgName, mgTup, mgCons, mgNil, mExpr, mRet, mRetN, mIf, mNext, mBrk, mCont, mRaise, mRaiseP, ofP, ofPT, two, twoB, one, chT, trT, caP, consP, nilP, vP, cP, tupP, lstP, mkT0, mkT1, mkT2, mkT3, mkT4, mkL0, mkL1, mkL2, mkL3, mkL4, mkL5, mkL6, mCons, nilA, mApp, m2, mNew2, mRd, mMv, mTest, mAndT, mOrT, mNotT, mAndV, mOrV, mNotV, mIfV, andV, orV, notV, mCall, mArgs, takeIo, putIo, R.bind, List.set_cons_succ, List.set_cons_zero, List.getElem?_cons_succ, List.getElem?_cons_zero, Option.join_some, Option.bind_some, Option.map_some, Option.bind, only, asB, truB_bl, truB_int, if_true, yesT, noO, partO, asI, onI, frz_int, frz_str, frz_bl, frz_non, frz_enc, imm_int, imm_bl, imm_str, imm_non, Enc.im, outsOf]) (by omega)) (vs := [7]) (g := mgName 7) (m := mRd 7) e3) (by rw [List.length_map]; have := p3.length_le; rw [upto_len] at this; omega)
  refine ⟨⟨ls, (upto m).map fun k => cols.map fun c => c.getD k.toNat 0, lets⟩, x3, rfl, ⟨h1, by omega, by rw [List.length_map, upto_len], fun r hr => ?_, fun r hr y hy => ?_, by show ls.length ≤ 100; omega, hne⟩, s3, ?_⟩
  · obtain ⟨k, _, rfl⟩ := List.mem_map.mp hr
    rw [List.length_map]; exact hcl
  · obtain ⟨k, hk, rfl⟩ := List.mem_map.mp hr
    obtain ⟨c, hcm, rfl⟩ := List.mem_map.mp hy
    have hk := mem_upto.mp hk
    have ho := hc.ok c hcm
    exact ho.2 _ (getD_mem (by omega))
  · unfold K.mf__law_machine mDef
    rw [ma_eq, if_pos (by rfl)]
    simp only [List.map_cons, List.map_nil, List.replicate, List.cons_append, List.nil_append]
    rw [seq_nx t1, seq_nx t2, seq_nx t3, seq_nx t4]
    have e5 : maL [some x2, some (d ls), some (.int (m : Int)), some (.int kd), some x4, r5, r6, none, r8, some (d ((upto m).map fun k => cols.map fun c => c.getD k.toNat 0)), none] = .ok (d lets) [some x3, some (d ls), some (.int (m : Int)), some (.int kd), some x4, r5, r6, none, r8, some (d ((upto m).map fun k => cols.map fun c => c.getD k.toNat 0)), none] := e4
    simp only [mSeq, mAsg, mgName, mgTup, mgCons, mgNil, mExpr, mRet, mRetN, mIf, mNext, mBrk, mCont, mRaise, mRaiseP, ofP, ofPT, two, twoB, one, chT, trT, caP, consP, nilP, vP, cP, tupP, lstP, mkT0, mkT1, mkT2, mkT3, mkT4, mkL0, mkL1, mkL2, mkL3, mkL4, mkL5, mkL6, mCons, nilA, mApp, m2, mNew2, mRd, mMv, mTest, mAndT, mOrT, mNotT, mAndV, mOrV, mNotV, mIfV, andV, orV, notV, mCall, mArgs, takeIo, putIo, R.bind, List.set_cons_succ, List.set_cons_zero, List.getElem?_cons_succ, List.getElem?_cons_zero, Option.join_some, Option.bind_some, Option.map_some, Option.bind, only, asB, truB_bl, truB_int, if_true, yesT, noO, partO, asI, onI, frz_int, frz_str, frz_bl, frz_non, frz_enc, imm_int, imm_bl, imm_str, imm_non, Enc.im, outsOf, e5]
    rfl
end
end Sim

namespace Sim
open PySem PySem.Spec PyProof.Rows L2
open Enc
theorem ix_lst {α : Type} [DecidableEq α] [Enc α] (xs : List α) (i : Int) (z : α) (h0 : 0 ≤ i) (h1 : i < xs.length) : dIx (.lst (xs.map d)) (.int i) = some (d (xs.getD i.toNat z)) := dIx_d xs i z h0 h1
theorem wq_ok : PyData.strOk ("q" : Str) = true := ok_ofS "q"
abbrev wq : Lt := .w ⟨"q", wq_ok⟩
theorem mulX3 (row : List Lt) (hne : row ≠ []) (hl : row.length ≤ 1000) : dMulX (d row) (.int 3) = some (d (List.replicate 3 row).flatten) := by
  have h : dRepT (d row) (.int 3) = some (d (List.replicate 3 row).flatten) := by
    show (if imms (row.map d) = true ∧ row.map d ≠ [] ∧ 2 ≤ (3 : Int) ∧ (3 : Int) ≤ 1000 ∧ (row.map d).length ≤ 1000 then some (D.tup (List.replicate (3 : Int).toNat (row.map d)).flatten) else none) = _
    rw [if_pos ⟨imms_enc row, by simpa using hne, by decide, by decide, by rw [List.length_map]; exact hl⟩]
    show some (D.tup (List.replicate 3 (row.map d)).flatten) = some (D.tup ((List.replicate 3 row).flatten.map d))
    congr 2
    simp [List.replicate]
  have h2 : (orD dMul dRepT) (d row) (.int 3) = some (d (List.replicate 3 row).flatten) := by
    unfold orD
    have : dMul (d row) (.int 3) = none := rfl
    rw [this]
    exact h
  unfold dMulX
  show orD (orD dMul dRepT) dRepOne (d row) (.int 3) = _
  rw [orD, h2]
section
variable {M : Mach} {m : Nat} {r t : Int} {row : List Lt}
theorem changed_ok {n : Nat} {x : D} (g : GoodM M m) (hne : row ≠ []) (hn : row.length ≤ 20) (t0 : 0 ≤ t) (t1 : t ≤ 1000) (h : Stm (n + 20) x) : ∃ (r' : Int) (row' : List Lt) (t' : Int) (x' : D), row'.length ≤ 100 ∧ Stm n x' ∧ K.mf__law_changed [x, d M, .int r, d row, .int t] = .ok (.tup [.int r', d row', .int t']) [x'] := by
  have kn : K.mf__law_next = C.mf__law_next := rfl
  have gp := g.pos
  have gle := g.le
  obtain ⟨kd, x1, k0, k1, s1, e1⟩ := stm_next (n := n + 19) h (m := 6) (by decide)
  have el : dLen [d M.b] = some (.int (m : Int)) := by rw [dLen_d, g.len]
  have ek := fun i => dEq_ii kd i
  unfold K.mf__law_changed mDef K.mb__law_changed
  rw [if_pos (by rfl)]
  simp only [List.map_cons, List.map_nil, List.replicate, List.cons_append, List.nil_append]
  have z0 : mAsg (mCall [0] K.mf__law_next [.io 0, .ex (ofP (cP (.int 6)))]) (mgName 5) [some x, some (d M), some (.int r), some (d row), some (.int t), none] = .nx [some x1, some (d M), some (.int r), some (d row), some (.int t), some (.int kd)] := by simp only [mSeq, mAsg, mgName, mgTup, mgCons, mgNil, mExpr, mRet, mRetN, mIf, mNext, mBrk, mCont, mRaise, mRaiseP, ofP, ofPT, two, twoB, one, chT, trT, caP, consP, nilP, vP, cP, tupP, lstP, mkT0, mkT1, mkT2, mkT3, mkT4, mkL0, mkL1, mkL2, mkL3, mkL4, mkL5, mkL6, mCons, nilA, mApp, m2, mNew2, mRd, mMv, mTest, mAndT, mOrT, mNotT, mAndV, mOrV, mNotV, mIfV, andV, orV, notV, mCall, mArgs, takeIo, putIo, R.bind, List.set_cons_succ, List.set_cons_zero, List.getElem?_cons_succ, List.getElem?_cons_zero, Option.join_some, Option.bind_some, Option.map_some, Option.bind, only, asB, truB_bl, truB_int, if_true, yesT, noO, partO, asI, onI, frz_int, frz_str, frz_bl, frz_non, frz_enc, imm_int, imm_bl, imm_str, imm_non, Enc.im, outsOf, imm_tup, imms_nil, imms_cons, dEq_ii, dNe_ii, dPl_int, dPlF_int, dLen_lst, dLen_tup, dLen_fls, dLen_d, putIo, List.length_map, onIc, dLe, dLt, dGt, dGe, dSub, decide_true, decide_false, Bool.not_true, Bool.not_false, Bool.false_eq_true, if_false, Bool.and_self, Bool.and_false, Bool.and_true, Bool.false_and, Bool.true_and, kn, e1]
  rw [seq_nx z0]
  by_cases h0 : kd = 0
  · subst h0
    obtain ⟨a, x2, a0, a1, s2, e2⟩ := stm_next (n := n + 18) s1 (m := (m : Int)) (by omega)
    obtain ⟨v, x3, v0, v1, s3, e3⟩ := stm_next (n := n + 17) s2 (m := 3) (by decide)
    have e4 : dIx (.lst [.int a, .int (-1), .int (m : Int)]) (.int v) = some (.int (([a, -1, (m : Int)] : List Int).getD v.toNat 0)) := ix_lst [a, -1, (m : Int)] v 0 v0 (by simpa using v1)
    generalize ([a, -1, (m : Int)] : List Int).getD v.toNat 0 = r' at e4
    have dn : dNeg (.int 1) = some (.int (-1)) := rfl
    refine ⟨r', row, t, x3, by omega, s3.less (by omega), ?_⟩
    simp only [mSeq, mAsg, mgName, mgTup, mgCons, mgNil, mExpr, mRet, mRetN, mIf, mNext, mBrk, mCont, mRaise, mRaiseP, ofP, ofPT, two, twoB, one, chT, trT, caP, consP, nilP, vP, cP, tupP, lstP, mkT0, mkT1, mkT2, mkT3, mkT4, mkL0, mkL1, mkL2, mkL3, mkL4, mkL5, mkL6, mCons, nilA, mApp, m2, mNew2, mRd, mMv, mTest, mAndT, mOrT, mNotT, mAndV, mOrV, mNotV, mIfV, andV, orV, notV, mCall, mArgs, takeIo, putIo, R.bind, List.set_cons_succ, List.set_cons_zero, List.getElem?_cons_succ, List.getElem?_cons_zero, Option.join_some, Option.bind_some, Option.map_some, Option.bind, only, asB, truB_bl, truB_int, if_true, yesT, noO, partO, asI, onI, frz_int, frz_str, frz_bl, frz_non, frz_enc, imm_int, imm_bl, imm_str, imm_non, Enc.im, outsOf, imm_tup, imms_nil, imms_cons, dEq_ii, dNe_ii, dPl_int, dPlF_int, dLen_lst, dLen_tup, dLen_fls, dLen_d, putIo, List.length_map, onIc, dLe, dLt, dGt, dGe, dSub, decide_true, decide_false, Bool.not_true, Bool.not_false, Bool.false_eq_true, if_false, Bool.and_self, Bool.and_false, Bool.and_true, Bool.false_and, Bool.true_and, kn, m_ix1, el, e2, dn, e3, e4]
  by_cases h1 : kd = 1
  · subst h1
    obtain ⟨v, x3, v0, v1, s3, e3⟩ := stm_next (n := n + 18) s1 (m := 9) (by decide)
    have e4 : dIx (.lst [.int (t - 1), .int (t + 1), .int (2 * t), .int (t / 2), .int 0, .int 1, .int (-t), .int (10 ^ 12), .int (3 * t)]) (.int v) = some (.int (([t - 1, t + 1, 2 * t, t / 2, 0, 1, -t, 10 ^ 12, 3 * t] : List Int).getD v.toNat 0)) := ix_lst [t - 1, t + 1, 2 * t, t / 2, 0, 1, -t, 10 ^ 12, 3 * t] v 0 v0 (by simpa using v1)
    generalize ([t - 1, t + 1, 2 * t, t / 2, 0, 1, -t, 10 ^ 12, 3 * t] : List Int).getD v.toNat 0 = t' at e4
    have lg := log2_small (n := t.natAbs) (k := 20) (by omega) (by decide)
    have m2' : dMul (.int 2) (.int t) = some (.int (2 * t)) := by
      have : cMul 2 t := by
        have e1 : (2 : Int).natAbs.log2 = 1 := by decide
        unfold cMul; omega
      show (if cMul 2 t then some (D.int (2 * t)) else none) = _
      rw [if_pos this]
    have m3' : dMul (.int 3) (.int t) = some (.int (3 * t)) := by
      have : cMul 3 t := by
        have e1 : (3 : Int).natAbs.log2 = 1 := by decide
        unfold cMul; omega
      show (if cMul 3 t then some (D.int (3 * t)) else none) = _
      rw [if_pos this]
    have dv : dDiv (.int t) (.int 2) = some (.int (t / 2)) := by
      have : cDiv t 2 := ⟨by decide, by decide⟩
      show (if cDiv t 2 then some (D.int (t / 2)) else none) = _
      rw [if_pos this]
    have pw : dPow (.int 10) (.int 12) = some (.int (10 ^ 12)) := by kernel_rfl
    have dn : dNeg (.int t) = some (.int (-t)) := rfl
    have mk9 : mkLst [.int (t - 1), .int (t + 1), .int (2 * t), .int (t / 2), .int 0, .int 1, .int (-t), .int (10 ^ 12), .int (3 * t)] = some (.lst [.int (t - 1), .int (t + 1), .int (2 * t), .int (t / 2), .int 0, .int 1, .int (-t), .int (10 ^ 12), .int (3 * t)]) := mkLst_le (by simp)
    have q0 : decide ((1 : Int) = 0) = false := rfl
    refine ⟨r, row, t', x3, by omega, s3.less (by omega), ?_⟩
    simp only [mSeq, mAsg, mgName, mgTup, mgCons, mgNil, mExpr, mRet, mRetN, mIf, mNext, mBrk, mCont, mRaise, mRaiseP, ofP, ofPT, two, twoB, one, chT, trT, caP, consP, nilP, vP, cP, tupP, lstP, mkT0, mkT1, mkT2, mkT3, mkT4, mkL0, mkL1, mkL2, mkL3, mkL4, mkL5, mkL6, mCons, nilA, mApp, m2, mNew2, mRd, mMv, mTest, mAndT, mOrT, mNotT, mAndV, mOrV, mNotV, mIfV, andV, orV, notV, mCall, mArgs, takeIo, putIo, R.bind, List.set_cons_succ, List.set_cons_zero, List.getElem?_cons_succ, List.getElem?_cons_zero, Option.join_some, Option.bind_some, Option.map_some, Option.bind, only, asB, truB_bl, truB_int, if_true, yesT, noO, partO, asI, onI, frz_int, frz_str, frz_bl, frz_non, frz_enc, imm_int, imm_bl, imm_str, imm_non, Enc.im, outsOf, imm_tup, imms_nil, imms_cons, dEq_ii, dNe_ii, dPl_int, dPlF_int, dLen_lst, dLen_tup, dLen_fls, dLen_d, putIo, List.length_map, onIc, dLe, dLt, dGt, dGe, dSub, decide_true, decide_false, Bool.not_true, Bool.not_false, Bool.false_eq_true, if_false, Bool.and_self, Bool.and_false, Bool.and_true, Bool.false_and, Bool.true_and, kn, q0, m2', m3', dv, pw, dn, mk9, e3, e4]
  by_cases h2 : kd = 2
  · subst h2
    obtain ⟨v, x3, v0, v1, s3, e3⟩ := stm_next (n := n + 18) s1 (m := 6) (by decide)
    have p1 := dPlF_d row row (by omega)
    have p2 : dPlF (d row) (.tup [.str "q"]) = some (d (row ++ [wq])) := dPlF_d row [wq] (by simp; omega)
    have sl : dSl (d row) (some 1) none = some (d (row.drop 1)) := dSl_from row 1
    have p3 : dPlF (.tup [.str "q"]) (d (row.drop 1)) = some (d ([wq] ++ row.drop 1)) := dPlF_d [wq] (row.drop 1) (by rw [List.length_drop]; simp; omega)
    have p4 := mulX3 row hne (by omega)
    have e4 : dIx (.lst [d (row ++ row), .tup [], d (row ++ [wq]), d ([wq] ++ row.drop 1), d (row.drop 1), d (List.replicate 3 row).flatten]) (.int v) = some (d (([row ++ row, [], row ++ [wq], [wq] ++ row.drop 1, row.drop 1, (List.replicate 3 row).flatten] : List (List Lt)).getD v.toNat [])) := ix_lst [row ++ row, [], row ++ [wq], [wq] ++ row.drop 1, row.drop 1, (List.replicate 3 row).flatten] v [] v0 (by simpa using v1)
    have hv : (([row ++ row, [], row ++ [wq], [wq] ++ row.drop 1, row.drop 1, (List.replicate 3 row).flatten] : List (List Lt)).getD v.toNat []).length ≤ 100 := by
      have hm := getD_mem (xs := ([row ++ row, [], row ++ [wq], [wq] ++ row.drop 1, row.drop 1, (List.replicate 3 row).flatten] : List (List Lt))) (i := v.toNat) (z := []) (by simp; omega)
      generalize ([row ++ row, [], row ++ [wq], [wq] ++ row.drop 1, row.drop 1, (List.replicate 3 row).flatten] : List (List Lt)).getD v.toNat [] = w at hm
      simp only [List.mem_cons, List.not_mem_nil, or_false] at hm
      rcases hm with rfl | rfl | rfl | rfl | rfl | rfl
      · rw [List.length_append]; omega
      · simp
      · rw [List.length_append, List.length_singleton]; omega
      · rw [List.length_append, List.length_singleton, List.length_drop]; omega
      · rw [List.length_drop]; omega
      · simp [List.replicate]; omega
    generalize ([row ++ row, [], row ++ [wq], [wq] ++ row.drop 1, row.drop 1, (List.replicate 3 row).flatten] : List (List Lt)).getD v.toNat [] = row' at e4 hv
    have q0 : decide ((2 : Int) = 0) = false := rfl
    have q1 : decide ((2 : Int) = 1) = false := rfl
    refine ⟨r, row', t, x3, hv, s3.less (by omega), ?_⟩
    simp only [mSeq, mAsg, mgName, mgTup, mgCons, mgNil, mExpr, mRet, mRetN, mIf, mNext, mBrk, mCont, mRaise, mRaiseP, ofP, ofPT, two, twoB, one, chT, trT, caP, consP, nilP, vP, cP, tupP, lstP, mkT0, mkT1, mkT2, mkT3, mkT4, mkL0, mkL1, mkL2, mkL3, mkL4, mkL5, mkL6, mCons, nilA, mApp, m2, mNew2, mRd, mMv, mTest, mAndT, mOrT, mNotT, mAndV, mOrV, mNotV, mIfV, andV, orV, notV, mCall, mArgs, takeIo, putIo, R.bind, List.set_cons_succ, List.set_cons_zero, List.getElem?_cons_succ, List.getElem?_cons_zero, Option.join_some, Option.bind_some, Option.map_some, Option.bind, only, asB, truB_bl, truB_int, if_true, yesT, noO, partO, asI, onI, frz_int, frz_str, frz_bl, frz_non, frz_enc, imm_int, imm_bl, imm_str, imm_non, Enc.im, outsOf, imm_tup, imms_nil, imms_cons, dEq_ii, dNe_ii, dPl_int, dPlF_int, dLen_lst, dLen_tup, dLen_fls, dLen_d, putIo, List.length_map, onIc, dLe, dLt, dGt, dGe, dSub, decide_true, decide_false, Bool.not_true, Bool.not_false, Bool.false_eq_true, if_false, Bool.and_self, Bool.and_false, Bool.and_true, Bool.false_and, Bool.true_and, kn, q0, q1, mNew2, mSl, p1, p2, sl, p3, p4, e3, e4]
  by_cases h3 : kd = 3
  · subst h3
    obtain ⟨v, x2, v0, v1, s2, e2⟩ := stm_next (n := n + 18) s1 (m := 6) (by decide)
    obtain ⟨k, hk⟩ : ∃ k : Nat, 1 + v = (k : Int) := ⟨(1 + v).toNat, by omega⟩
    obtain ⟨row', x3, l3, _, s3, e3⟩ := lrow_ok (n := n) (x := x2) (ls := M.a) g.na g.la (k := k) (by omega) (s2.less (by omega))
    have q0 : decide ((3 : Int) = 0) = false := rfl
    have q1 : decide ((3 : Int) = 1) = false := rfl
    have q2 : decide ((3 : Int) = 2) = false := rfl
    refine ⟨r, row', t, x3, by omega, s3, ?_⟩
    simp only [mSeq, mAsg, mgName, mgTup, mgCons, mgNil, mExpr, mRet, mRetN, mIf, mNext, mBrk, mCont, mRaise, mRaiseP, ofP, ofPT, two, twoB, one, chT, trT, caP, consP, nilP, vP, cP, tupP, lstP, mkT0, mkT1, mkT2, mkT3, mkT4, mkL0, mkL1, mkL2, mkL3, mkL4, mkL5, mkL6, mCons, nilA, mApp, m2, mNew2, mRd, mMv, mTest, mAndT, mOrT, mNotT, mAndV, mOrV, mNotV, mIfV, andV, orV, notV, mCall, mArgs, takeIo, putIo, R.bind, List.set_cons_succ, List.set_cons_zero, List.getElem?_cons_succ, List.getElem?_cons_zero, Option.join_some, Option.bind_some, Option.map_some, Option.bind, only, asB, truB_bl, truB_int, if_true, yesT, noO, partO, asI, onI, frz_int, frz_str, frz_bl, frz_non, frz_enc, imm_int, imm_bl, imm_str, imm_non, Enc.im, outsOf, imm_tup, imms_nil, imms_cons, dEq_ii, dNe_ii, dPl_int, dPlF_int, dLen_lst, dLen_tup, dLen_fls, dLen_d, putIo, List.length_map, onIc, dLe, dLt, dGt, dGe, dSub, decide_true, decide_false, Bool.not_true, Bool.not_false, Bool.false_eq_true, if_false, Bool.and_self, Bool.and_false, Bool.and_true, Bool.false_and, Bool.true_and, kn, q0, q1, q2, m_ix0, e2, dPlF_int, hk, e3]
  by_cases h4 : kd = 4
  · subst h4
    obtain ⟨v, x2, v0, v1, s2, e2⟩ := stm_next (n := n + 18) s1 (m := 2) (by decide)
    have dn : dNeg (.int 1) = some (.int (-1)) := rfl
    have ds : dSub (.int (-1)) (.int v) = some (.int (-1 - v)) := rfl
    have q0 : decide ((4 : Int) = 0) = false := rfl
    have q1 : decide ((4 : Int) = 1) = false := rfl
    have q2 : decide ((4 : Int) = 2) = false := rfl
    have q3 : decide ((4 : Int) = 3) = false := rfl
    refine ⟨-1 - v, [], 0, x2, by simp, s2.less (by omega), ?_⟩
    simp only [mSeq, mAsg, mgName, mgTup, mgCons, mgNil, mExpr, mRet, mRetN, mIf, mNext, mBrk, mCont, mRaise, mRaiseP, ofP, ofPT, two, twoB, one, chT, trT, caP, consP, nilP, vP, cP, tupP, lstP, mkT0, mkT1, mkT2, mkT3, mkT4, mkL0, mkL1, mkL2, mkL3, mkL4, mkL5, mkL6, mCons, nilA, mApp, m2, mNew2, mRd, mMv, mTest, mAndT, mOrT, mNotT, mAndV, mOrV, mNotV, mIfV, andV, orV, notV, mCall, mArgs, takeIo, putIo, R.bind, List.set_cons_succ, List.set_cons_zero, List.getElem?_cons_succ, List.getElem?_cons_zero, Option.join_some, Option.bind_some, Option.map_some, Option.bind, only, asB, truB_bl, truB_int, if_true, yesT, noO, partO, asI, onI, frz_int, frz_str, frz_bl, frz_non, frz_enc, imm_int, imm_bl, imm_str, imm_non, Enc.im, outsOf, imm_tup, imms_nil, imms_cons, dEq_ii, dNe_ii, dPl_int, dPlF_int, dLen_lst, dLen_tup, dLen_fls, dLen_d, putIo, List.length_map, onIc, dLe, dLt, dGt, dGe, dSub, decide_true, decide_false, Bool.not_true, Bool.not_false, Bool.false_eq_true, if_false, Bool.and_self, Bool.and_false, Bool.and_true, Bool.false_and, Bool.true_and, kn, q0, q1, q2, q3, dn, e2, ds]
    rfl
  · have h5 : kd = 5 := by omega
    subst h5
    have q0 : decide ((5 : Int) = 0) = false := rfl
    have q1 : decide ((5 : Int) = 1) = false := rfl
    have q2 : decide ((5 : Int) = 2) = false := rfl
    have q3 : decide ((5 : Int) = 3) = false := rfl
    have q4 : decide ((5 : Int) = 4) = false := rfl
    refine ⟨r, row, t, x1, by omega, s1.less (by omega), ?_⟩
    simp only [mSeq, mAsg, mgName, mgTup, mgCons, mgNil, mExpr, mRet, mRetN, mIf, mNext, mBrk, mCont, mRaise, mRaiseP, ofP, ofPT, two, twoB, one, chT, trT, caP, consP, nilP, vP, cP, tupP, lstP, mkT0, mkT1, mkT2, mkT3, mkT4, mkL0, mkL1, mkL2, mkL3, mkL4, mkL5, mkL6, mCons, nilA, mApp, m2, mNew2, mRd, mMv, mTest, mAndT, mOrT, mNotT, mAndV, mOrV, mNotV, mIfV, andV, orV, notV, mCall, mArgs, takeIo, putIo, R.bind, List.set_cons_succ, List.set_cons_zero, List.getElem?_cons_succ, List.getElem?_cons_zero, Option.join_some, Option.bind_some, Option.map_some, Option.bind, only, asB, truB_bl, truB_int, if_true, yesT, noO, partO, asI, onI, frz_int, frz_str, frz_bl, frz_non, frz_enc, imm_int, imm_bl, imm_str, imm_non, Enc.im, outsOf, imm_tup, imms_nil, imms_cons, dEq_ii, dNe_ii, dPl_int, dPlF_int, dLen_lst, dLen_tup, dLen_fls, dLen_d, putIo, List.length_map, onIc, dLe, dLt, dGt, dGe, dSub, decide_true, decide_false, Bool.not_true, Bool.not_false, Bool.false_eq_true, if_false, Bool.and_self, Bool.and_false, Bool.and_true, Bool.false_and, Bool.true_and, q0, q1, q2, q3, q4]
end
end Sim

namespace Sim
open PySem PySem.Spec PyProof.Rows L2
open Enc
theorem wa_ok : PyData.strOk ("a" : Str) = true := ok_ofS "a"
theorem wb_ok : PyData.strOk ("b" : Str) = true := ok_ofS "b"
theorem waa_ok : PyData.strOk ("aa" : Str) = true := ok_ofS "aa"
theorem wc_ok : PyData.strOk ("c" : Str) = true := ok_ofS "c"
theorem won_ok : PyData.strOk ("on" : Str) = true := ok_ofS "on"
def four : List (List Lt) := [[.n 0, .n 1, .n 2], [.w ⟨"a", wa_ok⟩, .w ⟨"b", wb_ok⟩, .w ⟨"aa", waa_ok⟩, .w ⟨"c", wc_ok⟩], [.s [], .s [⟨"on", won_ok⟩]], [.n 7]]
theorem four_len {ls : List Lt} (h : ls ∈ four) : ls ≠ [] ∧ ls.length ≤ 4 := by
  unfold four at h
  simp only [List.mem_cons, List.not_mem_nil, or_false] at h
  rcases h with rfl | rfl | rfl | rfl <;> exact ⟨by simp, by simp⟩
theorem same_str (v : Str) (h : v = "refused" ∨ v = "none" ∨ v = "bad") : dNe (.str v) (.str v) = some (.bl false) := by
  rcases h with rfl | rfl | rfl <;> kernel_rfl
section
variable {M : Mach} {m : Nat}
theorem verdict_in (r t : Int) (row : List Lt) : verdict M m r row t = "refused" ∨ verdict M m r row t = "none" ∨ verdict M m r row t = "bad" := by
  unfold verdict
  split
  · exact .inl rfl
  · split
    · exact .inr (.inl rfl)
    · exact .inr (.inr rfl)
theorem times_le {dd : List Int} {r : Int} : 0 ≤ Times dd r ∧ Times dd r ≤ (dd.length : Int) := by
  unfold Times
  split
  · rename_i k hk
    have := mem_rg.mp (List.mem_of_find?_eq_some hk)
    omega
  · omega
abbrev S38 (a0 : Option D) (x : D) (a2 a3 : Option D) (M : Mach) (row : List Lt) (dd : List Int) (a7 a8 a9 a10 : Option D) : Sl := [a0, some x, a2, a3, some (d M), some (d row), some (d dd), a7, a8, a9, a10]
theorem lg_ok {n : Nat} {x : D} {a0 a2 a3 a7 a9 a10 : Option D} {row : List Lt} {rm : Int} (g : GoodM M m) (hne : row ≠ []) (hn : row.length ≤ 20) (hl : ∀ l ∈ row, l ∈ M.a) (hr : 0 ≤ rm ∧ rm < (m : Int)) (h : Stm (n + 20) x) : ∃ x' b10, Stm n x' ∧ K.lgB (S38 a0 x a2 a3 M row (dl M m row) a7 (some (.int rm)) a9 a10) = .nx (S38 a0 x' a2 a3 M row (dl M m row) a7 (some (.int rm)) a9 b10) := by
  have gle := g.le
  have et := law_times_ok (good_dl g hl) hr
  have tl := times_le (dd := dl M m row) (r := rm)
  rw [dl_len] at tl
  obtain ⟨r', row', t', x', l', s', ec⟩ := changed_ok (n := n) (x := x) (M := M) (m := m) (r := rm) (row := row) (t := Times (dl M m row) rm) g hne hn tl.1 (by omega) h
  refine ⟨x', some (.tup [.int r', d row', .int t']), s', ?_⟩
  have z1 : K.lg1 (S38 a0 x a2 a3 M row (dl M m row) a7 (some (.int rm)) a9 a10) = .nx (S38 a0 x' a2 a3 M row (dl M m row) a7 (some (.int rm)) a9 (some (.tup [.int r', d row', .int t']))) := by
    unfold K.lg1
    simp only [mSeq, mAsg, mgName, mgTup, mgCons, mgNil, mExpr, mRet, mRetN, mIf, mNext, mBrk, mCont, mRaise, mRaiseP, ofP, ofPT, two, twoB, one, chT, trT, caP, consP, nilP, vP, cP, tupP, lstP, mkT0, mkT1, mkT2, mkT3, mkT4, mkL0, mkL1, mkL2, mkL3, mkL4, mkL5, mkL6, mCons, nilA, mApp, m2, mNew2, mRd, mMv, mTest, mAndT, mOrT, mNotT, mAndV, mOrV, mNotV, mIfV, andV, orV, notV, mCall, mArgs, takeIo, putIo, R.bind, List.set_cons_succ, List.set_cons_zero, List.getElem?_cons_succ, List.getElem?_cons_zero, Option.join_some, Option.bind_some, Option.map_some, Option.bind, only, asB, truB_bl, truB_int, if_true, yesT, noO, partO, asI, onI, frz_int, frz_str, frz_bl, frz_non, frz_enc, imm_int, imm_bl, imm_str, imm_non, Enc.im, outsOf, imm_tup, imms_nil, imms_cons, dEq_ii, dNe_ii, dPl_int, dPlF_int, dLen_lst, dLen_tup, dLen_fls, dLen_d, putIo, List.length_map, onIc, dLe, dLt, dGt, dGe, dSub, decide_true, decide_false, Bool.not_true, Bool.not_false, Bool.false_eq_true, if_false, Bool.and_self, Bool.and_false, Bool.and_true, Bool.false_and, Bool.true_and, et, ec]
  have i0 : dIx (.tup [.int r', d row', .int t']) (.int 0) = some (.int r') := rfl
  have i1 : dIx (.tup [.int r', d row', .int t']) (.int 1) = some (d row') := rfl
  have i2 : dIx (.tup [.int r', d row', .int t']) (.int 2) = some (.int t') := rfl
  have e1 := told_ok (r := r') (t := t') (row := row') g
  have e2 := due_ok (r := r') (t := t') (row := row') g (by omega)
  have e3 := same_str _ (verdict_in (M := M) (m := m) r' t' row')
  generalize verdict M m r' row' t' = v at e1 e2 e3
  have z2 : K.lg2 (S38 a0 x' a2 a3 M row (dl M m row) a7 (some (.int rm)) a9 (some (.tup [.int r', d row', .int t']))) = .nx (S38 a0 x' a2 a3 M row (dl M m row) a7 (some (.int rm)) a9 (some (.tup [.int r', d row', .int t']))) := by
    unfold K.lg2
    simp only [mSeq, mAsg, mgName, mgTup, mgCons, mgNil, mExpr, mRet, mRetN, mIf, mNext, mBrk, mCont, mRaise, mRaiseP, ofP, ofPT, two, twoB, one, chT, trT, caP, consP, nilP, vP, cP, tupP, lstP, mkT0, mkT1, mkT2, mkT3, mkT4, mkL0, mkL1, mkL2, mkL3, mkL4, mkL5, mkL6, mCons, nilA, mApp, m2, mNew2, mRd, mMv, mTest, mAndT, mOrT, mNotT, mAndV, mOrV, mNotV, mIfV, andV, orV, notV, mCall, mArgs, takeIo, putIo, R.bind, List.set_cons_succ, List.set_cons_zero, List.getElem?_cons_succ, List.getElem?_cons_zero, Option.join_some, Option.bind_some, Option.map_some, Option.bind, only, asB, truB_bl, truB_int, if_true, yesT, noO, partO, asI, onI, frz_int, frz_str, frz_bl, frz_non, frz_enc, imm_int, imm_bl, imm_str, imm_non, Enc.im, outsOf, imm_tup, imms_nil, imms_cons, dEq_ii, dNe_ii, dPl_int, dPlF_int, dLen_lst, dLen_tup, dLen_fls, dLen_d, putIo, List.length_map, onIc, dLe, dLt, dGt, dGe, dSub, decide_true, decide_false, Bool.not_true, Bool.not_false, Bool.false_eq_true, if_false, Bool.and_self, Bool.and_false, Bool.and_true, Bool.false_and, Bool.true_and, i0, i1, i2, e1, e2, e3]
  unfold K.lgB
  rw [seq_nx z1, z2]
theorem lf8_ok {n : Nat} {x : D} {a0 a2 a3 a7 a9 a10 : Option D} {row : List Lt} {rm : Int} (g : GoodM M m) (hne : row ≠ []) (hn : row.length ≤ 20) (hl : ∀ l ∈ row, l ∈ M.a) (hr : 0 ≤ rm ∧ rm < (m : Int)) (h : Stm (n + 120) x) : ∃ x' b9 b10, Stm n x' ∧ K.lf8 (S38 a0 x a2 a3 M row (dl M m row) a7 (some (.int rm)) a9 a10) = .nx (S38 a0 x' a2 a3 M row (dl M m row) a7 (some (.int rm)) b9 b10) := by
  rw [K.lg_eq, mFor_rangeC (by decide)]
  refine loop_range (P := fun q => ∃ x' b9 b10, Stm n x' ∧ q = .nx (S38 a0 x' a2 a3 M row (dl M m row) a7 (some (.int rm)) b9 b10)) (fun i s => ∃ x' b9 b10, Stm (n + (6 - i) * 20) x' ∧ s = S38 a0 x' a2 a3 M row (dl M m row) a7 (some (.int rm)) b9 b10) ?_ ?_ ⟨x, a9, a10, h, rfl⟩
  · rintro i s hi ⟨x', b9, b10, q, rfl⟩
    have hi6 : i < 6 := hi
    refine ⟨_, rfl, ?_⟩
    obtain ⟨x2, c10, s2, e⟩ := lg_ok (n := n + (6 - (i + 1)) * 20) (x := x') (a0 := a0) (a2 := a2) (a3 := a3) (a7 := a7) (a9 := some (.int (0 + (i : Int)))) (a10 := b10) g hne hn hl hr (q.less (by omega))
    simp only [mgName, List.set_cons_succ, List.set_cons_zero]
    rw [e]
    exact ⟨x2, _, _, s2, rfl⟩
  · rintro s ⟨x', b9, b10, q, rfl⟩
    exact ⟨x', b9, b10, q.less (by omega), rfl⟩
theorem lf5_ok {x : D} {a0 a2 a3 a7 a8 a9 a10 : Option D} {row : List Lt} (g : GoodM M m) (hl : ∀ l ∈ row, l ∈ M.a) : ∃ (rs : List Int) (o8 : Option D), (∀ r ∈ rs, (0 ≤ r ∧ r < (m : Int)) ∧ 1 < Times (dl M m row) r) ∧ K.lf5 (S38 a0 x a2 a3 M row (dl M m row) a7 a8 a9 a10) = .nx (S38 a0 x a2 a3 M row (dl M m row) (some (.lst (rs.map d))) o8 a9 a10) := by
  have gle := g.le
  have key := comp_pure (f := (d : Int → D)) (vs := [8]) (g := mgName 8) (t := mTest (m2 (only dGt) (mCall [] K.mf__law_times [.ex (mRd 6), .ex (mRd 8)]) (ofP (cP (.int 1))))) (m := mRd 8) (s := S38 a0 x a2 a3 M row (dl M m row) a7 none a9 a10) (fun r => decide (1 < Times (dl M m row) r)) d (upto m) [] (fun r hr => by
    have et := law_times_ok (good_dl g hl) (mem_upto.mp hr)
    refine ⟨S38 a0 x a2 a3 M row (dl M m row) a7 (some (d r)) a9 a10, rfl, ?_, rfl, fun _ => ⟨S38 a0 x a2 a3 M row (dl M m row) a7 (some (d r)) a9 a10, by simp only [mSeq, mAsg, mgName, mgTup, mgCons, mgNil, mExpr, mRet, mRetN, mIf, mNext, mBrk, mCont, mRaise, mRaiseP, ofP, ofPT, two, twoB, one, chT, trT, caP, consP, nilP, vP, cP, tupP, lstP, mkT0, mkT1, mkT2, mkT3, mkT4, mkL0, mkL1, mkL2, mkL3, mkL4, mkL5, mkL6, mCons, nilA, mApp, m2, mNew2, mRd, mMv, mTest, mAndT, mOrT, mNotT, mAndV, mOrV, mNotV, mIfV, andV, orV, notV, mCall, mArgs, takeIo, putIo, R.bind, List.set_cons_succ, List.set_cons_zero, List.getElem?_cons_succ, List.getElem?_cons_zero, Option.join_some, Option.bind_some, Option.map_some, Option.bind, only, asB, truB_bl, truB_int, if_true, yesT, noO, partO, asI, onI, frz_int, frz_str, frz_bl, frz_non, frz_enc, imm_int, imm_bl, imm_str, imm_non, Enc.im, outsOf, imm_tup, imms_nil, imms_cons, dEq_ii, dNe_ii, dPl_int, dPlF_int, dLen_lst, dLen_tup, dLen_fls, dLen_d, putIo, List.length_map, onIc, dLe, dLt, dGt, dGe, dSub, decide_true, decide_false, Bool.not_true, Bool.not_false, Bool.false_eq_true, if_false, Bool.and_self, Bool.and_false, Bool.and_true, Bool.false_and, Bool.true_and], rfl⟩⟩
    by_cases hq : 1 < Times (dl M m row) r
    · simp only [mSeq, mAsg, mgName, mgTup, mgCons, mgNil, mExpr, mRet, mRetN, mIf, mNext, mBrk, mCont, mRaise, mRaiseP, ofP, ofPT, two, twoB, one, chT, trT, caP, consP, nilP, vP, cP, tupP, lstP, mkT0, mkT1, mkT2, mkT3, mkT4, mkL0, mkL1, mkL2, mkL3, mkL4, mkL5, mkL6, mCons, nilA, mApp, m2, mNew2, mRd, mMv, mTest, mAndT, mOrT, mNotT, mAndV, mOrV, mNotV, mIfV, andV, orV, notV, mCall, mArgs, takeIo, putIo, R.bind, List.set_cons_succ, List.set_cons_zero, List.getElem?_cons_succ, List.getElem?_cons_zero, Option.join_some, Option.bind_some, Option.map_some, Option.bind, only, asB, truB_bl, truB_int, if_true, yesT, noO, partO, asI, onI, frz_int, frz_str, frz_bl, frz_non, frz_enc, imm_int, imm_bl, imm_str, imm_non, Enc.im, outsOf, imm_tup, imms_nil, imms_cons, dEq_ii, dNe_ii, dPl_int, dPlF_int, dLen_lst, dLen_tup, dLen_fls, dLen_d, putIo, List.length_map, onIc, dLe, dLt, dGt, dGe, dSub, decide_true, decide_false, Bool.not_true, Bool.not_false, Bool.false_eq_true, if_false, Bool.and_self, Bool.and_false, Bool.and_true, Bool.false_and, Bool.true_and, d_int, et, hq]
    · simp only [mSeq, mAsg, mgName, mgTup, mgCons, mgNil, mExpr, mRet, mRetN, mIf, mNext, mBrk, mCont, mRaise, mRaiseP, ofP, ofPT, two, twoB, one, chT, trT, caP, consP, nilP, vP, cP, tupP, lstP, mkT0, mkT1, mkT2, mkT3, mkT4, mkL0, mkL1, mkL2, mkL3, mkL4, mkL5, mkL6, mCons, nilA, mApp, m2, mNew2, mRd, mMv, mTest, mAndT, mOrT, mNotT, mAndV, mOrV, mNotV, mIfV, andV, orV, notV, mCall, mArgs, takeIo, putIo, R.bind, List.set_cons_succ, List.set_cons_zero, List.getElem?_cons_succ, List.getElem?_cons_zero, Option.join_some, Option.bind_some, Option.map_some, Option.bind, only, asB, truB_bl, truB_int, if_true, yesT, noO, partO, asI, onI, frz_int, frz_str, frz_bl, frz_non, frz_enc, imm_int, imm_bl, imm_str, imm_non, Enc.im, outsOf, imm_tup, imms_nil, imms_cons, dEq_ii, dNe_ii, dPl_int, dPlF_int, dLen_lst, dLen_tup, dLen_fls, dLen_d, putIo, List.length_map, onIc, dLe, dLt, dGt, dGe, dSub, decide_true, decide_false, Bool.not_true, Bool.not_false, Bool.false_eq_true, if_false, Bool.and_self, Bool.and_false, Bool.and_true, Bool.false_and, Bool.true_and, d_int, et, hq]) (by rw [upto_len]; simp; omega)
  rw [List.nil_append] at key
  have el : dLen [d (dl M m row)] = some (.int (m : Int)) := by rw [dLen_d, dl_len]
  have e3 := mComp_of (mRange_int (a := ofP (caP dLen (consP (vP 6) nilP))) (s := S38 a0 x a2 a3 M row (dl M m row) a7 a8 a9 a10) (s1 := S38 a0 x a2 a3 M row (dl M m row) a7 a8 a9 a10) (n := m) (by simp only [mSeq, mAsg, mgName, mgTup, mgCons, mgNil, mExpr, mRet, mRetN, mIf, mNext, mBrk, mCont, mRaise, mRaiseP, ofP, ofPT, two, twoB, one, chT, trT, caP, consP, nilP, vP, cP, tupP, lstP, mkT0, mkT1, mkT2, mkT3, mkT4, mkL0, mkL1, mkL2, mkL3, mkL4, mkL5, mkL6, mCons, nilA, mApp, m2, mNew2, mRd, mMv, mTest, mAndT, mOrT, mNotT, mAndV, mOrV, mNotV, mIfV, andV, orV, notV, mCall, mArgs, takeIo, putIo, R.bind, List.set_cons_succ, List.set_cons_zero, List.getElem?_cons_succ, List.getElem?_cons_zero, Option.join_some, Option.bind_some, Option.map_some, Option.bind, only, asB, truB_bl, truB_int, if_true, yesT, noO, partO, asI, onI, frz_int, frz_str, frz_bl, frz_non, frz_enc, imm_int, imm_bl, imm_str, imm_non, Enc.im, outsOf, imm_tup, imms_nil, imms_cons, dEq_ii, dNe_ii, dPl_int, dPlF_int, dLen_lst, dLen_tup, dLen_fls, dLen_d, putIo, List.length_map, onIc, dLe, dLt, dGt, dGe, dSub, decide_true, decide_false, Bool.not_true, Bool.not_false, Bool.false_eq_true, if_false, Bool.and_self, Bool.and_false, Bool.and_true, Bool.false_and, Bool.true_and, el]) (by omega)) (vs := [8]) (g := mgName 8) (m := mRd 8) key
  have hb : ∃ o8, backS (S38 a0 x a2 a3 M row (dl M m row) a7 a8 a9 a10) (S38 a0 x a2 a3 M row (dl M m row) a7 none a9 a10) [8] = S38 a0 x a2 a3 M row (dl M m row) a7 o8 a9 a10 := by
    cases a8 with
    | none => exact ⟨none, rfl⟩
    | some y =>
      show ∃ o8, (if imm y = true then _ else _) = _
      by_cases hi : imm y = true
      · rw [if_pos hi]; exact ⟨some y, rfl⟩
      · rw [if_neg hi]; exact ⟨none, rfl⟩
  obtain ⟨o8, hb⟩ := hb
  rw [hb] at e3
  refine ⟨(upto m).filter fun r => decide (1 < Times (dl M m row) r), o8, fun r hr => ?_, ?_⟩
  · rw [List.mem_filter, mem_upto, decide_eq_true_eq] at hr
    exact hr
  · unfold K.lf5 mAsg
    rw [e3]
    rfl
theorem lf7_ok {n : Nat} {x : D} {a0 a2 a3 a9 a10 : Option D} {row : List Lt} {rs : List Int} {rm : Int} (g : GoodM M m) (hne : row ≠ []) (hl : ∀ l ∈ row, l ∈ M.a) (hrs : ∀ r ∈ rs, (0 ≤ r ∧ r < (m : Int)) ∧ 1 < Times (dl M m row) r) (hr : 0 ≤ rm ∧ rm < (m : Int)) (h : Stm (n + 1) x) : ∃ (x' : D) (rm' : Int), (0 ≤ rm' ∧ rm' < (m : Int)) ∧ Stm n x' ∧ K.lf7 (S38 a0 x a2 a3 M row (dl M m row) (some (.lst (rs.map d))) (some (.int rm)) a9 a10) = .nx (S38 a0 x' a2 a3 M row (dl M m row) (some (.lst (rs.map d))) (some (.int rm')) a9 a10) := by
  have kn : K.mf__law_next = C.mf__law_next := rfl
  by_cases hz : (0 : Int) < (rs.length : Nat)
  · obtain ⟨v, x', v0, v1, s1, en⟩ := stm_next h hz
    have hm := hrs _ (getD_mem (xs := rs) (i := v.toNat) (z := 0) (by omega))
    have e4 : dIx (.lst (rs.map d)) (.int v) = some (.int (rs.getD v.toNat 0)) := ix_lst rs v 0 v0 v1
    generalize rs.getD v.toNat 0 = rm' at hm e4
    have et := law_times_ok (good_dl g hl) hm.1
    have ev : verdict M m rm' row (Times (dl M m row) rm') = "none" := by
      unfold verdict
      rw [if_neg (fun q => by
        rcases q with q | q | q
        · exact q hm.1
        · exact hne q
        · exact q hl), if_pos ⟨by have := hm.2; omega, rfl⟩]
    have e1 := told_ok (r := rm') (t := Times (dl M m row) rm') (row := row) g
    rw [ev] at e1
    have e3 := same_str "none" (.inr (.inl rfl))
    refine ⟨x', rm', hm.1, s1, ?_⟩
    unfold K.lf7
    simp only [mSeq, mAsg, mgName, mgTup, mgCons, mgNil, mExpr, mRet, mRetN, mIf, mNext, mBrk, mCont, mRaise, mRaiseP, ofP, ofPT, two, twoB, one, chT, trT, caP, consP, nilP, vP, cP, tupP, lstP, mkT0, mkT1, mkT2, mkT3, mkT4, mkL0, mkL1, mkL2, mkL3, mkL4, mkL5, mkL6, mCons, nilA, mApp, m2, mNew2, mRd, mMv, mTest, mAndT, mOrT, mNotT, mAndV, mOrV, mNotV, mIfV, andV, orV, notV, mCall, mArgs, takeIo, putIo, R.bind, List.set_cons_succ, List.set_cons_zero, List.getElem?_cons_succ, List.getElem?_cons_zero, Option.join_some, Option.bind_some, Option.map_some, Option.bind, only, asB, truB_bl, truB_int, if_true, yesT, noO, partO, asI, onI, frz_int, frz_str, frz_bl, frz_non, frz_enc, imm_int, imm_bl, imm_str, imm_non, Enc.im, outsOf, imm_tup, imms_nil, imms_cons, dEq_ii, dNe_ii, dPl_int, dPlF_int, dLen_lst, dLen_tup, dLen_fls, dLen_d, putIo, List.length_map, onIc, dLe, dLt, dGt, dGe, dSub, decide_true, decide_false, Bool.not_true, Bool.not_false, Bool.false_eq_true, if_false, Bool.and_self, Bool.and_false, Bool.and_true, Bool.false_and, Bool.true_and, kn, hz, mIxv, mIxV, en, e4, et, e1, e3]
  · refine ⟨x, rm, hr, h.less (by omega), ?_⟩
    unfold K.lf7
    simp only [mSeq, mAsg, mgName, mgTup, mgCons, mgNil, mExpr, mRet, mRetN, mIf, mNext, mBrk, mCont, mRaise, mRaiseP, ofP, ofPT, two, twoB, one, chT, trT, caP, consP, nilP, vP, cP, tupP, lstP, mkT0, mkT1, mkT2, mkT3, mkT4, mkL0, mkL1, mkL2, mkL3, mkL4, mkL5, mkL6, mCons, nilA, mApp, m2, mNew2, mRd, mMv, mTest, mAndT, mOrT, mNotT, mAndV, mOrV, mNotV, mIfV, andV, orV, notV, mCall, mArgs, takeIo, putIo, R.bind, List.set_cons_succ, List.set_cons_zero, List.getElem?_cons_succ, List.getElem?_cons_zero, Option.join_some, Option.bind_some, Option.map_some, Option.bind, only, asB, truB_bl, truB_int, if_true, yesT, noO, partO, asI, onI, frz_int, frz_str, frz_bl, frz_non, frz_enc, imm_int, imm_bl, imm_str, imm_non, Enc.im, outsOf, imm_tup, imms_nil, imms_cons, dEq_ii, dNe_ii, dPl_int, dPlF_int, dLen_lst, dLen_tup, dLen_fls, dLen_d, putIo, List.length_map, onIc, dLe, dLt, dGt, dGe, dSub, decide_true, decide_false, Bool.not_true, Bool.not_false, Bool.false_eq_true, if_false, Bool.and_self, Bool.and_false, Bool.and_true, Bool.false_and, Bool.true_and, hz]
end
theorem lfB_ok {n : Nat} {x : D} {a0 a3 a4 a5 a6 a7 a9 a10 : Option D} {tn : Int} {o8 : Option D} (h : Stm (n + 250) x) : ∃ x' b3 b4 b5 b6 b7 b8 b9 b10, Stm n x' ∧ K.lfB [a0, some x, some (.int tn), a3, a4, a5, a6, a7, o8, a9, a10] = .nx [a0, some x', some (.int tn), b3, b4, b5, b6, b7, b8, b9, b10] := by
  have kn : K.mf__law_next = C.mf__law_next := rfl
  obtain ⟨v, x1, v0, v1, s1, e1⟩ := stm_next (n := n + 249) h (m := 4) (by decide)
  have hm := getD_mem (xs := four) (i := v.toNat) (z := []) (by show v.toNat < 4; omega)
  have e4 : dIx (.lst [.tup [.int 0, .int 1, .int 2], .tup [.str "a", .str "b", .str "aa", .str "c"], .tup [.tup [], .tup [.str "on"]], .tup [.int 7]]) (.int v) = some (d (four.getD v.toNat [])) := ix_lst four v [] v0 (by show v < 4; omega)
  generalize four.getD v.toNat [] = ls at hm e4
  obtain ⟨lne, lle⟩ := four_len hm
  have t1 : K.lf1 [a0, some x, some (.int tn), a3, a4, a5, a6, a7, o8, a9, a10] = .nx [a0, some x1, some (.int tn), some (d ls), a4, a5, a6, a7, o8, a9, a10] := by
    unfold K.lf1
    simp only [mSeq, mAsg, mgName, mgTup, mgCons, mgNil, mExpr, mRet, mRetN, mIf, mNext, mBrk, mCont, mRaise, mRaiseP, ofP, ofPT, two, twoB, one, chT, trT, caP, consP, nilP, vP, cP, tupP, lstP, mkT0, mkT1, mkT2, mkT3, mkT4, mkL0, mkL1, mkL2, mkL3, mkL4, mkL5, mkL6, mCons, nilA, mApp, m2, mNew2, mRd, mMv, mTest, mAndT, mOrT, mNotT, mAndV, mOrV, mNotV, mIfV, andV, orV, notV, mCall, mArgs, takeIo, putIo, R.bind, List.set_cons_succ, List.set_cons_zero, List.getElem?_cons_succ, List.getElem?_cons_zero, Option.join_some, Option.bind_some, Option.map_some, Option.bind, only, asB, truB_bl, truB_int, if_true, yesT, noO, partO, asI, onI, frz_int, frz_str, frz_bl, frz_non, frz_enc, imm_int, imm_bl, imm_str, imm_non, Enc.im, outsOf, imm_tup, imms_nil, imms_cons, dEq_ii, dNe_ii, dPl_int, dPlF_int, dLen_lst, dLen_tup, dLen_fls, dLen_d, putIo, List.length_map, onIc, dLe, dLt, dGt, dGe, dSub, decide_true, decide_false, Bool.not_true, Bool.not_false, Bool.false_eq_true, if_false, Bool.and_self, Bool.and_false, Bool.and_true, Bool.false_and, Bool.true_and, kn, e1, e4]
  obtain ⟨u, x2, u0, u1, s2, e2⟩ := stm_next (n := n + 248) s1 (m := 9) (by decide)
  obtain ⟨m, hmm⟩ : ∃ m : Nat, 1 + u = (m : Int) := ⟨(1 + u).toNat, by omega⟩
  obtain ⟨M, x3, hMa, g, s3, e3⟩ := machine_ok (n := n + 168) (x := x2) (m := m) lne lle (by omega) (by omega) s2
  have t2 : K.lf2 [a0, some x1, some (.int tn), some (d ls), a4, a5, a6, a7, o8, a9, a10] = .nx [a0, some x3, some (.int tn), some (d ls), some (d M), a5, a6, a7, o8, a9, a10] := by
    unfold K.lf2
    simp only [mSeq, mAsg, mgName, mgTup, mgCons, mgNil, mExpr, mRet, mRetN, mIf, mNext, mBrk, mCont, mRaise, mRaiseP, ofP, ofPT, two, twoB, one, chT, trT, caP, consP, nilP, vP, cP, tupP, lstP, mkT0, mkT1, mkT2, mkT3, mkT4, mkL0, mkL1, mkL2, mkL3, mkL4, mkL5, mkL6, mCons, nilA, mApp, m2, mNew2, mRd, mMv, mTest, mAndT, mOrT, mNotT, mAndV, mOrV, mNotV, mIfV, andV, orV, notV, mCall, mArgs, takeIo, putIo, R.bind, List.set_cons_succ, List.set_cons_zero, List.getElem?_cons_succ, List.getElem?_cons_zero, Option.join_some, Option.bind_some, Option.map_some, Option.bind, only, asB, truB_bl, truB_int, if_true, yesT, noO, partO, asI, onI, frz_int, frz_str, frz_bl, frz_non, frz_enc, imm_int, imm_bl, imm_str, imm_non, Enc.im, outsOf, imm_tup, imms_nil, imms_cons, dEq_ii, dNe_ii, dPl_int, dPlF_int, dLen_lst, dLen_tup, dLen_fls, dLen_d, putIo, List.length_map, onIc, dLe, dLt, dGt, dGe, dSub, decide_true, decide_false, Bool.not_true, Bool.not_false, Bool.false_eq_true, if_false, Bool.and_self, Bool.and_false, Bool.and_true, Bool.false_and, Bool.true_and, kn, e2, dPlF_int, hmm, e3]
  obtain ⟨w, x4, w0, w1, s4, e5⟩ := stm_next (n := n + 167) s3 (m := 6) (by decide)
  obtain ⟨k, hk⟩ : ∃ k : Nat, 1 + w = (k : Int) := ⟨(1 + w).toNat, by omega⟩
  obtain ⟨row, x5, rl, rin, s5, e6⟩ := lrow_ok (n := n + 160) (x := x4) (ls := ls) lne (by omega) (k := k) (by omega) (s4.less (by omega))
  have hl : ∀ l ∈ row, l ∈ M.a := fun l hm => by rw [hMa]; exact rin l hm
  have hne : row ≠ [] := fun e => by rw [e] at rl; simp at rl; omega
  have t3 : K.lf3 [a0, some x3, some (.int tn), some (d ls), some (d M), a5, a6, a7, o8, a9, a10] = .nx [a0, some x5, some (.int tn), some (d ls), some (d M), some (d row), a6, a7, o8, a9, a10] := by
    unfold K.lf3
    simp only [mSeq, mAsg, mgName, mgTup, mgCons, mgNil, mExpr, mRet, mRetN, mIf, mNext, mBrk, mCont, mRaise, mRaiseP, ofP, ofPT, two, twoB, one, chT, trT, caP, consP, nilP, vP, cP, tupP, lstP, mkT0, mkT1, mkT2, mkT3, mkT4, mkL0, mkL1, mkL2, mkL3, mkL4, mkL5, mkL6, mCons, nilA, mApp, m2, mNew2, mRd, mMv, mTest, mAndT, mOrT, mNotT, mAndV, mOrV, mNotV, mIfV, andV, orV, notV, mCall, mArgs, takeIo, putIo, R.bind, List.set_cons_succ, List.set_cons_zero, List.getElem?_cons_succ, List.getElem?_cons_zero, Option.join_some, Option.bind_some, Option.map_some, Option.bind, only, asB, truB_bl, truB_int, if_true, yesT, noO, partO, asI, onI, frz_int, frz_str, frz_bl, frz_non, frz_enc, imm_int, imm_bl, imm_str, imm_non, Enc.im, outsOf, imm_tup, imms_nil, imms_cons, dEq_ii, dNe_ii, dPl_int, dPlF_int, dLen_lst, dLen_tup, dLen_fls, dLen_d, putIo, List.length_map, onIc, dLe, dLt, dGt, dGe, dSub, decide_true, decide_false, Bool.not_true, Bool.not_false, Bool.false_eq_true, if_false, Bool.and_self, Bool.and_false, Bool.and_true, Bool.false_and, Bool.true_and, kn, e5, dPlF_int, hk, e6]
  have ed := law_deed_ok g row (by omega) hl
  have t4 : K.lf4 [a0, some x5, some (.int tn), some (d ls), some (d M), some (d row), a6, a7, o8, a9, a10] = .nx [a0, some x5, some (.int tn), some (d ls), some (d M), some (d row), some (d (dl M m row)), a7, o8, a9, a10] := by
    unfold K.lf4
    simp only [mSeq, mAsg, mgName, mgTup, mgCons, mgNil, mExpr, mRet, mRetN, mIf, mNext, mBrk, mCont, mRaise, mRaiseP, ofP, ofPT, two, twoB, one, chT, trT, caP, consP, nilP, vP, cP, tupP, lstP, mkT0, mkT1, mkT2, mkT3, mkT4, mkL0, mkL1, mkL2, mkL3, mkL4, mkL5, mkL6, mCons, nilA, mApp, m2, mNew2, mRd, mMv, mTest, mAndT, mOrT, mNotT, mAndV, mOrV, mNotV, mIfV, andV, orV, notV, mCall, mArgs, takeIo, putIo, R.bind, List.set_cons_succ, List.set_cons_zero, List.getElem?_cons_succ, List.getElem?_cons_zero, Option.join_some, Option.bind_some, Option.map_some, Option.bind, only, asB, truB_bl, truB_int, if_true, yesT, noO, partO, asI, onI, frz_int, frz_str, frz_bl, frz_non, frz_enc, imm_int, imm_bl, imm_str, imm_non, Enc.im, outsOf, imm_tup, imms_nil, imms_cons, dEq_ii, dNe_ii, dPl_int, dPlF_int, dLen_lst, dLen_tup, dLen_fls, dLen_d, putIo, List.length_map, onIc, dLe, dLt, dGt, dGe, dSub, decide_true, decide_false, Bool.not_true, Bool.not_false, Bool.false_eq_true, if_false, Bool.and_self, Bool.and_false, Bool.and_true, Bool.false_and, Bool.true_and, ed]
  have t5 : ∃ (rs : List Int) (o8' : Option D), (∀ r ∈ rs, (0 ≤ r ∧ r < (m : Int)) ∧ 1 < Times (dl M m row) r) ∧ K.lf5 [a0, some x5, some (.int tn), some (d ls), some (d M), some (d row), some (d (dl M m row)), a7, o8, a9, a10] = .nx (S38 a0 x5 (some (.int tn)) (some (d ls)) M row (dl M m row) (some (.lst (rs.map d))) o8' a9 a10) := by
    exact lf5_ok (x := x5) (a0 := a0) (a2 := some (.int tn)) (a3 := some (d ls)) (a7 := a7) (a8 := o8) (a9 := a9) (a10 := a10) g hl
  obtain ⟨rs, o8', hrs, t5⟩ := t5
  obtain ⟨y, x6, y0, y1, s6, e7⟩ := stm_next (n := n + 159) s5 (m := (m : Int)) (by have := g.pos; omega)
  have el : dLen [d (dl M m row)] = some (.int (m : Int)) := by rw [dLen_d, dl_len]
  have t6 : K.lf6 (S38 a0 x5 (some (.int tn)) (some (d ls)) M row (dl M m row) (some (.lst (rs.map d))) o8' a9 a10) = .nx (S38 a0 x6 (some (.int tn)) (some (d ls)) M row (dl M m row) (some (.lst (rs.map d))) (some (.int y)) a9 a10) := by
    unfold K.lf6
    simp only [mSeq, mAsg, mgName, mgTup, mgCons, mgNil, mExpr, mRet, mRetN, mIf, mNext, mBrk, mCont, mRaise, mRaiseP, ofP, ofPT, two, twoB, one, chT, trT, caP, consP, nilP, vP, cP, tupP, lstP, mkT0, mkT1, mkT2, mkT3, mkT4, mkL0, mkL1, mkL2, mkL3, mkL4, mkL5, mkL6, mCons, nilA, mApp, m2, mNew2, mRd, mMv, mTest, mAndT, mOrT, mNotT, mAndV, mOrV, mNotV, mIfV, andV, orV, notV, mCall, mArgs, takeIo, putIo, R.bind, List.set_cons_succ, List.set_cons_zero, List.getElem?_cons_succ, List.getElem?_cons_zero, Option.join_some, Option.bind_some, Option.map_some, Option.bind, only, asB, truB_bl, truB_int, if_true, yesT, noO, partO, asI, onI, frz_int, frz_str, frz_bl, frz_non, frz_enc, imm_int, imm_bl, imm_str, imm_non, Enc.im, outsOf, imm_tup, imms_nil, imms_cons, dEq_ii, dNe_ii, dPl_int, dPlF_int, dLen_lst, dLen_tup, dLen_fls, dLen_d, putIo, List.length_map, onIc, dLe, dLt, dGt, dGe, dSub, decide_true, decide_false, Bool.not_true, Bool.not_false, Bool.false_eq_true, if_false, Bool.and_self, Bool.and_false, Bool.and_true, Bool.false_and, Bool.true_and, kn, el, e7]
  obtain ⟨x7, rm, hrm, s7, t7⟩ := lf7_ok (n := n + 158) (x := x6) (a0 := a0) (a2 := some (.int tn)) (a3 := some (d ls)) (a9 := a9) (a10 := a10) (rm := y) g hne hl hrs ⟨y0, y1⟩ s6
  obtain ⟨x8, b9, b10, s8, t8⟩ := lf8_ok (n := n) (x := x7) (a0 := a0) (a2 := some (.int tn)) (a3 := some (d ls)) (a7 := some (.lst (rs.map d))) (a9 := a9) (a10 := a10) g hne (by omega) hl hrm (s7.less (by omega))
  refine ⟨x8, some (d ls), some (d M), some (d row), some (d (dl M m row)), some (.lst (rs.map d)), some (.int rm), b9, b10, s8, ?_⟩
  unfold K.lfB
  rw [seq_nx t1, seq_nx t2, seq_nx t3, seq_nx t4, seq_nx t5, seq_nx t6, seq_nx t7, t8]
theorem K.law_true (ns : List Int) (hl : ns.length ≤ 63) : ∃ outs, K.mf_law [.fls (ns.map D.int)] = .ok (.bl true) outs := by
  have ks : K.mf__law_stream = C.mf__law_stream := rfl
  obtain ⟨st, e0, s0⟩ := stm_start ns hl
  have fz : frz (.fls (ns.map D.int)) = .fls (ns.map D.int) := frz_fls (α := Int) ns
  have t1 : K.lw1 [some (.fls (ns.map D.int)), none, none, none, none, none, none, none, none, none, none] = .nx [some (.fls (ns.map D.int)), some (.lst [st, .int 0]), none, none, none, none, none, none, none, none, none] := by
    unfold K.lw1
    simp only [mSeq, mAsg, mgName, mgTup, mgCons, mgNil, mExpr, mRet, mRetN, mIf, mNext, mBrk, mCont, mRaise, mRaiseP, ofP, ofPT, two, twoB, one, chT, trT, caP, consP, nilP, vP, cP, tupP, lstP, mkT0, mkT1, mkT2, mkT3, mkT4, mkL0, mkL1, mkL2, mkL3, mkL4, mkL5, mkL6, mCons, nilA, mApp, m2, mNew2, mRd, mMv, mTest, mAndT, mOrT, mNotT, mAndV, mOrV, mNotV, mIfV, andV, orV, notV, mCall, mArgs, takeIo, putIo, R.bind, List.set_cons_succ, List.set_cons_zero, List.getElem?_cons_succ, List.getElem?_cons_zero, Option.join_some, Option.bind_some, Option.map_some, Option.bind, only, asB, truB_bl, truB_int, if_true, yesT, noO, partO, asI, onI, frz_int, frz_str, frz_bl, frz_non, frz_enc, imm_int, imm_bl, imm_str, imm_non, Enc.im, outsOf, imm_tup, imms_nil, imms_cons, dEq_ii, dNe_ii, dPl_int, dPlF_int, dLen_lst, dLen_tup, dLen_fls, dLen_d, putIo, List.length_map, onIc, dLe, dLt, dGt, dGe, dSub, decide_true, decide_false, Bool.not_true, Bool.not_false, Bool.false_eq_true, if_false, Bool.and_self, Bool.and_false, Bool.and_true, Bool.false_and, Bool.true_and, ks, e0, fz]
  have t2 : ∃ s, K.lw2 [some (.fls (ns.map D.int)), some (.lst [st, .int 0]), none, none, none, none, none, none, none, none, none] = .nx s := by
    rw [K.lf_eq, mFor_rangeC (by decide)]
    refine loop_range (P := fun q => ∃ s, q = .nx s) (fun i s => ∃ x b2 b3 b4 b5 b6 b7 b8 b9 b10, Stm (10 + (4 - i) * 250) x ∧ s = [some (.fls (ns.map D.int)), some x, b2, b3, b4, b5, b6, b7, b8, b9, b10]) ?_ (fun s _ => ⟨s, rfl⟩) ⟨_, none, none, none, none, none, none, none, none, none, s0.less (by decide), rfl⟩
    rintro i s hi ⟨x, b2, b3, b4, b5, b6, b7, b8, b9, b10, q, rfl⟩
    have hi4 : i < 4 := hi
    refine ⟨_, rfl, ?_⟩
    obtain ⟨x', c3, c4, c5, c6, c7, c8, c9, c10, s', e⟩ := lfB_ok (n := 10 + (4 - (i + 1)) * 250) (x := x) (a0 := some (.fls (ns.map D.int))) (tn := 0 + (i : Int)) (a3 := b3) (a4 := b4) (a5 := b5) (a6 := b6) (a7 := b7) (o8 := b8) (a9 := b9) (a10 := b10) (q.less (by omega))
    simp only [mgName, List.set_cons_succ, List.set_cons_zero]
    rw [e]
    exact ⟨x', _, _, _, _, _, _, _, _, _, s', rfl⟩
  obtain ⟨s, t2⟩ := t2
  have t3 : K.lw3 s = .ret (.bl true) s := by
    unfold K.lw3
    simp only [mSeq, mAsg, mgName, mgTup, mgCons, mgNil, mExpr, mRet, mRetN, mIf, mNext, mBrk, mCont, mRaise, mRaiseP, ofP, ofPT, two, twoB, one, chT, trT, caP, consP, nilP, vP, cP, tupP, lstP, mkT0, mkT1, mkT2, mkT3, mkT4, mkL0, mkL1, mkL2, mkL3, mkL4, mkL5, mkL6, mCons, nilA, mApp, m2, mNew2, mRd, mMv, mTest, mAndT, mOrT, mNotT, mAndV, mOrV, mNotV, mIfV, andV, orV, notV, mCall, mArgs, takeIo, putIo, R.bind, List.set_cons_succ, List.set_cons_zero, List.getElem?_cons_succ, List.getElem?_cons_zero, Option.join_some, Option.bind_some, Option.map_some, Option.bind, only, asB, truB_bl, truB_int, if_true, yesT, noO, partO, asI, onI, frz_int, frz_str, frz_bl, frz_non, frz_enc, imm_int, imm_bl, imm_str, imm_non, Enc.im, outsOf]
  refine ⟨[], ?_⟩
  unfold K.mf_law mDef
  rw [K.lw_eq, if_pos (by rfl)]
  simp only [List.map_cons, List.map_nil, List.replicate, List.cons_append, List.nil_append]
  unfold K.lwB
  rw [seq_nx t1, seq_nx t2, t3]
  rfl
end Sim

open PySem PySem.W PyProof.Rows
set_option maxHeartbeats 0 in
theorem PySem.Challenge.cw_spansay_k38_rounds_judged_holds : PySem.Challenge.rw_spansay_k38_rounds_judged.Holds := by
  w_on; o_law; k_head; (case hw => w_witness2)
  k_fill
  refine Sim.walk_law (l := PySem.Challenge.rw_spansay_k38_rounds_judged) (n := 63) (k := 4) (x := "script") (sp := fun K => Sim.SpM K 1 [] Sim.K.mf_law) rfl (by decide) rfl ⟨rfl, by decide, by decide⟩ (fun w h Y => PySem.W.kIn_of Y) ?F (Sim.law_want Sim.K.law_true)
  case F =>
    intro w mg fa h KX G hmg
    refine' Sim.K.all_mk KX G hmg ?a_SpanError ?a_NotAllowed ?a_TooLarge ?a_Missing ?a_BadPaper ?kp_NotAllowed ?ex_NotAllowed ?sb_NotAllowed ?ty_NotAllowed ?kp_BadPaper ?ex_BadPaper ?sb_BadPaper ?ty_BadPaper ?i_SpanError ?ty_SpanError ?i_NotAllowed ?i_TooLarge ?ty_TooLarge ?i_Missing ?ty_Missing ?i_BadPaper ?su_SpanError_BadPaper ?su_NotAllowed_BadPaper ?su_TooLarge_BadPaper ?su_Missing_BadPaper ?su_BadPaper_BadPaper ?su_SpanError_NotAllowed ?su_NotAllowed_NotAllowed ?su_TooLarge_NotAllowed ?su_Missing_NotAllowed ?su_BadPaper_NotAllowed ?su_BadPaper_SpanError ?su_BadPaper_TooLarge ?su_BadPaper_Missing ?su_NotAllowed_SpanError ?su_NotAllowed_TooLarge ?su_NotAllowed_Missing ?su_SpanError_SpanError ?su_TooLarge_TooLarge ?su_Missing_Missing ?g1_BadPaper ?g2_BadPaper ?g3_BadPaper ?g4_BadPaper ?g5_BadPaper ?g8_BadPaper ?sv_BadPaper ?g1_NotAllowed ?g2_NotAllowed ?g3_NotAllowed ?g4_NotAllowed ?g5_NotAllowed ?g8_NotAllowed ?sv_NotAllowed ?g6 ?g7 ?y_ValueError ?y_abs ?y_all ?y_int ?y_isinstance ?y_len ?y_range ?y_sorted ?y_tuple ?a__law_stream ?l__law_stream ?e__law_stream ?k__law_stream ?a__law_next ?l__law_next ?e__law_next ?k__law_next ?a__law_machine ?l__law_machine ?e__law_machine ?k__law_machine ?a__law_row ?l__law_row ?e__law_row ?k__law_row ?a__law_deed ?l__law_deed ?e__law_deed ?k__law_deed ?a__law_times ?l__law_times ?e__law_times ?k__law_times ?a_deed_of ?l_deed_of ?e_deed_of ?k_deed_of ?a_times_around ?l_times_around ?e_times_around ?k_times_around ?a_judge_round ?l_judge_round ?e_judge_round ?k_judge_round ?a__law_told ?l__law_told ?e__law_told ?k__law_told ?a__law_changed ?l__law_changed ?e__law_changed ?k__law_changed ?a__law_due ?l__law_due ?e__law_due ?k__law_due ?a_law ?l_law ?e_law ?k_law
    (case a_SpanError => k_is); (case a_NotAllowed => k_is); (case a_TooLarge => k_is); (case a_Missing => k_is); (case a_BadPaper => k_is); (case kp_NotAllowed => k_is); (case ex_NotAllowed => k_exc); (case sb_NotAllowed => k_is); (case ty_NotAllowed => k_is); (case kp_BadPaper => k_is); (case ex_BadPaper => k_exc); (case sb_BadPaper => k_is); (case ty_BadPaper => k_is); (case i_SpanError => k_is); (case ty_SpanError => k_is); (case i_NotAllowed => k_is); (case i_TooLarge => k_is); (case ty_TooLarge => k_is); (case i_Missing => k_is); (case ty_Missing => k_is); (case i_BadPaper => k_is); (case su_SpanError_BadPaper => k_is); (case su_NotAllowed_BadPaper => k_is); (case su_TooLarge_BadPaper => k_is); (case su_Missing_BadPaper => k_is); (case su_BadPaper_BadPaper => k_is); (case su_SpanError_NotAllowed => k_is); (case su_NotAllowed_NotAllowed => k_is); (case su_TooLarge_NotAllowed => k_is); (case su_Missing_NotAllowed => k_is); (case su_BadPaper_NotAllowed => k_is); (case su_BadPaper_SpanError => k_is); (case su_BadPaper_TooLarge => k_is); (case su_BadPaper_Missing => k_is); (case su_NotAllowed_SpanError => k_is); (case su_NotAllowed_TooLarge => k_is); (case su_NotAllowed_Missing => k_is); (case su_SpanError_SpanError => k_is); (case su_TooLarge_TooLarge => k_is); (case su_Missing_Missing => k_is); (case g1_BadPaper => k_is); (case g2_BadPaper => k_is); (case g3_BadPaper => k_is); (case g4_BadPaper => k_is); (case g5_BadPaper => k_is); (case g8_BadPaper => k_is); (case sv_BadPaper => k_is); (case g1_NotAllowed => k_is); (case g2_NotAllowed => k_is); (case g3_NotAllowed => k_is); (case g4_NotAllowed => k_is); (case g5_NotAllowed => k_is); (case g8_NotAllowed => k_is); (case sv_NotAllowed => k_is); (case g6 => k_is); (case g7 => k_is); (case y_ValueError => k_is); (case y_abs => k_is); (case y_all => k_is); (case y_int => k_is); (case y_isinstance => k_is); (case y_len => k_is); (case y_range => k_is); (case y_sorted => k_is); (case y_tuple => k_is); (case a__law_stream => k_is); (case l__law_stream => k_is); (case e__law_stream => k_is); (case k__law_stream => k_is); (case a__law_next => k_is); (case l__law_next => k_is); (case e__law_next => k_is); (case k__law_next => k_is); (case a__law_machine => k_is); (case l__law_machine => k_is); (case e__law_machine => k_is); (case k__law_machine => k_is); (case a__law_row => k_is); (case l__law_row => k_is); (case e__law_row => k_is); (case k__law_row => k_is); (case a__law_deed => k_is); (case l__law_deed => k_is); (case e__law_deed => k_is); (case k__law_deed => k_is); (case a__law_times => k_is); (case l__law_times => k_is); (case e__law_times => k_is); (case k__law_times => k_is); (case a_deed_of => k_is); (case l_deed_of => k_is); (case e_deed_of => k_is); (case k_deed_of => k_is); (case a_times_around => k_is); (case l_times_around => k_is); (case e_times_around => k_is); (case k_times_around => k_is); (case a_judge_round => k_is); (case l_judge_round => k_is); (case e_judge_round => k_is); (case k_judge_round => k_is); (case a__law_told => k_is); (case l__law_told => k_is); (case e__law_told => k_is); (case k__law_told => k_is); (case a__law_changed => k_is); (case l__law_changed => k_is); (case e__law_changed => k_is); (case k__law_changed => k_is); (case a__law_due => k_is); (case l__law_due => k_is); (case e__law_due => k_is); (case k__law_due => k_is); (case a_law => k_is); (case l_law => k_is); (case e_law => k_is); (case k_law => k_is)

