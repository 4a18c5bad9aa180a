import PyProof.Rows.All
import Wide.All
import OpenK.AllK
import Wide.FinOn
import HandS.ForMost
import HandS.ForExc
import HandS.ExcInit
import HandS.IsInst
import HandS.More
import HandS.Conv
import HandS.RevRange
import HandS.Star
import HandS.TupAny
import HandS.Lambda
import HandS.FStr
import HandS.FStrTup
import HandS.Flow
import HandS.Style
import HandS.StrMore
import HandS.WrittenGet
import HandS.TryMany
import HandS.Evl
import HandS.Walk
import PySem.Challenge.RW_knotweb_k01_formulas_looked_at
import HandS.ExcField
import HandS.ExcIs
import KE.KExcIs
import KE.KTryMore
import HandS.EndTab
import HandS.HeadHook4
import HandS.HeadEnd
import HandS.Head2
set_option Elab.async false
set_option linter.all false
set_option maxRecDepth 100000
set_option maxHeartbeats 4000000
namespace Kn
open PySem L2
/-! ### the text by places -/
def top (i : Nat) : Stmt := PySem.Challenge.pw_knotweb_k01_formulas_looked_at.main.body.getD i (.Pass ⟨0, 0, 0, 0⟩)
abbrev sIsName : Stmt := top 16
abbrev sIsFormed : Stmt := top 17
abbrev sNameIn : Stmt := top 18
abbrev sPartsOf : Stmt := top 19
abbrev sNeed : Stmt := top 20
abbrev sNamesIn : Stmt := top 22
abbrev sMixed : Stmt := top 24
abbrev sBegun : Stmt := top 25
abbrev sDraw : Stmt := top 26
abbrev sOne : Stmt := top 27
abbrev sWord : Stmt := top 28
abbrev sNames : Stmt := top 29
abbrev sRooms : Stmt := top 30
abbrev sMade : Stmt := top 31
abbrev sOwn : Stmt := top 32
abbrev sNamed : Stmt := top 33
abbrev sLIsName : Stmt := top 34
abbrev sPlace : Stmt := top 35
abbrev sBent : Stmt := top 36
abbrev sRefused : Stmt := top 37
abbrev sGrown : Stmt := top 38
abbrev sRight : Stmt := top 39
abbrev sLaw : Stmt := top 40
/-- a def of the program that keeps a promise, as callers need it -/
structure Def (P : Program) (w : World) (K : PySem.W.Frag) (mg : Str → Option Value) (base : Heap) (cx : CXT) (x : Str) (k : Nat) (ps : List Str) (sp : Sp) : Prop where
  ex : ∃ (f : Addr) (fd : FuncData), mg x = some (.ref f) ∧ PySem.W.keepIn K (.ref f) = true ∧ Binds K fd ps [] ∧ FnOk P w K mg base cx k f fd ps sp
section
variable {X : Cx}
/-- x(e, ..), a def that raises nothing -/
theorem pe_def {x : Str} {k : Nat} {ps : List Str} {sp : Sp} {e : Expr} {es : List Expr} {t : TA} {p pos : Pos} (D : Def X.prog X.w X.K X.mg X.base CX0 x k ps sp) (hr : Room k X.A) (hg : Gl X x) (ha : PA X (e :: es) t)
    (hdb : (x == ("__debug__" : Str)) = false := by decide) (h1 : starEach (e :: es) X.env = (false, eval e X.env) :: starEach es X.env := by rfl) (h2 : (backTo pos (starEach es X.env)).any (·.1) = false := by rfl) :
    PE X (.Call (.Name x p) (e :: es) [] pos) (tCall sp [] E0 t) := by
  obtain ⟨f, fd, m, kp, b, ok⟩ := D.ex
  exact pe_call ok hr hg m kp b .nil pass0 ha hdb h1 h2
end
/-! ### rules whose readings speak of the written part, for blocks within -/
section
variable {X : Cx} {K : PySem.W.Frag}
theorem op_inK (h : X.K = K) : OpR X (compareOp .In) (rIn K false) := by
  subst h
  exact op_in_seq
theorem op_notInK (h : X.K = K) : OpR X (compareOp .NotIn) (rIn K true) := by
  subst h
  exact op_notIn_seq
theorem ix_listK (h : X.K = K) : IxR X (rIxL K) := by
  subst h
  exact ix_list
theorem ix_tupK (h : X.K = K) : IxR X (rIxT K) := by
  subst h
  exact ix_tup
def rLenK (K : PySem.W.Frag) : List V → Hp → VK → Prop := fun xs H Q => ∃ x n, xs = [x] ∧ LenV K x H n ∧ Q (.int n) H
theorem call_lenK (h : X.K = K) : CallR X (.builtin "len") (rLenK K) := by
  subst h
  exact call_len
theorem op_eqDK (h : X.K = K) (hu : X.A.units + 64 < cLine) : OpR X (compareOp .Eq) (rEqD K) := by
  subst h
  exact op_eqD hu
end
/-! ### what stays -/
/-- all but the state's dict at s and its list at l -/
def Keep (s l : Addr) (H H' : Hp) : Prop := ∀ b o, b ≠ s → b ≠ l → H b = some o → H' b = some o
theorem Keep.refl {s l : Addr} {H : Hp} : Keep s l H H := fun _ _ _ _ h => h
theorem Keep.trans {s l : Addr} {H H1 H2 : Hp} (a : Keep s l H H1) (b : Keep s l H1 H2) : Keep s l H H2 := fun c o h1 h2 h => b c o h1 h2 (a c o h1 h2 h)
theorem Keep.new {s l p : Addr} {H : Hp} {o : HO} (h : H p = none) : Keep s l H (upd H p o) := fun b u _ _ q => by rw [upd_ne (ne_of_none q h)]; exact q
theorem Keep.of {s l : Addr} {H H' : Hp} (h : Same H H') : Keep s l H H' := fun b o _ _ q => h b o q
theorem Keep.put {s l : Addr} {H : Hp} {o : HO} : Keep s l H (upd H s o) := fun b u h _ q => by rw [upd_ne h]; exact q
theorem Keep.putl {s l : Addr} {H : Hp} {o : HO} : Keep s l H (upd H l o) := fun b u _ h q => by rw [upd_ne h]; exact q
theorem Keep.mut0 {s l p : Addr} {H0 H : Hp} {o : HO} (n : H0 p = none) (k : Keep s l H0 H) : Keep s l H0 (upd H p o) := fun b u e1 e2 e => by
  rw [upd_ne (ne_of_none e n)]
  exact k b u e1 e2 e
theorem same_new {H : Hp} {p : Addr} (h : H p = none) (o : HO) : Same H (upd H p o) := fun b u q => by rw [upd_ne (ne_of_none q h)]; exact q
theorem Keep.seqL {s l : Addr} {H H' : Hp} {K : PySem.W.Frag} {a : Addr} {xs : List V} (e : Keep s l H H') (h1 : a ≠ s) (h2 : a ≠ l) (h : SqL K H a xs) : SqL K H' a xs := by
  rcases h with (h | ⟨o, h⟩) | h
  · exact .inl (.inl (e _ _ h1 h2 h))
  · exact .inl (.inr ⟨o, e _ _ h1 h2 h⟩)
  · exact .inr h
theorem Keep.seqT {s l : Addr} {H H' : Hp} {K : PySem.W.Frag} {a : Addr} {xs : List V} (e : Keep s l H H') (h1 : a ≠ s) (h2 : a ≠ l) (h : SqT K H a xs) : SqT K H' a xs := by
  rcases h with (h | ⟨o, h⟩) | h
  · exact .inl (.inl (e _ _ h1 h2 h))
  · exact .inl (.inr ⟨o, e _ _ h1 h2 h⟩)
  · exact .inr h
/-! ### the state of the draws -/
def dSt (c l : Addr) (k : Int) : List (Key × V) := [(.inr ("cells" : Str), .ref c), (.inr ("left" : Str), .ref l), (.inr ("at" : Str), .int k)]
/-- the state's dict at s, the script at c, what is left of the great cells at l -/
structure StOk (K : PySem.W.Frag) (H : Hp) (s c l : Addr) : Prop where
  cs : c ≠ s
  cl : c ≠ l
  sl : s ≠ l
  co : H c ≠ none
  ex : ∃ (k : Int) (ns ls : List Int), 0 ≤ k ∧ H s = some (.dK (dSt c l k)) ∧ SqL K H c (ns.map V.int) ∧ ns.length ≤ 63 ∧ H l = some (.lst (ls.map V.int)) ∧ ls.length = ns.length ∧ ∀ x ∈ ls, 0 ≤ x
theorem Keep.some {s l a : Addr} {H H' : Hp} (e : Keep s l H H') (h1 : a ≠ s) (h2 : a ≠ l) (h : H a ≠ none) : H' a ≠ none := by
  cases q : H a with
  | none => exact absurd q h
  | some o =>
    rw [e a o h1 h2 q]
    exact fun z => nomatch z
theorem StOk.keep {K : PySem.W.Frag} {H H' : Hp} {s c l : Addr} (h : StOk K H s c l) (e : Same H H') : StOk K H' s c l := by
  obtain ⟨h1, h2, h3, h4, k, ns, ls, a1, a2, a3, a4, a5, a6, a7⟩ := h
  exact ⟨h1, h2, h3, (Keep.of (s := s) (l := l) e).some h1 h2 h4, k, ns, ls, a1, e _ _ a2, e.seq a3, a4, e _ _ a5, a6, a7⟩
theorem StOk.new {K : PySem.W.Frag} {H : Hp} {s c l p : Addr} {o : HO} (h : StOk K H s c l) (n : H p = none) : StOk K (upd H p o) s c l := h.keep (same_new n o)
theorem StOk.ns {K : PySem.W.Frag} {H : Hp} {s c l p : Addr} (h : StOk K H s c l) (n : H p = none) : p ≠ s ∧ p ≠ l ∧ p ≠ c := by
  obtain ⟨_, _, _, h4, k, ns, ls, a1, a2, a3, a4, a5, a6, a7⟩ := h
  refine ⟨fun z => ?_, fun z => ?_, fun z => ?_⟩
  · rw [z, a2] at n
    cases n
  · rw [z, a5] at n
    cases n
  · rw [z] at n
    exact h4 n
/-- a thing of our own is written -/
theorem StOk.mut {K : PySem.W.Frag} {H : Hp} {s c l p : Addr} {o : HO} (h : StOk K H s c l) (n : p ≠ s ∧ p ≠ l ∧ p ≠ c) : StOk K (upd H p o) s c l := by
  obtain ⟨h1, h2, h3, h4, k, ns, ls, a1, a2, a3, a4, a5, a6, a7⟩ := h
  refine ⟨h1, h2, h3, by rw [upd_ne n.2.2.symm]; exact h4, k, ns, ls, a1, by rw [upd_ne n.1.symm]; exact a2, ?_, a4, by rw [upd_ne n.2.1.symm]; exact a5, a6, a7⟩
  rcases a3 with (h | ⟨o, h⟩) | h
  · exact .inl (.inl (by rw [upd_ne n.2.2.symm]; exact h))
  · exact .inl (.inr ⟨o, by rw [upd_ne n.2.2.symm]; exact h⟩)
  · exact .inr h
/-- .. a thing that was not there at the beginning -/
theorem Keep.mut {s l p : Addr} {H0 H1 H : Hp} {o : HO} (k0 : Keep s l H0 H1) (n : H1 p = none) (k : Keep s l H0 H) : Keep s l H0 (upd H p o) := fun b u e1 e2 e => by
  have nb : b ≠ p := ne_of_none (k0 b u e1 e2 e) n
  rw [upd_ne nb]
  exact k b u e1 e2 e
def spMixed : Sp := fun vs H Q _ => ∃ c k : Int, vs = [.int c, .int k] ∧ 0 ≤ k ∧ k ≤ 1000 ∧ ∀ n : Int, 0 ≤ n → Q (.int n) H
def spDraw (K : PySem.W.Frag) : Sp := fun vs H Q _ => ∃ (s c l : Addr) (m : Int), vs = [.ref s, .int m] ∧ StOk K H s c l ∧ 0 < m ∧ m < 1073741824 ∧ ∀ (H' : Hp) (n : Int), StOk K H' s c l → Keep s l H H' → 0 ≤ n → n < m → Q (.int n) H'
end Kn

set_option Elab.async false
set_option linter.all false
set_option maxRecDepth 100000
set_option maxHeartbeats 4000000
namespace Kn
open PySem L2
section
variable {P : Program} {w : World} {K : PySem.W.Frag} {mg : Str → Option Value} {base : Heap}
theorem scMixed : FnScope ["cell", "k", "number"] ["cell", "k"] (defScope sMixed) := ⟨rfl, rfl, rfl, by decide +kernel, rfl, by decide +kernel, by decide +kernel⟩
theorem ok_mixed {f : Addr} {fd : FuncData} (F : Fun K "_law_mixed" "_law_mixed" sMixed f fd) : FnOk P w K mg base CX0 1 f fd ["cell", "k"] spMixed := by
  refine F.ok scMixed (fun vs H Q E h => ?_) (fun cdv A outer s H vs Q E hr h => ?_)
  · obtain ⟨c, k, rfl, _⟩ := h
    rfl
  obtain ⟨c, k, rfl, h0, h1, q⟩ := h
  refine ⟨_, pss_cons (ps_set (i := 2) scMixed.nd rfl (Or.inl rfl)
      (pe_op op_add (pe_op op_add (pe_op op_mul (pe_op op_modN (pv 0) pe_int) (pe_op op_add pe_int (pe_op op_mul (pe_op op_mul pe_int (pv 1)) (pv 1)))) (pe_op op_mul pe_int (pv 1))) pe_int))
    (pss_one (ps_ret (pe_op op_modN (pe_op op_mul (pe_op op_modN (pv 2) pe_int) pe_int) pe_int))), ?_⟩
  have m1 : ∀ x : Int, 0 ≤ x.fmod 2147483647 ∧ x.fmod 2147483647 < 2147483647 := fun x => by
    rw [Int.fmod_eq_emod_of_nonneg _ (by omega)]
    omega
  have m2 : ∀ x : Int, 0 ≤ x.fmod 2147483629 := fun x => by
    rw [Int.fmod_eq_emod_of_nonneg _ (by omega)]
    omega
  have b1 := m1 c
  refine ⟨_, rfl, _, _, rfl, rfl, (by show (2147483647 : Int) ≠ 0; decide), _, rfl, _, _, rfl, rfl, .inl (by decide), _, rfl, _, _, rfl, rfl, .inl (by omega), _, _, rfl, rfl, ?_⟩
  refine ⟨_, _, rfl, rfl, .inl (by omega), _, rfl, _, _, rfl, rfl, .inl (by decide), _, _, rfl, rfl, _, _, rfl, rfl, ?_⟩
  refine ⟨_, rfl, _, _, rfl, rfl, (by show (2147483647 : Int) ≠ 0; decide), _, _, rfl, rfl, .inr (by decide), _, _, rfl, rfl, (by show (2147483629 : Int) ≠ 0; decide), ?_⟩
  exact q _ (m2 _)

/-! ### the draw -/
theorem dpInts {H : Hp} : ∀ ns : List Int, DpAll K H (ns.map V.int) (ns.map PyData.int)
  | [] => .nil
  | n :: r => .cons (.int n) (dpInts r)
theorem layInts : ∀ ns : List Int, PyData.canLayAll0 (ns.map PyData.int) = true
  | [] => by simp [PyData.canLayAll0]
  | n :: r => by simp [PyData.canLayAll0, PyData.canLay0, layInts r]
theorem depInts : ∀ ns : List Int, PyData.depthAll (ns.map PyData.int) ≤ 1
  | [] => by simp [PyData.depthAll]
  | n :: r => by
    have h := depInts r
    simp only [List.map_cons, PyData.depthAll, PyData.depth]
    omega
theorem shInts (ns : List Int) : SeqAt.shaped (.list (ns.map PyData.int)) = true := by
  have h1 := depInts ns
  have h2 := layInts ns
  have h3 : PyData.depth (.list (ns.map PyData.int)) ≤ 64 := by
    simp only [PyData.depth]
    omega
  show (PyData.canLay0 (.list (ns.map PyData.int)) && decide (PyData.depth (.list (ns.map PyData.int)) ≤ 64)) = true
  rw [decide_eq_true h3, Bool.and_true]
  simp only [PyData.canLay0]
  exact h2
theorem eqvInts0 (ns : List Int) : PyData.eqv (.list (ns.map PyData.int)) (.list []) = ns.isEmpty := by
  cases ns <;> simp [PyData.eqv, PyData.eqvAll]
theorem st_cells (c l : Addr) (k : Int) : valV (dSt c l k) (Sum.inr ("cells" : Str)) = some (.ref c) := by
  unfold valV dSt
  simp [List.find?]
theorem kne1 : ¬ ((Sum.inr ("cells" : Str) : Key) = Sum.inr ("left" : Str)) := by decide +kernel
theorem kne2 : ¬ ((Sum.inr ("cells" : Str) : Key) = Sum.inr ("at" : Str)) := by decide +kernel
theorem kne3 : ¬ ((Sum.inr ("left" : Str) : Key) = Sum.inr ("at" : Str)) := by decide +kernel
theorem st_left (c l : Addr) (k : Int) : valV (dSt c l k) (Sum.inr ("left" : Str)) = some (.ref l) := by
  unfold valV dSt
  rw [List.find?_cons, decide_eq_false kne1, List.find?_cons, decide_eq_true rfl]
  rfl
theorem st_at (c l : Addr) (k : Int) : valV (dSt c l k) (Sum.inr ("at" : Str)) = some (.int k) := by
  unfold valV dSt
  rw [List.find?_cons, decide_eq_false kne2, List.find?_cons, decide_eq_false kne3, List.find?_cons, decide_eq_true rfl]
  rfl
theorem st_put (c l : Addr) (k j : Int) : putK (dSt c l k) (Sum.inr ("at" : Str)) (.int j) = dSt c l j := by
  unfold dSt putK
  have e : ([(Sum.inr ("cells" : Str), V.ref c), (Sum.inr ("left" : Str), V.ref l), (Sum.inr ("at" : Str), V.int k)] : List (Key × V)).any (fun kv => decide (kv.fst = Sum.inr ("at" : Str))) = true := by
    simp only [List.any_cons, decide_eq_true, Bool.or_true, Bool.true_or]
  rw [if_pos e]
  simp only [List.map_cons, List.map_nil, if_neg kne2, if_neg kne3, if_true]
theorem dg_at {H : Hp} {s c l : Addr} {k : Int} (h : H s = some (.dK (dSt c l k))) : DGet H s (.str ("at" : Str)) (some (.int k)) := by
  have g : DGet H s (kV (Sum.inr ("at" : Str))) (valV (dSt c l k) (Sum.inr ("at" : Str))) := DGet.k h
  rw [st_at] at g
  exact g
theorem dg_cells {H : Hp} {s c l : Addr} {k : Int} (h : H s = some (.dK (dSt c l k))) : DGet H s (.str ("cells" : Str)) (some (.ref c)) := by
  have g : DGet H s (kV (Sum.inr ("cells" : Str))) (valV (dSt c l k) (Sum.inr ("cells" : Str))) := DGet.k h
  rw [st_cells] at g
  exact g
theorem dg_left {H : Hp} {s c l : Addr} {k : Int} (h : H s = some (.dK (dSt c l k))) : DGet H s (.str ("left" : Str)) (some (.ref l)) := by
  have g : DGet H s (kV (Sum.inr ("left" : Str))) (valV (dSt c l k) (Sum.inr ("left" : Str))) := DGet.k h
  rw [st_left] at g
  exact g
theorem dp_at {H : Hp} {s c l : Addr} {k j : Int} (h : H s = some (.dK (dSt c l k))) : DPut H s (.str ("at" : Str)) (.int j) (upd H s (.dK (dSt c l j))) := by
  have g : DPut H s (kV (Sum.inr ("at" : Str))) (.int j) (upd H s (.dK (putK (dSt c l k) (Sum.inr ("at" : Str)) (.int j)))) := DPut.k h (by show 3 < sizeLine; decide)
  rw [st_put] at g
  exact g
theorem fmod_lt {x m : Int} (h : 0 < m) : 0 ≤ x.fmod m ∧ x.fmod m < m := by
  rw [Int.fmod_eq_emod_of_nonneg _ (by omega)]
  exact ⟨Int.emod_nonneg _ (by omega), Int.emod_lt_of_pos _ h⟩
theorem fdiv_nn {x m : Int} (h : 0 < m) (hx : 0 ≤ x) : 0 ≤ x.fdiv m := by
  rw [Int.fdiv_eq_ediv_of_nonneg _ (by omega)]
  exact Int.ediv_nonneg hx (by omega)
theorem int_at {ns : List Int} {j : Nat} (h : j < ns.length) : ∃ x : Int, ns[j]? = some x ∧ atI (ns.map V.int) ((j : Nat) : Int) = some (V.int x) := by
  refine ⟨ns[j], List.getElem?_eq_getElem h, atI_nat ?_⟩
  rw [List.getElem?_map, List.getElem?_eq_getElem h]
  rfl
theorem scDraw : FnScope ["state", "many", "k", "at", "number"] ["state", "many"] (defScope sDraw) := ⟨rfl, rfl, rfl, by decide +kernel, rfl, by decide +kernel, by decide +kernel⟩
theorem ok_draw {f : Addr} {fd : FuncData} (F : Fun K "_law_draw" "_law_draw" sDraw f fd) (M : Def P w K mg base CX0 "_law_mixed" 1 ["cell", "k"] spMixed) (ml : mg "len" = none) : FnOk P w K mg base CX0 2 f fd ["state", "many"] (spDraw K) := by
  refine F.ok scDraw (fun vs H Q E h => ?_) (fun cdv A outer s H vs Q E hr h => ?_)
  · obtain ⟨s, c, l, m, rfl, _⟩ := h
    rfl
  obtain ⟨s, c, l, m, rfl, S, hm, hm2, q⟩ := h
  have hu := hu_of hr
  refine ⟨_, pss_cons (ps_dput hu (pv 0) pe_str (pe_op op_add (pe_dget hu (pv 0) pe_str (fun _ _ => rfl)) pe_int) rfl)
    (pss_cons (ps_set (i := 2) scDraw.nd rfl (Or.inl rfl) (pe_dget hu (pv 0) pe_str (fun _ _ => rfl)))
    (pss_cons (ps_if (pt_cmpR (op_eqD hr.units) (pe_dget hu (pv 0) pe_str (fun _ _ => rfl)) (pe_lst pa_nil) (nomark _))
      (pss_one (ps_ret (pe_op op_modN (pe_op op_fdivN (pe_def M hr rfl (pa_cons (pe_def M hr rfl (pa_cons (pe_op op_mul pe_int (pv 2)) (pa_cons (pe_op op_modN (pv 2) pe_int) pa_nil))) (pa_cons pe_int pa_nil))) pe_int) (pv 1)))) pss_nil)
    (pss_cons (ps_set (i := 3) scDraw.nd rfl (Or.inl rfl) (pe_op op_modN (pv 2) (pe_callB call_len_seq (by rfl) ml PySem.boot_len (pa_cons (pe_dget hu (pv 0) pe_str (fun _ _ => rfl)) pa_nil))))
    (pss_cons (ps_if (pt_cmpR op_gt (pe_ix ix_list (pe_dget hu (pv 0) pe_str (fun _ _ => rfl)) (pv 3) (fun _ _ => rfl)) pe_int (nomark _))
      (pss_cons (ps_set (i := 4) scDraw.nd rfl (Or.inl rfl) (pe_op op_modN (pe_ix ix_list (pe_dget hu (pv 0) pe_str (fun _ _ => rfl)) (pv 3) (fun _ _ => rfl)) (pv 1)))
      (pss_cons (ps_asg (pe_op op_fdivN (pe_ix ix_list (pe_dget hu (pv 0) pe_str (fun _ _ => rfl)) (pv 3) (fun _ _ => rfl)) (pv 1)) (pg_sub (pe_dget hu (pv 0) pe_str (fun _ _ => rfl)) (pv 3) set_list))
      (pss_one (ps_ret (pv 4))))) pss_nil)
    (pss_one (ps_ret (pe_op op_modN (pe_op op_fdivN (pe_def M hr rfl (pa_cons (pe_def M hr rfl (pa_cons (pe_op op_add (pe_ix ix_list (pe_dget hu (pv 0) pe_str (fun _ _ => rfl)) (pv 3) (fun _ _ => rfl)) (pe_op op_mul pe_int (pv 2))) (pa_cons (pe_op op_modN (pv 2) pe_int) pa_nil))) (pa_cons (pe_op op_modN (pv 2) pe_int) pa_nil))) pe_int) (pv 1)))))))), ?_⟩
  obtain ⟨cs, cl, sl, co, k, ns, ls, k0, hs, hc, h63, hl, hll, hpos⟩ := id S
  have k1 : Keep s l H (upd H s (.dK (dSt c l (k + 1)))) := Keep.put
  have hs1 : (upd H s (.dK (dSt c l (k + 1)))) s = some (.dK (dSt c l (k + 1))) := upd_same
  have hc1 : SqL K (upd H s (.dK (dSt c l (k + 1)))) c (ns.map V.int) := k1.seqL cs cl hc
  have hl1 : (upd H s (.dK (dSt c l (k + 1)))) l = some (.lst (ls.map V.int)) := by
    rw [upd_ne sl.symm]
    exact hl
  refine ⟨_, rfl, s, _, rfl, dg_at hs, _, _, rfl, rfl, _, rfl, s, _, rfl, dp_at hs, ?_⟩
  generalize upd H s (.dK (dSt c l (k + 1))) = H1 at *
  have S1 : StOk K H1 s c l := ⟨cs, cl, sl, k1.some cs cl co, k + 1, ns, ls, by omega, hs1, hc1, h63, hl1, hll, hpos⟩
  refine ⟨_, rfl, s, _, rfl, dg_at hs1, ?_⟩
  refine ⟨_, rfl, s, _, rfl, dg_cells hs1, Nat.zero_le _, fun p hp => ?_⟩
  have n1 := fmod_lt (x := k + 1) (m := 1000) (by omega)
  refine ⟨.list (ns.map PyData.int), .list [], .lst ((same_new hp _).seq hc1) (dpInts ns), .lst (SqL.of upd_same) .nil, shInts ns, rfl, _, rfl, ?_⟩
  rw [eqvInts0]
  have S2 := S1.new (o := .lst []) hp
  have k2 : Keep s l H1 (upd H1 p (.lst [])) := Keep.new hp
  have hs2 : (upd H1 p (.lst [])) s = some (.dK (dSt c l (k + 1))) := same_new hp _ _ _ hs1
  have hc2 : SqL K (upd H1 p (.lst [])) c (ns.map V.int) := (same_new hp _).seq hc1
  have hl2 : (upd H1 p (.lst [])) l = some (.lst (ls.map V.int)) := same_new hp _ _ _ hl1
  generalize upd H1 p (.lst []) = H2 at *
  have kk : Keep s l H H2 := k1.trans k2
  cases e0 : ns.isEmpty with
  | true =>
    refine iteT ?_
    refine ⟨_, rfl, _, _, rfl, rfl, .inl (by decide), _, rfl, _, _, rfl, rfl, (by show (1000 : Int) ≠ 0; decide), _, _, rfl, n1.1, by omega, fun x hx => ?_⟩
    refine ⟨_, _, rfl, by decide, by decide, fun y hy => ?_⟩
    refine ⟨_, _, rfl, rfl, ⟨by decide, by decide⟩, _, rfl, _, _, rfl, rfl, (by show m ≠ 0; omega), ?_⟩
    have z := fmod_lt (x := y.fdiv 64) hm
    exact q H2 _ S2 kk z.1 z.2
  | false =>
    refine iteF ?_
    have hne : 0 < ns.length := by
      cases ns with
      | nil => cases e0
      | cons a r => exact Nat.succ_pos _
    have n2 := fmod_lt (x := k + 1) (m := (ns.length : Int)) (by omega)
    have e1 : ((ns.map V.int).length : Int) = (ns.length : Int) := by rw [List.length_map]
    refine ⟨_, rfl, _, rfl, s, _, rfl, dg_cells hs2, c, _, rfl, .inl hc2, _, _, rfl, rfl, (by show ((ns.map V.int).length : Int) ≠ 0; omega), ?_⟩
    obtain ⟨j, hj⟩ : ∃ j : Nat, (k + 1).fmod ((ns.map V.int).length : Int) = (j : Int) := ⟨((k + 1).fmod (ns.length : Int)).toNat, by rw [e1]; omega⟩
    have ej : (fun i j : Int => V.int (i.fmod j)) (k + 1) ((ns.map V.int).length : Int) = V.int (j : Int) := congrArg V.int hj
    rw [ej]
    have hjl : j < ns.length := by
      rw [e1] at hj
      omega
    obtain ⟨x, hx, ax⟩ := int_at (ns := ls) (j := j) (by omega)
    obtain ⟨y, hy, ay⟩ := int_at (ns := ns) (j := j) hjl
    have hx0 : 0 ≤ x := hpos x (List.mem_of_getElem? hx)
    refine ⟨_, rfl, s, _, rfl, dg_left hs2, _, rfl, l, _, _, _, rfl, rfl, SqL.of hl2, ax, _, _, rfl, rfl, _, rfl, ?_⟩
    refine ite2 (fun _ => ?_) (fun _ => ?_)
    · refine ⟨_, rfl, s, _, rfl, dg_left hs2, _, rfl, l, _, _, _, rfl, rfl, SqL.of hl2, ax, _, rfl, _, _, rfl, rfl, (by show m ≠ 0; omega), ?_⟩
      refine ⟨_, rfl, s, _, rfl, dg_left hs2, _, rfl, l, _, _, _, rfl, rfl, SqL.of hl2, ax, _, rfl, _, _, rfl, rfl, ⟨by show m ≠ 0; omega, by omega⟩, ?_⟩
      have hix : ixN (ls.map V.int).length ((j : Nat) : Int) = some j := Evl.ixN_nat (by rw [List.length_map]; omega)
      refine ⟨_, rfl, s, _, rfl, dg_left hs2, _, rfl, l, _, _, j, rfl, rfl, hl2, hix, _, rfl, ?_⟩
      have em : (ls.map V.int).set j (V.int (x.fdiv m)) = (ls.set j (x.fdiv m)).map V.int := by rw [List.map_set]
      have em' : (ls.map V.int).set j ((fun i j : Int => V.int (i.fdiv j)) x m) = (ls.set j (x.fdiv m)).map V.int := em
      rw [em']
      have k3 : Keep s l H2 (upd H2 l (.lst ((ls.set j (x.fdiv m)).map V.int))) := Keep.putl
      have z := fmod_lt (x := x) hm
      refine q _ _ ⟨cs, cl, sl, (kk.trans k3).some cs cl co, k + 1, ns, ls.set j (x.fdiv m), by omega, ?_, k3.seqL cs cl hc2, h63, upd_same, by rw [List.length_set, hll], fun u hu' => ?_⟩ (kk.trans k3) z.1 z.2
      · rw [upd_ne sl]
        exact hs2
      · rcases List.mem_or_eq_of_mem_set hu' with h | h
        · exact hpos u h
        · rw [h]
          exact fdiv_nn hm hx0
    · refine ⟨_, rfl, s, _, rfl, dg_cells hs2, _, rfl, c, _, _, _, rfl, rfl, hc2, ay, _, rfl, _, _, rfl, rfl, .inl (by decide), _, _, rfl, rfl, ?_⟩
      have n3 := fmod_lt (x := k + 1) (m := 50) (by omega)
      refine ⟨_, rfl, _, _, rfl, rfl, (by show (1000 : Int) ≠ 0; decide), _, _, rfl, n1.1, by omega, fun x hx => ?_⟩
      refine ⟨_, rfl, _, _, rfl, rfl, (by show (50 : Int) ≠ 0; decide), _, _, rfl, n3.1, by omega, fun y hy => ?_⟩
      refine ⟨_, _, rfl, rfl, ⟨by decide, by decide⟩, _, rfl, _, _, rfl, rfl, (by show m ≠ 0; omega), ?_⟩
      have z := fmod_lt (x := y.fdiv 64) hm
      exact q H2 _ S2 kk z.1 z.2
end
end Kn

set_option Elab.async false
set_option linter.all false
set_option maxRecDepth 100000
set_option maxHeartbeats 4000000
namespace Kn
open PySem L2
section
variable {P : Program} {w : World} {K : PySem.W.Frag} {mg : Str → Option Value} {base : Heap}
theorem mergeK_app : ∀ (more kvs : List (Key × V)), ((kvs ++ more).map (·.1)).Nodup → mergeK kvs more = kvs ++ more
  | [], kvs, _ => by
    rw [List.append_nil]
    rfl
  | (k, v) :: r, kvs, h => by
    have hn : (kvs.any fun kv => decide (kv.1 = k)) = false := by
      rw [List.any_eq_false]
      intro p hp hk
      have hk' : p.1 = k := of_decide_eq_true hk
      rw [List.map_append, List.nodup_append] at h
      exact h.2.2 p.1 (List.mem_map_of_mem hp) k (by simp) hk'
    have e : putK kvs k v = kvs ++ [(k, v)] := by
      unfold putK
      rw [hn]
      rfl
    have ih := mergeK_app r (kvs ++ [(k, v)]) (by simpa [List.append_assoc] using h)
    have e2 : mergeK kvs ((k, v) :: r) = mergeK (putK kvs k v) r := rfl
    rw [e2, e, ih, List.append_assoc]
    rfl
theorem mergeK_nd {kvs : List (Key × V)} (h : (kvs.map (·.1)).Nodup) : mergeK [] kvs = kvs := by
  have e := mergeK_app kvs [] (by simpa using h)
  simpa using e
theorem scBegun : FnScope ["script", "cell"] ["script"] (defScope sBegun) := ⟨rfl, rfl, rfl, by decide +kernel, rfl, by decide +kernel, by decide +kernel⟩
/-- a new state of the draws -/
def spBegun (K : PySem.W.Frag) : Sp := fun vs H Q _ => ∃ (c : Addr) (ns : List Int), vs = [.ref c] ∧ SqL K H c (ns.map V.int) ∧ (∃ o, H c = some o) ∧ ns.length ≤ 63 ∧ ∀ (H' : Hp) (s l : Addr), StOk K H' s c l → Same H H' → H s = none → H l = none → Q (.ref s) H'
theorem ok_begun {f : Addr} {fd : FuncData} (F : Fun K "_law_begun" "_law_begun" sBegun f fd) : FnOk P w K mg base CX0 1 f fd ["script"] (spBegun K) := by
  refine F.ok scBegun (fun vs H Q E h => ?_) (fun cdv A outer s H vs Q E hr h => ?_)
  · obtain ⟨c, ns, rfl, _⟩ := h
    rfl
  obtain ⟨c, ns, rfl, hc, hco, h63, q⟩ := h
  refine ⟨_, pss_one (ps_ret (pe_disp (pps_cons pe_str (pv 0) (pps_cons pe_str
    (pe_lc (own := [("cell", 1)]) (g := gName 1) (tt := tYes) rfl scBegun.nd (pi_list (pv 0)) (blkOk_by (own := [("cell", 1)]) (N := ["script", "cell"]) (sc := defScope sBegun) (by decide +kernel))
      (fun _ _ _ _ _ => pg_name (i := 1) scBegun.nd rfl (Or.inl rfl)) (fun _ _ _ _ _ => pts_nil)
      (fun _ _ _ _ _ => pe_ifExp (pt_cmpR op_ge (pv 1) (pe_op op_pow pe_int pe_int) (nomark _)) (pv 1) pe_int))
    (pps_cons pe_str pe_int pps_nil))) (by rfl) (by rfl) (fun z => by cases z) (by decide))), ?_⟩
  intro s hs
  obtain ⟨oc, hco⟩ := hco
  have e1 : Same H (upd H s (.dK [])) := same_new hs _
  refine ⟨_, rfl, _, rfl, c, rfl, ⟨_, e1.seq hc⟩, fun D hD => ?_⟩
  have hD0 : H D = none := e1.free hD
  have nDs : D ≠ s := fun z => by
    rw [z, upd_same] at hD
    cases hD
  refine lc_list (K := K) (a := c) (xs := ns.map V.int) (fun i H' => Same (upd H s (.dK [])) H' ∧ ∃ ls : List Int, H' D = some (.lst (ls.map V.int)) ∧ ls.length = i ∧ ∀ x ∈ ls, 0 ≤ x)
    ⟨same_new hD _, [], upd_same, rfl, fun x hx => by cases hx⟩ (fun i H' _ p => p.1.seq (e1.seq hc)) ?_ ?_
  · rintro i x H' hi ⟨e2, ls, h1, h2, h3⟩
    have hi63 : i < 64 := by
      have z := (List.getElem?_eq_some_iff.mp hi).1
      rw [List.length_map] at z
      omega
    obtain ⟨u, rfl⟩ : ∃ u, x = V.int u := by
      rw [List.getElem?_map] at hi
      cases e : ns[i]? with
      | none =>
        rw [e] at hi
        cases hi
      | some u =>
        rw [e] at hi
        exact ⟨u, (Option.some.inj hi).symm⟩
    have fin : ∀ y : Int, 0 ≤ y → ∃ acc, H' D = some (HO.lst acc) ∧ acc.length < sizeLine ∧ (Same (upd H s (.dK [])) (upd H' D (.lst (acc ++ [V.int y]))) ∧ ∃ ls : List Int, (upd H' D (.lst (acc ++ [V.int y]))) D = some (.lst (ls.map V.int)) ∧ ls.length = i + 1 ∧ ∀ x ∈ ls, 0 ≤ x) := fun y hy => by
      refine ⟨_, h1, by rw [List.length_map, h2]; exact small1000 (by omega), fun b o q => ?_, ls ++ [y], ?_, by rw [List.length_append, h2]; rfl, fun z hz => ?_⟩
      · rw [upd_ne (ne_of_none q hD)]
        exact e2 b o q
      · rw [upd_same, List.map_append]
        rfl
      · rcases List.mem_append.mp hz with hz | hz
        · exact h3 z hz
        · rw [List.mem_singleton.mp hz]
          exact hy
    refine ⟨rfl, ?_⟩
    show _
    refine ⟨_, rfl, _, _, rfl, rfl, ⟨by decide, by decide, by decide⟩, _, _, rfl, rfl, _, rfl, ?_⟩
    refine ite2 (fun c => ?_) (fun _ => ?_)
    · have c' : u ≥ 10 ^ (18 : Int).toNat := of_decide_eq_true c
      have e18 : (10 : Int) ^ (18 : Int).toNat = 1000000000000000000 := by decide
      rw [e18] at c'
      exact ⟨_, rfl, fin u (by omega)⟩
    · exact fin 0 (by omega)
  · rintro H' ⟨e2, ls, h1, h2, h3⟩
    rw [List.length_map] at h2
    have hs2 : H' s = some (.dK []) := e2 _ _ upd_same
    refine ⟨hs2, [(.inr ("cells" : Str), .ref c), (.inr ("left" : Str), .ref D), (.inr ("at" : Str), .int 0)], rfl, (by show 3 ≤ 15; decide), ?_⟩
    have em : mergeK [] ([(Sum.inr ("cells" : Str), V.ref c), (Sum.inr ("left" : Str), V.ref D), (Sum.inr ("at" : Str), V.int 0)] : List (Key × V)) = dSt c D 0 := by
      exact mergeK_nd (by show ([Sum.inr ("cells" : Str), Sum.inr ("left" : Str), Sum.inr ("at" : Str)] : List Key).Nodup; decide +kernel)
    rw [em]
    have e3 : Same H (upd H' s (.dK (dSt c D 0))) := fun b o q => by
      rw [upd_ne (ne_of_none q hs)]
      exact e2 _ _ (e1 b o q)
    refine q _ s D ⟨ne_of_none hco hs, ne_of_none hco hD0, nDs.symm, (by rw [e3 _ _ hco]; exact fun z => nomatch z), 0, ns, ls, Int.le_refl 0, upd_same, e3.seq hc, h63, ?_, h2, h3⟩ e3 hs hD0
    rw [upd_ne nDs]
    exact h1

/-! ### one of some things -/
theorem scOne : FnScope ["state", "things"] ["state", "things"] (defScope sOne) := ⟨rfl, rfl, rfl, by decide +kernel, rfl, by decide +kernel, by decide +kernel⟩
def spOne (K : PySem.W.Frag) : Sp := fun vs H Q _ => ∃ (s c l : Addr) (v : V), vs = [.ref s, v] ∧ StOk K H s c l ∧
  ((∃ (a : Addr) (xs : List V), v = .ref a ∧ a ≠ s ∧ a ≠ l ∧ SqL K H a xs ∧ 0 < xs.length ∧ xs.length ≤ 100000 ∧ ∀ (H' : Hp) (x : V), StOk K H' s c l → Keep s l H H' → x ∈ xs → Q x H') ∨
    ∃ z : Str, v = .str z ∧ 0 < z.length ∧ z.length ≤ 100000 ∧ ∀ (H' : Hp) (x : Nat), StOk K H' s c l → Keep s l H H' → x ∈ z.cps.toList → Q (.str ⟨#[x]⟩) H')
theorem ok_one {f : Addr} {fd : FuncData} (F : Fun K "_law_one" "_law_one" sOne f fd) (M : Def P w K mg base CX0 "_law_draw" 2 ["state", "many"] (spDraw K)) (ml : mg "len" = none) : FnOk P w K mg base CX0 3 f fd ["state", "things"] (spOne K) := by
  refine F.ok scOne (fun vs H Q E h => ?_) (fun cdv A outer s H vs Q E hr h => ?_)
  · obtain ⟨s, c, l, v, rfl, _⟩ := h
    rfl
  obtain ⟨s, c, l, v, rfl, S, h⟩ := h
  refine ⟨_, pss_one (ps_ret (pe_ix ix_seq (pv 1) (pe_def M hr rfl (pa_cons (pv 0) (pa_cons (pe_callB call_len (by rfl) ml PySem.boot_len (pa_cons (pv 1) pa_nil)) pa_nil))) (fun _ _ => rfl))), ?_⟩
  rcases h with ⟨a, xs, rfl, as, al, hx, h0, h1, q⟩ | ⟨z, rfl, h0, h1, q⟩
  · refine ⟨_, rfl, _, rfl, _, rfl, _, _, rfl, .inl ⟨xs, hx, rfl⟩, s, c, l, _, rfl, S, by omega, by omega, fun H' n S' k n0 n1 => ?_⟩
    obtain ⟨j, rfl⟩ : ∃ j : Nat, n = (j : Int) := ⟨n.toNat, by omega⟩
    have hj : j < xs.length := by omega
    exact .inl ⟨a, xs, _, xs[j], rfl, rfl, k.seqL as al hx, atI_nat (List.getElem?_eq_getElem hj), q H' _ S' k (List.getElem_mem hj)⟩
  · refine ⟨_, rfl, _, rfl, _, rfl, _, _, rfl, ⟨Evl.sz_of h1, rfl⟩, s, c, l, _, rfl, S, by omega, by omega, fun H' n S' k n0 n1 => ?_⟩
    obtain ⟨j, rfl⟩ : ∃ j : Nat, n = (j : Int) := ⟨n.toNat, by omega⟩
    have hj : j < z.cps.toList.length := by
      have e : z.cps.toList.length = z.length := by simp [Str.length]
      omega
    exact .inr (.inr ⟨z, _, z.cps.toList[j], rfl, rfl, Evl.sz_of h1, atI_nat (List.getElem?_eq_getElem hj), q H' _ S' k (List.getElem_mem hj)⟩)
end
end Kn

set_option Elab.async false
set_option linter.all false
set_option maxRecDepth 100000
set_option maxHeartbeats 4000000
namespace Kn
open PySem L2 TL
/-! ### a text as often as a number says -/
def repS (z : Str) (n : Int) : Str := if n < 1 then Str.empty else if (n == 1 || z.length == 0) = true then z else ⟨(List.replicate n.toNat z.cps).foldl (· ++ ·) #[]⟩
def rMulS : R2 := fun x y H Q => ∃ (z : Str) (n : Int), x = .str z ∧ y = .int n ∧ 0 ≤ n ∧ n ≤ 1000 ∧ z.length ≤ 1000 ∧ (repS z n).length ≤ sizeLine ∧ Q (.str (repS z n)) H
theorem op_mulS {X : Cx} : OpR X (binaryOp .Mult) rMulS := by
  intro pins s σ H x y v u Q I rx ry h
  obtain ⟨z, n, rfl, rfl, h0, h1, h2, h3, q⟩ := h
  obtain ⟨t, rfl⟩ := rx
  obtain ⟨t', rfl⟩ := ry
  have d1 : (decide (n < -(2 ^ 63 : Int)) || decide (n ≥ 2 ^ 63)) = false := by
    rw [decide_eq_false (by omega), decide_eq_false (by omega)]
    rfl
  refine P.mul_str d1 (fun a b => ?_) (fun a b => ?_) ?_
  · have e : (1000 : Int) ≤ (2 ^ 63 - 1) / n := by
      rw [Int.le_ediv_iff_mul_le (by omega)]
      omega
    omega
  · unfold Builtin.Str.tooLong
    have e : z.length * n.toNat ≤ 1000 * 1000 := Nat.mul_le_mul h2 (by omega)
    have e2 : 1000 * 1000 ≤ sizeLine := by decide
    exact decide_eq_false (by omega)
  · unfold repS at q h3
    by_cases c : n < 1
    · rw [if_pos c]
      rw [if_pos c] at q h3
      exact ⟨h3, .str _, H, I.tok _, ⟨_, rfl⟩, q⟩
    · rw [if_neg c]
      rw [if_neg c] at q h3
      by_cases c2 : (n == 1 || z.length == 0) = true
      · rw [if_pos c2]
        rw [if_pos c2] at q
        exact ⟨.str _, H, I, ⟨_, rfl⟩, q⟩
      · rw [if_neg c2]
        rw [if_neg c2] at q h3
        exact ⟨h3, .str _, H, I.tok _, ⟨_, rfl⟩, q⟩
/-! ### words -/
def lowB (z : Str) : Bool := z.cps.toList.all fun c => decide (97 ≤ c) && decide (c ≤ 122)
def keptB (z : Str) : Bool := z == ("some" : Str) || z == ("all" : Str) || z == ("in" : Str)
/-- a name that texts can bear -/
def wordB (z : Str) : Bool := decide (1 ≤ z.length) && decide (z.length ≤ 8) && lowB z && !keptB z
def spWord (K : PySem.W.Frag) : Sp := fun vs H Q _ => ∃ (s c l : Addr), vs = [.ref s] ∧ StOk K H s c l ∧ ∀ (H' : Hp) (z : Str), StOk K H' s c l → Keep s l H H' → wordB z = true → Q (.str z) H'
def abc : Str := "abcdefghijklmnopqrstuvwxyz"
theorem abc_low : ∀ c ∈ abc.cps.toList, 97 ≤ c ∧ c ≤ 122 := by decide +kernel
theorem abc_len : abc.length = 26 := by decide +kernel
theorem w12 : ∀ z ∈ ([("yes" : Str), "no", "name", "not", "and", "or", "xor", "if", "put", "x", "y", "z"] : List Str), wordB z = true := by decide +kernel
theorem joinL_nil : ∀ l : List (List Nat), joinL [] l = l.flatten
  | [] => rfl
  | [p] => by simp [joinL]
  | p :: q :: r => by
    have h := joinL_nil (q :: r)
    show p ++ ([] ++ joinL [] (q :: r)) = _
    rw [h]
    simp
/-- one-letter texts put together -/
theorem join_letters {ys : List Str} (h : ∀ y ∈ ys, ∃ c, y = ⟨#[c]⟩ ∧ 97 ≤ c ∧ c ≤ 122) : (Txt.join ("" : Str) ys).length = ys.length ∧ lowB (Txt.join ("" : Str) ys) = true ∧ (ys.map (·.length)).sum = ys.length := by
  have e : tl (Txt.join ("" : Str) ys) = (ys.map tl).flatten := by
    rw [join_eq, tl_join]
    exact joinL_nil _
  have key : ∀ l : List Str, (∀ y ∈ l, ∃ c, y = ⟨#[c]⟩ ∧ 97 ≤ c ∧ c ≤ 122) → (l.map tl).flatten.length = l.length ∧ (∀ c ∈ (l.map tl).flatten, 97 ≤ c ∧ c ≤ 122) ∧ (l.map (·.length)).sum = l.length := by
    intro l
    induction l with
    | nil => exact fun _ => ⟨rfl, (fun c hc => by cases hc), rfl⟩
    | cons y r ih =>
      intro hl
      obtain ⟨c, rfl, hc⟩ := hl y List.mem_cons_self
      obtain ⟨i1, i2, i3⟩ := ih fun z hz => hl z (List.mem_cons_of_mem _ hz)
      refine ⟨?_, fun d hd => ?_, ?_⟩
      · rw [List.map_cons, List.flatten_cons, List.length_append, i1]
        show 1 + r.length = r.length + 1
        omega
      · rw [List.map_cons, List.flatten_cons] at hd
        rcases List.mem_append.mp hd with hd | hd
        · have : d = c := by simpa [tl] using hd
          rw [this]
          exact hc
        · exact i2 d hd
      · rw [List.map_cons, List.sum_cons, i3]
        show 1 + r.length = r.length + 1
        omega
  obtain ⟨k1, k2, k3⟩ := key ys h
  refine ⟨?_, ?_, k3⟩
  · have e2 : (Txt.join ("" : Str) ys).length = (tl (Txt.join ("" : Str) ys)).length := by simp [Str.length, tl]
    rw [e2, e, k1]
  · unfold lowB
    rw [show (Txt.join ("" : Str) ys).cps.toList = (ys.map tl).flatten from e, List.all_eq_true]
    intro c hc
    have z := k2 c hc
    rw [decide_eq_true z.1, decide_eq_true z.2]
    rfl
theorem kept_xx : ∀ z ∈ ([("some" : Str), "all", "in"] : List Str), wordB (z ++ repS "x" 2) = true ∧ (repS "x" 2).length ≤ 4 ∧ z.length ≤ 4 := by decide +kernel
theorem kept_iff (z : Str) : inV (.str z) [.str ("some" : Str), .str ("all" : Str), .str ("in" : Str)] = keptB z := by
  unfold inV keptB
  have e : ∀ a : Str, eqV (.str a) (.str z) = (z == a) := fun a => by
    show (a == z) = (z == a)
    exact Bool.beq_comm
  simp only [List.any_cons, List.any_nil, e, Bool.or_false, Bool.or_assoc]
theorem kept_mem {z : Str} (h : keptB z = true) : z ∈ ([("some" : Str), "all", "in"] : List Str) := by
  unfold keptB at h
  simp only [Bool.or_eq_true, beq_iff_eq] at h
  rcases h with (h | h) | h <;> simp [h]
theorem app_empty (z : Str) : z ++ Str.empty = z := by
  show (⟨z.cps ++ #[]⟩ : Str) = z
  simp
section
variable {P : Program} {w : World} {K : PySem.W.Frag} {mg : Str → Option Value} {base : Heap}
theorem scWord : FnScope ["state", "letters", "word", "k"] ["state"] (defScope sWord) := ⟨rfl, rfl, rfl, by decide +kernel, rfl, by decide +kernel, by decide +kernel⟩
theorem ok_word {f : Addr} {fd : FuncData} (F : Fun K "_law_word" "_law_word" sWord f fd) (M : Def P w K mg base CX0 "_law_draw" 2 ["state", "many"] (spDraw K)) (O : Def P w K mg base CX0 "_law_one" 3 ["state", "things"] (spOne K)) (mr : mg "range" = none) (mi : mg "int" = none) :
    FnOk P w K mg base CX0 4 f fd ["state"] (spWord K) := by
  refine F.ok scWord (fun vs H Q E h => ?_) (fun cdv A outer s H vs Q E hr h => ?_)
  · obtain ⟨s, c, l, rfl, _⟩ := h
    rfl
  obtain ⟨s, c, l, rfl, S, q⟩ := h
  have hr2 : Room 2 _ := hr.mono (by decide)
  refine ⟨_, pss_cons (ps_if (pt_cmpR op_eq (pe_def M hr2 rfl (pa_cons (pv 0) (pa_cons pe_int pa_nil))) pe_int (nomark _))
      (pss_one (ps_ret (pe_def O hr rfl (pa_cons (pv 0) (pa_cons (pe_lst (pa_cons pe_str (pa_cons pe_str (pa_cons pe_str (pa_cons pe_str (pa_cons pe_str (pa_cons pe_str (pa_cons pe_str (pa_cons pe_str (pa_cons pe_str (pa_cons pe_str (pa_cons pe_str (pa_cons pe_str pa_nil))))))))))))) pa_nil))))) pss_nil)
    (pss_cons (ps_set (i := 1) scWord.nd rfl (Or.inr rfl) pe_str)
    (pss_cons (ps_set (i := 2) scWord.nd rfl (Or.inl rfl) (pe_join pe_str
      (pe_lc (own := [("k", 3)]) (g := gName 3) (tt := tYes) rfl scWord.nd (pi_range1 rfl mr (pa_cons (pe_op op_add pe_int (pe_def M hr2 rfl (pa_cons (pv 0) (pa_cons pe_int pa_nil)))) pa_nil)) (blkOk_by (own := [("k", 3)]) (N := ["state", "letters", "word", "k"]) (sc := defScope sWord) (by decide +kernel))
        (fun _ _ _ _ _ => pg_name (i := 3) scWord.nd rfl (Or.inl rfl)) (fun _ _ _ _ _ => pts_nil)
        (fun _ _ _ _ _ => pe_def O hr rfl (pa_cons (pv 0) (pa_cons (pv 1) pa_nil))))))
    (pss_one (ps_ret (pe_op op_add_str (pv 2) (pe_op op_mulS pe_str (pe_op op_mul pe_int (pe_callTy call_int1 (by rfl) mi (by decide +kernel) (pa_cons (pe_cmpR op_in_seq (pv 2) (pe_tup (pa_cons pe_str (pa_cons pe_str (pa_cons pe_str pa_nil)))) (by rfl)) pa_nil))))))))), ?_⟩
  refine ⟨_, rfl, s, c, l, 3, rfl, S, by decide, by decide, fun H1 n S1 k1 n0 n1 => ?_⟩
  refine ⟨rfl, _, rfl, ?_⟩
  refine ite2 (fun _ => ?_) (fun _ => ?_)
  · refine ⟨_, rfl, (by show 12 ≤ sizeLine; decide), fun p hp => ?_⟩
    have nn := S1.ns hp
    refine ⟨s, c, l, _, rfl, S1.new hp, .inl ⟨p, _, rfl, nn.1, nn.2.1, SqL.of upd_same, (by show 0 < 12; decide), (by show 12 ≤ 100000; decide), fun H2 x S2 k2 hx => ?_⟩⟩
    have hx' : x ∈ (([("yes" : Str), "no", "name", "not", "and", "or", "xor", "if", "put", "x", "y", "z"] : List Str).map V.str) := hx
    obtain ⟨z, hz, rfl⟩ := List.mem_map.mp hx'
    exact q H2 z S2 (k1.trans ((Keep.new hp).trans k2)) (w12 z hz)
  · refine ⟨⟨_, rfl⟩, ?_⟩
    refine ⟨_, rfl, s, c, l, 8, rfl, S1, by decide, by decide, fun H2 n2 S2 k2 n20 n21 => ?_⟩
    refine ⟨_, _, rfl, rfl, _, rfl, by omega, by omega, fun D hD => ?_⟩
    have nn := S2.ns hD
    have kk := k1.trans k2
    refine lc_range (lo := 0) (n := (1 + n2).toNat) (fun i H' => StOk K H' s c l ∧ Keep s l H H' ∧ ∃ ys : List Str, H' D = some (.lst (ys.map V.str)) ∧ ys.length = i ∧ ∀ y ∈ ys, ∃ c, y = ⟨#[c]⟩ ∧ 97 ≤ c ∧ c ≤ 122)
      ⟨S2.new hD, kk.trans (Keep.new hD), [], upd_same, rfl, fun y hy => by cases hy⟩ ?_ ?_
    · rintro i H' hi ⟨S3, k3, ys, h1, h2, h3⟩
      refine ⟨rfl, ?_⟩
      show _
      refine ⟨_, rfl, _, rfl, s, c, l, _, rfl, S3, .inr ⟨abc, rfl, by rw [abc_len]; decide, by rw [abc_len]; decide, fun H4 x S4 k4 hx => ?_⟩⟩
      have h4 : H4 D = some (.lst (ys.map V.str)) := k4 _ _ nn.1 nn.2.1 h1
      refine ⟨_, h4, by rw [List.length_map, h2]; exact small1000 (by omega), S4.mut nn, kk.mut hD (k3.trans k4), ys ++ [⟨#[x]⟩], ?_, by rw [List.length_append, h2]; rfl, fun y hy => ?_⟩
      · rw [upd_same, List.map_append]
        rfl
      · rcases List.mem_append.mp hy with hy | hy
        · exact h3 y hy
        · exact ⟨x, List.mem_singleton.mp hy, abc_low x hx⟩
    · rintro H' ⟨S3, k3, ys, h1, h2, h3⟩
      obtain ⟨z1, z2, z3⟩ := join_letters h3
      have hlen : ys.length ≤ 8 := by omega
      refine ⟨_, D, ys, rfl, rfl, .inl (SqL.of h1), (by
        rw [z3]
        show ys.length + ys.length * 0 ≤ 16777216
        omega), ?_⟩
      generalize hz : Txt.join (Str.ofString "") ys = z at *
      refine ⟨_, rfl, _, rfl, (by show 3 ≤ sizeLine; decide), fun t ht => ?_⟩
      have e4 : Keep s l H (upd H' t (.tup [V.str ("some" : Str), V.str ("all" : Str), V.str ("in" : Str)])) := k3.trans (Keep.new ht)
      have S5 := S3.new (o := .tup [V.str ("some" : Str), V.str ("all" : Str), V.str ("in" : Str)]) ht
      refine ⟨t, _, rfl, .inr (SqT.of upd_same), rfl, rfl, ?_⟩
      rw [kept_iff]
      cases hk : keptB z with
      | true =>
        obtain ⟨w1, w2, w3⟩ := kept_xx z (kept_mem hk)
        refine .inr ⟨true, rfl, _, _, rfl, rfl, .inl (by decide), _, _, rfl, rfl, by decide, by decide, (by show (1 : Nat) ≤ 1000; decide), (by show (repS "x" 2).length ≤ sizeLine; exact Nat.le_trans w2 (by decide)), _, _, rfl, rfl, ?_, q _ _ S5 e4 w1⟩
        have w4 : sizeLine = 16777216 := sizeLine_eq
        show z.length + (repS "x" 2).length ≤ sizeLine
        omega
      | false =>
        refine .inr ⟨false, rfl, _, _, rfl, rfl, .inl (by decide), _, _, rfl, rfl, by decide, by decide, (by show (1 : Nat) ≤ 1000; decide), (by show (repS "x" 0).length ≤ sizeLine; decide +kernel), _, _, rfl, rfl, ?_, ?_⟩
        · have w4 : sizeLine = 16777216 := sizeLine_eq
          have w5 : (repS "x" 0).length = 0 := by decide +kernel
          show z.length + (repS "x" 0).length ≤ sizeLine
          omega
        · have w5 : repS "x" 0 = Str.empty := by decide +kernel
          show Q (V.str (z ++ repS "x" 0)) _
          rw [w5, app_empty]
          refine q _ _ S5 e4 ?_
          unfold wordB
          rw [hk, z2, decide_eq_true (by omega), decide_eq_true (by omega)]
          rfl
end
end Kn

set_option Elab.async false
set_option linter.all false
set_option maxRecDepth 100000
set_option maxHeartbeats 4000000
namespace Kn
open PySem L2 TL
/-! ### names: unlike ones, by words and one letter more -/
theorem pigeon {α : Type} [BEq α] [LawfulBEq α] : ∀ {l b : List α}, l.Nodup → (∀ x ∈ l, x ∈ b) → l.length ≤ b.length
  | [], b, _, _ => Nat.zero_le _
  | x :: r, b, hn, hs => by
    have hx := hs x List.mem_cons_self
    have hn' := List.nodup_cons.mp hn
    have ih := pigeon (l := r) (b := b.erase x) hn'.2 fun y hy => (List.mem_erase_of_ne (fun (z : y = x) => hn'.1 (by rw [← z]; exact hy))).mpr (hs y (List.mem_cons_of_mem _ hy))
    rw [List.length_erase_of_mem hx] at ih
    have := List.length_pos_of_mem hx
    rw [List.length_cons]
    omega
def letS (c : Nat) : Str := ⟨#[c]⟩
/-- the word, and its beginning with each letter -/
def othersOf (z : Str) : List Str := z :: abc.cps.toList.map fun c => cutS z none (some 7) ++ letS c
def isBad (found : List Str) (x : Str) : Bool := inV (.str x) ((found.map V.str) ++ [.str ("some" : Str), .str ("all" : Str), .str ("in" : Str)])
theorem isBad_iff (found : List Str) (x : Str) : isBad found x = decide (x ∈ found ++ [("some" : Str), "all", "in"]) := by
  unfold isBad inV
  have e : ((found.map V.str) ++ [V.str ("some" : Str), V.str ("all" : Str), V.str ("in" : Str)]) = (found ++ [("some" : Str), "all", "in"]).map V.str := by
    rw [List.map_append]
    rfl
  rw [e, List.any_map]
  generalize found ++ [("some" : Str), "all", "in"] = l
  induction l with
  | nil => rfl
  | cons y r ih =>
    rw [List.any_cons, ih]
    show ((y == x) || decide (x ∈ r)) = decide (x ∈ y :: r)
    by_cases h : x = y
    · subst h
      simp
    · have h2 : (y == x) = false := by
        rw [beq_eq_false_iff_ne]
        exact fun q => h q.symm
      rw [h2, Bool.false_or]
      simp [h]
theorem abc_nodup : abc.cps.toList.Nodup := by decide +kernel
theorem others_nd (z : Str) : (abc.cps.toList.map fun c => cutS z none (some 7) ++ letS c).Nodup := by
  unfold List.Nodup
  rw [List.pairwise_map]
  refine List.Pairwise.imp (fun {a b} h q => h ?_) abc_nodup
  have e : tl (cutS z none (some 7) ++ letS a) = tl (cutS z none (some 7) ++ letS b) := by rw [q]
  rw [tl_append, tl_append] at e
  have e2 := List.append_cancel_left e
  have e3 : [a] = [b] := e2
  exact (List.cons.inj e3).1
theorem others_good {found : List Str} (hf : found.length ≤ 20) (z : Str) : ∃ x ∈ othersOf z, isBad found x = false := by
  false_or_by_contra
  rename_i h
  have all : ∀ x ∈ (abc.cps.toList.map fun c => cutS z none (some 7) ++ letS c), x ∈ found ++ [("some" : Str), "all", "in"] := fun x hx => by
    cases q : isBad found x with
    | false => exact absurd ⟨x, List.mem_cons_of_mem _ hx, q⟩ h
    | true =>
      rw [isBad_iff] at q
      exact of_decide_eq_true q
  have p := pigeon (others_nd z) all
  have l1 : (abc.cps.toList.map fun c => cutS z none (some 7) ++ letS c).length = 26 := by
    rw [List.length_map]
    decide +kernel
  rw [l1, List.length_append] at p
  have : ([("some" : Str), "all", "in"] : List Str).length = 3 := rfl
  omega
theorem cut7 {z : Str} (hz : wordB z = true) : (cutS z none (some 7)).length ≤ 7 ∧ lowB (cutS z none (some 7)) = true := by
  have e : tl (cutS z none (some 7)) = (tl z).take (min 7 z.length) := by
    unfold cutS
    have e1 : HT.sIx z.length z.length (some 7) = min 7 z.length := HT.sIx_nat z.length z.length 7
    rw [e1, HT.sIx_none]
    simp
  have hl : lowB z = true := by
    unfold wordB at hz
    simp only [Bool.and_eq_true] at hz
    exact hz.1.2
  constructor
  · have e2 : (cutS z none (some 7)).length = (tl (cutS z none (some 7))).length := by simp [Str.length, tl]
    rw [e2, e, List.length_take]
    omega
  · unfold lowB at hl ⊢
    rw [show (cutS z none (some 7)).cps.toList = (tl z).take (min 7 z.length) from e, List.all_eq_true]
    intro c hc
    exact List.all_eq_true.mp hl c (List.mem_of_mem_take hc)
theorem lowB_app {x y : Str} (hx : lowB x = true) (hy : lowB y = true) : lowB (x ++ y) = true := by
  unfold lowB at *
  rw [show (x ++ y).cps.toList = tl x ++ tl y from tl_append x y, List.all_append]
  rw [show (tl x).all _ = true from hx, show (tl y).all _ = true from hy]
  rfl
theorem len_app (x y : Str) : (x ++ y).length = x.length + y.length := by
  have e : ∀ z : Str, z.length = (tl z).length := fun z => by simp [Str.length, tl]
  rw [e, tl_append, List.length_append, ← e, ← e]
theorem others_ok {z x : Str} {found : List Str} (hz : wordB z = true) (hx : x ∈ othersOf z) (hb : isBad found x = false) : wordB x = true ∧ x ∉ found := by
  rw [isBad_iff, decide_eq_false_iff_not] at hb
  have h1 : x ∉ found := fun q => hb (List.mem_append_left _ q)
  refine ⟨?_, h1⟩
  rcases List.mem_cons.mp hx with e | hx
  · rw [e]
    exact hz
  · obtain ⟨c, hc, rfl⟩ := List.mem_map.mp hx
    obtain ⟨c1, c2⟩ := cut7 hz
    have hk : keptB (cutS z none (some 7) ++ letS c) = false := by
      cases q : keptB (cutS z none (some 7) ++ letS c) with
      | false => rfl
      | true => exact absurd (List.mem_append_right _ (kept_mem q)) hb
    have hl : lowB (letS c) = true := by
      have z2 := abc_low c hc
      unfold lowB letS
      simp [z2.1, z2.2]
    have hn : (cutS z none (some 7) ++ letS c).length = (cutS z none (some 7)).length + 1 := len_app _ _
    unfold wordB
    rw [hk, lowB_app c2 hl, decide_eq_true (by omega), decide_eq_true (by omega)]
    rfl
section
variable {P : Program} {w : World} {K : PySem.W.Frag} {mg : Str → Option Value} {base : Heap}
theorem scNames : FnScope ["state", "many", "found", "k", "word", "others", "letter", "other"] ["state", "many"] (defScope sNames) := ⟨rfl, rfl, rfl, by decide +kernel, rfl, by decide +kernel, by decide +kernel⟩
/-- a new list of so many unlike names -/
def spNames (K : PySem.W.Frag) : Sp := fun vs H Q _ => ∃ (s c l : Addr) (m : Int), vs = [.ref s, .int m] ∧ StOk K H s c l ∧ 0 ≤ m ∧ m ≤ 20 ∧
  ∀ (H' : Hp) (p : Addr) (zs : List Str), StOk K H' s c l → Keep s l H H' → H p = none → H' p = some (.lst (zs.map V.str)) → (zs.length : Int) = m → (∀ z ∈ zs, wordB z = true) → zs.Nodup → Q (.ref p) H'
theorem ok_names {f : Addr} {fd : FuncData} (F : Fun K "_law_names" "_law_names" sNames f fd) (W : Def P w K mg base CX0 "_law_word" 4 ["state"] (spWord K)) (mr : mg "range" = none) :
    FnOk P w K mg base CX0 5 f fd ["state", "many"] (spNames K) := by
  refine F.ok scNames (fun vs H Q E h => ?_) (fun cdv A outer s H vs Q E hr h => ?_)
  · obtain ⟨s, c, l, m, rfl, _⟩ := h
    rfl
  obtain ⟨s, c, l, m, rfl, S, hm0, hm1, q⟩ := h
  refine ⟨_, pss_cons (ps_set (i := 2) scNames.nd rfl (Or.inr rfl) (pe_lst pa_nil))
    (pss_cons (ps_for PassesOwn.never rfl (pi_range1 rfl mr (pa_cons (pv 1) pa_nil)) (pg_name (i := 3) scNames.nd rfl (Or.inl rfl))
      (pss_cons (ps_set (i := 4) scNames.nd rfl (Or.inr rfl) (pe_def W hr rfl (pa_cons (pv 0) pa_nil)))
      (pss_cons (ps_set (i := 5) scNames.nd rfl (Or.inl rfl) (pe_op op_cat (pe_lst (pa_cons (pv 4) pa_nil))
        (pe_lc (own := [("letter", 6)]) (g := gName 6) (tt := tYes) rfl scNames.nd (pi_str pe_str) (blkOk_by (own := [("letter", 6)]) (N := ["state", "many", "found", "k", "word", "others", "letter", "other"]) (sc := defScope sNames) (by decide +kernel))
          (fun _ _ _ _ _ => pg_name (i := 6) scNames.nd rfl (Or.inl rfl)) (fun _ _ _ _ _ => pts_nil)
          (fun _ _ _ _ _ => pe_op op_add_str (pe_slice sl_str (pv 4) po_none (po_some pe_int)) (pv 6)))))
      (pss_one (ps_expr (pe_bm PySem.F.plainAttrs_list PySem.F.slot_list_append PySem.F.type_list_append mt_append (pv 2) (pa_cons (pe_ix ix_list
        (pe_lc (own := [("other", 7)]) (g := gName 7) rfl scNames.nd (pi_list (pv 5)) (blkOk_by (own := [("other", 7)]) (N := ["state", "many", "found", "k", "word", "others", "letter", "other"]) (sc := defScope sNames) (by decide +kernel))
          (fun _ _ _ _ _ => pg_name (i := 7) scNames.nd rfl (Or.inl rfl)) (fun _ _ _ _ _ => pts_one (pt_cmpR (op_notInK (K := K) rfl) (pv 7) (pe_op op_cat (pv 2) (pe_lst (pa_cons pe_str (pa_cons pe_str (pa_cons pe_str pa_nil))))) (by rfl)))
          (fun _ _ _ _ _ => pv 7)) pe_int (fun _ _ => rfl)) pa_nil)))))))
    (pss_one (ps_ret (pv 2)))), ?_⟩
  refine ⟨Nat.zero_le _, fun p hp => ?_⟩
  have np := S.ns hp
  refine ⟨_, rfl, m, rfl, by omega, by omega, for_range (lo := 0) (n := m.toNat) (fun i σ H' => ∃ (v3 v4 v5 v6 v7 : Option V) (zs : List Str), σ = [some (.ref s), some (.int m), some (.ref p), v3, v4, v5, v6, v7] ∧ StOk K H' s c l ∧ Keep s l H H' ∧ H' p = some (.lst (zs.map V.str)) ∧ zs.length = i ∧ (∀ z ∈ zs, wordB z = true) ∧ zs.Nodup)
    ⟨none, none, none, none, none, [], rfl, S.new hp, Keep.new hp, upd_same, rfl, (fun z hz => by cases hz), List.nodup_nil⟩ ?_ ?_⟩
  · rintro i σ H1 hi ⟨v3, v4, v5, v6, v7, zs, rfl, S1, k1, e1, l1, g1, d1⟩
    have hi20 : i < 20 := by omega
    refine ⟨_, rfl, s, c, l, rfl, S1, fun H2 z S2 k2 hz => ?_⟩
    have e2 : H2 p = some (.lst (zs.map V.str)) := k2 _ _ np.1 np.2.1 e1
    have z8 : z.length ≤ 8 ∧ 1 ≤ z.length := by
      unfold wordB at hz
      simp only [Bool.and_eq_true, decide_eq_true_eq] at hz
      omega
    refine ⟨_, rfl, (by show 1 ≤ sizeLine; decide), fun a ha => ?_⟩
    have na := S2.ns ha
    have e3 : Same H2 (upd H2 a (.lst [V.str z])) := same_new ha _
    have ea : (upd H2 a (.lst [V.str z])) a = some (.lst [V.str z]) := upd_same
    generalize upd H2 a (.lst [V.str z]) = H3 at *
    refine ⟨_, rfl, fun D hD => ?_⟩
    refine lc_it (walk_str (z := abc)) (fun j H' => Same H3 H' ∧ H' D = some (.lst (((abc.cps.toList.take j).map fun c => cutS z none (some 7) ++ letS c).map V.str)))
      ⟨same_new hD _, upd_same⟩ (fun _ _ _ _ => True.intro) ?_ ?_
    · rintro j x Ha Hb hj ⟨p1, p2⟩ ⟨rfl, cc, hcc, rfl⟩
      have hj26 : j < 26 := by
        have : abc.cps.size = 26 := abc_len
        omega
      have hc7 := (cut7 hz).1
      refine ⟨rfl, ?_⟩
      show _
      refine ⟨_, rfl, _, rfl, z, rfl, Nat.le_of_lt (small1000 (by omega)), _, rfl, _, _, rfl, rfl, Nat.le_of_lt (small1000 (by
        show (cutS z none (some 7)).length + 1 ≤ 1000
        omega)), _, p2, by rw [List.length_map, List.length_map, List.length_take]; exact small1000 (by omega), fun b o q => ?_, ?_⟩
      · rw [upd_ne (ne_of_none q hD)]
        exact p1 b o q
      · rw [upd_same]
        have e5 : abc.cps.toList.take (j + 1) = abc.cps.toList.take j ++ [cc] := by
          have h5 : abc.cps.toList[j]? = some cc := by
            rw [← hcc]
            simp
          rw [List.take_add_one, h5]
          rfl
        rw [e5, List.map_append, List.map_append]
        rfl
    · rintro H4 ⟨p1, p2⟩
      have e6 : abc.cps.toList.take abc.cps.size = abc.cps.toList := by
        rw [List.take_of_length_le]
        simp
      rw [e6] at p2
      have eo : (V.str z :: (abc.cps.toList.map fun c => cutS z none (some 7) ++ letS c).map V.str) = (othersOf z).map V.str := rfl
      refine ⟨a, D, _, _, rfl, rfl, p1 _ _ ea, p2, by
        rw [List.length_map, List.length_map]
        have : abc.cps.toList.length = 26 := by decide +kernel
        exact Nat.le_of_lt (small1000 (by rw [List.length_singleton]; omega)), fun o ho => ?_⟩
      have e7 : (upd H4 o (.lst ([V.str z] ++ (abc.cps.toList.map fun c => cutS z none (some 7) ++ letS c).map V.str))) o = some (.lst ((othersOf z).map V.str)) := upd_same
      have e8 : Same H2 (upd H4 o (.lst ([V.str z] ++ (abc.cps.toList.map fun c => cutS z none (some 7) ++ letS c).map V.str))) := fun b u q => (same_new ho _) b u (p1 b u (e3 b u q))
      generalize upd H4 o (.lst ([V.str z] ++ (abc.cps.toList.map fun c => cutS z none (some 7) ++ letS c).map V.str)) = H5 at *
      have e9 : H5 p = some (.lst (zs.map V.str)) := e8 _ _ e2
      refine ⟨_, rfl, .inl ⟨rfl, _, SqL.of e9⟩, _, rfl, o, rfl, ⟨_, SqL.of e7⟩, fun D2 hD2 => ?_⟩
      have nD2 : D2 ≠ p := fun q => by
        rw [q, e9] at hD2
        cases hD2
      refine lc_list (xs := (othersOf z).map V.str) (fun j H' => Same H5 H' ∧ H' D2 = some (.lst ((((othersOf z).take j).filter fun x => !isBad zs x).map V.str)))
        ⟨same_new hD2 _, upd_same⟩ (fun j H' _ r => SqL.of (r.1 _ _ e7)) ?_ ?_
      · rintro j x Ha hj ⟨r1, r2⟩
        obtain ⟨y, hy, rfl⟩ : ∃ y, (othersOf z)[j]? = some y ∧ x = V.str y := by
          rw [List.getElem?_map] at hj
          cases e : (othersOf z)[j]? with
          | none =>
            rw [e] at hj
            cases hj
          | some y =>
            rw [e] at hj
            exact ⟨y, rfl, (Option.some.inj hj).symm⟩
        have l27 : (othersOf z).length = 27 := by
          unfold othersOf
          rw [List.length_cons, List.length_map]
          have : abc.cps.toList.length = 26 := by decide +kernel
          omega
        have hj27 : j < 27 := by
          have := (List.getElem?_eq_some_iff.mp hy).1
          omega
        have et : (othersOf z).take (j + 1) = (othersOf z).take j ++ [y] := by
          rw [List.take_add_one, hy]
          rfl
        refine ⟨rfl, _, rfl, _, rfl, (by show 3 ≤ sizeLine; decide), fun b hb => ?_⟩
        have f1 : Same Ha (upd Ha b (.lst [V.str ("some" : Str), V.str ("all" : Str), V.str ("in" : Str)])) := same_new hb _
        refine ⟨p, b, _, _, rfl, rfl, f1 _ _ (r1 _ _ e9), upd_same, by
          rw [List.length_map]
          exact Nat.le_of_lt (small1000 (by
            show zs.length + 3 ≤ 1000
            omega)), fun d hd => ?_⟩
        have f2 := f1.trans (same_new hd (.lst (zs.map V.str ++ [V.str ("some" : Str), V.str ("all" : Str), V.str ("in" : Str)])))
        refine ⟨d, _, rfl, .inl (SqL.of upd_same), rfl, ?_, _, rfl, ?_⟩
        · rw [List.all_append, List.all_map]
          have : (zs.all (flatV ∘ V.str)) = true := List.all_eq_true.mpr fun u _ => rfl
          rw [this]
          rfl
        have eb : (if true = true then !inV (V.str y) (zs.map V.str ++ [V.str ("some" : Str), V.str ("all" : Str), V.str ("in" : Str)]) else inV (V.str y) (zs.map V.str ++ [V.str ("some" : Str), V.str ("all" : Str), V.str ("in" : Str)])) = !isBad zs y := rfl
        rw [eb]
        cases hb' : isBad zs y with
        | true =>
          refine iteF ⟨fun b' u q => f2 _ _ (r1 _ _ q), ?_⟩
          rw [et, List.filter_append]
          have : ([y].filter fun x => !isBad zs x) = [] := by simp [hb']
          rw [this, List.append_nil]
          exact f2 _ _ r2
        | false =>
          refine iteT ⟨_, rfl, _, f2 _ _ r2, ?_, fun b' u q => ?_, ?_⟩
          · rw [List.length_map]
            have h1 := List.length_filter_le (fun x => !isBad zs x) ((othersOf z).take j)
            rw [List.length_take] at h1
            exact small1000 (by omega)
          · rw [upd_ne (ne_of_none q hD2)]
            exact f2 _ _ (r1 _ _ q)
          · rw [upd_same, et, List.filter_append, List.map_append]
            have : ([y].filter fun x => !isBad zs x) = [y] := by simp [hb']
            rw [this]
            rfl
      · rintro H6 ⟨r1, r2⟩
        rw [List.length_map, List.take_length] at r2
        obtain ⟨x0, hx0, hb0⟩ := others_good (found := zs) (by omega) z
        cases hf : (othersOf z).filter fun x => !isBad zs x with
        | nil =>
          have : x0 ∈ (othersOf z).filter fun x => !isBad zs x := List.mem_filter.mpr ⟨hx0, by rw [hb0]; rfl⟩
          rw [hf] at this
          cases this
        | cons y r =>
          rw [hf] at r2
          have hy : y ∈ (othersOf z).filter fun x => !isBad zs x := by
            rw [hf]
            exact List.mem_cons_self
          obtain ⟨hy1, hy2⟩ := List.mem_filter.mp hy
          have hy3 : isBad zs y = false := by
            cases q : isBad zs y with
            | false => rfl
            | true =>
              rw [q] at hy2
              cases hy2
          obtain ⟨o1, o2⟩ := others_ok hz hy1 hy3
          have S6 : StOk K H6 s c l := S2.keep fun b u q => r1 _ _ (e8 _ _ q)
          have k6 : Keep s l H H6 := (k1.trans k2).trans (Keep.of fun b u q => r1 _ _ (e8 _ _ q))
          refine ⟨D2, _, _, V.str y, rfl, rfl, SqL.of r2, atI_nat (j := 0) rfl, p, _, _, rfl, rfl, r1 _ _ e9, by rw [List.length_map]; exact small1000 (by omega), ?_⟩
          refine ⟨_, _, _, _, _, zs ++ [y], rfl, S6.mut np, k6.mut0 hp, ?_, by rw [List.length_append, l1]; rfl, fun u hu => ?_, ?_⟩
          · rw [upd_same, List.map_append]
            rfl
          · rcases List.mem_append.mp hu with hu | hu
            · exact g1 u hu
            · rw [List.mem_singleton.mp hu]
              exact o1
          · rw [List.nodup_append]
            exact ⟨d1, by simp, fun a ha b hb q => o2 (by rw [← List.mem_singleton.mp hb, ← q]; exact ha)⟩
  · rintro σ H' ⟨v3, v4, v5, v6, v7, zs, rfl, S1, k1, e1, l1, g1, d1⟩
    exact ⟨_, rfl, q H' p zs S1 k1 hp e1 (by omega) g1 d1⟩
end
end Kn

set_option Elab.async false
set_option linter.all false
set_option maxRecDepth 100000
set_option maxHeartbeats 4000000
namespace Kn
open PySem L2 TL
/-! ### things: what is handed in -/
/-- a text of the law's own kind -/
def okS (x : Str) : Bool := decide (x.length ≤ 1000) && PyData.strOk x
theorem okS_len {x : Str} (h : okS x = true) : x.length ≤ 1000 := by
  unfold okS at h
  rw [Bool.and_eq_true] at h
  exact of_decide_eq_true h.1
theorem okS_ok {x : Str} (h : okS x = true) : PyData.strOk x = true := by
  unfold okS at h
  rw [Bool.and_eq_true] at h
  exact h.2
theorem okS_of {x : Str} (h1 : x.length ≤ 1000) (h2 : PyData.strOk x = true) : okS x = true := by
  unfold okS
  rw [h2, decide_eq_true h1]
  rfl
mutual
/-- at v stands the thing d; of lists and dicts only the kind is told, and that they are not the draws' own -/
inductive Tg (K : PySem.W.Frag) (s l : Addr) (H : Hp) : V → PyData → Prop
  | non : Tg K s l H .non .none
  | bl (b : Bool) : Tg K s l H (.bl b) (.bool b)
  | int (i : Int) : Tg K s l H (.int i) (.int i)
  | str (x : Str) (h : okS x = true) : Tg K s l H (.str x) (.str x)
  | tup {a : Addr} {xs : List V} {ds : List PyData} : SqT K H a xs → TgAll K s l H xs ds → Tg K s l H (.ref a) (.tuple ds)
  | lst {a : Addr} {xs : List V} : a ≠ s → a ≠ l → H a = some (.lst xs) → Tg K s l H (.ref a) (.list [])
  | dct {a : Addr} : a ≠ s → a ≠ l → H a = some (.dK []) → Tg K s l H (.ref a) (.dict [])
inductive TgAll (K : PySem.W.Frag) (s l : Addr) (H : Hp) : List V → List PyData → Prop
  | nil : TgAll K s l H [] []
  | cons {v : V} {vs : List V} {d : PyData} {ds : List PyData} : Tg K s l H v d → TgAll K s l H vs ds → TgAll K s l H (v :: vs) (d :: ds)
end
section
variable {K : PySem.W.Frag} {s l : Addr} {H H' : Hp}
mutual
theorem Tg.mono (ht : ∀ a xs, SqT K H a xs → SqT K H' a xs) (hl : ∀ a xs, a ≠ s → a ≠ l → H a = some (.lst xs) → H' a = some (.lst xs)) (hd : ∀ a, a ≠ s → a ≠ l → H a = some (.dK []) → H' a = some (.dK [])) : ∀ {v : V} {d : PyData}, Tg K s l H v d → Tg K s l H' v d
  | _, _, .non => .non
  | _, _, .bl b => .bl b
  | _, _, .int i => .int i
  | _, _, .str x h => .str x h
  | _, _, .tup q r => .tup (ht _ _ q) (TgAll.mono ht hl hd r)
  | _, _, .lst a b q => .lst a b (hl _ _ a b q)
  | _, _, .dct a b q => .dct a b (hd _ a b q)
theorem TgAll.mono (ht : ∀ a xs, SqT K H a xs → SqT K H' a xs) (hl : ∀ a xs, a ≠ s → a ≠ l → H a = some (.lst xs) → H' a = some (.lst xs)) (hd : ∀ a, a ≠ s → a ≠ l → H a = some (.dK []) → H' a = some (.dK [])) : ∀ {vs : List V} {ds : List PyData}, TgAll K s l H vs ds → TgAll K s l H' vs ds
  | _, _, .nil => .nil
  | _, _, .cons q r => .cons (Tg.mono ht hl hd q) (TgAll.mono ht hl hd r)
end
theorem Same.seqT (e : Same H H') {a : Addr} {xs : List V} (h : SqT K H a xs) : SqT K H' a xs := by
  rcases h with (h | ⟨o, h⟩) | h
  · exact .inl (.inl (e _ _ h))
  · exact .inl (.inr ⟨o, e _ _ h⟩)
  · exact .inr h
theorem Same.ne (e : Same H H') {a : Addr} (h : H a ≠ none) : H' a ≠ none := by
  cases q : H a with
  | none => exact absurd q h
  | some o =>
    rw [e a o q]
    exact fun z => nomatch z
theorem Tg.same {v : V} {d : PyData} (h : Tg K s l H v d) (e : Same H H') : Tg K s l H' v d := h.mono (fun _ _ q => Same.seqT e q) (fun _ _ _ _ q => e _ _ q) (fun _ _ _ q => e _ _ q)
theorem TgAll.same {v : List V} {d : List PyData} (h : TgAll K s l H v d) (e : Same H H') : TgAll K s l H' v d := h.mono (fun _ _ q => Same.seqT e q) (fun _ _ _ _ q => e _ _ q) (fun _ _ _ q => e _ _ q)
theorem StOk.seqT {c a : Addr} {xs : List V} (S : StOk K H s c l) (e : Keep s l H H') (h : SqT K H a xs) : SqT K H' a xs := by
  obtain ⟨_, _, _, _, k, ns, ls, _, a2, _, _, a5, _, _⟩ := S
  rcases h with (h | ⟨o, h⟩) | h
  · exact .inl (.inl (e _ _ (ne_of h a2 (by intro z; cases z)) (ne_of h a5 (by intro z; cases z)) h))
  · exact .inl (.inr ⟨o, e _ _ (ne_of h a2 (by intro z; cases z)) (ne_of h a5 (by intro z; cases z)) h⟩)
  · exact .inr h
theorem Tg.keep {c : Addr} {v : V} {d : PyData} (h : Tg K s l H v d) (S : StOk K H s c l) (e : Keep s l H H') : Tg K s l H' v d := h.mono (fun _ _ q => S.seqT e q) (fun _ _ a b q => e _ _ a b q) (fun _ a b q => e _ _ a b q)
theorem TgAll.keep {c : Addr} {v : List V} {d : List PyData} (h : TgAll K s l H v d) (S : StOk K H s c l) (e : Keep s l H H') : TgAll K s l H' v d := h.mono (fun _ _ q => S.seqT e q) (fun _ _ a b q => e _ _ a b q) (fun _ a b q => e _ _ a b q)
/-- all of some values stand for things -/
def Ths (K : PySem.W.Frag) (s l : Addr) (H : Hp) (xs : List V) : Prop := ∀ x ∈ xs, ∃ d, Tg K s l H x d
theorem Ths.all : ∀ {xs : List V}, Ths K s l H xs → ∃ ds, TgAll K s l H xs ds
  | [], _ => ⟨[], .nil⟩
  | x :: r, h => by
    obtain ⟨d, hd⟩ := h x List.mem_cons_self
    obtain ⟨ds, hds⟩ := Ths.all (xs := r) fun y hy => h y (List.mem_cons_of_mem _ hy)
    exact ⟨d :: ds, .cons hd hds⟩
theorem Ths.nil : Ths K s l H [] := fun x hx => by cases hx
theorem Ths.cons {x : V} {xs : List V} {d : PyData} (h : Tg K s l H x d) (r : Ths K s l H xs) : Ths K s l H (x :: xs) := fun y hy => by
  rcases List.mem_cons.mp hy with e | hy
  · rw [e]
    exact ⟨d, h⟩
  · exact r y hy
theorem Ths.app {xs ys : List V} (a : Ths K s l H xs) (b : Ths K s l H ys) : Ths K s l H (xs ++ ys) := fun y hy => (List.mem_append.mp hy).elim (a y) (b y)
theorem Ths.same {xs : List V} (h : Ths K s l H xs) (e : Same H H') : Ths K s l H' xs := fun x hx => let ⟨d, q⟩ := h x hx; ⟨d, q.same e⟩
theorem Ths.keep {c : Addr} {xs : List V} (h : Ths K s l H xs) (S : StOk K H s c l) (e : Keep s l H H') : Ths K s l H' xs := fun x hx => let ⟨d, q⟩ := h x hx; ⟨d, q.keep S e⟩
/-- a new tuple of things -/
theorem Ths.tup {xs : List V} {p : Addr} (h : Ths K s l H xs) (hp : H p = none) : ∃ d, Tg K s l (upd H p (.tup xs)) (.ref p) d := by
  obtain ⟨ds, hds⟩ := h.all
  exact ⟨_, .tup (SqT.of upd_same) (hds.same (same_new hp _))⟩
theorem Ths.rep {xs : List V} (n : Nat) (h : Ths K s l H xs) : Ths K s l H (List.replicate n xs).flatten := fun x hx => by
  obtain ⟨y, hy, hx⟩ := List.mem_flatten.mp hx
  rw [(List.mem_replicate.mp hy).2] at hx
  exact h x hx
end
/-! ### things of tuples and texts alone -/
mutual
def pureD : PyData → Bool
  | .str _ => true
  | .tuple xs => pureAll xs
  | .none | .bool _ | .int _ | .list _ | .dict _ => false
def pureAll : List PyData → Bool
  | [] => true
  | x :: xs => pureD x && pureAll xs
end
section
variable {K : PySem.W.Frag} {s l s' l' : Addr} {H H' : Hp}
mutual
theorem Tg.pmono (ht : ∀ a xs, SqT K H a xs → SqT K H' a xs) : ∀ {v : V} {d : PyData}, pureD d = true → Tg K s l H v d → Tg K s' l' H' v d
  | .non, .none, h, .non => by simp [pureD] at h
  | .bl _, .bool _, h, .bl _ => by simp [pureD] at h
  | .int _, .int _, h, .int _ => by simp [pureD] at h
  | .str _, .str _, _, .str x hx => .str x hx
  | .ref _, .tuple _, h, .tup q r => .tup (ht _ _ q) (TgAll.pmono ht (by simpa [pureD] using h) r)
  | .ref _, .list _, h, .lst a b q => by simp [pureD] at h
  | .ref _, .dict _, h, .dct a b q => by simp [pureD] at h
theorem TgAll.pmono (ht : ∀ a xs, SqT K H a xs → SqT K H' a xs) : ∀ {vs : List V} {ds : List PyData}, pureAll ds = true → TgAll K s l H vs ds → TgAll K s' l' H' vs ds
  | _, _, _, .nil => .nil
  | _, _, h, .cons q r => .cons (Tg.pmono ht (by simp [pureAll] at h; exact h.1) q) (TgAll.pmono ht (by simp [pureAll] at h; exact h.2) r)
end
mutual
theorem Tg.dp : ∀ {v : V} {d : PyData}, pureD d = true → Tg K s l H v d → Dp K H v d
  | .non, .none, h, .non => by simp [pureD] at h
  | .bl _, .bool _, h, .bl _ => by simp [pureD] at h
  | .int _, .int _, h, .int _ => by simp [pureD] at h
  | .str _, .str _, _, .str x _ => .str x
  | .ref _, .tuple _, h, .tup q r => .tup q (TgAll.dp (by simpa [pureD] using h) r)
  | .ref _, .list _, h, .lst a b q => by simp [pureD] at h
  | .ref _, .dict _, h, .dct a b q => by simp [pureD] at h
theorem TgAll.dp : ∀ {vs : List V} {ds : List PyData}, pureAll ds = true → TgAll K s l H vs ds → DpAll K H vs ds
  | _, _, _, .nil => .nil
  | _, _, h, .cons q r => .cons (Tg.dp (by simp [pureAll] at h; exact h.1) q) (TgAll.dp (by simp [pureAll] at h; exact h.2) r)
end
theorem seqT_del {D a : Addr} {xs ys : List V} (hD : H D = some (.lst ys)) (h : SqT K H a xs) : SqT K (del H D) a xs := by
  rcases h with (h | ⟨o, h⟩) | h
  · exact .inl (.inl (by rw [del_ne (ne_of h hD (by intro z; cases z))]; exact h))
  · exact .inl (.inr ⟨o, by rw [del_ne (ne_of h hD (by intro z; cases z))]; exact h⟩)
  · exact .inr h
end
/-! ### the heap without a list that grows -/
theorem del_upd {H : Hp} {D : Addr} {o : HO} : del (upd H D o) D = del H D := by
  funext b
  by_cases h : b = D
  · rw [h, del_same, del_same]
  · rw [del_ne h, del_ne h, upd_ne h]
theorem del_sub {H : Hp} {D : Addr} : Same (del H D) H := fun b o e => by
  by_cases h : b = D
  · rw [h, del_same] at e
    cases e
  · rw [del_ne h] at e
    exact e
theorem del_mono {H H' : Hp} {D : Addr} (e : Same H H') : Same (del H D) (del H' D) := fun b o q => by
  by_cases h : b = D
  · rw [h, del_same] at q
    cases q
  · rw [del_ne h] at q ⊢
    exact e b o q
theorem del_keep {s l D : Addr} {H H' : Hp} (e : Keep s l H H') : Keep s l (del H D) (del H' D) := fun b o e1 e2 q => by
  by_cases h : b = D
  · rw [h, del_same] at q
    cases q
  · rw [del_ne h] at q ⊢
    exact e b o e1 e2 q
theorem del_from {H H' : Hp} {D : Addr} (n : H D = none) (e : Same H H') : Same H (del H' D) := fun b o q => by
  rw [del_ne (ne_of_none q n)]
  exact e b o q
theorem StOk.del {K : PySem.W.Frag} {H : Hp} {s c l p : Addr} (h : StOk K H s c l) (n : p ≠ s ∧ p ≠ l ∧ p ≠ c) : StOk K (L2.del H p) s c l := by
  obtain ⟨h1, h2, h3, h4, k, ns, ls, a1, a2, a3, a4, a5, a6, a7⟩ := h
  refine ⟨h1, h2, h3, by rw [del_ne n.2.2.symm]; exact h4, k, ns, ls, a1, by rw [del_ne n.1.symm]; exact a2, ?_, a4, by rw [del_ne n.2.1.symm]; exact a5, a6, a7⟩
  rcases a3 with (h | ⟨o, h⟩) | h
  · exact .inl (.inl (by rw [del_ne n.2.2.symm]; exact h))
  · exact .inl (.inr ⟨o, by rw [del_ne n.2.2.symm]; exact h⟩)
  · exact .inr h
/-! ### formulas -/
/-- a formula of names of ns: so many parts, so deep -/
inductive Fm (ns : List Str) : Nat → Nat → PyData → Prop
  | yes : Fm ns 1 0 (.tuple [.str "yes"])
  | no : Fm ns 1 0 (.tuple [.str "no"])
  | name {z : Str} : z ∈ ns → Fm ns 1 0 (.tuple [.str "name", .str z])
  | not {n h : Nat} {d : PyData} : Fm ns n h d → Fm ns (n + 1) (h + 1) (.tuple [.str "not", d])
  | bin {x : Str} {n m h g : Nat} {d e : PyData} : x ∈ ([("and" : Str), "or", "xor"] : List Str) → Fm ns n h d → Fm ns m g e → Fm ns (n + m + 1) (max h g + 1) (.tuple [.str x, d, e])
  | ite {n m k h g j : Nat} {d e f : PyData} : Fm ns n h d → Fm ns m g e → Fm ns k j f → Fm ns (n + m + k + 1) (max (max h g) j + 1) (.tuple [.str "if", d, e, f])
  | qu {x z : Str} {n h : Nat} {d : PyData} : x ∈ ([("some" : Str), "all"] : List Str) → z ∈ ns → Fm ns n h d → Fm ns (n + 1) (h + 1) (.tuple [.str x, .str z, d])
  | put {z : Str} {n m h g : Nat} {d e : PyData} : z ∈ ns → Fm ns n h d → Fm ns m g e → Fm ns (n + m + 1) (max h g + 1) (.tuple [.str "put", .str z, d, e])
theorem short2 : ∀ w ∈ ([("some" : Str), "all"] : List Str), okS w = true := by decide +kernel
theorem short3 : ∀ w ∈ ([("and" : Str), "or", "xor"] : List Str), okS w = true := by decide +kernel
/-- at x stands a formula of at most n parts, at most h deep -/
def FT (K : PySem.W.Frag) (s l : Addr) (H : Hp) (ns : List Str) (n h : Int) (x : V) : Prop := ∃ (d : PyData) (a b : Nat), Tg K s l H x d ∧ Fm ns a b d ∧ (a : Int) ≤ n ∧ (b : Int) ≤ h
section
variable {K : PySem.W.Frag} {s l : Addr} {H H' : Hp} {ns : List Str} {n h : Int} {x : V}
theorem FT.same (f : FT K s l H ns n h x) (e : Same H H') : FT K s l H' ns n h x := let ⟨d, a, b, q, r⟩ := f; ⟨d, a, b, q.same e, r⟩
theorem FT.keep {c : Addr} (f : FT K s l H ns n h x) (S : StOk K H s c l) (e : Keep s l H H') : FT K s l H' ns n h x := let ⟨d, a, b, q, r⟩ := f; ⟨d, a, b, q.keep S e, r⟩
theorem FT.mono {n' h' : Int} (f : FT K s l H ns n h x) (hn : n ≤ n') (hh : h ≤ h') : FT K s l H ns n' h' x := let ⟨d, a, b, q, r, u, v⟩ := f; ⟨d, a, b, q, r, Int.le_trans u hn, Int.le_trans v hh⟩
theorem Fm.pure {a b : Nat} {d : PyData} (f : Fm ns a b d) : pureD d = true := by
  induction f <;> simp_all [pureD, pureAll]
theorem FT.del {D : Addr} {ys : List V} (f : FT K s l H ns n h x) (hD : H D = some (.lst ys)) : FT K s l (L2.del H D) ns n h x :=
  let ⟨d, a, b, q, r, u, v⟩ := f; ⟨d, a, b, q.pmono (fun _ _ z => seqT_del hD z) r.pure, r, u, v⟩
theorem FT.ths (f : FT K s l H ns n h x) : ∃ d, Tg K s l H x d := let ⟨d, _, _, q, _⟩ := f; ⟨d, q⟩
theorem FT.yes {p : Addr} (hp : SqT K H p [.str ("yes" : Str)]) (hn : 1 ≤ n) (hh : 0 ≤ h) : FT K s l H ns n h (.ref p) := ⟨_, 1, 0, .tup hp (.cons (.str _ (by decide +kernel)) .nil), .yes, hn, hh⟩
theorem FT.no {p : Addr} (hp : SqT K H p [.str ("no" : Str)]) (hn : 1 ≤ n) (hh : 0 ≤ h) : FT K s l H ns n h (.ref p) := ⟨_, 1, 0, .tup hp (.cons (.str _ (by decide +kernel)) .nil), .no, hn, hh⟩
theorem FT.name {p : Addr} {z : Str} (hp : SqT K H p [.str ("name" : Str), .str z]) (hz : z ∈ ns) (hl : okS z = true) (hn : 1 ≤ n) (hh : 0 ≤ h) : FT K s l H ns n h (.ref p) := ⟨_, 1, 0, .tup hp (.cons (.str _ (by decide +kernel)) (.cons (.str _ hl) .nil)), .name hz, hn, hh⟩
theorem FT.not {p : Addr} (f : FT K s l H ns (n - 1) (h - 1) x) (hp : SqT K H p [.str ("not" : Str), x]) : FT K s l H ns n h (.ref p) := by
  obtain ⟨d, a, b, q, r, u, v⟩ := f
  exact ⟨_, a + 1, b + 1, .tup hp (.cons (.str _ (by decide +kernel)) (.cons q .nil)), .not r, by omega, by omega⟩
theorem FT.qu {p : Addr} {w z : Str} (hw : w ∈ ([("some" : Str), "all"] : List Str)) (hz : z ∈ ns) (hl : okS z = true) (f : FT K s l H ns (n - 1) (h - 1) x) (hp : SqT K H p [.str w, .str z, x]) : FT K s l H ns n h (.ref p) := by
  obtain ⟨d, a, b, q, r, u, v⟩ := f
  exact ⟨_, a + 1, b + 1, .tup hp (.cons (.str _ (short2 w hw)) (.cons (.str _ hl) (.cons q .nil))), .qu hw hz r, by omega, by omega⟩
theorem FT.put {p : Addr} {z : Str} {x2 : V} {n1 n2 : Int} (hz : z ∈ ns) (hl : okS z = true) (f : FT K s l H ns n1 (h - 1) x) (f2 : FT K s l H ns n2 (h - 1) x2) (hp : SqT K H p [.str ("put" : Str), .str z, x, x2]) (hn : n1 + n2 + 1 ≤ n) : FT K s l H ns n h (.ref p) := by
  obtain ⟨d, a, b, q, r, u, v⟩ := f
  obtain ⟨d2, a2, b2, q2, r2, u2, v2⟩ := f2
  exact ⟨_, a + a2 + 1, max b b2 + 1, .tup hp (.cons (.str _ (by decide +kernel)) (.cons (.str _ hl) (.cons q (.cons q2 .nil)))), .put hz r r2, by omega, by omega⟩
theorem FT.bin {p : Addr} {w : Str} {x2 : V} {n1 n2 : Int} (hw : w ∈ ([("and" : Str), "or", "xor"] : List Str)) (f : FT K s l H ns n1 (h - 1) x) (f2 : FT K s l H ns n2 (h - 1) x2) (hp : SqT K H p [.str w, x, x2]) (hn : n1 + n2 + 1 ≤ n) : FT K s l H ns n h (.ref p) := by
  obtain ⟨d, a, b, q, r, u, v⟩ := f
  obtain ⟨d2, a2, b2, q2, r2, u2, v2⟩ := f2
  exact ⟨_, a + a2 + 1, max b b2 + 1, .tup hp (.cons (.str _ (short3 w hw)) (.cons q (.cons q2 .nil))), .bin hw r r2, by omega, by omega⟩
theorem FT.ite {p : Addr} {x2 x3 : V} {n1 n2 n3 : Int} (f : FT K s l H ns n1 (h - 1) x) (f2 : FT K s l H ns n2 (h - 1) x2) (f3 : FT K s l H ns n3 (h - 1) x3) (hp : SqT K H p [.str ("if" : Str), x, x2, x3]) (hn : n1 + n2 + n3 + 1 ≤ n) : FT K s l H ns n h (.ref p) := by
  obtain ⟨d, a, b, q, r, u, v⟩ := f
  obtain ⟨d2, a2, b2, q2, r2, u2, v2⟩ := f2
  obtain ⟨d3, a3, b3, q3, r3, u3, v3⟩ := f3
  exact ⟨_, a + a2 + a3 + 1, max (max b b2) b3 + 1, .tup hp (.cons (.str _ (by decide +kernel)) (.cons q (.cons q2 (.cons q3 .nil)))), .ite r r2 r3, by omega, by omega⟩
end
section
variable {P : Program} {w : World} {K : PySem.W.Frag} {mg : Str → Option Value} {base : Heap}
theorem scRooms : FnScope ["state", "room", "many", "found", "left", "k", "extra"] ["state", "room", "many"] (defScope sRooms) := ⟨rfl, rfl, rfl, by decide +kernel, rfl, by decide +kernel, by decide +kernel⟩
def spRooms (K : PySem.W.Frag) : Sp := fun vs H Q _ => ∃ (s c l : Addr) (r m : Int), vs = [.ref s, .int r, .int m] ∧ StOk K H s c l ∧ 0 ≤ m ∧ m ≤ 100 ∧ m ≤ r ∧ r ≤ 1000 ∧
  ∀ (H' : Hp) (p : Addr) (ns : List Int), StOk K H' s c l → Keep s l H H' → H p = none → H' p = some (.lst (ns.map V.int)) → (ns.length : Int) = m → (∀ n ∈ ns, 1 ≤ n ∧ n ≤ 1001) → ns.sum ≤ r → Q (.ref p) H'
theorem ok_rooms {f : Addr} {fd : FuncData} (F : Fun K "_law_rooms" "_law_rooms" sRooms f fd) (M : Def P w K mg base CX0 "_law_draw" 2 ["state", "many"] (spDraw K)) (mr : mg "range" = none) : FnOk P w K mg base CX0 3 f fd ["state", "room", "many"] (spRooms K) := by
  refine F.ok scRooms (fun vs H Q E h => ?_) (fun cdv A outer s H vs Q E hr h => ?_)
  · obtain ⟨s, c, l, r, m, rfl, _⟩ := h
    rfl
  obtain ⟨s, c, l, r, m, rfl, S, m0, m1, m2, r1, q⟩ := h
  refine ⟨_, pss_cons (ps_par (i := 3) (j := 4) (by rfl) scRooms.nd rfl rfl (by decide) rfl rfl (pa_cons (pe_lst pa_nil) (pa_cons (pe_op op_sub (pv 1) (pv 2)) pa_nil)) (by rfl))
    (pss_cons (ps_for PassesOwn.never rfl (pi_range1 rfl mr (pa_cons (pv 2) pa_nil)) (pg_name (i := 5) scRooms.nd rfl (Or.inl rfl))
      (pss_cons (ps_set (i := 6) scRooms.nd rfl (Or.inl rfl) (pe_def M hr rfl (pa_cons (pv 0) (pa_cons (pe_op op_add (pv 4) pe_int) pa_nil))))
      (pss_cons (ps_expr (pe_bm PySem.F.plainAttrs_list PySem.F.slot_list_append PySem.F.type_list_append mt_append (pv 3) (pa_cons (pe_op op_add pe_int (pv 6)) pa_nil)))
      (pss_one (ps_set (i := 4) scRooms.nd rfl (Or.inl rfl) (pe_op op_sub (pv 4) (pv 6)))))))
    (pss_one (ps_ret (pv 3)))), ?_⟩
  refine ⟨Nat.zero_le _, fun p hp => ?_⟩
  have np := S.ns hp
  refine ⟨_, rfl, _, rfl, _, _, rfl, rfl, _, _, rfl, ?_⟩
  refine ⟨_, rfl, m, rfl, by omega, by omega, for_range (lo := 0) (n := m.toNat) (fun i σ H' => ∃ (v5 v6 : Option V) (ns : List Int) (lf : Int), σ = [some (.ref s), some (.int r), some (.int m), some (.ref p), some (.int lf), v5, v6] ∧ StOk K H' s c l ∧ Keep s l H H' ∧ H' p = some (.lst (ns.map V.int)) ∧ ns.length = i ∧ 0 ≤ lf ∧ lf ≤ 1000 ∧ (∀ n ∈ ns, 1 ≤ n ∧ n ≤ 1001) ∧ ns.sum + lf + m = r + (ns.length : Int))
    ⟨none, none, [], r - m, rfl, S.new hp, Keep.new hp, upd_same, rfl, by omega, by omega, (fun z hz => by cases hz), by simp⟩ ?_ ?_⟩
  · rintro i σ H1 hi ⟨v5, v6, ns, lf, rfl, S1, k1, e1, l1, f0, f1, g1, j1⟩
    refine ⟨_, rfl, _, rfl, _, _, rfl, rfl, s, c, l, lf + 1, rfl, S1, by omega, by omega, fun H2 n S2 k2 n0 n1 => ?_⟩
    have e2 : H2 p = some (.lst (ns.map V.int)) := k2 _ _ np.1 np.2.1 e1
    refine ⟨_, rfl, .inl ⟨rfl, _, SqL.of e2⟩, _, rfl, _, _, rfl, rfl, p, _, _, rfl, rfl, e2, by rw [List.length_map]; exact small1000 (by omega), ?_⟩
    refine ⟨_, rfl, _, rfl, _, _, rfl, rfl, ?_⟩
    refine ⟨_, _, ns ++ [1 + n], lf - n, rfl, S2.mut np, (k1.trans k2).mut0 hp, ?_, by rw [List.length_append, l1]; rfl, by omega, by omega, fun u hu => ?_, ?_⟩
    · rw [upd_same, List.map_append]
      rfl
    · rcases List.mem_append.mp hu with hu | hu
      · exact g1 u hu
      · rw [List.mem_singleton.mp hu]
        omega
    · rw [List.sum_append, List.length_append, List.sum_singleton, List.length_singleton]
      omega
  · rintro σ H' ⟨v5, v6, ns, lf, rfl, S1, k1, e1, l1, f0, f1, g1, j1⟩
    exact ⟨_, rfl, q H' p ns S1 k1 hp e1 (by omega) g1 (by omega)⟩
end
end Kn

set_option Elab.async false
set_option linter.all false
set_option maxRecDepth 100000
set_option maxHeartbeats 4000000
set_option pp.maxSteps 1200
namespace Kn
open PySem L2 TL
/-! ### lists of texts, none or some -/
theorem dpStrs {K : PySem.W.Frag} {H : Hp} : ∀ ns : List Str, DpAll K H (ns.map V.str) (ns.map PyData.str)
  | [] => .nil
  | n :: r => .cons (.str n) (dpStrs r)
theorem strOk_low {z : Str} (h : lowB z = true) : PyData.strOk z = true := by
  unfold lowB at h
  unfold PyData.strOk
  rw [← Array.all_toList, List.all_eq_true]
  intro c hc
  have q := List.all_eq_true.mp h c hc
  simp only [Bool.and_eq_true, decide_eq_true_eq] at q
  exact decide_eq_true (by omega)
theorem word_low {z : Str} (h : wordB z = true) : lowB z = true := by
  unfold wordB at h
  simp only [Bool.and_eq_true] at h
  exact h.1.2
theorem word_len {z : Str} (h : wordB z = true) : 1 ≤ z.length ∧ z.length ≤ 8 := by
  unfold wordB at h
  simp only [Bool.and_eq_true, decide_eq_true_eq] at h
  exact h.1.1
theorem okS_word {z : Str} (h : wordB z = true) : okS z = true := okS_of (Nat.le_trans (word_len h).2 (by decide)) (strOk_low (word_low h))
theorem layStrs : ∀ ns : List Str, (∀ z ∈ ns, PyData.strOk z = true) → PyData.canLayAll0 (ns.map PyData.str) = true
  | [], _ => by simp [PyData.canLayAll0]
  | n :: r, h => by
    have h1 := h n List.mem_cons_self
    have h2 := layStrs r fun z hz => h z (List.mem_cons_of_mem _ hz)
    simp [PyData.canLayAll0, PyData.canLay0, h1, h2]
theorem depStrs : ∀ ns : List Str, PyData.depthAll (ns.map PyData.str) ≤ 1
  | [] => by simp [PyData.depthAll]
  | n :: r => by
    have h := depStrs r
    simp only [List.map_cons, PyData.depthAll, PyData.depth]
    omega
theorem shStrs {ns : List Str} (h : ∀ z ∈ ns, PyData.strOk z = true) : SeqAt.shaped (.list (ns.map PyData.str)) = true := by
  have h1 := depStrs ns
  have h2 := layStrs ns h
  have h3 : PyData.depth (.list (ns.map PyData.str)) ≤ 64 := by
    simp only [PyData.depth]
    omega
  show (PyData.canLay0 (.list (ns.map PyData.str)) && decide (PyData.depth (.list (ns.map PyData.str)) ≤ 64)) = true
  rw [decide_eq_true h3, Bool.and_true]
  simp only [PyData.canLay0]
  exact h2
theorem eqvStrs0 (ns : List Str) : PyData.eqv (.list (ns.map PyData.str)) (.list []) = ns.isEmpty := by
  cases ns <;> simp [PyData.eqv, PyData.eqvAll]
section
variable {P : Program} {w : World} {K : PySem.W.Frag} {mg : Str → Option Value} {base : Heap}
abbrev nMade : List Str := ["state", "names", "room", "deep", "way", "some", "word", "rooms", "parts", "name", "one"]
theorem scMade : FnScope nMade ["state", "names", "room", "deep"] (defScope sMade) := ⟨rfl, rfl, rfl, by decide +kernel, rfl, by decide +kernel, by decide +kernel⟩
/-- a formula of these names, of at most so many parts, at most so deep (below n) -/
def spMade (K : PySem.W.Frag) (n : Nat) : Sp := fun vs H Q _ => ∃ (s c l a : Addr) (ns : List Str) (r d : Int), vs = [.ref s, .ref a, .int r, .int d] ∧ StOk K H s c l ∧ a ≠ s ∧ a ≠ l ∧ SqL K H a (ns.map V.str) ∧ ns.length ≤ 20 ∧ (∀ z ∈ ns, wordB z = true) ∧ 1 ≤ r ∧ r ≤ 1000 ∧ 0 ≤ d ∧ d < n ∧
  ∀ (H' : Hp) (x : V), StOk K H' s c l → Keep s l H H' → FT K s l H' ns r d x → Q x H'
theorem step_made {n : Nat} {f : Addr} {fd : FuncData} (F : Fun K "_law_made" "_law_made" sMade f fd) (bG : Binds K fd ["state", "names", "room", "deep"] []) (mG : mg "_law_made" = some (.ref f))
    (M : Def P w K mg base CX0 "_law_draw" 2 ["state", "many"] (spDraw K)) (O : Def P w K mg base CX0 "_law_one" 3 ["state", "things"] (spOne K)) (R : Def P w K mg base CX0 "_law_rooms" 3 ["state", "room", "many"] (spRooms K))
    (G : FnOk P w K mg base CX0 (n + 3) f fd ["state", "names", "room", "deep"] (spMade K n)) : FnOk P w K mg base CX0 (n + 4) f fd ["state", "names", "room", "deep"] (spMade K (n + 1)) := by
  refine F.ok scMade (fun vs H Q E h => ?_) (fun cdv A outer s H vs Q E hr h => ?_)
  · obtain ⟨s, c, l, a, ns, r, d, rfl, _⟩ := h
    rfl
  obtain ⟨s, c, l, a, ns, r, d, rfl, S, as, al, ha, hns, hw, r0, r1, d0, d1, q⟩ := h
  have hr2 : Room 2 _ := hr.mono (by omega)
  have hr3 : Room 3 _ := hr.mono (by omega)
  refine ⟨_, pss_cons (ps_set (i := 4) scMade.nd rfl (Or.inl rfl) (pe_def M hr2 rfl (pa_cons (pv 0) (pa_cons pe_int pa_nil))))
    (pss_cons (ps_if (PW.pt (pw_or (pt_cmpR op_lt (pv 2) pe_int (nomark _)) (pw_or (pt_cmpR op_eq (pv 3) pe_int (nomark _)) (pw_or1 (pt_cmpR op_eq (pv 4) pe_int (nomark _))))))
      (pss_cons (ps_set (i := 5) scMade.nd rfl (Or.inl rfl) (pe_op op_cat (pe_lst (pa_cons (pe_tup (pa_cons pe_str pa_nil)) (pa_cons (pe_tup (pa_cons pe_str pa_nil)) pa_nil)))
        (pe_op op_rep (pe_lc (own := [("name", 9)]) (g := gName 9) (tt := tYes) rfl scMade.nd (pi_list (pv 1)) (blkOk_by (own := [("name", 9)]) (N := nMade) (sc := defScope sMade) (by decide +kernel))
          (fun _ _ _ _ _ => pg_name (i := 9) scMade.nd rfl (Or.inl rfl)) (fun _ _ _ _ _ => pts_nil) (fun _ _ _ _ _ => pe_tup (pa_cons pe_str (pa_cons (pv 9) pa_nil)))) pe_int)))
      (pss_one (ps_ret (pe_def O hr3 rfl (pa_cons (pv 0) (pa_cons (pv 5) pa_nil)))))) pss_nil)
    (pss_cons (ps_if (pt_cmpR op_in_seq (pv 4) (pe_tup (pa_cons pe_int (pa_cons pe_int pa_nil))) (by rfl))
      (pss_one (ps_ret (pe_tup (pa_cons pe_str (pa_cons (pe_call G hr rfl mG F.kp bG .nil pass0 (pa_cons (pv 0) (pa_cons (pv 1) (pa_cons (pe_op op_sub (pv 2) pe_int) (pa_cons (pe_op op_sub (pv 3) pe_int) pa_nil))))) pa_nil))))) pss_nil)
    (Evl.pss_cut (ps_if (PW.pt (pw_and (pt_cmpR op_in_seq (pv 4) (pe_tup (pa_cons pe_int (pa_cons pe_int pa_nil))) (by rfl)) (pw_and1 (pt_cmpR (op_neD hr.units) (pv 1) (pe_lst pa_nil) (nomark _)))))
      (pss_cons (ps_set (i := 6) scMade.nd rfl (Or.inl rfl) (pe_def O hr3 rfl (pa_cons (pv 0) (pa_cons (pe_lst (pa_cons pe_str (pa_cons pe_str pa_nil))) pa_nil))))
      (pss_one (ps_ret (pe_tup (pa_cons (pv 6) (pa_cons (pe_def O hr3 rfl (pa_cons (pv 0) (pa_cons (pv 1) pa_nil))) (pa_cons (pe_call G hr rfl mG F.kp bG .nil pass0 (pa_cons (pv 0) (pa_cons (pv 1) (pa_cons (pe_op op_sub (pv 2) pe_int) (pa_cons (pe_op op_sub (pv 3) pe_int) pa_nil))))) pa_nil))))))) pss_nil)
    (pss_cons (ps_set (i := 7) scMade.nd rfl (Or.inl rfl) (pe_def R hr3 rfl (pa_cons (pv 0) (pa_cons (pe_op op_sub (pv 2) pe_int) (pa_cons pe_int pa_nil)))))
    (pss_cons (ps_setLc (i := 8) (own := [("one", 10)]) (g := gName 10) (tt := tYes) rfl scMade.nd rfl rfl (sw_true rfl rfl rfl (by decide +kernel)) (pi_list (pv 7)) (blkOk_by (own := [("one", 10)]) (N := nMade) (sc := defScope sMade) (by decide +kernel))
      (fun _ _ _ _ _ => pg_name (i := 10) scMade.nd rfl (Or.inl rfl)) (fun _ _ _ _ _ => pts_nil)
      (fun _ _ _ _ _ => pe_call G hr rfl mG F.kp bG .nil pass0 (pa_cons (pv 0) (pa_cons (pv 1) (pa_cons (pv 10) (pa_cons (pe_op op_sub (pv 3) pe_int) pa_nil))))))
    (Evl.pss_cut (ps_if (PW.pt (pw_and (pt_cmpR op_eq (pv 4) pe_int (nomark _)) (pw_and1 (pt_cmpR (op_neD hr.units) (pv 1) (pe_lst pa_nil) (nomark _)))))
      (pss_one (ps_ret (pe_tup (pa_cons pe_str (pa_cons (pe_def O hr3 rfl (pa_cons (pv 0) (pa_cons (pv 1) pa_nil))) (pa_cons (pe_ix ix_list (pv 8) pe_int (fun _ _ => rfl)) (pa_cons (pe_ix ix_list (pv 8) pe_int (fun _ _ => rfl)) pa_nil))))))) pss_nil)
    (pss_cons (ps_if (pt_cmpR op_in_seq (pv 4) (pe_tup (pa_cons pe_int (pa_cons pe_int pa_nil))) (by rfl))
      (pss_one (ps_ret (pe_tup (pa_cons pe_str (pa_cons (pe_ix ix_list (pv 8) pe_int (fun _ _ => rfl)) (pa_cons (pe_ix ix_list (pv 8) pe_int (fun _ _ => rfl)) (pa_cons (pe_ix ix_list (pv 8) pe_int (fun _ _ => rfl)) pa_nil))))))) pss_nil)
    (pss_one (ps_ret (pe_tup (pa_cons (pe_def O hr3 rfl (pa_cons (pv 0) (pa_cons (pe_lst (pa_cons pe_str (pa_cons pe_str (pa_cons pe_str pa_nil)))) pa_nil))) (pa_cons (pe_ix ix_list (pv 8) pe_int (fun _ _ => rfl)) (pa_cons (pe_ix ix_list (pv 8) pe_int (fun _ _ => rfl)) pa_nil))))))))))))), ?_⟩
  refine ⟨_, rfl, s, c, l, 12, rfl, S, by decide, by decide, fun H1 way S1 k1 w0 w1 => ?_⟩
  have ha1 : SqL K H1 a (ns.map V.str) := k1.seqL as al ha
  refine ⟨_, rfl, _, _, rfl, rfl, _, rfl, ?_⟩
  refine ite2 (fun _ => ?b1) (fun c1 => ⟨_, rfl, rfl, _, rfl, ite2 (fun _ => ?b2) (fun c2 => ⟨_, rfl, rfl, _, rfl, ite2 (fun _ => ?b3) (fun c3 => ?rest)⟩)⟩)
  case rest =>
    have hr4 : 4 ≤ r := by
      have := of_decide_eq_false (Bool.eq_false_iff.mpr c1)
      omega
    have hd : 1 ≤ d := by
      have h0 : ¬ (V.int d = V.int 0) := of_decide_eq_false (Bool.eq_false_iff.mpr c2)
      have : d ≠ 0 := fun z => h0 (by rw [z])
      omega
    have rec_ : ∀ (H2 : Hp) (r' : Int) (Q2 : VK), StOk K H2 s c l → SqL K H2 a (ns.map V.str) → 1 ≤ r' → r' ≤ 1000 → (∀ (H3 : Hp) (x : V), StOk K H3 s c l → Keep s l H2 H3 → FT K s l H3 ns r' (d - 1) x → Q2 x H3) →
        spMade K n ([V.ref s, V.ref a, V.int r', V.int (d - 1)] ++ []) H2 Q2 E0 := fun H2 r' Q2 S2 h2 a1 a2 k => ⟨s, c, l, a, ns, r', d - 1, rfl, S2, as, al, h2, hns, hw, a1, a2, by omega, by omega, k⟩
    refine ⟨_, rfl, (by show 2 ≤ sizeLine; decide), fun t1 ht1 => ⟨t1, _, rfl, .inr (SqT.of upd_same), rfl, rfl, _, rfl, ?_⟩⟩
    have k2 : Keep s l H (upd H1 t1 (.tup [V.int 1, V.int 2])) := k1.trans (Keep.new ht1)
    have S2 := S1.new (o := .tup [V.int 1, V.int 2]) ht1
    have ha2 : SqL K (upd H1 t1 (.tup [V.int 1, V.int 2])) a (ns.map V.str) := k2.seqL as al ha
    generalize upd H1 t1 (.tup [V.int 1, V.int 2]) = H2 at *
    refine ite2 (fun _ => ?_) (fun _ => ?_)
    · refine ⟨_, rfl, _, rfl, _, rfl, _, _, rfl, rfl, _, rfl, _, _, rfl, rfl, rec_ H2 (r - 1) _ S2 ha2 (by omega) (by omega) fun H3 x S3 k3 ft => ⟨(by show 2 ≤ sizeLine; decide), fun p hp => ?_⟩⟩
      exact q _ _ (S3.new hp) (k2.trans (k3.trans (Keep.new hp))) (FT.not (ft.same (same_new hp _)) (SqT.of upd_same))
    refine ⟨fun σ' H' => σ' = [some (.ref s), some (.ref a), some (.int r), some (.int d), some (.int way), none, none, none, none, none, none] ∧ StOk K H' s c l ∧ Keep s l H H', ?_, ?_⟩
    · refine ⟨_, rfl, (by show 2 ≤ sizeLine; decide), fun t2 ht2 => ⟨t2, _, rfl, .inr (SqT.of upd_same), rfl, rfl, _, rfl, ?_⟩⟩
      have k3 : Keep s l H (upd H2 t2 (.tup [V.int 3, V.int 4])) := k2.trans (Keep.new ht2)
      have S3 := S2.new (o := .tup [V.int 3, V.int 4]) ht2
      generalize upd H2 t2 (.tup [V.int 3, V.int 4]) = H3 at *
      refine ite2 (fun _ => ?_) (fun _ => ⟨rfl, S3, k3⟩)
      refine ⟨_, rfl, Nat.zero_le _, fun t3 ht3 => ⟨.list (ns.map PyData.str), .list [], .lst ((k3.trans (Keep.new ht3)).seqL as al ha) (dpStrs ns), .lst (SqL.of upd_same) .nil, shStrs fun z hz => strOk_low (word_low (hw z hz)), rfl, _, rfl, ?_⟩⟩
      rw [eqvStrs0]
      have k4 : Keep s l H (upd H3 t3 (.lst [])) := k3.trans (Keep.new ht3)
      have S4 := S3.new (o := .lst []) ht3
      have ha4 : SqL K (upd H3 t3 (.lst [])) a (ns.map V.str) := k4.seqL as al ha
      generalize upd H3 t3 (.lst []) = H4 at *
      cases hne : ns.isEmpty with
      | true => exact iteF ⟨rfl, S4, k4⟩
      | false =>
        have hpos : 0 < (ns.map V.str).length := by
          rw [List.length_map]
          cases ns with
          | nil => cases hne
          | cons a b => exact Nat.succ_pos _
        refine iteT ⟨_, rfl, (by show 2 ≤ sizeLine; decide), fun pw hpw => ?_⟩
        have npw := S4.ns hpw
        refine ⟨s, c, l, _, rfl, S4.new hpw, .inl ⟨pw, _, rfl, npw.1, npw.2.1, SqL.of upd_same, (by show 0 < 2; decide), (by show 2 ≤ 100000; decide), fun H5 x S5 k5 hx => ?_⟩⟩
        have k6 : Keep s l H H5 := k4.trans ((Keep.new hpw).trans k5)
        have hx' : x ∈ (([("some" : Str), "all"] : List Str).map V.str) := hx
        obtain ⟨wd, hwd, rfl⟩ := List.mem_map.mp hx'
        refine ⟨_, rfl, _, rfl, _, rfl, s, c, l, _, rfl, S5, .inl ⟨a, _, rfl, as, al, k6.seqL as al ha, hpos, by rw [List.length_map]; omega, fun H6 y S6 k7 hy => ?_⟩⟩
        obtain ⟨z, hz, rfl⟩ := List.mem_map.mp hy
        have k8 := k6.trans k7
        refine ⟨_, rfl, _, rfl, _, rfl, _, _, rfl, rfl, _, rfl, _, _, rfl, rfl, rec_ H6 (r - 1) _ S6 (k8.seqL as al ha) (by omega) (by omega) fun H7 x S7 k9 ft => ⟨(by show 3 ≤ sizeLine; decide), fun p hp => ?_⟩⟩
        exact q _ _ (S7.new hp) (k8.trans (k9.trans (Keep.new hp))) (FT.qu hwd hz (okS_word (hw _ hz)) (ft.same (same_new hp _)) (SqT.of upd_same))
    rintro σ H3 ⟨rfl, S3, k3⟩
    refine ⟨_, rfl, _, rfl, _, _, rfl, rfl, s, c, l, r - 1, 3, rfl, S3, by omega, by omega, by omega, by omega, fun H4 pr rs S4 k4 hpr e4 l4 b4 s4 => ?_⟩
    have npr := S3.ns hpr
    obtain ⟨x1, x2, x3, rfl⟩ : ∃ x1 x2 x3, rs = [x1, x2, x3] := by
      match rs, l4 with
      | [x1, x2, x3], _ => exact ⟨x1, x2, x3, rfl⟩
      | [], h => cases h
      | [_], h => cases h
      | [_, _], h => cases h
      | _ :: _ :: _ :: _ :: _, h =>
        simp only [List.length_cons] at h
        omega
    have s5 : x1 + x2 + x3 ≤ r - 1 := by
      simp only [List.sum_cons, List.sum_nil] at s4
      omega
    have k5 := k3.trans k4
    refine ⟨_, rfl, pr, rfl, ⟨_, SqL.of e4⟩, fun D hD => ?_⟩
    have nD := S4.ns hD
    have nDr : pr ≠ D := fun z => by
      rw [← z, e4] at hD
      cases hD
    refine lc_list (xs := [x1, x2, x3].map V.int) (fun j H' => StOk K H' s c l ∧ Keep s l H4 H' ∧ ∃ xs, H' D = some (.lst xs) ∧ xs.length = j ∧ ∀ (i : Nat) (x : V) (u : Int), xs[i]? = some x → [x1, x2, x3][i]? = some u → FT K s l (del H' D) ns u (d - 1) x)
      ⟨S4.new hD, Keep.new hD, [], upd_same, rfl, fun i x u e => by simp at e⟩ (fun j H' _ t => SqL.of (t.2.1 _ _ npr.1 npr.2.1 e4)) ?_ ?_
    · rintro j x Ha hj ⟨Sa, ka, xs, g2, g3, g4⟩
      obtain ⟨y, hy, rfl⟩ : ∃ y, [x1, x2, x3][j]? = some y ∧ x = V.int y := by
        rw [List.getElem?_map] at hj
        cases e : [x1, x2, x3][j]? with
        | none =>
          rw [e] at hj
          cases hj
        | some y =>
          rw [e] at hj
          exact ⟨y, rfl, (Option.some.inj hj).symm⟩
      have hj3 : j < 3 := (List.getElem?_eq_some_iff.mp hy).1
      have by_ := b4 y (List.mem_of_getElem? hy)
      have yr : y ≤ 1000 := by
        have b1 := b4 x1 (by simp)
        have b2 := b4 x2 (by simp)
        have b3 := b4 x3 (by simp)
        have : y = x1 ∨ y = x2 ∨ y = x3 := by simpa using List.mem_of_getElem? hy
        omega
      refine ⟨rfl, ?_⟩
      show _
      refine ⟨_, rfl, _, rfl, _, rfl, _, rfl, _, _, rfl, rfl, rec_ Ha y _ Sa ((k5.trans ka).seqL as al ha) by_.1 yr fun Hb x Sb kb ft => ?_⟩
      refine ⟨xs, kb _ _ nD.1 nD.2.1 g2, by rw [g3]; exact small1000 (by omega), Sb.mut nD, (ka.trans kb).mut0 hD, xs ++ [x], upd_same, by rw [List.length_append, g3]; rfl, fun i x' u e1 e2 => ?_⟩
      rw [del_upd]
      by_cases hi : i < xs.length
      · rw [List.getElem?_append_left hi] at e1
        exact (g4 i x' u e1 e2).keep (Sa.del nD) (del_keep kb)
      · rw [List.getElem?_append_right (by omega)] at e1
        have hi0 : i - xs.length = 0 := by
          have := (List.getElem?_eq_some_iff.mp e1).1
          simpa using this
        rw [hi0] at e1
        have ex : x = x' := by simpa using e1
        have ei : i = j := by omega
        subst ex
        rw [ei, hy] at e2
        cases e2
        exact ft.del (kb _ _ nD.1 nD.2.1 g2)
    · rintro H5 ⟨S5, k6, xs, g2, g3, g4⟩
      obtain ⟨y1, y2, y3, rfl⟩ : ∃ y1 y2 y3, xs = [y1, y2, y3] := by
        match xs, g3 with
        | [y1, y2, y3], _ => exact ⟨y1, y2, y3, rfl⟩
        | [], h => cases h
        | [_], h => cases h
        | [_, _], h => cases h
        | _ :: _ :: _ :: _ :: _, h => simp at h
      have f1 : FT K s l H5 ns x1 (d - 1) y1 := (g4 0 y1 x1 rfl rfl).same del_sub
      have f2 : FT K s l H5 ns x2 (d - 1) y2 := (g4 1 y2 x2 rfl rfl).same del_sub
      have f3 : FT K s l H5 ns x3 (d - 1) y3 := (g4 2 y3 x3 rfl rfl).same del_sub
      have b1 := b4 x1 (by simp)
      have b2 := b4 x2 (by simp)
      have b3 := b4 x3 (by simp)
      have k7 := k5.trans k6
      clear g4 g3
      refine ⟨fun σ' H' => σ' = [some (.ref s), some (.ref a), some (.int r), some (.int d), some (.int way), none, none, some (.ref pr), some (.ref D), none, none] ∧ StOk K H' s c l ∧ Keep s l H5 H', ?_, ?_⟩
      · refine ⟨_, rfl, rfl, _, rfl, ?_⟩
        refine ite2 (fun _ => ?_) (fun _ => ⟨rfl, S5, Keep.refl⟩)
        refine ⟨_, rfl, Nat.zero_le _, fun t3 ht3 => ⟨.list (ns.map PyData.str), .list [], .lst ((k7.trans (Keep.new ht3)).seqL as al ha) (dpStrs ns), .lst (SqL.of upd_same) .nil, shStrs fun z hz => strOk_low (word_low (hw z hz)), rfl, _, rfl, ?_⟩⟩
        rw [eqvStrs0]
        have k8 : Keep s l H5 (upd H5 t3 (.lst [])) := Keep.new ht3
        have S6 := S5.new (o := .lst []) ht3
        generalize upd H5 t3 (.lst []) = H6 at *
        cases hne : ns.isEmpty with
        | true => exact iteF ⟨rfl, S6, k8⟩
        | false =>
          have hpos : 0 < (ns.map V.str).length := by
            rw [List.length_map]
            cases ns with
            | nil => cases hne
            | cons a b => exact Nat.succ_pos _
          refine iteT ⟨_, rfl, _, rfl, s, c, l, _, rfl, S6, .inl ⟨a, _, rfl, as, al, (k7.trans k8).seqL as al ha, hpos, by rw [List.length_map]; omega, fun H7 y S7 k9 hy => ?_⟩⟩
          obtain ⟨z, hz, rfl⟩ := List.mem_map.mp hy
          have kk := k8.trans k9
          have h7 : H7 D = some (.lst [y1, y2, y3]) := kk _ _ nD.1 nD.2.1 g2
          refine ⟨_, rfl, D, _, _, y1, rfl, rfl, SqL.of h7, atI_nat (j := 0) rfl, _, rfl, D, _, _, y2, rfl, rfl, SqL.of h7, atI_nat (j := 1) rfl, (by show 4 ≤ sizeLine; decide), fun p hp => ?_⟩
          exact q _ _ (S7.new hp) (k7.trans (kk.trans (Keep.new hp))) (FT.put hz (okS_word (hw _ hz)) ((f1.keep S5 kk).same (same_new hp _)) ((f2.keep S5 kk).same (same_new hp _)) (SqT.of upd_same) (by omega))
      rintro σ H6 ⟨rfl, S6, k8⟩
      have h6 : H6 D = some (.lst [y1, y2, y3]) := k8 _ _ nD.1 nD.2.1 g2
      refine ⟨_, rfl, (by show 2 ≤ sizeLine; decide), fun t1 ht1 => ⟨t1, _, rfl, .inr (SqT.of upd_same), rfl, rfl, _, rfl, ?_⟩⟩
      have k9 : Keep s l H5 (upd H6 t1 (.tup [V.int 6, V.int 7])) := k8.trans (Keep.new ht1)
      have S7 := S6.new (o := .tup [V.int 6, V.int 7]) ht1
      generalize upd H6 t1 (.tup [V.int 6, V.int 7]) = H7 at *
      have h7 : H7 D = some (.lst [y1, y2, y3]) := k9 _ _ nD.1 nD.2.1 g2
      refine ite2 (fun _ => ?_) (fun _ => ?_)
      · refine ⟨_, rfl, D, _, _, y1, rfl, rfl, SqL.of h7, atI_nat (j := 0) rfl, _, rfl, D, _, _, y2, rfl, rfl, SqL.of h7, atI_nat (j := 1) rfl, _, rfl, D, _, _, y3, rfl, rfl, SqL.of h7, atI_nat (j := 2) rfl, (by show 4 ≤ sizeLine; decide), fun p hp => ?_⟩
        exact q _ _ (S7.new hp) (k7.trans (k9.trans (Keep.new hp))) (FT.ite ((f1.keep S5 k9).same (same_new hp _)) ((f2.keep S5 k9).same (same_new hp _)) ((f3.keep S5 k9).same (same_new hp _)) (SqT.of upd_same) (by omega))
      · refine ⟨_, rfl, (by show 3 ≤ sizeLine; decide), fun pw hpw => ?_⟩
        have npw := S7.ns hpw
        refine ⟨s, c, l, _, rfl, S7.new hpw, .inl ⟨pw, _, rfl, npw.1, npw.2.1, SqL.of upd_same, (by show 0 < 3; decide), (by show 3 ≤ 100000; decide), fun H8 x S8 k10 hx => ?_⟩⟩
        have kk := k9.trans ((Keep.new hpw).trans k10)
        have hx' : x ∈ (([("and" : Str), "or", "xor"] : List Str).map V.str) := hx
        obtain ⟨wd, hwd, rfl⟩ := List.mem_map.mp hx'
        have h8 : H8 D = some (.lst [y1, y2, y3]) := kk _ _ nD.1 nD.2.1 g2
        refine ⟨_, rfl, D, _, _, y1, rfl, rfl, SqL.of h8, atI_nat (j := 0) rfl, _, rfl, D, _, _, y2, rfl, rfl, SqL.of h8, atI_nat (j := 1) rfl, (by show 3 ≤ sizeLine; decide), fun p hp => ?_⟩
        exact q _ _ (S8.new hp) (k7.trans (kk.trans (Keep.new hp))) (FT.bin hwd ((f1.keep S5 kk).same (same_new hp _)) ((f2.keep S5 kk).same (same_new hp _)) (SqT.of upd_same) (by omega))
  all_goals
    refine ⟨(by show 1 ≤ sizeLine; decide), fun p1 hp1 => ⟨(by show 1 ≤ sizeLine; decide), fun p2 hp2 => ⟨(by show 2 ≤ sizeLine; decide), fun pl hpl => ?_⟩⟩⟩
    have e1 := same_new hp1 (.tup [V.str ("yes" : Str)])
    have e2 := same_new hp2 (.tup [V.str ("no" : Str)])
    have e3 := same_new hpl (.lst [V.ref p1, V.ref p2])
    have t1 := e3 _ _ (e2 _ _ (upd_same (H := H1) (a := p1) (o := .tup [V.str ("yes" : Str)])))
    have t2 := e3 _ _ (upd_same (H := upd H1 p1 (.tup [V.str ("yes" : Str)])) (a := p2) (o := .tup [V.str ("no" : Str)]))
    have t3 := upd_same (H := upd (upd H1 p1 (.tup [V.str ("yes" : Str)])) p2 (.tup [V.str ("no" : Str)])) (a := pl) (o := .lst [V.ref p1, V.ref p2])
    have e4 := e1.trans (e2.trans e3)
    generalize upd (upd (upd H1 p1 (.tup [V.str ("yes" : Str)])) p2 (.tup [V.str ("no" : Str)])) pl (.lst [V.ref p1, V.ref p2]) = H2 at *
    refine ⟨_, rfl, a, rfl, ⟨_, e4.seq ha1⟩, fun D hD => ?_⟩
    refine lc_list (xs := ns.map V.str) (fun j H' => Same H2 H' ∧ ∃ xs, H' D = some (.lst xs) ∧ xs.length = j ∧ ∀ x ∈ xs, FT K s l (del H' D) ns r d x)
      ⟨same_new hD _, [], upd_same, rfl, fun x hx => by cases hx⟩ (fun j H' _ t => t.1.seq (e4.seq ha1)) ?_ ?_
    · rintro j x Ha hj ⟨g1, xs, g2, g3, g4⟩
      obtain ⟨y, hy, rfl⟩ : ∃ y, ns[j]? = some y ∧ x = V.str y := by
        rw [List.getElem?_map] at hj
        cases e : ns[j]? with
        | none =>
          rw [e] at hj
          cases hj
        | some y =>
          rw [e] at hj
          exact ⟨y, rfl, (Option.some.inj hj).symm⟩
      have hj20 : j < 20 := by
        have := (List.getElem?_eq_some_iff.mp hy).1
        omega
      refine ⟨rfl, ?_⟩
      show _
      refine ⟨_, rfl, (by show 2 ≤ sizeLine; decide), fun pn hpn => ?_⟩
      have g5 := same_new hpn (.tup [V.str ("name" : Str), V.str y])
      have nD : D ≠ pn := fun z => by
        rw [z, hpn] at g2
        cases g2
      refine ⟨_, g5 _ _ g2, by rw [g3]; exact small1000 (by omega), fun b u z => ?_, xs ++ [.ref pn], upd_same, by rw [List.length_append, g3]; rfl, fun x hx => ?_⟩
      · rw [upd_ne (ne_of_none z hD)]
        exact g5 _ _ (g1 _ _ z)
      · rw [del_upd]
        rcases List.mem_append.mp hx with hx | hx
        · exact (g4 x hx).same (del_mono g5)
        · rw [List.mem_singleton.mp hx]
          exact FT.name (SqT.of (by rw [del_ne nD.symm, upd_same])) (List.mem_of_getElem? hy) (okS_word (hw _ (List.mem_of_getElem? hy))) r0 d0
    · rintro H6 ⟨g1, xs, g2, g3, g4⟩
      rw [List.length_map] at g3
      refine ⟨D, 3, xs, rfl, rfl, g2, by decide, by decide, ?_, fun pr hpr => ?_⟩
      · have e3 : (3 : Int).toNat = 3 := rfl
        rw [e3, g3]
        exact Nat.le_of_lt (small1000 (by omega))
      have g7 := same_new hpr (.lst (List.replicate (3 : Int).toNat xs).flatten)
      have lx : (List.replicate (3 : Int).toNat xs).flatten.length ≤ 60 := by
        show (List.replicate 3 xs).flatten.length ≤ 60
        simp only [List.replicate, List.flatten_cons, List.flatten_nil, List.length_append, List.length_nil]
        omega
      refine ⟨pl, pr, _, _, rfl, rfl, g7 _ _ (g1 _ _ t3), upd_same, Nat.le_of_lt (small1000 (by
        show 2 + (List.replicate (3 : Int).toNat xs).flatten.length ≤ 1000
        omega)), fun pc hpc => ?_⟩
      have g8 := g7.trans (same_new hpc (.lst ([V.ref p1, V.ref p2] ++ (List.replicate (3 : Int).toNat xs).flatten)))
      have eH : Same H1 _ := e4.trans (g1.trans g8)
      have nc := (S1.keep (e4.trans (g1.trans g7))).ns hpc
      refine ⟨_, rfl, _, rfl, s, c, l, _, rfl, S1.keep eH, .inl ⟨pc, _, rfl, nc.1, nc.2.1, SqL.of upd_same, ?_, ?_, fun H7 x S7 k7 hx => ?_⟩⟩
      · rw [List.length_append]
        exact Nat.lt_of_lt_of_le (by decide : 0 < 2) (Nat.le_add_right _ _)
      · rw [List.length_append]
        have : ([V.ref p1, V.ref p2] : List V).length = 2 := rfl
        omega
      refine q H7 x S7 (k1.trans ((Keep.of eH).trans k7)) (FT.keep ?_ (S1.keep eH) k7)
      rcases List.mem_append.mp hx with hx | hx
      · rcases List.mem_cons.mp hx with e | hx
        · rw [e]
          exact FT.yes (SqT.of (g8 _ _ (g1 _ _ t1))) r0 d0
        · rw [List.mem_singleton.mp hx]
          exact FT.no (SqT.of (g8 _ _ (g1 _ _ t2))) r0 d0
      · obtain ⟨ys, hy, hx⟩ := List.mem_flatten.mp hx
        rw [(List.mem_replicate.mp hy).2] at hx
        exact (g4 x hx).same (del_sub.trans g8)
theorem all_made {f : Addr} {fd : FuncData} (F : Fun K "_law_made" "_law_made" sMade f fd) (bG : Binds K fd ["state", "names", "room", "deep"] []) (mG : mg "_law_made" = some (.ref f))
    (M : Def P w K mg base CX0 "_law_draw" 2 ["state", "many"] (spDraw K)) (O : Def P w K mg base CX0 "_law_one" 3 ["state", "things"] (spOne K)) (R : Def P w K mg base CX0 "_law_rooms" 3 ["state", "room", "many"] (spRooms K)) :
    ∀ n : Nat, FnOk P w K mg base CX0 (n + 3) f fd ["state", "names", "room", "deep"] (spMade K n)
  | 0 => by
    have no : ∀ vs H Q E, ¬ spMade K 0 vs H Q E := fun vs H Q E h => by
      obtain ⟨s, c, l, a, ns, r, d, _, _, _, _, _, _, _, _, _, d0, d1, _⟩ := h
      omega
    exact ⟨fun vs H Q E h => absurd h (no vs H Q E), fun A outer s H args us vs Q E _ _ _ _ h => absurd h (no vs H Q E)⟩
  | n + 1 => step_made F bG mG M O R (all_made F bG mG M O R n)
end
end Kn

set_option Elab.async false
set_option linter.all false
set_option maxRecDepth 100000
set_option maxHeartbeats 4000000
set_option pp.maxSteps 1200
namespace Kn
open PySem L2 TL
/-! ### how great a thing is: so deep, tuples so long -/
mutual
def sz : PyData → Nat
  | .tuple xs => max xs.length (szAll xs) + 1
  | .none | .bool _ | .int _ | .str _ | .list _ | .dict _ => 0
def szAll : List PyData → Nat
  | [] => 0
  | x :: xs => max (sz x) (szAll xs)
end
theorem szAll_le {m : Nat} : ∀ {ds : List PyData}, (∀ d ∈ ds, sz d ≤ m) → szAll ds ≤ m
  | [], _ => Nat.zero_le _
  | d :: r, h => by
    have h1 := h d List.mem_cons_self
    have h2 := szAll_le (ds := r) fun e he => h e (List.mem_cons_of_mem _ he)
    simp only [szAll]
    omega
theorem szAll_mem : ∀ {ds : List PyData} {d : PyData}, d ∈ ds → sz d ≤ szAll ds
  | [], _, h => by cases h
  | e :: r, d, h => by
    simp only [szAll]
    rcases List.mem_cons.mp h with q | q
    · rw [q]
      omega
    · have := szAll_mem q
      omega
theorem Fm.sz {ns : List Str} {a b : Nat} {d : PyData} (f : Fm ns a b d) : Kn.sz d ≤ b + 5 := by
  induction f <;> simp only [Kn.sz, Kn.szAll, List.length_cons, List.length_nil] <;> omega
/-- all of some values stand for things no greater than m -/
def TB (K : PySem.W.Frag) (s l : Addr) (H : Hp) (m : Nat) (xs : List V) : Prop := ∀ x ∈ xs, ∃ d, Tg K s l H x d ∧ sz d ≤ m
section
variable {K : PySem.W.Frag} {s l : Addr} {H H' : Hp} {m : Nat} {xs ys : List V}
theorem TB.all : ∀ {xs : List V}, TB K s l H m xs → ∃ ds, TgAll K s l H xs ds ∧ (∀ d ∈ ds, sz d ≤ m) ∧ ds.length = xs.length
  | [], _ => ⟨[], .nil, (fun d hd => by cases hd), rfl⟩
  | x :: r, h => by
    obtain ⟨d, hd, hm⟩ := h x List.mem_cons_self
    obtain ⟨ds, hds, h2, h3⟩ := TB.all (xs := r) fun y hy => h y (List.mem_cons_of_mem _ hy)
    refine ⟨d :: ds, .cons hd hds, fun e he => ?_, by rw [List.length_cons, h3, List.length_cons]⟩
    rcases List.mem_cons.mp he with q | q
    · rw [q]
      exact hm
    · exact h2 e q
theorem TB.of : ∀ {xs : List V} {ds : List PyData}, TgAll K s l H xs ds → szAll ds ≤ m → TB K s l H m xs
  | _, _, .nil, _ => fun x hx => by cases hx
  | _, _, .cons (d := d) (ds := ds) q r, h => fun x hx => by
    simp only [szAll] at h
    rcases List.mem_cons.mp hx with e | hx
    · rw [e]
      exact ⟨d, q, by omega⟩
    · exact TB.of r (by omega) x hx
theorem TB.nil : TB K s l H m [] := fun x hx => by cases hx
theorem TB.cons {x : V} {d : PyData} (h : Tg K s l H x d) (hm : sz d ≤ m) (r : TB K s l H m xs) : TB K s l H m (x :: xs) := fun y hy => by
  rcases List.mem_cons.mp hy with e | hy
  · rw [e]
    exact ⟨d, h, hm⟩
  · exact r y hy
theorem TB.app (a : TB K s l H m xs) (b : TB K s l H m ys) : TB K s l H m (xs ++ ys) := fun y hy => (List.mem_append.mp hy).elim (a y) (b y)
theorem TB.same (h : TB K s l H m xs) (e : Same H H') : TB K s l H' m xs := fun x hx => let ⟨d, q, r⟩ := h x hx; ⟨d, q.same e, r⟩
theorem TB.keep {c : Addr} (h : TB K s l H m xs) (S : StOk K H s c l) (e : Keep s l H H') : TB K s l H' m xs := fun x hx => let ⟨d, q, r⟩ := h x hx; ⟨d, q.keep S e, r⟩
theorem TB.mono {n : Nat} (h : TB K s l H m xs) (e : m ≤ n) : TB K s l H n xs := fun x hx => let ⟨d, q, r⟩ := h x hx; ⟨d, q, Nat.le_trans r e⟩
theorem TB.sub (h : TB K s l H m xs) (e : ∀ y ∈ ys, y ∈ xs) : TB K s l H m ys := fun x hx => h x (e x hx)
/-- a tuple of things is a thing -/
theorem TB.tup {p : Addr} (h : TB K s l H m xs) (hp : SqT K H p xs) : ∃ d, Tg K s l H (.ref p) d ∧ sz d ≤ max xs.length m + 1 := by
  obtain ⟨ds, h1, h2, h3⟩ := h.all
  refine ⟨_, .tup hp h1, ?_⟩
  have := szAll_le h2
  simp only [sz]
  omega
/-- what evaluates to a thing, leaving what is known -/
def EvG (K : PySem.W.Frag) (s l : Addr) (m : Nat) (te : TE) (σ : L2.St) (H0 : Hp) : Prop := ∀ H, Same H0 H → ∀ Q : VK, (∀ v H', Same H H' → (∃ d, Tg K s l H' v d ∧ sz d ≤ m) → Q v H') → te σ H Q
def EvGA (K : PySem.W.Frag) (s l : Addr) (m n : Nat) (ta : TA) (σ : L2.St) (H0 : Hp) : Prop := ∀ H, Same H0 H → ∀ Q : List V → Hp → Prop, (∀ vs H', Same H H' → TB K s l H' m vs → vs.length = n → Q vs H') → ta σ H Q
variable {σ : L2.St} {H0 : Hp} {te tf : TE} {ta : TA} {n : Nat}
theorem evg_of {i : Nat} {v : V} {d : PyData} (h : σ[i]? = some (some v)) (hd : Tg K s l H0 v d) (hm : sz d ≤ m) : EvG K s l m (tVar i) σ H0 := fun H e Q q => ⟨v, h, q v H (Same.refl H) ⟨d, hd.same e, hm⟩⟩
theorem evg_str {x : Str} (h : okS x = true := by decide +kernel) : EvG K s l m (tC (.str x)) σ H0 := fun H e Q q => q _ H (Same.refl H) ⟨_, .str x h, Nat.zero_le _⟩
theorem evg_int {x : Int} : EvG K s l m (tC (.int x)) σ H0 := fun H e Q q => q _ H (Same.refl H) ⟨_, .int x, Nat.zero_le _⟩
theorem evg_non : EvG K s l m (tC .non) σ H0 := fun H e Q q => q _ H (Same.refl H) ⟨_, .non, Nat.zero_le _⟩
theorem evg_bl {b : Bool} : EvG K s l m (tC (.bl b)) σ H0 := fun H e Q q => q _ H (Same.refl H) ⟨_, .bl b, Nat.zero_le _⟩
theorem EvG.mono {m' : Nat} (h : EvG K s l m te σ H0) (e : m ≤ m') : EvG K s l m' te σ H0 := fun H e1 Q q => h H e1 Q fun v H' e2 ⟨d, q1, q2⟩ => q v H' e2 ⟨d, q1, Nat.le_trans q2 e⟩
theorem ega_nil : EvGA K s l m 0 tNil σ H0 := fun H e Q q => q [] H (Same.refl H) TB.nil rfl
theorem ega_cons (h : EvG K s l m te σ H0) (r : EvGA K s l m n ta σ H0) : EvGA K s l m (n + 1) (tCons te ta) σ H0 := fun H e Q q => h H e _ fun v H1 e1 ⟨d, q1, q2⟩ => r H1 (e.trans e1) _ fun vs H2 e2 b hl => q (v :: vs) H2 (e1.trans e2) (.cons (q1.same e2) q2 b) (by rw [List.length_cons, hl])
theorem evg_tup (h : EvGA K s l m n ta σ H0) (hn : n ≤ 100) : EvG K s l (max n m + 1) (tTup ta) σ H0 := fun H e Q q => h H e _ fun vs H1 e1 b hl => ⟨by rw [hl]; exact Nat.le_of_lt (small1000 (by omega)), fun p hp => q (.ref p) _ (e1.trans (same_new hp _)) (by
  have := (b.same (same_new hp (.tup vs))).tup (SqT.of upd_same)
  rw [hl] at this
  exact this)⟩
theorem evg_tup' {m' : Nat} (h : EvGA K s l m n ta σ H0) (hn : n ≤ 100) (hm : max n m + 1 ≤ m') : EvG K s l m' (tTup ta) σ H0 := (evg_tup h hn).mono hm
theorem evg_lst (hs : H0 s ≠ none) (hl0 : H0 l ≠ none) (h : EvGA K s l m' n ta σ H0) (hn : n ≤ 100) : EvG K s l m (tLst ta) σ H0 := fun H e Q q => h H e _ fun vs H1 e1 b hl => ⟨by rw [hl]; exact Nat.le_of_lt (small1000 (by omega)), fun p hp => by
  have ne : ∀ a, H0 a ≠ none → p ≠ a := fun a ha z => by
    cases q : H0 a with
    | none => exact ha q
    | some o =>
      rw [z, (e.trans e1) _ _ q] at hp
      cases hp
  exact q (.ref p) _ (e1.trans (same_new hp _)) ⟨_, .lst (ne s hs) (ne l hl0) upd_same, Nat.zero_le _⟩⟩
theorem evg_dct (hs : H0 s ≠ none) (hl0 : H0 l ≠ none) : EvG K s l m tDNewK σ H0 := fun H e Q q => fun p hp => by
  have ne : ∀ a, H0 a ≠ none → p ≠ a := fun a ha z => by
    cases q : H0 a with
    | none => exact ha q
    | some o =>
      rw [z, e _ _ q] at hp
      cases hp
  exact q (.ref p) _ (same_new hp _) ⟨_, .dct (ne s hs) (ne l hl0) upd_same, Nat.zero_le _⟩
/-- a list of things, displayed, or put together of two -/
def EvGL (K : PySem.W.Frag) (s l : Addr) (m n : Nat) (te : TE) (σ : L2.St) (H0 : Hp) : Prop := ∀ H, Same H0 H → ∀ Q : VK, (∀ p xs H', Same H H' → H p = none → H' p = some (.lst xs) → TB K s l H' m xs → xs.length = n → Q (.ref p) H') → te σ H Q
theorem egl_lst (h : EvGA K s l m n ta σ H0) (hn : n ≤ 100) : EvGL K s l m n (tLst ta) σ H0 := fun H e Q q => h H e _ fun vs H1 e1 b hl => ⟨by rw [hl]; exact Nat.le_of_lt (small1000 (by omega)), fun p hp => q p vs _ (e1.trans (same_new hp _)) (e1.free hp) upd_same (b.same (same_new hp _)) hl⟩
theorem egl_cat {n' : Nat} (h : EvGL K s l m n te σ H0) (h2 : EvGL K s l m n' tf σ H0) (hn : n + n' ≤ 1000) : EvGL K s l m (n + n') (tOp rCat te tf) σ H0 := fun H e Q q => h H e _ fun p xs H1 e1 hp0 hp b hl =>
  h2 H1 (e.trans e1) _ fun p2 ys H2 e2 hp2 hp3 b2 hl2 => ⟨p, p2, xs, ys, rfl, rfl, e2 _ _ hp, hp3, by rw [hl, hl2]; exact Nat.le_of_lt (small1000 hn), fun p4 hp4 => q p4 _ _ ((e1.trans e2).trans (same_new hp4 _)) ((e1.trans e2).free hp4) upd_same (((b.same e2).app b2).same (same_new hp4 _)) (by rw [List.length_append, hl, hl2])⟩
/-- two tuples put together, a tuple's slice -/
theorem catA_any {a b : Addr} {Q : VK} (ha : SqT K H a xs) (hb : SqT K H b ys) (hz : xs.length + ys.length ≤ 1000) (q : ∀ H' p, Same H H' → SqT K H' p (xs ++ ys) → Q (.ref p) H') : rCatA K (.ref a) (.ref b) H Q := by
  refine ⟨a, b, xs, ys, rfl, rfl, ha, hb, Nat.le_of_lt (small1000 hz), fun e => ?_, fun _ e => ?_, fun _ _ p hp => ?_⟩
  · exact q H b (Same.refl H) (by rw [e]; exact hb)
  · exact q H a (Same.refl H) (by rw [e, List.append_nil]; exact ha)
  · exact q _ p (same_new hp _) (SqT.of upd_same)
theorem slA_any {a : Addr} {lo hi : Option Int} {Q : VK} (ha : SqT K H a xs) (q : ∀ H' p, Same H H' → SqT K H' p (cutV xs lo hi) → Q (.ref p) H') : rSlA K (.ref a) lo hi H Q := by
  refine ⟨a, xs, rfl, ha, fun e => ?_, fun _ p hp => ?_⟩
  · refine q H a (Same.refl H) ?_
    have : cutV xs lo hi = xs := by
      unfold cutV
      rw [e.1, e.2]
      simp
    rw [this]
    exact ha
  · exact q _ p (same_new hp _) (SqT.of upd_same)
theorem cutV_sub {lo hi : Option Int} : ∀ y ∈ cutV xs lo hi, y ∈ xs := fun y hy => List.mem_of_mem_drop (List.mem_of_mem_take hy)
theorem cutV_len {lo hi : Option Int} : (cutV xs lo hi).length ≤ xs.length := by
  unfold cutV
  rw [List.length_take, List.length_drop]
  omega
theorem cutV_to {j : Nat} : (cutV xs none (some (j : Int))).length ≤ j := by
  unfold cutV
  rw [List.length_take, HT.sIx_nat, HT.sIx_none]
  omega
theorem cutV_from {j : Nat} : (cutV xs (some (j : Int)) none).length ≤ xs.length - j := by
  unfold cutV
  rw [List.length_take, HT.sIx_nat, HT.sIx_none, List.length_drop]
  omega
/-- what evaluates to a tuple of at most n things, each no greater than m -/
def EvK (K : PySem.W.Frag) (s c l : Addr) (m n : Nat) (te : TE) (σ : L2.St) (H0 : Hp) : Prop := ∀ H, StOk K H s c l → Keep s l H0 H → ∀ Q : VK, (∀ H' p ys, StOk K H' s c l → Keep s l H H' → SqT K H' p ys → TB K s l H' m ys → ys.length ≤ n → Q (.ref p) H') → te σ H Q
/-- what evaluates to a thing no greater than m -/
def EvT1 (K : PySem.W.Frag) (s c l : Addr) (m : Nat) (te : TE) (σ : L2.St) (H0 : Hp) : Prop := ∀ H, StOk K H s c l → Keep s l H0 H → ∀ Q : VK, (∀ H' v d, StOk K H' s c l → Keep s l H H' → Tg K s l H' v d → sz d ≤ m → Q v H') → te σ H Q
variable {c : Addr} {tb : TE}
theorem evk_cut {tl th : TO} {i n : Nat} {a : Addr} {lo hi : Option Int} (h : σ[i]? = some (some (.ref a))) (S0 : StOk K H0 s c l) (ha : SqT K H0 a xs) (hb : TB K s l H0 m xs) (hl : ∀ (H : Hp) (Q : Option Int → Hp → Prop), Q lo H → tl σ H Q) (hh : ∀ (H : Hp) (Q : Option Int → Hp → Prop), Q hi H → th σ H Q)
    (hn : (cutV xs lo hi).length ≤ n) : EvK K s c l m n (tSl (rSlA K) (tVar i) tl th) σ H0 := fun H S k Q q => ⟨.ref a, h, hl H _ (hh H _ (slA_any (S0.seqT k ha) fun H' p e h2 => q H' p _ (S.keep e) (Keep.of e) h2 (((hb.keep S0 k).same e).sub cutV_sub) hn))⟩
theorem evk_one (h : EvT1 K s c l m te σ H0) : EvK K s c l m 1 (tTup (tCons te tNil)) σ H0 := fun H S k Q q => h H S k _ fun H' v d S' k' t hm => ⟨(by show 1 ≤ sizeLine; decide), fun p hp => q _ p [v] (S'.new hp) (k'.trans (Keep.new hp)) (SqT.of upd_same) ((TB.cons t hm TB.nil).same (same_new hp _)) (Nat.le_refl _)⟩
theorem evk_cat {n1 n2 : Nat} (ha : EvK K s c l m n1 te σ H0) (hb : EvK K s c l m n2 tb σ H0) (hn : n1 + n2 ≤ 1000) : EvK K s c l m (n1 + n2) (tOp (rCatA K) te tb) σ H0 := fun H S k Q q =>
  ha H S k _ fun H1 p1 ys S1 k1 h1 b1 l1 => hb H1 S1 (k.trans k1) _ fun H2 p2 zs S2 k2 h2 b2 l2 => catA_any (S1.seqT k2 h1) h2 (by omega) fun H3 p3 e h3 => q H3 p3 _ (S2.keep e) ((k1.trans k2).trans (Keep.of e)) h3 (((b1.keep S1 k2).app b2).same e) (by rw [List.length_append]; omega)
theorem EvK.mono {n1 n2 : Nat} (h : EvK K s c l m n1 te σ H0) (e : n1 ≤ n2) : EvK K s c l m n2 te σ H0 := fun H S k Q q => h H S k Q fun H' p ys a b c' d l1 => q H' p ys a b c' d (Nat.le_trans l1 e)
theorem evt_item {i j : Nat} {a : Addr} {z : Nat} (h : σ[i]? = some (some (.ref a))) {i2 : Nat} (h2 : σ[i2]? = some (some (.int (j : Int)))) (S0 : StOk K H0 s c l) (ha : SqT K H0 a xs) (hb : TB K s l H0 m xs) (hj : j < xs.length) : EvT1 K s c l m (tOp (rIxT K) (tVar i) (tVar i2)) σ H0 := fun H S k Q q => by
  obtain ⟨d, t1, t2⟩ := (hb.keep S0 k) xs[j] (List.getElem_mem hj)
  exact ⟨.ref a, h, .int j, h2, a, xs, j, xs[j], rfl, rfl, S0.seqT k ha, atI_nat (List.getElem?_eq_getElem hj), q H _ d S Keep.refl t1 t2⟩
theorem seq_asg {D : Ends} {i : Nat} {u : TS} (h : te σ H fun v H' => u D (σ.set i (some v)) H') : tSeq (tAsg te (gName i)) u D σ H := h
theorem ret_of {D : Ends} (h : te σ H D.rt) : tRet te D σ H := h
theorem asg_of {D : Ends} {i : Nat} (h : te σ H fun v H' => D.nx (σ.set i (some v)) H') : tAsg te (gName i) D σ H := h
end
end Kn

set_option Elab.async false
set_option linter.all false
set_option maxRecDepth 100000
set_option maxHeartbeats 4000000
set_option pp.maxSteps 1200
namespace Kn
open PySem L2 TL
def isTup : PyData → Bool
  | .tuple _ => true
  | _ => false
def isStr : PyData → Bool
  | .str _ => true
  | _ => false
section
variable {K : PySem.W.Frag} {s l : Addr} {H H' : Hp} {v : V} {d : PyData} {Q : VK}
theorem TgAll.len : ∀ {xs : List V} {ds : List PyData}, TgAll K s l H xs ds → ds.length = xs.length
  | _, _, .nil => rfl
  | _, _, .cons _ r => by rw [List.length_cons, List.length_cons, TgAll.len r]
theorem seqT_ty {a : Addr} {xs : List V} (h : SqT K H a xs) : TyX K H (.ref a) (.type "tuple") := by
  rcases h with (h | ⟨o, h⟩) | ⟨o, its, n, h1, h2, _⟩
  · exact .base (.tup h)
  · exact .fTuple h
  · exact .kTuple h1 h2
theorem tg_ty (h : Tg K s l H v d) : ∃ t : String, TyX K H v (.type t) ∧ kitB t "tuple" = some (isTup d) ∧ kitB t "str" = some (isStr d) := by
  cases h with
  | non => exact ⟨"NoneType", .base .non, (show kitB "NoneType" "tuple" = some false by decide +kernel), (show kitB "NoneType" "str" = some false by decide +kernel)⟩
  | bl b => exact ⟨"bool", .base (.bl b), (show kitB "bool" "tuple" = some false by decide +kernel), (show kitB "bool" "str" = some false by decide +kernel)⟩
  | int i => exact ⟨"int", .base (.int i), (show kitB "int" "tuple" = some false by decide +kernel), (show kitB "int" "str" = some false by decide +kernel)⟩
  | str x _ => exact ⟨"str", .base (.str x), (show kitB "str" "tuple" = some false by decide +kernel), (show kitB "str" "str" = some true by decide +kernel)⟩
  | tup q r => exact ⟨"tuple", seqT_ty q, (show kitB "tuple" "tuple" = some true by decide +kernel), (show kitB "tuple" "str" = some false by decide +kernel)⟩
  | lst a b q => exact ⟨"list", .base (.lst q), (show kitB "list" "tuple" = some false by decide +kernel), (show kitB "list" "str" = some false by decide +kernel)⟩
  | dct a b q => exact ⟨"dict", .base (.dK q), (show kitB "dict" "tuple" = some false by decide +kernel), (show kitB "dict" "str" = some false by decide +kernel)⟩
theorem isi_tup (h : Tg K s l H v d) (q : Q (.bl (isTup d)) H) : rIsi K [v, .ty "tuple"] H Q := by
  obtain ⟨t, h1, h2, _⟩ := tg_ty h
  exact ⟨v, .ty "tuple", .type t, .type "tuple", isTup d, rfl, .ty _, h1, kit_ty h2, q⟩
theorem isi_str (h : Tg K s l H v d) (q : Q (.bl (isStr d)) H) : rIsi K [v, .ty "str"] H Q := by
  obtain ⟨t, h1, _, h2⟩ := tg_ty h
  exact ⟨v, .ty "str", .type t, .type "str", isStr d, rfl, .ty _, h1, kit_ty h2, q⟩
/-- a list that stands and a list displayed -/
theorem cat_list {m n n' : Nat} {p : Addr} {xs : List V} {te : TE} {σ : L2.St} (hp : H p = some (.lst xs)) (hb : TB K s l H m xs) (hl : xs.length = n) (hn : n + n' ≤ 1000) (h : EvGL K s l m n' te σ H)
    (q : ∀ p2 ys H', Same H H' → H p2 = none → H' p2 = some (.lst ys) → TB K s l H' m ys → ys.length = n + n' → Q (.ref p2) H') : te σ H fun y H2 => rCat (.ref p) y H2 Q :=
  h H (Same.refl H) _ fun p2 ys H2 e2 hp2 hp3 b2 hl2 => ⟨p, p2, xs, ys, rfl, rfl, e2 _ _ hp, hp3, by rw [hl, hl2]; exact Nat.le_of_lt (small1000 hn), fun p4 hp4 =>
    q p4 _ _ (e2.trans (same_new hp4 _)) (e2.free hp4) upd_same (((hb.same e2).app b2).same (same_new hp4 _)) (by rw [List.length_append, hl, hl2])⟩
end
section
variable {P : Program} {w : World} {K : PySem.W.Frag} {mg : Str → Option Value} {base : Heap}
theorem scBent : FnScope ["state", "thing", "at", "way", "odd"] ["state", "thing"] (defScope sBent) := ⟨rfl, rfl, rfl, by decide +kernel, rfl, by decide +kernel, by decide +kernel⟩
def spBent (K : PySem.W.Frag) (n : Nat) : Sp := fun vs H Q _ => ∃ (s c l : Addr) (v : V) (d : PyData), vs = [.ref s, v] ∧ StOk K H s c l ∧ Tg K s l H v d ∧ sz d < n ∧ sz d ≤ 60 ∧
  ∀ (H' : Hp) (x : V) (d' : PyData), StOk K H' s c l → Keep s l H H' → Tg K s l H' x d' → sz d' ≤ sz d + 5 → Q x H'
theorem step_bent {n : Nat} {f : Addr} {fd : FuncData} (F : Fun K "_law_bent" "_law_bent" sBent f fd) (bG : Binds K fd ["state", "thing"] []) (mG : mg "_law_bent" = some (.ref f))
    (M : Def P w K mg base CX0 "_law_draw" 2 ["state", "many"] (spDraw K)) (O : Def P w K mg base CX0 "_law_one" 3 ["state", "things"] (spOne K)) (mi : mg "isinstance" = none) (mt : mg "tuple" = none) (ml : mg "len" = none)
    (G : FnOk P w K mg base CX0 (n + 3) f fd ["state", "thing"] (spBent K n)) : FnOk P w K mg base CX0 (n + 4) f fd ["state", "thing"] (spBent K (n + 1)) := by
  refine F.ok scBent (fun vs H Q E h => ?_) (fun cdv A outer s H vs Q E hr h => ?_)
  · obtain ⟨s, c, l, v, d, rfl, _⟩ := h
    rfl
  obtain ⟨s, c, l, v, d, rfl, S, hv, hsz, h60, q⟩ := h
  have hr2 : Room 2 _ := hr.mono (by omega)
  have hr3 : Room 3 _ := hr.mono (by omega)
  refine ⟨_, Evl.pss_cut (ps_if (PW.pt (pw_and (pt_val (pe_callB call_isi (by rfl) mi PyProof.Rows.boot_isinstance (pa_cons (pv 1) (pa_cons (pe_bltn (v := .ty "tuple") (by rfl) mt PyProof.Rows.boot_tuple rfl) pa_nil))))
      (pw_and (pt_cmpR op_gt (pe_callB call_len_seq (by rfl) ml PySem.boot_len (pa_cons (pv 1) pa_nil)) pe_int (nomark _)) (pw_and1 (pt_cmpR op_gt (pe_def M hr2 rfl (pa_cons (pv 0) (pa_cons pe_int pa_nil))) pe_int (nomark _))))))
      (pss_cons (ps_set (i := 2) scBent.nd rfl (Or.inl rfl) (pe_def M hr2 rfl (pa_cons (pv 0) (pa_cons (pe_callB call_len_seq (by rfl) ml PySem.boot_len (pa_cons (pv 1) pa_nil)) pa_nil))))
      (pss_cons (ps_set (i := 3) scBent.nd rfl (Or.inl rfl) (pe_def M hr2 rfl (pa_cons (pv 0) (pa_cons pe_int pa_nil))))
      (pss_cons (ps_if (pt_cmpR op_eq (pv 3) pe_int (nomark _))
        (pss_one (ps_ret (pe_op op_catA (pe_slice sl_tupA (pv 1) po_none (po_some (pv 2))) (pe_slice sl_tupA (pv 1) (po_some (pe_op op_add (pv 2) pe_int)) po_none)))) pss_nil)
      (pss_cons (ps_if (pt_cmpR op_eq (pv 3) pe_int (nomark _))
        (pss_one (ps_ret (pe_op op_catA (pe_op op_catA (pe_slice sl_tupA (pv 1) po_none (po_some (pv 2))) (pe_tup (pa_cons (pe_ix ix_tup (pv 1) (pv 2) (fun _ _ => rfl)) pa_nil))) (pe_slice sl_tupA (pv 1) (po_some (pv 2)) po_none)))) pss_nil)
      (pss_one (ps_ret (pe_op op_catA (pe_op op_catA (pe_slice sl_tupA (pv 1) po_none (po_some (pv 2))) (pe_tup (pa_cons (pe_call G hr rfl mG F.kp bG .nil pass0 (pa_cons (pv 0) (pa_cons (pe_ix ix_tup (pv 1) (pv 2) (fun _ _ => rfl)) pa_nil))) pa_nil))) (pe_slice sl_tupA (pv 1) (po_some (pe_op op_add (pv 2) pe_int)) po_none)))))))) pss_nil)
    (pss_cons (ps_set (i := 4) scBent.nd rfl (Or.inl rfl) (pe_lst (pa_cons pe_non (pa_cons pe_bl (pa_cons pe_int (pa_cons pe_str (pa_cons pe_str (pa_cons pe_str (pa_cons pe_str (pa_cons pe_str (pa_cons pe_str (pa_cons (pe_tup pa_nil) (pa_cons (pe_lst pa_nil) (pa_cons pe_dnewK (pa_cons pe_str
        (pa_cons (pe_tup (pa_cons pe_str pa_nil)) (pa_cons (pe_tup (pa_cons pe_str pa_nil)) (pa_cons (pe_tup (pa_cons pe_str (pa_cons (pe_tup pa_nil) pa_nil))) pa_nil))))))))))))))))))
    (pss_cons (ps_set (i := 4) scBent.nd rfl (Or.inl rfl) (pe_op op_cat (pv 4) (pe_lst (pa_cons (pe_tup (pa_cons pe_str (pa_cons pe_str pa_nil))) (pa_cons (pe_tup (pa_cons pe_str (pa_cons pe_str pa_nil))) (pa_cons (pe_tup (pa_cons pe_str pa_nil)) (pa_cons (pe_tup (pa_cons pe_str pa_nil))
        (pa_cons (pe_tup (pa_cons pe_str (pa_cons (pe_tup (pa_cons pe_str pa_nil)) pa_nil))) (pa_cons (pe_tup (pa_cons pe_str (pa_cons pe_str (pa_cons (pe_tup (pa_cons pe_str pa_nil)) pa_nil)))) (pa_cons (pe_tup (pa_cons (pv 1) pa_nil)) pa_nil))))))))))
    (pss_cons (ps_set (i := 4) scBent.nd rfl (Or.inl rfl) (pe_op op_cat (pv 4) (pe_lst (pa_cons (pe_tup (pa_cons pe_str (pa_cons pe_str (pa_cons (pe_tup (pa_cons pe_str pa_nil)) (pa_cons (pe_tup (pa_cons pe_str (pa_cons pe_str pa_nil))) pa_nil)))))
        (pa_cons (pe_tup (pa_cons pe_str (pa_cons (pe_tup (pa_cons pe_str pa_nil)) (pa_cons (pe_tup (pa_cons pe_str pa_nil)) pa_nil)))) (pa_cons (pe_lst (pa_cons (pv 1) pa_nil)) (pa_cons (pe_tup (pa_cons pe_str (pa_cons (pe_tup (pa_cons pe_str pa_nil)) (pa_cons pe_str pa_nil)))) pa_nil)))))))
    (pss_one (ps_ret (pe_def O hr3 rfl (pa_cons (pv 0) (pa_cons (pv 4) pa_nil)))))))), ?_⟩
  refine ⟨fun σ' H' => σ' = [some (.ref s), some v, none, none, none] ∧ StOk K H' s c l ∧ Keep s l H H', ?_, ?_⟩
  · refine ⟨_, rfl, ?_⟩
    obtain ⟨ty, ty1, ty2, _⟩ := tg_ty hv
    refine ⟨v, .ty "tuple", .type ty, .type "tuple", isTup d, rfl, .ty _, ty1, kit_ty ty2, ?_⟩
    refine ⟨_, rfl, ?_⟩
    cases hv with
    | @tup a xs ds ha hxs =>
      obtain ⟨b1, b2⟩ : szAll ds ≤ 60 ∧ xs.length ≤ 60 := by
        have hl := hxs.len
        simp only [sz] at h60
        omega
      have hb : TB K s l H (szAll ds) xs := TB.of hxs (Nat.le_refl _)
      refine iteT ⟨_, rfl, a, _, rfl, .inr ha, _, _, rfl, rfl, _, rfl, ?_⟩
      refine ite2 (fun c1 => ?_) (fun _ => ⟨rfl, S, Keep.refl⟩)
      have hpos : 0 < xs.length := by
        have := of_decide_eq_true c1
        omega
      refine ⟨_, rfl, s, c, l, 5, rfl, S, by decide, by decide, fun H1 n1 S1 k1 n10 n11 => ⟨_, _, rfl, rfl, _, rfl, ?_⟩⟩
      refine ite2 (fun _ => ?_) (fun _ => ⟨rfl, S1, k1⟩)
      have ha1 := S.seqT k1 ha
      refine ⟨_, rfl, _, rfl, a, _, rfl, .inr ha1, s, c, l, _, rfl, S1, by omega, by omega, fun H2 at_ S2 k2 a0 a1 => ?_⟩
      obtain ⟨j, rfl⟩ : ∃ j : Nat, at_ = (j : Int) := ⟨at_.toNat, by omega⟩
      have hj : j < xs.length := by omega
      have ha2 := S1.seqT k2 ha1
      refine ⟨_, rfl, s, c, l, 7, rfl, S2, by decide, by decide, fun H3 way S3 k3 w0 w1 => ?_⟩
      have ha3 := S2.seqT k3 ha2
      have kk := k1.trans (k2.trans k3)
      have hb3 := hb.keep S kk
      have hd : sz (.tuple ds) = max xs.length (szAll ds) + 1 := by
        have := hxs.len
        simp only [sz]
        omega
      -- what comes of it
      have fin : ∀ (H' : Hp) (p : Addr) (ys : List V), StOk K H' s c l → Keep s l H H' → SqT K H' p ys → TB K s l H' (szAll ds + 5) ys → ys.length ≤ xs.length + 1 → Q (.ref p) H' := fun H' p ys S' k' hp hy hl => by
        obtain ⟨d', t1, t2⟩ := hy.tup hp
        exact q H' _ d' S' k' t1 (by omega)
      have hb5 : TB K s l H3 (szAll ds + 5) xs := hb3.mono (by omega)
      have no_ : ∀ (σ : L2.St) (H : Hp) (Q : Option Int → Hp → Prop), Q none H → tNoPart σ H Q := fun _ _ _ h => h
      obtain ⟨σ3, hσ⟩ : ∃ σ3 : L2.St, σ3 = [some (V.ref s), some (V.ref a), some (V.int (j : Int)), some (V.int way), none] := ⟨_, rfl⟩
      have σ1 : σ3[1]? = some (some (V.ref a)) := by rw [hσ]; rfl
      have σ0 : σ3[0]? = some (some (V.ref s)) := by rw [hσ]; rfl
      have σ2 : σ3[2]? = some (some (V.int (j : Int))) := by rw [hσ]; rfl
      have at_ : ∀ (H : Hp) (Q : Option Int → Hp → Prop), Q (some (j : Int)) H → tPart (tVar 2) σ3 H Q := fun H Q h => ⟨_, σ2, _, rfl, h⟩
      have at1_ : ∀ (H : Hp) (Q : Option Int → Hp → Prop), Q (some ((j + 1 : Nat) : Int)) H → tPart (tOp (rI0 fun i j => .int (i + j)) (tVar 2) (tC (.int 1))) σ3 H Q := fun H Q h => ⟨_, σ2, _, _, rfl, rfl, _, rfl, h⟩
      have c1 : EvK K s c l (szAll ds + 5) j (tSl (rSlA K) (tVar 1) tNoPart (tPart (tVar 2))) σ3 H3 := evk_cut σ1 S3 ha3 hb5 (no_ σ3) at_ cutV_to
      have c2 : EvK K s c l (szAll ds + 5) (xs.length - (j + 1)) (tSl (rSlA K) (tVar 1) (tPart (tOp (rI0 fun i j => .int (i + j)) (tVar 2) (tC (.int 1)))) tNoPart) σ3 H3 := evk_cut σ1 S3 ha3 hb5 at1_ (no_ σ3) cutV_from
      have c3 : EvK K s c l (szAll ds + 5) (xs.length - j) (tSl (rSlA K) (tVar 1) (tPart (tVar 2)) tNoPart) σ3 H3 := evk_cut σ1 S3 ha3 hb5 at_ (no_ σ3) cutV_from
      have it : EvT1 K s c l (szAll ds) (tOp (rIxT K) (tVar 1) (tVar 2)) σ3 H3 := evt_item (z := 0) σ1 σ2 S3 ha3 hb3 hj
      have it5 : EvT1 K s c l (szAll ds + 5) (tOp (rIxT K) (tVar 1) (tVar 2)) σ3 H3 := fun H S k Q q => it H S k Q fun H' v d a b c' d' => q H' v d a b c' (by omega)
      have rc : EvT1 K s c l (szAll ds + 5) (tCall (spBent K n) [] E0 (tCons (tVar 0) (tCons (tOp (rIxT K) (tVar 1) (tVar 2)) tNil))) σ3 H3 := fun H S k Q q => ⟨_, σ0, it H S k _ fun H' v d S' k' t hm => ⟨s, c, l, v, d, rfl, S', t, by omega, by omega, fun H2 x d' S2 k2 t2 hm2 => q H2 x d' S2 (k'.trans k2) t2 (by omega)⟩⟩
      subst hσ
      refine ⟨_, rfl, rfl, _, rfl, ite2 (fun _ => ?_) (fun _ => ?_)⟩
      · refine ret_of (evk_cat c1 c2 (by omega) H3 S3 Keep.refl _ fun H' p ys S' k' hp hy hl => fin H' p ys S' (kk.trans k') hp hy (by omega))
      refine ⟨_, rfl, rfl, _, rfl, ite2 (fun _ => ?_) (fun _ => ?_)⟩
      · refine ret_of (evk_cat (evk_cat c1 (evk_one it5) (by omega)) c3 (by omega) H3 S3 Keep.refl _ fun H' p ys S' k' hp hy hl => fin H' p ys S' (kk.trans k') hp hy (by omega))
      · refine ret_of (evk_cat (evk_cat c1 (evk_one rc) (by omega)) c2 (by omega) H3 S3 Keep.refl _ fun H' p ys S' k' hp hy hl => fin H' p ys S' (kk.trans k') hp hy (by omega))
    | _ => exact iteF ⟨rfl, S, Keep.refl⟩
  · rintro σ H1 ⟨rfl, S1, k1⟩
    have hv1 := hv.keep S k1
    have ns : H1 s ≠ none := by
      obtain ⟨_, _, _, _, _, _, _, _, a2, _⟩ := S1
      rw [a2]
      exact fun z => nomatch z
    have nl : H1 l ≠ none := by
      obtain ⟨_, _, _, _, _, _, _, _, _, _, _, a5, _⟩ := S1
      rw [a5]
      exact fun z => nomatch z
    have g1 : ∀ {x : Str} {σ : L2.St} {H0 : Hp} {m : Nat}, 2 ≤ m → (h : okS x = true := by decide +kernel) → EvG K s l m (tTup (tCons (tC (.str x)) tNil)) σ H0 := fun h hx => evg_tup' (m := 0) (ega_cons (evg_str hx) ega_nil) (by decide) (by omega)
    have g2 : ∀ {x y : Str} {σ : L2.St} {H0 : Hp} {m : Nat}, 3 ≤ m → (h : okS x = true := by decide +kernel) → (h : okS y = true := by decide +kernel) → EvG K s l m (tTup (tCons (tC (.str x)) (tCons (tC (.str y)) tNil))) σ H0 := fun h hx hy => evg_tup' (m := 0) (ega_cons (evg_str hx) (ega_cons (evg_str hy) ega_nil)) (by decide) (by omega)
    have g0 : ∀ {σ : L2.St} {H0 : Hp} {m : Nat}, 1 ≤ m → EvG K s l m (tTup tNil) σ H0 := fun h => evg_tup' (m := 0) ega_nil (by decide) (by omega)
    have o1 : EvGL K s l (sz d + 5) 16 _ [some (.ref s), some v, none, none, none] H1 := egl_lst (ega_cons evg_non (ega_cons (evg_bl (b := true)) (ega_cons (evg_int (x := 0)) (ega_cons (evg_str (x := "")) (ega_cons (evg_str (x := "A")) (ega_cons (evg_str (x := "x")) (ega_cons (evg_str (x := "yes")) (ega_cons (evg_str (x := "name")) (ega_cons (evg_str (x := "not"))
      (ega_cons (g0 (by omega)) (ega_cons (evg_lst (m' := 0) ns nl ega_nil (by decide)) (ega_cons (evg_dct ns nl) (ega_cons (evg_str (x := "abcdefghi")) (ega_cons (g1 (x := "yes") (by omega)) (ega_cons (g1 (x := "no") (by omega)) (ega_cons (evg_tup' (m := 2) (ega_cons (evg_str (x := "yes")) (ega_cons (g0 (by omega)) ega_nil)) (by decide) (by omega)) ega_nil)))))))))))))))) (by decide)
    refine seq_asg (o1 H1 (Same.refl H1) _ fun p1 xs1 H2 e2 n2 h2 b2 l2 => ?_)
    have S2 := S1.keep e2
    refine seq_asg ?_
    refine ⟨_, rfl, ?_⟩
    have o2 : EvGL K s l (sz d + 5) 7 _ [some (.ref s), some v, none, none, some (.ref p1)] H2 := egl_lst (ega_cons (g2 (x := "name") (y := "q") (by omega)) (ega_cons (g2 (x := "name") (y := "") (by omega)) (ega_cons (g1 (x := "name") (by omega)) (ega_cons (g1 (x := "not") (by omega))
      (ega_cons (evg_tup' (m := 2) (ega_cons (evg_str (x := "and")) (ega_cons (g1 (x := "yes") (by omega)) ega_nil)) (by decide) (by omega)) (ega_cons (evg_tup' (m := 2) (ega_cons (evg_str (x := "some")) (ega_cons (evg_str (x := "q")) (ega_cons (g1 (x := "yes") (by omega)) ega_nil))) (by decide) (by omega))
      (ega_cons (evg_tup' (m := sz d) (ega_cons (evg_of (i := 1) rfl (hv1.same e2) (Nat.le_refl _)) ega_nil) (by decide) (by omega)) ega_nil))))))) (by decide)
    refine cat_list h2 b2 l2 (by decide) o2 fun p2 xs2 H3 e3 n3 h3 b3 l3 => ?_
    have S3 := S2.keep e3
    refine seq_asg ?_
    refine ⟨_, rfl, ?_⟩
    have e13 := e2.trans e3
    have o3 : EvGL K s l (sz d + 5) 4 _ [some (.ref s), some v, none, none, some (.ref p2)] H3 := egl_lst (ega_cons (evg_tup' (m := 3) (ega_cons (evg_str (x := "put")) (ega_cons (evg_str (x := "q")) (ega_cons (g1 (x := "no") (by omega)) (ega_cons (g2 (x := "name") (y := "q") (by omega)) ega_nil)))) (by decide) (by omega))
      (ega_cons (evg_tup' (m := 2) (ega_cons (evg_str (x := "if")) (ega_cons (g1 (x := "yes") (by omega)) (ega_cons (g1 (x := "no") (by omega)) ega_nil))) (by decide) (by omega)) (ega_cons (evg_lst (m' := sz d) (Same.ne e13 ns) (Same.ne e13 nl) (ega_cons (evg_of (i := 1) rfl (hv1.same e13) (Nat.le_refl _)) ega_nil) (by decide))
      (ega_cons (evg_tup' (m := 2) (ega_cons (evg_str (x := "some")) (ega_cons (g1 (x := "yes") (by omega)) (ega_cons (evg_str (x := "q")) ega_nil))) (by decide) (by omega)) ega_nil)))) (by decide)
    refine cat_list h3 b3 l3 (by decide) o3 fun p3 xs3 H4 e4 n4 h4 b4 l4 => ?_
    have S4 := S3.keep e4
    have np := S3.ns n4
    have k4 := k1.trans (Keep.of (s := s) (l := l) (e13.trans e4))
    refine ⟨_, rfl, _, rfl, s, c, l, _, rfl, S4, .inl ⟨p3, xs3, rfl, np.1, np.2.1, SqL.of h4, by omega, by omega, fun H5 x S5 k5 hx => ?_⟩⟩
    obtain ⟨d', t1, t2⟩ := (b4.keep S4 k5) x hx
    exact q H5 x d' S5 (k4.trans k5) t1 t2
theorem all_bent {f : Addr} {fd : FuncData} (F : Fun K "_law_bent" "_law_bent" sBent f fd) (bG : Binds K fd ["state", "thing"] []) (mG : mg "_law_bent" = some (.ref f))
    (M : Def P w K mg base CX0 "_law_draw" 2 ["state", "many"] (spDraw K)) (O : Def P w K mg base CX0 "_law_one" 3 ["state", "things"] (spOne K)) (mi : mg "isinstance" = none) (mt : mg "tuple" = none) (ml : mg "len" = none) :
    ∀ n : Nat, FnOk P w K mg base CX0 (n + 3) f fd ["state", "thing"] (spBent K n)
  | 0 => by
    have no : ∀ vs H Q E, ¬ spBent K 0 vs H Q E := fun vs H Q E h => by
      obtain ⟨s, c, l, v, d, _, _, _, d0, _⟩ := h
      omega
    exact ⟨fun vs H Q E h => absurd h (no vs H Q E), fun A outer s H args us vs Q E _ _ _ _ h => absurd h (no vs H Q E)⟩
  | n + 1 => step_bent F bG mG M O mi mt ml (all_bent F bG mG M O mi mt ml n)
end
end Kn

set_option Elab.async false
set_option linter.all false
set_option maxRecDepth 100000
set_option maxHeartbeats 4000000
set_option pp.maxSteps 1200
namespace Kn
open PySem L2 TL
section
variable {P : Program} {w : World} {K : PySem.W.Frag} {mg : Str → Option Value} {base : Heap}
theorem scGrown : FnScope ["state", "formula", "way", "k", "some", "name"] ["state", "formula"] (defScope sGrown) := ⟨rfl, rfl, rfl, by decide +kernel, rfl, by decide +kernel, by decide +kernel⟩
def spGrown (K : PySem.W.Frag) : Sp := fun vs H Q _ => ∃ (s c l : Addr) (v : V) (d : PyData), vs = [.ref s, v] ∧ StOk K H s c l ∧ Tg K s l H v d ∧ sz d ≤ 60 ∧
  ∀ (H' : Hp) (x : V) (d' : PyData), StOk K H' s c l → Keep s l H H' → Tg K s l H' x d' → sz d' ≤ sz d + 20 → Q x H'
theorem ok_grown {f : Addr} {fd : FuncData} (F : Fun K "_law_grown" "_law_grown" sGrown f fd) (M : Def P w K mg base CX0 "_law_draw" 2 ["state", "many"] (spDraw K)) (O : Def P w K mg base CX0 "_law_one" 3 ["state", "things"] (spOne K))
    (NM : Def P w K mg base CX0 "_law_names" 5 ["state", "many"] (spNames K)) (mr : mg "range" = none) : FnOk P w K mg base CX0 6 f fd ["state", "formula"] (spGrown K) := by
  refine F.ok scGrown (fun vs H Q E h => ?_) (fun cdv A outer s H vs Q E hr h => ?_)
  · obtain ⟨s, c, l, v, d, rfl, _⟩ := h
    rfl
  obtain ⟨s, c, l, v, d, rfl, S, hv, h60, q⟩ := h
  have hr2 : Room 2 _ := hr.mono (by decide)
  have hr3 : Room 3 _ := hr.mono (by decide)
  refine ⟨_, pss_cons (ps_set (i := 2) scGrown.nd rfl (Or.inl rfl) (pe_def M hr2 rfl (pa_cons (pv 0) (pa_cons pe_int pa_nil))))
    (pss_cons (ps_if (pt_cmpR op_eq (pv 2) pe_int (nomark _))
      (pss_cons (ps_for PassesOwn.never rfl (pi_range1 rfl mr (pa_cons (pe_op op_add pe_int (pe_def M hr2 rfl (pa_cons (pv 0) (pa_cons pe_int pa_nil)))) pa_nil)) (pg_name (i := 3) scGrown.nd rfl (Or.inl rfl))
        (pss_cons (ps_set (i := 4) scGrown.nd rfl (Or.inl rfl) (pe_lst (pa_cons (pe_tup (pa_cons pe_str (pa_cons (pv 1) pa_nil))) (pa_cons (pe_tup (pa_cons pe_str (pa_cons (pe_tup (pa_cons pe_str pa_nil)) (pa_cons (pv 1) pa_nil)))) (pa_cons (pe_tup (pa_cons pe_str (pa_cons pe_str (pa_cons (pv 1) pa_nil)))) pa_nil)))))
        (pss_one (ps_set (i := 1) scGrown.nd rfl (Or.inl rfl) (pe_def O hr3 rfl (pa_cons (pv 0) (pa_cons (pe_op op_cat (pv 4) (pe_lst (pa_cons (pe_tup (pa_cons pe_str (pa_cons (pv 1) (pa_cons (pe_tup (pa_cons pe_str pa_nil)) (pa_cons (pe_tup (pa_cons pe_str pa_nil)) pa_nil))))) pa_nil))) pa_nil)))))))
      (pss_one (ps_ret (pv 1)))) pss_nil)
    (pss_cons (ps_if (pt_cmpR op_eq (pv 2) pe_int (nomark _))
      (pss_one (ps_ret (pe_def O hr3 rfl (pa_cons (pv 0) (pa_cons (pe_lst (pa_cons (pe_tup (pa_cons pe_str (pa_cons (pv 1) (pa_cons (pv 1) pa_nil)))) (pa_cons (pe_tup (pa_cons pe_str (pa_cons (pv 1) (pa_cons (pv 1) (pa_cons (pe_tup (pa_cons pe_str (pa_cons (pv 1) pa_nil))) pa_nil))))) pa_nil))) pa_nil))))) pss_nil)
    (pss_cons (ps_for PassesOwn.never rfl (pi_list (pe_def NM hr rfl (pa_cons (pv 0) (pa_cons (pe_op op_add pe_int (pe_def M hr2 rfl (pa_cons (pv 0) (pa_cons pe_int pa_nil)))) pa_nil)))) (pg_name (i := 5) scGrown.nd rfl (Or.inl rfl))
      (pss_one (ps_set (i := 1) scGrown.nd rfl (Or.inl rfl) (pe_def O hr3 rfl (pa_cons (pv 0) (pa_cons (pe_lst (pa_cons (pe_tup (pa_cons pe_str (pa_cons (pv 1) (pa_cons (pe_tup (pa_cons pe_str (pa_cons (pv 5) pa_nil))) pa_nil)))) (pa_cons (pe_tup (pa_cons pe_str (pa_cons (pv 5) (pa_cons (pv 1) (pa_cons (pe_tup (pa_cons pe_str pa_nil)) pa_nil))))) pa_nil))) pa_nil))))))
    (pss_one (ps_ret (pv 1)))))), ?_⟩
  have g1 : ∀ {x : Str} {σ : L2.St} {H0 : Hp} {m : Nat}, 2 ≤ m → (h : okS x = true := by decide +kernel) → EvG K s l m (tTup (tCons (tC (.str x)) tNil)) σ H0 := fun h hx => evg_tup' (m := 0) (ega_cons (evg_str hx) ega_nil) (by decide) (by omega)
  have one_ : ∀ {σ : L2.St} {H1 : Hp} {te : TE} {m n : Nat} {D : L2.St → Hp → Prop}, StOk K H1 s c l → EvGL K s l m n te σ H1 → 0 < n → n ≤ 100 → σ[0]? = some (some (.ref s)) → (∀ (H2 : Hp) (x : V) (d' : PyData), StOk K H2 s c l → Keep s l H1 H2 → Tg K s l H2 x d' → sz d' ≤ m → D (σ.set 1 (some x)) H2) →
      tCall (spOne K) [] E0 (tCons (tVar 0) (tCons te tNil)) σ H1 fun v H' => D (σ.set 1 (some v)) H' := fun {σ H1 te m n D} S1 o n0 n1 h0 k => ⟨_, h0, o H1 (Same.refl H1) _ fun p xs H2 e hp0 hp b hl => by
    have np := S1.ns hp0
    exact ⟨s, c, l, _, rfl, S1.keep e, .inl ⟨p, xs, rfl, np.1, np.2.1, SqL.of hp, by omega, by omega, fun H3 x S3 k3 hx => by
      obtain ⟨d', t1, t2⟩ := (b.keep (S1.keep e) k3) x hx
      exact k H3 x d' S3 ((Keep.of e).trans k3) t1 t2⟩⟩⟩
  refine ⟨_, rfl, s, c, l, 3, rfl, S, by decide, by decide, fun H1 way S1 k1 w0 w1 => ?_⟩
  refine ⟨_, rfl, rfl, _, rfl, ite2 (fun _ => ?_) (fun _ => ?_)⟩
  · refine ⟨_, rfl, s, c, l, 10, rfl, S1, by decide, by decide, fun H2 n S2 k2 n0 n1 => ?_⟩
    refine ⟨_, _, rfl, rfl, _, rfl, by omega, by omega, for_range (lo := 0) (n := (1 + n).toNat) (fun i σ H' => ∃ (v1 : V) (d1 : PyData) (v3 v4 v5 : Option V), σ = [some (.ref s), some v1, some (.int way), v3, v4, v5] ∧ StOk K H' s c l ∧ Keep s l H H' ∧ Tg K s l H' v1 d1 ∧ sz d1 ≤ sz d + 5 + i)
      ⟨v, d, none, none, none, rfl, S2, k1.trans k2, hv.keep S (k1.trans k2), by omega⟩ ?_ ?_⟩
    · rintro i σ H3 hi ⟨v1, d1, v3, v4, v5, rfl, S3, k3, t3, z3⟩
      have fv : ∀ {σ : L2.St} {H0 : Hp}, σ[1]? = some (some v1) → Same H3 H0 → EvG K s l (sz d1) (tVar 1) σ H0 := fun h e => evg_of h (t3.same e) (Nat.le_refl _)
      have o1 : EvGL K s l (sz d + 5 + (i + 1)) 3 _ [some (.ref s), some v1, some (.int way), some (.int (0 + (i : Int))), v4, v5] H3 := egl_lst (ega_cons (evg_tup' (m := sz d1) (ega_cons (evg_str (x := "not")) (ega_cons (fv rfl (Same.refl _)) ega_nil)) (by decide) (by omega))
        (ega_cons (evg_tup' (m := max 2 (sz d1)) (ega_cons (evg_str (x := "or")) (ega_cons (g1 (x := "yes") (by omega)) (ega_cons ((fv rfl (Same.refl _)).mono (by omega)) ega_nil))) (by decide) (by omega))
        (ega_cons (evg_tup' (m := sz d1) (ega_cons (evg_str (x := "some")) (ega_cons (evg_str (x := "q")) (ega_cons (fv rfl (Same.refl _)) ega_nil))) (by decide) (by omega)) ega_nil))) (by decide)
      refine seq_asg (o1 H3 (Same.refl H3) _ fun p1 xs1 H4 e4 n4 h4 b4 l4 => ?_)
      have S4 := S3.keep e4
      have o2 : EvGL K s l (sz d + 5 + (i + 1)) 1 _ [some (.ref s), some v1, some (.int way), some (.int (0 + (i : Int))), some (.ref p1), v5] H4 := egl_lst (ega_cons (evg_tup' (m := max 2 (sz d1)) (ega_cons (evg_str (x := "if")) (ega_cons ((fv rfl e4).mono (by omega)) (ega_cons (g1 (x := "no") (by omega)) (ega_cons (g1 (x := "no") (by omega)) ega_nil)))) (by decide) (by omega)) ega_nil) (by decide)
      have o3 : EvGL K s l (sz d + 5 + (i + 1)) 4 (tOp rCat (tVar 4) _) [some (.ref s), some v1, some (.int way), some (.int (0 + (i : Int))), some (.ref p1), v5] H4 := fun H e Q q => ⟨_, rfl, cat_list (e _ _ h4) (b4.same e) l4 (by decide) (fun H' e' Q' q' => o2 H' (e.trans e') Q' q') q⟩
      refine asg_of (one_ S4 o3 (by decide) (by decide) rfl fun H5 x d' S5 k5 t5 z5 => ?_)
      exact ⟨x, d', _, _, _, rfl, S5, k3.trans ((Keep.of e4).trans k5), t5, z5⟩
    · rintro σ H3 ⟨v1, d1, v3, v4, v5, rfl, S3, k3, t3, z3⟩
      exact ⟨_, rfl, q H3 v1 d1 S3 k3 t3 (by omega)⟩
  refine ⟨_, rfl, rfl, _, rfl, ite2 (fun _ => ?_) (fun _ => ?_)⟩
  · have hv1 := hv.keep S k1
    have fv : EvG K s l (sz d) (tVar 1) [some (.ref s), some v, some (.int way), none, none, none] H1 := evg_of rfl hv1 (Nat.le_refl _)
    have o1 : EvGL K s l (sz d + 20) 2 _ [some (.ref s), some v, some (.int way), none, none, none] H1 := egl_lst (ega_cons (evg_tup' (m := sz d) (ega_cons (evg_str (x := "and")) (ega_cons fv (ega_cons fv ega_nil))) (by decide) (by omega))
      (ega_cons (evg_tup' (m := max 2 (sz d) + 1) (ega_cons (evg_str (x := "if")) (ega_cons (fv.mono (by omega)) (ega_cons (fv.mono (by omega)) (ega_cons (evg_tup' (m := sz d) (ega_cons (evg_str (x := "not")) (ega_cons fv ega_nil)) (by decide) (by omega)) ega_nil)))) (by decide) (by omega)) ega_nil)) (by decide)
    refine ret_of ⟨_, rfl, o1 H1 (Same.refl H1) _ fun p xs H2 e hp0 hp b hl => ?_⟩
    have np := S1.ns hp0
    refine ⟨s, c, l, _, rfl, S1.keep e, .inl ⟨p, xs, rfl, np.1, np.2.1, SqL.of hp, by omega, by omega, fun H3 x S3 k3 hx => ?_⟩⟩
    obtain ⟨d', t1, t2⟩ := (b.keep (S1.keep e) k3) x hx
    exact q H3 x d' S3 (k1.trans ((Keep.of e).trans k3)) t1 t2
  · refine ⟨_, rfl, _, rfl, s, c, l, 6, rfl, S1, by decide, by decide, fun H2 n S2 k2 n0 n1 => ⟨_, _, rfl, rfl, s, c, l, 1 + n, rfl, S2, by omega, by omega, fun H3 pn zs S3 k3 hpn h3 l3 w3 nd3 => ?_⟩⟩
    have np := S2.ns hpn
    refine ⟨pn, rfl, ⟨_, SqL.of h3⟩, for_list (K := K) (a := pn) (xs := zs.map V.str) (fun i σ H' => ∃ (v1 : V) (d1 : PyData) (v5 : Option V), σ = [some (.ref s), some v1, some (.int way), none, none, v5] ∧ StOk K H' s c l ∧ Keep s l H H' ∧ Keep s l H3 H' ∧ Tg K s l H' v1 d1 ∧ sz d1 ≤ sz d + 5 + i)
      ⟨v, d, none, rfl, S3, k1.trans (k2.trans k3), Keep.refl, hv.keep S (k1.trans (k2.trans k3)), by omega⟩ (fun i σ H' _ ⟨_, _, _, _, _, _, k, _⟩ => SqL.of (k _ _ np.1 np.2.1 h3)) ?_ ?_⟩
    · rintro i x σ H4 hi ⟨v1, d1, v5, rfl, S4, k4, k4', t4, z4⟩
      obtain ⟨y, hy, rfl⟩ : ∃ y, zs[i]? = some y ∧ x = V.str y := by
        rw [List.getElem?_map] at hi
        cases e : zs[i]? with
        | none =>
          rw [e] at hi
          cases hi
        | some y =>
          rw [e] at hi
          exact ⟨y, rfl, (Option.some.inj hi).symm⟩
      have fv : EvG K s l (sz d1) (tVar 1) [some (.ref s), some v1, some (.int way), none, none, some (.str y)] H4 := evg_of rfl t4 (Nat.le_refl _)
      have fn : ∀ {m : Nat}, EvG K s l m (tVar 5) [some (.ref s), some v1, some (.int way), none, none, some (.str y)] H4 := evg_of rfl (.str y (okS_word (w3 y (List.mem_of_getElem? hy)))) (Nat.zero_le _)
      have o1 : EvGL K s l (sz d + 5 + (i + 1)) 2 _ [some (.ref s), some v1, some (.int way), none, none, some (.str y)] H4 := egl_lst (ega_cons (evg_tup' (m := max 3 (sz d1)) (ega_cons (evg_str (x := "xor")) (ega_cons (fv.mono (by omega)) (ega_cons (evg_tup' (m := 0) (ega_cons (evg_str (x := "name")) (ega_cons fn ega_nil)) (by decide) (by omega)) ega_nil))) (by decide) (by omega))
        (ega_cons (evg_tup' (m := max 2 (sz d1)) (ega_cons (evg_str (x := "put")) (ega_cons fn (ega_cons (fv.mono (by omega)) (ega_cons (g1 (x := "yes") (by omega)) ega_nil)))) (by decide) (by omega)) ega_nil)) (by decide)
      refine asg_of (one_ S4 o1 (by decide) (by decide) rfl fun H5 x d' S5 k5 t5 z5 => ?_)
      exact ⟨x, d', _, rfl, S5, k4.trans k5, k4'.trans k5, t5, z5⟩
    · rintro σ H4 ⟨v1, d1, v5, rfl, S4, k4, k4', t4, z4⟩
      rw [List.length_map] at z4
      exact ⟨_, rfl, q H4 v1 d1 S4 k4 t4 (by omega)⟩
end
end Kn

set_option Elab.async false
set_option linter.all false
set_option maxRecDepth 100000
set_option maxHeartbeats 4000000
set_option pp.maxSteps 1200
namespace Kn
open PySem L2 TL
/-! ### which things are formulas: the walk -/
def shapeTab : List (Str × (Nat × Nat)) := [("yes", (0, 0)), ("no", (0, 0)), ("name", (1, 0)), ("not", (0, 1)), ("and", (0, 2)), ("or", (0, 2)), ("xor", (0, 2)), ("if", (0, 3)), ("some", (1, 1)), ("all", (1, 1)), ("put", (1, 2))]
def shapeT (z : Str) : Option (Nat × Nat) := shapeTab.lookup z
def isNameS (z : Str) : Bool := decide (1 ≤ z.length) && decide (z.length ≤ 8) && lowB z
def isNameD : PyData → Bool
  | .str z => isNameS z
  | _ => false
/-- a part by its own form: its word's shape, its name, its parts -/
def formD : PyData → Option (Option Str × List PyData)
  | .tuple (.str w :: r) => match shapeT w with
    | some (0, b) => if r.length = b then some (none, r) else none
    | some (_ + 1, b) => match r with
      | .str x :: ps => if ps.length = b ∧ isNameS x = true then some (some x, ps) else none
      | _ => none
    | none => none
  | _ => none
def addN (ns : List Str) : Option Str → List Str
  | some x => if x ∈ ns then ns else ns ++ [x]
  | none => ns
def kids (way : List Nat) : Nat → List PyData → List (List Nat × PyData)
  | _, [] => []
  | i, d :: r => (way ++ [i], d) :: kids way (i + 1) r
/-- the way to the first part that is none; the stack's top ahead -/
def walk : Nat → Nat → List Str → List (List Nat × PyData) → Option (List Nat)
  | 0, _, _, _ => none
  | _ + 1, _, _, [] => none
  | f + 1, m, ns, (way, d) :: st => if m ≥ 60 ∨ way.length > 9 then some way else match formD d with
    | none => some way
    | some (o, ps) => if (addN ns o).length > 10 then some way else walk f (m + 1) (addN ns o) (kids way 0 ps ++ st)
def placeD (d : PyData) : Option (List Nat) := walk 61 0 [] [([], d)]
/-- names as they are met -/
def walkN : Nat → List Str → List PyData → List Str
  | 0, ns, _ => ns
  | _ + 1, ns, [] => ns
  | f + 1, ns, d :: st => match formD d with
    | none => ns
    | some (o, ps) => walkN f (addN ns o) (ps ++ st)
def namesD (d : PyData) : List Str := walkN 61 [] [d]
def namedR : Nat → PyData → List Str
  | 0, _ => []
  | n + 1, d => match formD d with
    | none => []
    | some (o, ps) => ps.foldl (fun found p => found ++ (namedR n p).filter fun x => decide (x ∉ found)) o.toList
/-! #### good things by height -/
def goodH : Nat → PyData → Bool
  | 0, _ => false
  | n + 1, d => match formD d with
    | none => false
    | some (_, ps) => ps.all (goodH n)
def cnt : Nat → PyData → Nat
  | 0, _ => 0
  | n + 1, d => match formD d with
    | none => 1
    | some (_, ps) => 1 + (ps.map (cnt n)).sum
def pre : Nat → PyData → List Str
  | 0, _ => []
  | n + 1, d => match formD d with
    | none => []
    | some (o, ps) => o.toList ++ ps.flatMap (pre n)
def hcnt (e : List Nat × PyData) : Nat := cnt (10 - e.1.length) e.2
theorem kids_len {way : List Nat} : ∀ {i : Nat} {ps : List PyData} {e : List Nat × PyData}, e ∈ kids way i ps → e.1.length = way.length + 1 ∧ e.2 ∈ ps
  | _, [], _, h => by cases h
  | i, d :: r, e, h => by
    rcases List.mem_cons.mp h with h | h
    · rw [h]
      exact ⟨by simp, List.mem_cons_self⟩
    · obtain ⟨a, b⟩ := kids_len h
      exact ⟨a, List.mem_cons_of_mem _ b⟩
theorem kids_mem {way : List Nat} : ∀ {i : Nat} {ps : List PyData} {p : PyData}, p ∈ ps → ∃ e ∈ kids way i ps, e.2 = p
  | _, [], _, h => by cases h
  | i, d :: r, p, h => by
    rcases List.mem_cons.mp h with h | h
    · exact ⟨_, List.mem_cons_self, h.symm⟩
    · obtain ⟨e, a, b⟩ := kids_mem (way := way) (i := i + 1) h
      exact ⟨e, List.mem_cons_of_mem _ a, b⟩
theorem kids_cnt {way : List Nat} : ∀ {i : Nat} {ps : List PyData}, ((kids way i ps).map hcnt).sum = (ps.map (cnt (10 - (way.length + 1)))).sum
  | _, [] => rfl
  | i, d :: r => by
    have e : hcnt (way ++ [i], d) = cnt (10 - (way.length + 1)) d := by
      unfold hcnt
      rw [List.length_append, List.length_singleton]
    show ((hcnt (way ++ [i], d)) :: (kids way (i + 1) r).map hcnt).sum = _
    rw [List.map_cons, List.sum_cons, List.sum_cons, kids_cnt, e]
theorem walk_good : ∀ {f m : Nat} {ns : List Str} {st : List (List Nat × PyData)}, f + m = 61 → m ≤ 60 → walk f m ns st = none → (∀ e ∈ st, goodH (10 - e.1.length) e.2 = true) ∧ m + (st.map hcnt).sum ≤ 60
  | 0, m, ns, st, hm, h6, h => by omega
  | f + 1, m, ns, [], hm, h6, h => ⟨(fun e he => by cases he), by simpa using h6⟩
  | f + 1, m, ns, (way, d) :: st, hm, h6, h => by
    unfold walk at h
    split at h
    · cases h
    rename_i c
    split at h
    · cases h
    rename_i o ps hf
    split at h
    · cases h
    have hw : way.length ≤ 9 := by omega
    obtain ⟨h1, h3⟩ := walk_good (by omega) (by omega) h
    have e10 : 10 - way.length = (10 - (way.length + 1)) + 1 := by omega
    rw [List.map_append, List.sum_append, kids_cnt] at h3
    refine ⟨fun e he => ?_, ?_⟩
    · rcases List.mem_cons.mp he with he | he
      · rw [he]
        show goodH (10 - way.length) d = true
        rw [e10]
        unfold goodH
        rw [hf]
        show ps.all (goodH (10 - (way.length + 1))) = true
        rw [List.all_eq_true]
        intro p hp
        obtain ⟨e', a, b⟩ := kids_mem (way := way) (i := 0) hp
        have := h1 e' (List.mem_append_left _ a)
        rw [(kids_len a).1, b] at this
        exact this
      · exact h1 e (List.mem_append_right _ he)
    · rw [List.map_cons, List.sum_cons]
      have : hcnt (way, d) = 1 + (ps.map (cnt (10 - (way.length + 1)))).sum := by
        unfold hcnt
        show cnt (10 - way.length) d = _
        rw [e10]
        unfold cnt
        rw [hf]
      omega
theorem place_good {d : PyData} (h : placeD d = none) : goodH 10 d = true ∧ cnt 10 d ≤ 60 := by
  obtain ⟨h1, h2⟩ := walk_good (f := 61) (m := 0) (by omega) (by omega) h
  refine ⟨h1 ([], d) List.mem_cons_self, ?_⟩
  have e : hcnt ([], d) = cnt 10 d := rfl
  rw [List.map_cons, List.map_nil, List.sum_cons, List.sum_nil, e] at h2
  omega
/-! #### the names of good things, in two ways -/
def addS (ns : List Str) (x : Str) : List Str := addN ns (some x)
theorem addN_fold (ns : List Str) (o : Option Str) : addN ns o = o.toList.foldl addS ns := by
  cases o <;> rfl
theorem walkN_pre : ∀ {f : Nat} {ns : List Str} {st : List (Nat × PyData)}, (∀ e ∈ st, goodH e.1 e.2 = true) → (st.map fun e => cnt e.1 e.2).sum ≤ f → walkN f ns (st.map (·.2)) = (st.flatMap fun e => pre e.1 e.2).foldl addS ns
  | 0, ns, [], _, _ => rfl
  | 0, ns, (n, d) :: st, hg, hc => by
    have h1 := hg (n, d) List.mem_cons_self
    exfalso
    rw [List.map_cons, List.sum_cons] at hc
    cases n with
    | zero => cases h1
    | succ n =>
      have : 1 ≤ cnt (n + 1) d := by
        unfold cnt
        split <;> omega
      have h3 : cnt (n + 1) d + (st.map fun e => cnt e.1 e.2).sum ≤ 0 := hc
      omega
  | f + 1, ns, [], _, _ => rfl
  | f + 1, ns, (n, d) :: st, hg, hc => by
    have h1 := hg (n, d) List.mem_cons_self
    cases n with
    | zero => cases h1
    | succ n =>
      have h1' : goodH (n + 1) d = true := h1
      unfold goodH at h1'
      cases hf : formD d with
      | none =>
        rw [hf] at h1'
        cases h1'
      | some op =>
        obtain ⟨o, ps⟩ := op
        rw [hf] at h1'
        have h2 : ∀ p ∈ ps, goodH n p = true := List.all_eq_true.mp h1'
        have e1 : ((n + 1, d) :: st).map (·.2) = d :: st.map (·.2) := rfl
        have e2 : walkN (f + 1) ns (d :: st.map (·.2)) = walkN f (addN ns o) (ps ++ st.map (·.2)) := by
          show (match formD d with
            | Option.none => ns
            | some (o, ps) => walkN f (addN ns o) (ps ++ st.map fun e : Nat × PyData => e.2)) = _
          rw [hf]
        have e3 : cnt (n + 1) d = 1 + (ps.map (cnt n)).sum := by
          unfold cnt
          rw [hf]
        have e4 : pre (n + 1) d = o.toList ++ ps.flatMap (pre n) := by
          unfold pre
          rw [hf]
        rw [List.map_cons, List.sum_cons] at hc
        have hc' : cnt (n + 1) d + (st.map fun e => cnt e.1 e.2).sum ≤ f + 1 := hc
        have e5 : ps ++ st.map (·.2) = ((ps.map fun p => (n, p)) ++ st).map (·.2) := by
          rw [List.map_append, List.map_map]
          congr 1
          have : ((fun e : Nat × PyData => e.2) ∘ fun p => (n, p)) = id := rfl
          rw [this, List.map_id]
        have e6 : ((ps.map fun p => (n, p)).map fun e : Nat × PyData => cnt e.1 e.2) = ps.map (cnt n) := by
          rw [List.map_map]
          rfl
        have ih := walkN_pre (f := f) (ns := addN ns o) (st := (ps.map fun p => (n, p)) ++ st) (fun e he => by
          rcases List.mem_append.mp he with he | he
          · obtain ⟨p, hp, rfl⟩ := List.mem_map.mp he
            exact h2 p hp
          · exact hg e (List.mem_cons_of_mem _ he)) (by
          rw [List.map_append, List.sum_append, e6]
          omega)
        have e7 : (ps.map fun p => (n, p)).flatMap (fun e : Nat × PyData => pre e.1 e.2) = ps.flatMap (pre n) := by
          rw [List.flatMap_map]
        rw [e1, e2, e5, ih, List.flatMap_append, List.flatMap_cons, e7, addN_fold]
        show _ = (pre (n + 1) d ++ _).foldl addS ns
        rw [e4]
        simp only [List.foldl_append]
theorem addS_filter {found acc : List Str} (x : Str) : addS (found ++ acc.filter fun y => decide (y ∉ found)) x = found ++ (addS acc x).filter fun y => decide (y ∉ found) := by
  unfold addS addN
  by_cases h : x ∈ found
  · have h1 : x ∈ found ++ acc.filter fun y => decide (y ∉ found) := List.mem_append_left _ h
    dsimp only
    rw [if_pos h1]
    by_cases h2 : x ∈ acc
    · rw [if_pos h2]
    · rw [if_neg h2, List.filter_append]
      have : [x].filter (fun y => decide (y ∉ found)) = [] := by simp [h]
      rw [this, List.append_nil]
  · dsimp only
    by_cases h2 : x ∈ acc
    · have h1 : x ∈ found ++ acc.filter fun y => decide (y ∉ found) := List.mem_append_right _ (List.mem_filter.mpr ⟨h2, by simp [h]⟩)
      rw [if_pos h1, if_pos h2]
    · have h1 : ¬ x ∈ found ++ acc.filter fun y => decide (y ∉ found) := fun q => by
        rcases List.mem_append.mp q with q | q
        · exact h q
        · exact h2 (List.mem_filter.mp q).1
      rw [if_neg h1, if_neg h2, List.filter_append]
      have : [x].filter (fun y => decide (y ∉ found)) = [x] := by simp [h]
      rw [this, List.append_assoc]
theorem fold_filter {found : List Str} : ∀ (xs : List Str) {acc : List Str}, xs.foldl addS (found ++ acc.filter fun y => decide (y ∉ found)) = found ++ (xs.foldl addS acc).filter fun y => decide (y ∉ found)
  | [], _ => rfl
  | x :: r, acc => by
    rw [List.foldl_cons, List.foldl_cons, addS_filter, fold_filter r]
theorem fold_from (found xs : List Str) : xs.foldl addS found = found ++ (xs.foldl addS []).filter fun y => decide (y ∉ found) := by
  have h := fold_filter (found := found) xs (acc := [])
  simpa using h
theorem namedR_pre : ∀ (n : Nat) (d : PyData), namedR n d = (pre n d).foldl addS []
  | 0, _ => rfl
  | n + 1, d => by
    unfold namedR pre
    cases hf : formD d with
    | none => rfl
    | some op =>
      obtain ⟨o, ps⟩ := op
      dsimp only
      have key : ∀ (ps : List PyData) (found : List Str), ps.foldl (fun found p => found ++ (namedR n p).filter fun x => decide (x ∉ found)) found = (ps.flatMap (pre n)).foldl addS found := by
        intro ps
        induction ps with
        | nil => exact fun _ => rfl
        | cons p r ih =>
          intro found
          rw [List.foldl_cons, ih, List.flatMap_cons, List.foldl_append, namedR_pre n p, ← fold_from]
      rw [key, List.foldl_append]
      congr 1
      cases o <;> rfl
theorem names_same {d : PyData} (h : placeD d = none) : namedR 10 d = namesD d := by
  obtain ⟨h1, h2⟩ := place_good h
  have e := walkN_pre (f := 61) (ns := []) (st := [(10, d)]) (fun e he => by rw [List.mem_singleton.mp he]; exact h1) (by
    show cnt 10 d + 0 ≤ 61
    omega)
  rw [namedR_pre]
  unfold namesD
  have e2 : ([(10, d)] : List (Nat × PyData)).map (·.2) = [d] := rfl
  rw [e2] at e
  rw [e, List.flatMap_cons, List.flatMap_nil, List.append_nil]
end Kn

set_option Elab.async false
set_option linter.all false
set_option maxRecDepth 100000
set_option maxHeartbeats 4000000
set_option pp.maxSteps 1200
namespace Kn
open PySem L2 TL
theorem shapeT_mem {z : Str} {v : Nat × Nat} (h : shapeT z = some v) : (z, v) ∈ shapeTab := PySem.mem_of_lookup h
theorem shape_small : ∀ p ∈ shapeTab, p.1.length ≤ 4 ∧ lowB p.1 = true ∧ p.2.1 ≤ 1 ∧ p.2.2 ≤ 3 := by decide +kernel
theorem shapeT_word {z : Str} {v : Nat × Nat} (h : shapeT z = some v) : z.length ≤ 4 ∧ lowB z = true ∧ v.1 ≤ 1 ∧ v.2 ≤ 3 := shape_small _ (shapeT_mem h)
/-- what a formed thing looks like -/
theorem formD_inv {d : PyData} {o : Option Str} {ps : List PyData} (h : formD d = some (o, ps)) : ∃ (w : Str) (b : Nat), ps.length = b ∧
    ((shapeT w = some (0, b) ∧ d = .tuple (.str w :: ps) ∧ o = none) ∨ ∃ x : Str, shapeT w = some (1, b) ∧ d = .tuple (.str w :: .str x :: ps) ∧ o = some x ∧ isNameS x = true) := by
  unfold formD at h
  split at h
  · rename_i w r
    split at h
    · rename_i b hs
      split at h
      · rename_i hl
        cases h
        exact ⟨w, b, hl, .inl ⟨hs, rfl, rfl⟩⟩
      · cases h
    · rename_i a b hs
      split at h
      · rename_i x qs
        split at h
        · rename_i hl
          cases h
          have := (shapeT_word hs).2.2.1
          have e : a = 0 := by
            have h2 : a + 1 ≤ 1 := this
            omega
          subst e
          exact ⟨w, b, hl.1, .inr ⟨x, hs, rfl, rfl, hl.2⟩⟩
        · cases h
      · cases h
    · cases h
  · cases h
theorem low_codes {z : Str} (h : lowB z = true) : ∀ c ∈ z.cps.toList, c < 16 ^ 8 := fun c hc => by
  unfold lowB at h
  have q := List.all_eq_true.mp h c hc
  simp only [Bool.and_eq_true, decide_eq_true_eq] at q
  omega
theorem good_all {n : Nat} (ih : ∀ d, goodH n d = true → pureD d = true ∧ PyData.showable d = true ∧ d.depth ≤ n ∧ d.hasDict = false ∧ d.canLay0 = true ∧ d.shown.length + 2 ≤ 200 * cnt n d) :
    ∀ ps : List PyData, (∀ p ∈ ps, goodH n p = true) → pureAll ps = true ∧ PyData.showableAll ps = true ∧ PyData.depthAll ps ≤ n ∧ PyData.hasDictAll ps = false ∧ PyData.canLayAll0 ps = true ∧ piled (PyData.shownAll ps) ≤ 200 * (ps.map (cnt n)).sum
  | [], _ => ⟨rfl, rfl, Nat.zero_le _, rfl, rfl, Nat.zero_le _⟩
  | p :: r, h => by
    obtain ⟨a1, a2, a3, a4, a5, a6⟩ := ih p (h p List.mem_cons_self)
    obtain ⟨b1, b2, b3, b4, b5, b6⟩ := good_all ih r fun q hq => h q (List.mem_cons_of_mem _ hq)
    refine ⟨?_, ?_, ?_, ?_, ?_, ?_⟩
    · simp only [pureAll, a1, b1, Bool.and_self]
    · simp only [PyData.showableAll, a2, b2, Bool.and_self]
    · simp only [PyData.depthAll]
      omega
    · simp only [PyData.hasDictAll, a4, b4, Bool.or_self]
    · simp only [PyData.canLayAll0, a5, b5, Bool.and_self]
    · simp only [PyData.shownAll, List.map_cons, List.sum_cons]
      rw [piled_cons]
      omega
theorem isName_low {x : Str} (h : isNameS x = true) : lowB x = true ∧ 1 ≤ x.length ∧ x.length ≤ 8 := by
  unfold isNameS at h
  simp only [Bool.and_eq_true, decide_eq_true_eq] at h
  exact ⟨h.2, h.1.1, h.1.2⟩
theorem good_show : ∀ (n : Nat) (d : PyData), goodH n d = true → pureD d = true ∧ PyData.showable d = true ∧ d.depth ≤ n ∧ d.hasDict = false ∧ d.canLay0 = true ∧ d.shown.length + 2 ≤ 200 * cnt n d
  | 0, _, h => by cases h
  | n + 1, d, h => by
    unfold goodH at h
    cases hf : formD d with
    | none =>
      rw [hf] at h
      cases h
    | some op =>
      obtain ⟨o, ps⟩ := op
      rw [hf] at h
      have hg : ∀ p ∈ ps, goodH n p = true := List.all_eq_true.mp h
      obtain ⟨b1, b2, b3, b4, b5, b6⟩ := good_all (good_show n) ps hg
      have hc : cnt (n + 1) d = 1 + (ps.map (cnt n)).sum := by
        unfold cnt
        rw [hf]
      rw [hc]
      obtain ⟨w, b, hl, q⟩ := formD_inv hf
      rcases q with ⟨hs, rfl, rfl⟩ | ⟨x, hs, rfl, rfl, hx⟩
      · obtain ⟨w1, w2, _⟩ := shapeT_word hs
        have r1 := StrLaws.reprText_len w (low_codes w2)
        refine ⟨?_, ?_, ?_, ?_, ?_, ?_⟩
        · simp only [pureD, pureAll, b1, Bool.and_self]
        · simp only [PyData.showable, PyData.showableAll, b2, Bool.and_self]
        · simp only [PyData.depth, PyData.depthAll]
          omega
        · simp only [PyData.hasDict, PyData.hasDictAll, b4, Bool.or_self]
        · simp only [PyData.canLay0, PyData.canLayAll0, b5, strOk_low w2, Bool.and_self]
        · simp only [PyData.shown, PyData.shownAll]
          have t := fmt_text (reprText w :: PyData.shownAll ps)
          rw [piled_cons] at t
          omega
      · obtain ⟨w1, w2, _⟩ := shapeT_word hs
        obtain ⟨x1, x2, x3⟩ := isName_low hx
        have r1 := StrLaws.reprText_len w (low_codes w2)
        have r2 := StrLaws.reprText_len x (low_codes x1)
        refine ⟨?_, ?_, ?_, ?_, ?_, ?_⟩
        · simp only [pureD, pureAll, b1, Bool.and_self]
        · simp only [PyData.showable, PyData.showableAll, b2, Bool.and_self]
        · simp only [PyData.depth, PyData.depthAll]
          omega
        · simp only [PyData.hasDict, PyData.hasDictAll, b4, Bool.or_self]
        · simp only [PyData.canLay0, PyData.canLayAll0, b5, strOk_low w2, strOk_low x1, Bool.and_self]
        · simp only [PyData.shown, PyData.shownAll]
          have t := fmt_text (reprText w :: reprText x :: PyData.shownAll ps)
          rw [piled_cons, piled_cons] at t
          omega
/-! ### letters -/
theorem asc : ∀ c ∈ List.range 128, (Unicode.isAlpha c && !(Unicode.isUpper c || Unicode.isTitle c)) = (decide (97 ≤ c) && decide (c ≤ 122)) ∧ (97 ≤ c ∧ c ≤ 122 → Unicode.isLower c = true) := by decide +kernel
theorem name_ok (z : Str) : (Txt.isascii z && (Txt.isalpha z && Txt.islower z)) = (decide (1 ≤ z.length) && lowB z) := by
  have hs : ∀ f : Nat → Bool, z.cps.all f = z.cps.toList.all f := fun f => by simp
  have ha : ∀ f : Nat → Bool, z.cps.any f = z.cps.toList.any f := fun f => by simp
  have hl : z.length = z.cps.toList.length := by simp [Str.length]
  unfold Txt.isascii Txt.isalpha Txt.islower lowB
  rw [hs, hs, ha, ha, hl]
  generalize z.cps.toList = l
  have key : (l.all (fun c => decide (c < 128)) && (l.all Unicode.isAlpha && !l.any fun c => Unicode.isUpper c || Unicode.isTitle c)) = l.all fun c => decide (97 ≤ c) && decide (c ≤ 122) := by
    induction l with
    | nil => rfl
    | cons c r ih =>
      rw [List.all_cons, List.all_cons, List.any_cons, List.all_cons, ← ih]
      by_cases h : c < 128
      · obtain ⟨h1, _⟩ := asc c (List.mem_range.mpr h)
        rw [← h1, decide_eq_true h]
        cases Unicode.isAlpha c <;> cases (Unicode.isUpper c || Unicode.isTitle c) <;> cases r.all (fun c => decide (c < 128)) <;> cases r.all Unicode.isAlpha <;> cases r.any (fun c => Unicode.isUpper c || Unicode.isTitle c) <;> rfl
      · have h2 : decide (c ≤ 122) = false := decide_eq_false (by omega)
        rw [decide_eq_false h, h2, Bool.and_false, Bool.false_and, Bool.false_and, Bool.false_and]
  cases l with
  | nil => rfl
  | cons c r =>
    cases hk : ((c :: r).all fun c => decide (97 ≤ c) && decide (c ≤ 122)) with
    | true =>
      rw [hk] at key
      simp only [Bool.and_eq_true] at key
      obtain ⟨k1, k2, k3⟩ := key
      have hc := List.all_eq_true.mp hk c List.mem_cons_self
      simp only [Bool.and_eq_true, decide_eq_true_eq] at hc
      have lo : Unicode.isLower c = true := (asc c (List.mem_range.mpr (by omega))).2 hc
      have k4 : (c :: r).any Unicode.isLower = true := by
        rw [List.any_cons, lo, Bool.true_or]
      rw [k1, k2, k3, k4]
      simp
    | false =>
      rw [hk] at key
      rw [Bool.and_false]
      have bb : ∀ A B C L P : Bool, (A && (B && C)) = false → (A && ((P && B) && (L && C))) = false := by decide
      exact bb _ _ _ _ _ key
/-! ### the table of shapes -/
/-- a tuple of the written part -/
def TupW (K : PySem.W.Frag) (t : Addr) (xs : List V) : Prop := ∃ (o : Obj) (its : Array Value) (n : Nat), K.lookup t = some o ∧ o.cls = .type "tuple" ∧ o.data = .seq its n ∧ its.size ≤ sizeLine ∧ Vals xs its.toList
theorem TupW.seq {K : PySem.W.Frag} {H : Hp} {t : Addr} {xs : List V} (h : TupW K t xs) : SqT K H t xs := .inr h
structure ShpT (K : PySem.W.Frag) (w : World) (a : Addr) : Prop where
  at_ : ∃ es n, K.lookup a = some ⟨.type "dict", none, .dict es n, #[]⟩ ∧ PySem.W.KeysLit w.params es.toList
  low : (a == sysModules) = false
  yes : ∀ z x y, shapeT z = some (x, y) → ∃ t, PySem.W.nsIn K a z = some (some (.ref t)) ∧ TupW K t [.int (x : Nat), .int (y : Nat)]
  no : ∀ z, shapeT z = none → PySem.W.nsIn K a z = some none
/-- d.get(text), d a dict of the written part: a tuple or None -/
def tKGet (K : PySem.W.Frag) (w : World) (td ty : TE) : TE := fun σ H Q => td σ H fun x H1 => ∃ a, x = .ref a ∧ ShpT K w a ∧ ty σ H1 fun y H2 => ∃ z, y = .str z ∧
  (shapeT z = none → Q .non H2) ∧ ∀ p q, shapeT z = some (p, q) → ∀ t, TupW K t [.int (p : Nat), .int (q : Nat)] → Q (.ref t) H2
section
variable {X : Cx} {o e : Expr} {td ty : TE} {apos cpos : Pos}
theorem pe_kget (ho : PE X o td) (he : PE X e ty) (m : M1 X o "get" apos e cpos) :
    PE X (.Call (.Attribute o "get" apos) [e] [] cpos) (tKGet X.K X.w td ty) := by
  constructor
  intro pins s σ H Q I h
  refine wpAny_Call_method m.base m.few m.line PySem.F.plainAttrs_dict PySem.F.slot_dict_get PySem.F.type_dict_get
    (thn (ho.run pins s σ H _ I h) fun u s1 q0 => ?_)
  obtain ⟨x, H1, I1, rx, a, ex, T, q1⟩ := q0
  subst ex
  obtain rfl : u = Value.ref a := rx
  obtain ⟨es, n, hl, hk⟩ := T.at_
  have mp := PySem.W.mapOf_K (prog := X.prog) (w := X.w) I1.kIn hl hk
  refine ⟨mp.typeIs, fun b eb => ?_, ?_⟩
  · cases eb
    exact ⟨_, I1.kIn _ _ hl, rfl⟩
  rw [m.trees]
  refine Calls.callWith_builtin rfl (Calls.evalArgs_plain
    (Calls.spliced_cons (thn (he.run pins s1 σ H1 _ I1 q1) fun iv s2 q2 => Calls.spliced_nil ?_)))
  obtain ⟨y, H2, I2, ry, z, ey, qn, qs⟩ := q2
  subst ey
  obtain ⟨t, rfl⟩ := ry
  have mp2 := PySem.W.mapOf_K (prog := X.prog) (w := X.w) I2.kIn hl hk
  have key := strKind_is X.prog X.w z t
  cases hz : shapeT z with
  | none =>
    have f0 := PySem.W.find_K hl (T.no z hz)
    refine call_meetsIn PySem.F.slot_dict_get mp2.typeIs PySem.F.entry_dict_get
      (PySem.F.args_dict_get_2 _ _) (meets_dict_get (strKind X.prog X.w) a key T.low) ⟨_, mp2, ?_⟩
    rw [f0]
    exact ⟨.non, H2, I2.tok _, rfl, qn hz⟩
  | some v =>
    obtain ⟨p, q⟩ := v
    obtain ⟨tt, e1, e2⟩ := T.yes z p q hz
    have f0 := PySem.W.find_K hl e1
    refine call_meetsIn PySem.F.slot_dict_get mp2.typeIs PySem.F.entry_dict_get
      (PySem.F.args_dict_get_2 _ _) (meets_dict_get (strKind X.prog X.w) a key T.low) ⟨_, mp2, ?_⟩
    rw [f0]
    exact ⟨.ref tt, H2, I2.tok _, rfl, qs p q hz tt e2⟩
end
end Kn

set_option Elab.async false
set_option linter.all false
set_option maxRecDepth 100000
set_option maxHeartbeats 4000000
set_option pp.maxSteps 1200
namespace Kn
open PySem L2 TL
section
variable {P : Program} {w : World} {K : PySem.W.Frag} {mg : Str → Option Value} {base : Heap}
/-! ### is_name -/
theorem scIsName : FnScope ["thing"] ["thing"] (defScope sIsName) := ⟨rfl, rfl, rfl, by decide +kernel, rfl, by decide +kernel, by decide +kernel⟩
def spIsName (K : PySem.W.Frag) : Sp := fun vs H Q _ => ∃ (s l : Addr) (v : V) (d : PyData), vs = [v] ∧ Tg K s l H v d ∧ Q (.bl (isNameD d)) H
theorem ok_isname {f : Addr} {fd : FuncData} (F : Fun K "is_name" "is_name" sIsName f fd) (mi : mg "isinstance" = none) (ms : mg "str" = none) (ml : mg "len" = none) {tk : Tok} (mL : mg "MOST_LETTERS" = some (.int 8 tk)) : FnOk P w K mg base CX0 1 f fd ["thing"] (spIsName K) := by
  refine F.ok scIsName (fun vs H Q E h => ?_) (fun cdv A outer s H vs Q E hr h => ?_)
  · obtain ⟨s, l, v, d, rfl, _⟩ := h
    rfl
  obtain ⟨s, l, v, d, rfl, hv, q⟩ := h
  refine ⟨_, pss_cons (ps_if (PW.pt (pw_or (pt_not (pt_val (pe_callB call_isi (by rfl) mi PyProof.Rows.boot_isinstance (pa_cons (pv 0) (pa_cons (pe_bltn (v := .ty "str") (by rfl) ms PyProof.Rows.boot_str rfl) pa_nil)))))
      (pw_or1 (pt_not (pt_chain op_le op_le pe_int (pe_callB call_len (by rfl) ml PySem.boot_len (pa_cons (pv 0) pa_nil)) (pe_glob (v := .int 8) rfl mL ⟨_, rfl⟩))))))
      (pss_one (ps_ret pe_bl)) pss_nil)
    (pss_one (ps_ret (pe_and (pe_bm0 PySem.F.plainAttrs_str PySem.F.slot_str_isascii PySem.F.type_str_isascii mt_isascii (pv 0)) (pe_and (pe_bm0 PySem.F.plainAttrs_str PySem.F.slot_str_isalpha PySem.F.type_str_isalpha mt_isalpha (pv 0)) (pe_one (pe_bm0 PySem.F.plainAttrs_str PySem.F.slot_str_islower PySem.F.type_str_islower mt_islower (pv 0))))))), ?_⟩
  refine ⟨_, rfl, ?_⟩
  obtain ⟨ty, ty1, _, ty2⟩ := tg_ty hv
  refine ⟨v, .ty "str", .type ty, .type "str", isStr d, rfl, .ty _, ty1, kit_ty ty2, _, rfl, ?_⟩
  cases hv with
  | str z hz =>
    have hz2 : z.length ≤ sizeLine := Nat.le_of_lt (small1000 (okS_len hz))
    have e : isNameD (.str z) = (decide (1 ≤ z.length) && decide (z.length ≤ 8) && lowB z) := rfl
    refine iteF ⟨_, rfl, _, _, rfl, ⟨hz2, rfl⟩, _, _, rfl, rfl, _, rfl, ?_⟩
    by_cases h1 : (1 : Int) ≤ (z.length : Int)
    · rw [decide_eq_true h1]
      refine iteT ⟨_, _, rfl, rfl, _, rfl, ?_⟩
      by_cases h2 : (z.length : Int) ≤ 8
      · rw [decide_eq_true h2]
        refine iteF ?_
        have e2 : isNameD (.str z) = (Txt.isascii z && (Txt.isalpha z && Txt.islower z)) := by
          rw [name_ok, e, decide_eq_true (show z.length ≤ 8 by omega), Bool.and_true]
        rw [e2] at q
        refine ⟨_, rfl, rfl, z, rfl, rfl, trivial, _, rfl, ?_⟩
        cases ha : Txt.isascii z with
        | false =>
          rw [ha] at q
          exact iteF q
        | true =>
          rw [ha] at q
          refine iteT ⟨_, rfl, rfl, z, rfl, rfl, trivial, _, rfl, ?_⟩
          cases hb : Txt.isalpha z with
          | false =>
            rw [hb] at q
            exact iteF q
          | true =>
            rw [hb] at q
            exact iteT ⟨_, rfl, rfl, z, rfl, rfl, trivial, q⟩
      · rw [decide_eq_false h2]
        refine iteT ?_
        rw [e, decide_eq_false (show ¬ z.length ≤ 8 by omega), Bool.and_false, Bool.false_and] at q
        exact q
    · rw [decide_eq_false h1]
      refine iteF ⟨_, rfl, ?_⟩
      refine iteT ?_
      rw [e, decide_eq_false (show ¬ 1 ≤ z.length by omega), Bool.false_and, Bool.false_and] at q
      exact q
  | _ => exact iteT q
/-! ### is_formed, name_in, parts_of -/
theorem form_some {w : Str} {r : List PyData} {p q : Nat} (hs : shapeT w = some (p, q)) :
    (formD (.tuple (.str w :: r))).isSome = (decide (r.length = p + q) && (decide (p = 0) || match r with | y :: _ => isNameD y | [] => false)) := by
  have hp : p ≤ 1 := (shapeT_word hs).2.2.1
  unfold formD
  dsimp only
  rw [hs]
  cases p with
  | zero =>
    dsimp only
    by_cases h : r.length = q
    · rw [if_pos h, decide_eq_true (show r.length = 0 + q by omega)]
      rfl
    · rw [if_neg h, decide_eq_false (show ¬ r.length = 0 + q by omega)]
      rfl
  | succ p =>
    have e : p = 0 := by omega
    subst e
    dsimp only
    cases r with
    | nil =>
      have : decide (([] : List PyData).length = 0 + 1 + q) = false := decide_eq_false (by
        rw [List.length_nil]
        omega)
      rw [this]
      rfl
    | cons y ps =>
      cases y with
      | str x =>
        dsimp only
        have e2 : decide ((PyData.str x :: ps).length = 0 + 1 + q) = decide (ps.length = q) := by
          rw [List.length_cons]
          by_cases h : ps.length = q
          · rw [decide_eq_true h, decide_eq_true (by omega)]
          · rw [decide_eq_false h, decide_eq_false (by omega)]
        rw [e2]
        show _ = (decide (ps.length = q) && (false || isNameS x))
        by_cases h : ps.length = q ∧ isNameS x = true
        · rw [if_pos h, decide_eq_true h.1, h.2]
          rfl
        · rw [if_neg h, Bool.false_or]
          cases hx : isNameS x with
          | false => simp
          | true =>
            have : ¬ ps.length = q := fun z => h ⟨z, hx⟩
            rw [decide_eq_false this]
            rfl
      | _ => simp [isNameD]
theorem form_no {w : Str} {r : List PyData} (hs : shapeT w = none) : formD (.tuple (.str w :: r)) = none := by
  unfold formD
  dsimp only
  rw [hs]
theorem scIsFormed : FnScope ["part", "shape"] ["part"] (defScope sIsFormed) := ⟨rfl, rfl, rfl, by decide +kernel, rfl, by decide +kernel, by decide +kernel⟩
def spIsFormed (K : PySem.W.Frag) : Sp := fun vs H Q _ => ∃ (s l : Addr) (v : V) (d : PyData), vs = [v] ∧ Tg K s l H v d ∧ Q (.bl (formD d).isSome) H
theorem ok_isformed {f aS : Addr} {fd : FuncData} (F : Fun K "is_formed" "is_formed" sIsFormed f fd) (N : Def P w K mg base CX0 "is_name" 1 ["thing"] (spIsName K)) (mi : mg "isinstance" = none) (ms : mg "str" = none) (mt : mg "tuple" = none) (ml : mg "len" = none)
    (mS : mg "SHAPES" = some (.ref aS)) (T : ShpT K w aS) : FnOk P w K mg base CX0 2 f fd ["part"] (spIsFormed K) := by
  refine F.ok scIsFormed (fun vs H Q E h => ?_) (fun cdv A outer s H vs Q E hr h => ?_)
  · obtain ⟨s, l, v, d, rfl, _⟩ := h
    rfl
  obtain ⟨s, l, v, d, rfl, hv, q⟩ := h
  refine ⟨_, pss_cons (ps_if (PW.pt (pw_or (pt_not (pt_val (pe_callB call_isi (by rfl) mi PyProof.Rows.boot_isinstance (pa_cons (pv 0) (pa_cons (pe_bltn (v := .ty "tuple") (by rfl) mt PyProof.Rows.boot_tuple rfl) pa_nil)))))
      (pw_or (pt_cmpR op_eq (pe_callB call_len_seq (by rfl) ml PySem.boot_len (pa_cons (pv 0) pa_nil)) pe_int (nomark _))
      (pw_or1 (pt_not (pt_val (pe_callB call_isi (by rfl) mi PyProof.Rows.boot_isinstance (pa_cons (pe_ix ix_tup (pv 0) pe_int (fun _ _ => rfl)) (pa_cons (pe_bltn (v := .ty "str") (by rfl) ms PyProof.Rows.boot_str rfl) pa_nil))))))))) (pss_one (ps_ret pe_bl)) pss_nil)
    (pss_cons (ps_set (i := 1) scIsFormed.nd rfl (Or.inl rfl) (pe_kget (pe_glob (v := .ref aS) rfl mS rfl) (pe_ix ix_tup (pv 0) pe_int (fun _ _ => rfl)) ⟨rfl, rfl, rfl, rfl⟩))
    (pss_cons (ps_if (PW.pt (pw_or (pt_cmpR op_isN (pv 1) pe_non (nomark _)) (pw_or1 (pt_cmpR op_ne (pe_callB call_len_seq (by rfl) ml PySem.boot_len (pa_cons (pv 0) pa_nil)) (pe_op op_add (pe_op op_add pe_int (pe_ix ix_tup (pv 1) pe_int (fun _ _ => rfl))) (pe_ix ix_tup (pv 1) pe_int (fun _ _ => rfl))) (nomark _))))) (pss_one (ps_ret pe_bl)) pss_nil)
    (pss_one (ps_ret (pe_or (pe_cmpR op_eq (pe_ix ix_tup (pv 1) pe_int (fun _ _ => rfl)) pe_int (nomark _)) (pe_one (pe_def N hr rfl (pa_cons (pe_ix ix_tup (pv 0) pe_int (fun _ _ => rfl)) pa_nil)))))))), ?_⟩
  obtain ⟨ty, ty1, ty2, _⟩ := tg_ty hv
  refine ⟨_, rfl, v, .ty "tuple", .type ty, .type "tuple", isTup d, rfl, .ty _, ty1, kit_ty ty2, _, rfl, ?_⟩
  cases hv with
  | @tup a xs ds ha hxs =>
    refine iteF ⟨_, rfl, a, _, rfl, .inr ha, rfl, _, rfl, ?_⟩
    cases hxs with
    | nil => exact iteT q
    | @cons x0 xr d0 dr h0 hr0 =>
      have e0 : decide (V.int (((x0 :: xr).length : Nat) : Int) = V.int 0) = false := decide_eq_false fun z => by
        have := V.int.inj z
        rw [List.length_cons] at this
        omega
      rw [e0]
      refine iteF ⟨_, rfl, a, _, _, x0, rfl, rfl, ha, atI_nat (j := 0) rfl, ?_⟩
      obtain ⟨tz, tz1, _, tz2⟩ := tg_ty h0
      refine ⟨x0, .ty "str", .type tz, .type "str", isStr d0, rfl, .ty _, tz1, kit_ty tz2, _, rfl, ?_⟩
      cases h0 with
      | str w hw =>
        refine iteF ?_
        refine ⟨aS, rfl, T, _, rfl, a, _, _, _, rfl, rfl, ha, atI_nat (j := 0) rfl, w, rfl, fun hs => ?_, fun p p2 hs t ht => ?_⟩
        · rw [form_no hs] at q
          exact ⟨_, rfl, rfl, _, rfl, iteT q⟩
        · have hl := hr0.len
          have hf := form_some (r := dr) hs
          refine ⟨_, rfl, rfl, _, rfl, iteF ?_⟩
          refine ⟨_, rfl, a, _, rfl, .inr ha, _, rfl, t, _, _, _, rfl, rfl, ht.seq, atI_nat (j := 0) rfl, _, _, rfl, rfl, _, rfl, t, _, _, _, rfl, rfl, ht.seq, atI_nat (j := 1) rfl, _, _, rfl, rfl, rfl, _, rfl, ?_⟩
          by_cases hlen : dr.length = p + p2
          · have e1 : decide (V.int (((V.str w :: xr).length : Nat) : Int) = V.int (1 + (p : Int) + (p2 : Int))) = true := decide_eq_true (by
              rw [List.length_cons]
              congr 1
              omega)
            have e1' : (!decide (V.int (((V.str w :: xr).length : Nat) : Int) = V.int (1 + (p : Int) + (p2 : Int)))) = false := by rw [e1]; rfl
            rw [e1']
            refine iteF ?_
            rw [hf, decide_eq_true hlen, Bool.true_and] at q
            refine ⟨_, rfl, t, _, _, _, rfl, rfl, ht.seq, atI_nat (j := 0) rfl, rfl, _, rfl, ?_⟩
            by_cases hp : p = 0
            · rw [decide_eq_true hp, Bool.true_or] at q
              rw [decide_eq_true (show V.int (p : Int) = V.int 0 by rw [hp]; rfl)]
              exact iteT q
            · rw [decide_eq_false hp, Bool.false_or] at q
              rw [decide_eq_false (show ¬ V.int (p : Int) = V.int 0 from fun z => hp (by have := V.int.inj z; omega))]
              refine iteF ?_
              cases hr0 with
              | nil =>
                rw [List.length_nil] at hlen
                omega
              | @cons x1 xs1 d1 dr1 h1 hr1 =>
                exact ⟨_, rfl, a, _, _, x1, rfl, rfl, ha, atI_nat (j := 1) rfl, s, l, x1, d1, rfl, h1, q⟩
          · have e1 : decide (V.int (((V.str w :: xr).length : Nat) : Int) = V.int (1 + (p : Int) + (p2 : Int))) = false := decide_eq_false (fun z => by
              have := V.int.inj z
              rw [List.length_cons] at this
              omega)
            have e1' : (!decide (V.int (((V.str w :: xr).length : Nat) : Int) = V.int (1 + (p : Int) + (p2 : Int)))) = true := by rw [e1]; rfl
            rw [e1']
            rw [hf, decide_eq_false hlen, Bool.false_and] at q
            exact iteT q
      | _ => exact iteT q
  | _ => exact iteT q
end
end Kn

set_option Elab.async false
set_option linter.all false
set_option maxRecDepth 100000
set_option maxHeartbeats 4000000
set_option pp.maxSteps 1200
namespace Kn
open PySem L2 TL
section
variable {P : Program} {w : World} {K : PySem.W.Frag} {mg : Str → Option Value} {base : Heap}
theorem ShpT.kd {a : Addr} {z : Str} {p q : Nat} (T : ShpT K w a) (hs : shapeT z = some (p, q)) : ∃ t, KDct K w a z (.ref t) ∧ TupW K t [.int (p : Nat), .int (q : Nat)] := by
  obtain ⟨es, n, h1, h2⟩ := T.at_
  obtain ⟨t, h3, h4⟩ := T.yes z p q hs
  exact ⟨t, ⟨es, n, .ref t, h1, h2, h3, rfl⟩, h4⟩
def nameV : Option Str → V
  | none => .non
  | some x => .str x
theorem scNameIn : FnScope ["part"] ["part"] (defScope sNameIn) := ⟨rfl, rfl, rfl, by decide +kernel, rfl, by decide +kernel, by decide +kernel⟩
def spNameIn (K : PySem.W.Frag) : Sp := fun vs H Q _ => ∃ (s l : Addr) (v : V) (d : PyData) (o : Option Str) (ps : List PyData), vs = [v] ∧ Tg K s l H v d ∧ formD d = some (o, ps) ∧ Q (nameV o) H
theorem ok_namein {f aS : Addr} {fd : FuncData} (F : Fun K "name_in" "name_in" sNameIn f fd) (mS : mg "SHAPES" = some (.ref aS)) (T : ShpT K w aS) : FnOk P w K mg base CX0 1 f fd ["part"] (spNameIn K) := by
  refine F.ok scNameIn (fun vs H Q E h => ?_) (fun cdv A outer s H vs Q E hr h => ?_)
  · obtain ⟨s, l, v, d, o, ps, rfl, _⟩ := h
    rfl
  obtain ⟨s, l, v, d, o, ps, rfl, hv, hf, q⟩ := h
  refine ⟨_, pss_one (ps_ret (pe_ifExp (pt_cmpR op_eq (pe_ix ix_tup (pe_ix ix_kdict (pe_glob (v := .ref aS) rfl mS rfl) (pe_ix ix_tup (pv 0) pe_int (fun _ _ => rfl)) (fun _ _ => rfl)) pe_int (fun _ _ => rfl)) pe_int (nomark _)) (pe_ix ix_tup (pv 0) pe_int (fun _ _ => rfl)) pe_non)), ?_⟩
  obtain ⟨z, b, hl, ⟨hs, rfl, rfl⟩ | ⟨x, hs, rfl, rfl, hx⟩⟩ := formD_inv hf
  · cases hv with
    | @tup a xs ds ha hxs =>
      cases hxs with
      | @cons x0 xr d0 dr h0 hr0 =>
        cases h0
        obtain ⟨t, k1, k2⟩ := T.kd hs
        refine ⟨_, rfl, a, _, _, _, rfl, rfl, ha, atI_nat (j := 0) rfl, aS, z, .ref t, rfl, rfl, k1, t, _, _, _, rfl, rfl, k2.seq, atI_nat (j := 0) rfl, rfl, _, rfl, ?_⟩
        exact iteF q
  · cases hv with
    | @tup a xs ds ha hxs =>
      cases hxs with
      | @cons x0 xr d0 dr h0 hr0 =>
        cases h0
        cases hr0 with
        | @cons x1 xr1 d1 dr1 h1 hr1 =>
          cases h1
          obtain ⟨t, k1, k2⟩ := T.kd hs
          refine ⟨_, rfl, a, _, _, _, rfl, rfl, ha, atI_nat (j := 0) rfl, aS, z, .ref t, rfl, rfl, k1, t, _, _, _, rfl, rfl, k2.seq, atI_nat (j := 0) rfl, rfl, _, rfl, ?_⟩
          exact iteT ⟨_, rfl, a, _, _, _, rfl, rfl, ha, atI_nat (j := 1) rfl, q⟩
theorem scPartsOf : FnScope ["part"] ["part"] (defScope sPartsOf) := ⟨rfl, rfl, rfl, by decide +kernel, rfl, by decide +kernel, by decide +kernel⟩
def spPartsOf (K : PySem.W.Frag) : Sp := fun vs H Q _ => ∃ (s l : Addr) (v : V) (d : PyData) (o : Option Str) (ps : List PyData), vs = [v] ∧ Tg K s l H v d ∧ formD d = some (o, ps) ∧
  ∀ (H' : Hp) (p : Addr) (xs : List V), Same H H' → SqT K H' p xs → TgAll K s l H' xs ps → Q (.ref p) H'
theorem cut_drop {xs : List V} {j : Nat} (h : j ≤ xs.length) : cutV xs (some (j : Int)) none = xs.drop j := by
  unfold cutV
  rw [HT.sIx_nat, HT.sIx_none, Nat.min_eq_left h]
  have e : xs.length - j = (xs.drop j).length := by rw [List.length_drop]
  rw [e, List.take_length]
theorem ok_partsof {f aS : Addr} {fd : FuncData} (F : Fun K "parts_of" "parts_of" sPartsOf f fd) (mS : mg "SHAPES" = some (.ref aS)) (T : ShpT K w aS) : FnOk P w K mg base CX0 1 f fd ["part"] (spPartsOf K) := by
  refine F.ok scPartsOf (fun vs H Q E h => ?_) (fun cdv A outer s H vs Q E hr h => ?_)
  · obtain ⟨s, l, v, d, o, ps, rfl, _⟩ := h
    rfl
  obtain ⟨s, l, v, d, o, ps, rfl, hv, hf, q⟩ := h
  refine ⟨_, pss_one (ps_ret (pe_slice sl_tupA (pv 0) (po_some (pe_op op_add pe_int (pe_ix ix_tup (pe_ix ix_kdict (pe_glob (v := .ref aS) rfl mS rfl) (pe_ix ix_tup (pv 0) pe_int (fun _ _ => rfl)) (fun _ _ => rfl)) pe_int (fun _ _ => rfl)))) po_none)), ?_⟩
  obtain ⟨z, b, hl, ⟨hs, rfl, rfl⟩ | ⟨x, hs, rfl, rfl, hx⟩⟩ := formD_inv hf
  · cases hv with
    | @tup a xs ds ha hxs =>
      cases hxs with
      | @cons x0 xr d0 dr h0 hr0 =>
        cases h0
        obtain ⟨t, k1, k2⟩ := T.kd hs
        refine ⟨_, rfl, _, rfl, a, _, _, _, rfl, rfl, ha, atI_nat (j := 0) rfl, aS, z, .ref t, rfl, rfl, k1, t, _, _, _, rfl, rfl, k2.seq, atI_nat (j := 0) rfl, _, _, rfl, rfl, _, rfl, ?_⟩
        have e : cutV (V.str z :: xr) (some ((1 : Int) + ((0 : Nat) : Int))) none = xr := cut_drop (j := 1) (by rw [List.length_cons]; omega)
        refine slA_any ha fun H' p e1 h1 => q H' p xr e1 ?_ (hr0.same e1)
        rw [e] at h1
        exact h1
  · cases hv with
    | @tup a xs ds ha hxs =>
      cases hxs with
      | @cons x0 xr d0 dr h0 hr0 =>
        cases h0
        cases hr0 with
        | @cons x1 xr1 d1 dr1 h1 hr1 =>
          cases h1
          obtain ⟨t, k1, k2⟩ := T.kd hs
          refine ⟨_, rfl, _, rfl, a, _, _, _, rfl, rfl, ha, atI_nat (j := 0) rfl, aS, z, .ref t, rfl, rfl, k1, t, _, _, _, rfl, rfl, k2.seq, atI_nat (j := 0) rfl, _, _, rfl, rfl, _, rfl, ?_⟩
          have e : cutV (V.str z :: V.str x :: xr1) (some ((1 : Int) + ((1 : Nat) : Int))) none = xr1 := cut_drop (j := 2) (by rw [List.length_cons, List.length_cons]; omega)
          refine slA_any ha fun H' p e1 h1 => q H' p xr1 e1 ?_ (hr1.same e1)
          rw [e] at h1
          exact h1
end
end Kn

set_option Elab.async false
set_option linter.all false
set_option maxRecDepth 100000
set_option maxHeartbeats 4000000
set_option pp.maxSteps 1200
namespace Kn
open PySem L2 TL PySem.Spec PyProof.Rows
/-! ### {way} in an f-string: some text -/
def natTx (n : Nat) : Str := Str.ofString (toString ((n : Nat) : Int))
theorem nat_text : ∀ n ∈ List.range 16, (natTx n).length ≤ 10 := by decide +kernel
theorem ints_repr {prog : Program} {w : World} : ∀ {l : List Nat} {its : List Value}, Vals (l.map fun n => V.int (n : Nat)) its → (∀ n ∈ l, n < 16) → ReprAll prog w its (l.map natTx)
  | [], _, r, _ => by
    cases r
    exact .nil
  | n :: l, _, r, h => by
    cases r with
    | cons r1 r2 =>
      obtain ⟨t, rfl⟩ := r1
      have h16 := h n List.mem_cons_self
      have hl : ((n : Nat) : Int).natAbs.log2 < 1920 := by
        rw [Int.natAbs_natCast]
        by_cases h0 : n = 0
        · rw [h0]
          decide
        · exact (Nat.log2_lt h0).mpr (Nat.lt_of_lt_of_le h16 (by
            have := Nat.pow_le_pow_right (n := 2) (by decide) (show 4 ≤ 1920 by decide)
            exact this))
      exact .cons (ReprIs.int t hl) (ints_repr r2 fun z hz => h z (List.mem_cons_of_mem _ hz))
theorem piled_ints : ∀ l : List Nat, (∀ n ∈ l, n < 16) → piled (l.map natTx) ≤ 12 * l.length
  | [], _ => Nat.zero_le _
  | n :: l, h => by
    have h1 := nat_text n (List.mem_range.mpr (h n List.mem_cons_self))
    have h2 := piled_ints l fun z hz => h z (List.mem_cons_of_mem _ hz)
    rw [List.map_cons, piled_cons, List.length_cons]
    omega
def tFmtN (K : PySem.W.Frag) (te : TE) : TE := fun σ H Q => te σ H fun x H1 => ∃ (a : Addr) (l : List Nat), x = .ref a ∧ SqT K H1 a (l.map fun n => V.int (n : Nat)) ∧ (∀ n ∈ l, n < 16) ∧ l.length ≤ 100 ∧ ∀ m : Str, m.length ≤ 10000 → Q (.str m) H1
theorem pe_fmtN {X : Cx} {e : Expr} {te : TE} {pos : Pos} {k : Nat} (hr : Room k X.A) (he : PE X e te) : PE X (.FormattedValue e (-1) none pos) (tFmtN X.K te) := by
  constructor
  intro pins s σ H Q I h
  refine wpAny_FormattedValue_plain (thn (he.run pins s σ H _ I h) fun v s1 hv => ?_)
  obtain ⟨x, H1, I1, r1, a, l, rfl, ht, h16, hl, q⟩ := hv
  cases r1
  obtain ⟨its, rv, ⟨o, ho, hcl, n, hd⟩, _⟩ := I1.tuple ht
  have p1 := piled_ints l h16
  have p2 := fmt_text (l.map natTx)
  have z : sizeLine = 16777216 := sizeLine_eq
  have hu := hr.units
  exact fmt_tuple (by omega) ho hcl hd (ints_repr rv h16) (by omega) fun m u tk hm =>
    ⟨.str m, H1, I1.tok _, ⟨u, rfl⟩, q m (by omega)⟩
/-! ### BadFormula -/
abbrev sBFInit : Stmt := inClass (top 1) 0
/-- what the written part says of BadFormula at C, its __init__ at fI -/
structure BFT (P : Program) (w : World) (K : PySem.W.Frag) (mg : Str → Option Value) (base : Heap) (C : Addr) : Prop where
  ox : OexC K C
  mgC : mg "BadFormula" = some (.ref C)
  noP : PySem.W.findIn K (.ref C) "place" = some none
  ini : ∃ (fI : Addr) (fd : FuncData), PySem.W.findIn K (.ref C) "__init__" = some (some (.ref fI)) ∧ PySem.W.typeIn K (.ref fI) = some (.type "function") ∧ Binds K fd ["self", "place"] [] ∧ Fun K "__init__" "BadFormula.__init__" sBFInit fI fd
def spBF (K : PySem.W.Frag) : Sp := fun vs H Q _ => ∃ (a C p : Addr) (l : List Nat), vs = [.ref a, .ref p] ∧ OexC K C ∧ PySem.W.findIn K (.ref C) "place" = some none ∧ H a = some (exo a C none) ∧ SqT K H p (l.map fun n => V.int (n : Nat)) ∧ (∀ n ∈ l, n < 16) ∧ l.length ≤ 100 ∧
  ∀ dx, H dx = none → dx ≠ a → Q .non (upd (upd H dx (exd dx [("place", .ref p)])) a (exo a C (some dx)))
section
variable {P : Program} {w : World} {K : PySem.W.Frag} {mg : Str → Option Value} {base : Heap}
theorem scBF : FnScope ["self", "place"] ["self", "place"] (defScope sBFInit) := ⟨rfl, rfl, rfl, by decide +kernel, rfl, by decide +kernel, by decide +kernel⟩
theorem ok_bf {f : Addr} {fd : FuncData} (F : Fun K "__init__" "BadFormula.__init__" sBFInit f fd) (mV : mg "ValueError" = none) (vV : PySem.W.findCls K (.type "ValueError") (.type "type") "__init__" = some (.val (.builtin "ValueError.__init__"))) :
    FnOk P w K mg base CX0 1 f fd ["self", "place"] (spBF K) := by
  refine F.ok scBF (fun vs H Q E h => ?_) (fun cdv A outer s H vs Q E hr h => ?_)
  · obtain ⟨a, C, p, l, rfl, _⟩ := h
    rfl
  obtain ⟨a, C, p, l, rfl, T, hno, ha, hp, h16, hl, q⟩ := h
  refine ⟨_, pss_cons (ps_expr (pe_veinit rfl mV vV (pa_cons (pv 0) (pa_cons (pe_joined (.cons pe_str (.cons (pe_fmtN hr (pv 1)) .nil))) pa_nil))))
    (pss_one (ps_ost (pv 0) (pv 1))), ?_⟩
  have z : sizeLine = 16777216 := sizeLine_eq
  have e0 : (Str.empty ++ ("no formula: " : Str)).length = 12 := by decide +kernel
  refine ⟨_, rfl, _, rfl, by omega, _, rfl, p, l, rfl, hp, h16, hl, fun m hm => ⟨_, rfl, ?_, a, C, _, rfl, by show 1 ≤ 1000; decide, T, ha, ?_⟩⟩
  · rw [len_app, e0]
    omega
  · exact ⟨_, rfl, _, rfl, a, C, rfl, T, hno, .inl ⟨ha, fun dx h1 h2 => q dx h1 h2⟩⟩
end
end Kn

set_option Elab.async false
set_option linter.all false
set_option maxRecDepth 100000
set_option maxHeartbeats 4000000
set_option pp.maxSteps 1200
namespace Kn
open PySem L2 TL PySem.Spec PyProof.Rows
/-! ### things beside a list and a dict of one's own -/
section
variable {K : PySem.W.Frag} {s l p q : Addr} {H H' : Hp}
mutual
theorem Tg.redo (hp : H p = none) (hq : H q = none) : ∀ {v : V} {d : PyData}, Tg K s l H v d → Tg K p q H v d
  | _, _, .non => .non
  | _, _, .bl b => .bl b
  | _, _, .int i => .int i
  | _, _, .str x h => .str x h
  | _, _, .tup u r => .tup u (TgAll.redo hp hq r)
  | _, _, .lst _ _ u => .lst (ne_of_none u hp) (ne_of_none u hq) u
  | _, _, .dct _ _ u => .dct (ne_of_none u hp) (ne_of_none u hq) u
theorem TgAll.redo (hp : H p = none) (hq : H q = none) : ∀ {vs : List V} {ds : List PyData}, TgAll K s l H vs ds → TgAll K p q H vs ds
  | _, _, .nil => .nil
  | _, _, .cons u r => .cons (Tg.redo hp hq u) (TgAll.redo hp hq r)
end
/-- a list at p and a dict at q, of one's own -/
structure Two (H : Hp) (p q : Addr) (xs : List V) (kvs : List (Key × V)) : Prop where
  ne : p ≠ q
  ls : H p = some (.lst xs)
  ds : H q = some (.dK kvs)
variable {xs : List V} {kvs : List (Key × V)}
theorem Two.seqT (w : Two H p q xs kvs) (e : Keep p q H H') {a : Addr} {ys : List V} (h : SqT K H a ys) : SqT K H' a ys := by
  rcases h with (h | ⟨o, h⟩) | h
  · exact .inl (.inl (e _ _ (ne_of h w.ls (by intro z; cases z)) (ne_of h w.ds (by intro z; cases z)) h))
  · exact .inl (.inr ⟨o, e _ _ (ne_of h w.ls (by intro z; cases z)) (ne_of h w.ds (by intro z; cases z)) h⟩)
  · exact .inr h
theorem Two.tg (w : Two H p q xs kvs) (e : Keep p q H H') {v : V} {d : PyData} (h : Tg K p q H v d) : Tg K p q H' v d := h.mono (fun _ _ u => w.seqT e u) (fun _ _ a b u => e _ _ a b u) (fun _ a b u => e _ _ a b u)
theorem Two.tgs (w : Two H p q xs kvs) (e : Keep p q H H') {v : List V} {d : List PyData} (h : TgAll K p q H v d) : TgAll K p q H' v d := h.mono (fun _ _ u => w.seqT e u) (fun _ _ a b u => e _ _ a b u) (fun _ a b u => e _ _ a b u)
theorem Two.putL (w : Two H p q xs kvs) (ys : List V) : Two (upd H p (.lst ys)) p q ys kvs := ⟨w.ne, upd_same, by rw [upd_ne w.ne.symm]; exact w.ds⟩
theorem Two.putD (w : Two H p q xs kvs) (u : List (Key × V)) : Two (upd H q (.dK u)) p q xs u := ⟨w.ne, by rw [upd_ne w.ne]; exact w.ls, upd_same⟩
theorem Two.same (w : Two H p q xs kvs) (e : Same H H') : Two H' p q xs kvs := ⟨w.ne, e _ _ w.ls, e _ _ w.ds⟩
/-- what was there at the beginning is there, whatever the two became -/
theorem same_keep {H0 H1 : Hp} (n1 : H0 p = none) (n2 : H0 q = none) (a : Same H0 H) (e : Keep p q H H1) : Same H0 H1 := fun b o u => e b o (ne_of_none u n1) (ne_of_none u n2) (a b o u)
/-! ### the stack -/
def wayV (w : List Nat) : List V := w.map fun n => V.int (n : Nat)
/-- an entry: a way and a part -/
def Ent (K : PySem.W.Frag) (p q : Addr) (H : Hp) (x : V) (e : List Nat × PyData) : Prop := ∃ (t u : Addr) (y : V), x = .ref t ∧ SqT K H t [.ref u, y] ∧ SqT K H u (wayV e.1) ∧ Tg K p q H y e.2 ∧ e.1.length ≤ 10 ∧ ∀ n ∈ e.1, n < 16
inductive Ents (K : PySem.W.Frag) (p q : Addr) (H : Hp) : List V → List (List Nat × PyData) → Prop
  | nil : Ents K p q H [] []
  | cons {x : V} {r : List V} {e : List Nat × PyData} {es : List (List Nat × PyData)} : Ent K p q H x e → Ents K p q H r es → Ents K p q H (x :: r) (e :: es)
theorem Ent.keep (w : Two H p q xs kvs) (k : Keep p q H H') {x : V} {e : List Nat × PyData} (h : Ent K p q H x e) : Ent K p q H' x e :=
  let ⟨t, u, y, e1, h1, h2, h3, h4⟩ := h
  ⟨t, u, y, e1, w.seqT k h1, w.seqT k h2, w.tg k h3, h4⟩
theorem Ents.keep (w : Two H p q xs kvs) (k : Keep p q H H') : ∀ {x : List V} {e : List (List Nat × PyData)}, Ents K p q H x e → Ents K p q H' x e
  | _, _, .nil => .nil
  | _, _, .cons a b => .cons (a.keep w k) (Ents.keep w k b)
/-- the names met, as the dict holds them -/
def nmD (ns : List Str) : List (Key × V) := ns.map fun x => (.inr x, .bl true)
theorem nmD_put (ns : List Str) (x : Str) : putK (nmD ns) (.inr x) (.bl true) = nmD (addN ns (some x)) := by
  unfold putK nmD addN
  have e : (List.any (ns.map fun x => ((Sum.inr x : Key), V.bl true)) fun kv => decide (kv.1 = Sum.inr x)) = decide (x ∈ ns) := by
    rw [List.any_map]
    induction ns with
    | nil => rfl
    | cons y r ih =>
      rw [List.any_cons, ih]
      by_cases h : y = x
      · simp [h]
      · have h2 : ¬ x = y := fun z => h z.symm
        simp [h, h2]
  rw [e]
  by_cases h : x ∈ ns
  · rw [decide_eq_true h, if_pos rfl]
    dsimp only
    rw [if_pos h, List.map_map]
    apply List.map_congr_left
    intro y _
    show (if (Sum.inr y : Key) = Sum.inr x then _ else _) = _
    split <;> rfl
  · rw [decide_eq_false h, if_neg Bool.false_ne_true]
    dsimp only
    rw [if_neg h, List.map_append]
    rfl
theorem nmD_len (ns : List Str) : (nmD ns).length = ns.length := List.length_map ..
end
/-! ### need_formula -/
def spNeed (K : PySem.W.Frag) (C : Addr) : Sp := fun vs H Q E => ∃ (s l : Addr) (v : V) (d : PyData), vs = [v] ∧ Tg K s l H v d ∧
  (placeD d = none → ∀ H', Same H H' → Q v H') ∧
  ∀ way, placeD d = some way → ∀ (H' : Hp) (dx p : Addr), Same H H' → H dx = none → H' dx = some (.xd [("place", .ref p)]) → SqT K H' p (wayV way) → way.length ≤ 10 → (∀ n ∈ way, n < 16) → E (.ref C) (some dx) H'
/-- BadFormula as the top left it -/
structure BFS (P : Program) (w : World) (K : PySem.W.Frag) (mg : Str → Option Value) (base : Heap) (C fI : Addr) (fd : FuncData) : Prop where
  ox : OexC K C
  mgC : mg "BadFormula" = some (.ref C)
  noP : PySem.W.findIn K (.ref C) "place" = some none
  fin : PySem.W.findIn K (.ref C) "__init__" = some (some (.ref fI))
  ty : PySem.W.typeIn K (.ref fI) = some (.type "function")
  bi : Binds K fd ["self", "place"] []
  fn : FnOk P w K mg base CX0 1 fI fd ["self", "place"] (spBF K)
/-! #### entries of parts -/
theorem s_at {H H' : Hp} {b : Addr} {o : HO} (e : Same H H') (h : H b = some o) : H' b = some o := e b o h
theorem kids_length {way : List Nat} : ∀ {i : Nat} {ps : List PyData}, (kids way i ps).length = ps.length
  | _, [] => rfl
  | i, d :: r => by
    show (kids way (i + 1) r).length + 1 = r.length + 1
    rw [kids_length]
theorem kids_get {way : List Nat} : ∀ {i j : Nat} {ps : List PyData} {d : PyData}, ps[j]? = some d → (kids way i ps)[j]? = some (way ++ [i + j], d)
  | _, _, [], _, h => by simp at h
  | i, 0, d :: r, d', h => by
    have e : d = d' := by simpa using h
    rw [e]
    rfl
  | i, j + 1, d :: r, d', h => by
    have h2 : r[j]? = some d' := by simpa using h
    have := kids_get (way := way) (i := i + 1) h2
    show (kids way (i + 1) r)[j]? = _
    rw [this, show i + 1 + j = i + (j + 1) by omega]
theorem kids_drop {way : List Nat} {j : Nat} {ps : List PyData} {d : PyData} (h : ps[j]? = some d) : (kids way 0 ps).drop j = (way ++ [j], d) :: (kids way 0 ps).drop (j + 1) := by
  have h1 := kids_get (way := way) (i := 0) h
  obtain ⟨hl, he⟩ := List.getElem?_eq_some_iff.mp h1
  rw [List.drop_eq_getElem_cons hl, he, Nat.zero_add]
theorem TgAll.get {K : PySem.W.Frag} {s l : Addr} {H : Hp} : ∀ {j : Nat} {xs : List V} {ds : List PyData} {d : PyData}, TgAll K s l H xs ds → ds[j]? = some d → ∃ x, xs[j]? = some x ∧ Tg K s l H x d
  | _, _, _, _, .nil, h => by simp at h
  | 0, _, _, d', .cons a b, h => ⟨_, rfl, by
      have e := Option.some.inj h
      rw [← e]
      exact a⟩
  | j + 1, _, _, _, .cons a b, h => TgAll.get (j := j) b h
theorem Ents.app {K : PySem.W.Frag} {p q : Addr} {H : Hp} : ∀ {a b : List V} {x y : List (List Nat × PyData)}, Ents K p q H a x → Ents K p q H b y → Ents K p q H (a ++ b) (x ++ y)
  | _, _, _, _, .nil, h => h
  | _, _, _, _, .cons a b, h => .cons a (Ents.app b h)
theorem Ents.len {K : PySem.W.Frag} {p q : Addr} {H : Hp} : ∀ {a : List V} {x : List (List Nat × PyData)}, Ents K p q H a x → a.length = x.length
  | _, _, .nil => rfl
  | _, _, .cons _ b => congrArg (· + 1) (Ents.len b)
theorem none_back {H H' : Hp} {p : Addr} (e : Same H H') (h : H' p = none) : H p = none := by
  cases q : H p with
  | none => rfl
  | some o =>
    rw [e p o q] at h
    cases h
/-- the walk's state: names, stack, how many were met -/
def WN (K : PySem.W.Frag) (H0 : Hp) (pn pw : Addr) (v : V) (d0 : PyData) (m : Nat) (σ : L2.St) (H : Hp) : Prop := ∃ (ns : List Str) (st : List (List Nat × PyData)) (es : List V) (many : Nat) (x4 x5 x6 x7 x8 : Option V),
  σ = [some v, some (.ref pn), some (.int (many : Nat)), some (.ref pw), x4, x5, x6, x7, x8] ∧ Two H pw pn es.reverse (nmD ns) ∧ Ents K pw pn H es st ∧ Same H0 H ∧ ns.length ≤ 10 ∧ m + many = 61 ∧ many ≤ 60 ∧ st.length ≤ 2 * many + 1 ∧ walk m many ns st = placeD d0
theorem form_few {d : PyData} {o : Option Str} {ps : List PyData} (h : formD d = some (o, ps)) : ps.length ≤ 3 := by
  obtain ⟨w, b, hl, ⟨hs, _⟩ | ⟨x, hs, _⟩⟩ := formD_inv h
  · have := (shapeT_word hs).2.2.2
    dsimp only at this
    omega
  · have := (shapeT_word hs).2.2.2
    dsimp only at this
    omega
theorem addN_len (ns : List Str) (o : Option Str) : (addN ns o).length ≤ ns.length + 1 := by
  unfold addN
  cases o with
  | none => exact Nat.le_succ _
  | some x =>
    dsimp only
    split
    · exact Nat.le_succ _
    · rw [List.length_append, List.length_singleton]
      exact Nat.le_refl _
abbrev nNeed : List Str := ["thing", "names", "many", "waiting", "way", "part", "name", "inner", "at"]
section
variable {P : Program} {w : World} {K : PySem.W.Frag} {mg : Str → Option Value} {base : Heap}
theorem scNeed : FnScope nNeed ["thing"] (defScope sNeed) := ⟨rfl, rfl, rfl, by decide +kernel, rfl, by decide +kernel, by decide +kernel⟩
/-- what the raise makes -/
theorem bf_made {C : Addr} {H1 : Hp} {p : Addr} {way : List Nat} {E : XK} (T : OexC K C) (hno : PySem.W.findIn K (.ref C) "place" = some none) (hp : SqT K H1 p (wayV way)) (h16 : ∀ n ∈ way, n < 16) (hl : way.length ≤ 10)
    (q : ∀ dx, H1 dx = none → E (.ref C) (some dx) (upd H1 dx (.xd [("place", .ref p)]))) (a : Addr) (ha : H1 a = none) :
    spBF K (V.ref a :: ([V.ref p] ++ [])) (upd H1 a (exo a C none)) (fun v H2 => v = .non ∧ ∃ (d : Addr) (fs : List (Str × V)), H2 a = some (exo a C (some d)) ∧ H2 d = some (exd d fs) ∧ H1 d = none ∧ E (.ref C) (some d) (upd (del H2 a) d (.xd fs))) (fun _ _ _ => False) := by
  refine ⟨a, C, p, way, rfl, T, hno, upd_same, ?_, h16, by omega, fun dx h1 h2 => ⟨rfl, dx, _, upd_same, by rw [upd_ne h2]; exact upd_same, ?_, ?_⟩⟩
  · exact Same.seqT (same_new ha _) hp
  · rw [upd_ne h2] at h1
    exact h1
  · have e : upd (del (upd (upd (upd H1 a (exo a C none)) dx (exd dx [("place", V.ref p)])) a (exo a C (some dx))) a) dx (.xd [("place", .ref p)]) = upd H1 dx (.xd [("place", .ref p)]) := by
      funext b
      by_cases hb : b = dx
      · rw [hb, upd_same, upd_same]
      · rw [upd_ne hb, upd_ne hb]
        by_cases hb2 : b = a
        · rw [hb2, del_same, ha]
        · rw [del_ne hb2, upd_ne hb2, upd_ne hb, upd_ne hb2]
    rw [e]
    rw [upd_ne h2] at h1
    exact q dx h1
theorem ok_need {f C fI : Addr} {fd fdI : FuncData} {u60 u9 u10 : Value} (F : Fun K "need_formula" "need_formula" sNeed f fd) (B : BFS P w K mg base C fI fdI)
    (IF : Def P w K mg base CX0 "is_formed" 2 ["part"] (spIsFormed K)) (NI : Def P w K mg base CX0 "name_in" 1 ["part"] (spNameIn K)) (PO : Def P w K mg base CX0 "parts_of" 1 ["part"] (spPartsOf K))
    (ml : mg "len" = none) (mr : mg "range" = none) (mv : mg "reversed" = none)
    (m60 : mg "MOST_PARTS" = some u60) (r60 : RelV (.int 60) u60) (m9 : mg "MOST_WITHIN" = some u9) (r9 : RelV (.int 9) u9) (m10 : mg "MOST_NAMES" = some u10) (r10 : RelV (.int 10) u10) :
    FnOk P w K mg base (L2.CX P w) 3 f fd ["thing"] (spNeed K C) := by
  refine F.okX scNeed (fun vs H Q E h => ?_) (fun cdv A outer s H vs Q E hr h => ?_)
  · obtain ⟨s, l, v, d, rfl, _⟩ := h
    rfl
  obtain ⟨s0, l0, v, d0, rfl, hv, qn, qe⟩ := h
  have hr1 : Room 1 _ := hr.mono (by omega)
  refine ⟨_, pss_cons (ps_set (i := 1) scNeed.nd rfl (Or.inl rfl) pe_dnewK)
    (pss_cons (ps_set (i := 2) scNeed.nd rfl (Or.inl rfl) pe_int)
    (pss_cons (ps_set (i := 3) scNeed.nd rfl (Or.inl rfl) (pe_lst (pa_cons (pe_tup (pa_cons (pe_tup pa_nil) (pa_cons (pv 0) pa_nil))) pa_nil)))
    (pss_cons (ps_while (passes_of rfl) (pt_truth (pv 3) (fun _ => rfl))
      (pss_cons (ps_asg (pe_bm0 PySem.F.plainAttrs_list PySem.F.slot_list_pop PySem.F.type_list_pop mt_pop (pv 3)) (pg_tup rfl (pgs_cons (pg_name (i := 4) scNeed.nd rfl (Or.inl rfl)) (pgs_cons (pg_name (i := 5) scNeed.nd rfl (Or.inl rfl)) pgs_nil))))
      (pss_cons (ps_aug (i := 2) scNeed.nd rfl (.inl rfl) pe_int ip_add)
      (pss_cons (ps_if (PW.pt (pw_or (pt_cmpR op_gt (pv 2) (pe_glob (v := .int 60) rfl m60 r60) (nomark _)) (pw_or (pt_cmpR op_gt (pe_callB call_len_seq (by rfl) ml PySem.boot_len (pa_cons (pv 4) pa_nil)) (pe_glob (v := .int 9) rfl m9 r9) (nomark _)) (pw_or1 (pt_not (pt_val (pe_def IF hr rfl (pa_cons (pv 5) pa_nil))))))))
        (pss_one (ps_raise rfl (takes_of rfl rfl rfl rfl) (pmk_oex B.ox B.fin B.ty B.fn hr B.bi .nil pass0 rfl B.mgC (pa_cons (pv 4) pa_nil)))) pss_nil)
      (pss_cons (ps_set (i := 6) scNeed.nd rfl (Or.inl rfl) (pe_def NI hr1 rfl (pa_cons (pv 5) pa_nil)))
      (Evl.pss_cut (ps_if (pt_cmpR op_notN (pv 6) pe_non (nomark _)) (pss_one (ps_dput (hu_of hr) (pv 1) (pv 6) pe_bl rfl)) pss_nil)
      (pss_cons (ps_if (pt_cmpR op_gt (pe_callB call_lenD (by rfl) ml PySem.boot_len (pa_cons (pv 1) pa_nil)) (pe_glob (v := .int 10) rfl m10 r10) (nomark _))
        (pss_one (ps_raise rfl (takes_of rfl rfl rfl rfl) (pmk_oex B.ox B.fin B.ty B.fn hr B.bi .nil pass0 rfl B.mgC (pa_cons (pv 4) pa_nil)))) pss_nil)
      (pss_cons (ps_set (i := 7) scNeed.nd rfl (Or.inl rfl) (pe_def PO hr1 rfl (pa_cons (pv 5) pa_nil)))
      (pss_one (ps_for (passes_of rfl) rfl (pi_revR rfl mv (prg_1 rfl mr (pe_callB call_len_seq (by rfl) ml PySem.boot_len (pa_cons (pv 7) pa_nil)))) (pg_name (i := 8) scNeed.nd rfl (Or.inl rfl))
        (pss_one (ps_expr (pe_bm PySem.F.plainAttrs_list PySem.F.slot_list_append PySem.F.type_list_append mt_append (pv 3) (pa_cons (pe_tup (pa_cons (pe_tup (StX.pa_star (pv 4) (pa_cons (pv 8) pa_nil))) (pa_cons (pe_ix ix_tup (pv 7) (pv 8) (fun _ _ => rfl)) pa_nil))) pa_nil))))))))))))))
    (pss_one (ps_ret (pv 0)))))), ?_⟩
  refine fun pn hpn => ⟨Nat.zero_le _, fun t0 ht0 => ⟨_, rfl, (by show 2 ≤ sizeLine; decide), fun t1 ht1 => ⟨(by show 1 ≤ sizeLine; decide), fun pw hpw => ?_⟩⟩⟩
  have s1 : Same H (upd H pn (.dK [])) := same_new hpn _
  have s2 := Same.trans s1 (same_new ht0 (.tup []))
  have s3 := Same.trans s2 (same_new ht1 (.tup [V.ref t0, v]))
  have s4 := Same.trans s3 (same_new hpw (.lst [V.ref t1]))
  have npw : H pw = none := none_back s3 hpw
  have mk : ∀ (H' : Hp) (u : Addr) (way : List Nat), Same H H' → SqT K H' u (wayV way) → way.length ≤ 10 → (∀ n ∈ way, n < 16) → placeD d0 = some way → ∀ a, H' a = none →
      spBF K (V.ref a :: ([V.ref u] ++ [])) (upd H' a (exo a C none)) (fun v H2 => v = .non ∧ ∃ (d : Addr) (fs : List (Str × V)), H2 a = some (exo a C (some d)) ∧ H2 d = some (exd d fs) ∧ H' d = none ∧ E (.ref C) (some d) (upd (del H2 a) d (.xd fs))) (fun _ _ _ => False) := fun H' u way hs hq hl h16 hw =>
    bf_made B.ox B.noP hq h16 hl fun dx hdx => qe way hw _ dx u (Same.trans hs (same_new hdx _)) (none_back hs hdx) upd_same (Same.seqT (same_new hdx _) hq) hl h16
  refine ⟨WN K H pn pw v d0, ⟨61, ?_⟩, fun m σ H1 hW => ?_⟩
  · have hT : Tg K pw pn _ v d0 := (hv.redo npw hpn).same s4
    refine ⟨[], [([], d0)], [.ref t1], 0, _, _, _, _, _, rfl, ⟨?_, upd_same, ?_⟩, .cons ⟨t1, t0, v, rfl, ?_, ?_, hT, Nat.zero_le _, fun n hn => by cases hn⟩ .nil, s4, Nat.zero_le _, rfl, Nat.zero_le _, Nat.le_refl _, rfl⟩
    · exact fun z => by
        rw [z] at hpw
        rw [s_at (Same.trans (same_new ht0 (.tup [])) (same_new ht1 (.tup [V.ref t0, v]))) upd_same] at hpw
        cases hpw
    · exact s_at (Same.trans (same_new ht0 (.tup [])) (Same.trans (same_new ht1 (.tup [V.ref t0, v])) (same_new hpw _))) upd_same
    · exact SqT.of (s_at (same_new hpw _) upd_same)
    · exact SqT.of (s_at (Same.trans (same_new ht1 (.tup [V.ref t0, v])) (same_new hpw _)) upd_same)
  obtain ⟨ns, st, es, many, x4, x5, x6, x7, x8, rfl, w1, ent, sa, hn, hm, h60, hst, hwk⟩ := hW
  refine ⟨_, rfl, _, .inl ⟨_, SqL.of w1.ls, rfl⟩, ?_⟩
  obtain ⟨m, rfl⟩ : ∃ k, m = k + 1 := ⟨m - 1, by omega⟩
  cases ent with
  | nil => exact iteF ⟨_, rfl, qn hwk.symm H1 sa⟩
  | @cons e er e0 sr he hr0 =>
    obtain ⟨way, d1⟩ := e0
    obtain ⟨t, u, y, rfl, g1, g2, g3, g4, g5⟩ := he
    have hne : (!(V.ref t :: er).reverse.isEmpty) = true := by simp
    rw [hne]
    refine iteT ⟨fun σ' H' => WN K H pn pw v d0 m σ' H', fun _ _ h => ⟨m, Nat.lt_succ_self m, h⟩, ?_⟩
    have hlast : (V.ref t :: er).reverse[(V.ref t :: er).reverse.length - 1]? = some (V.ref t) := by simp
    have hdl : (V.ref t :: er).reverse.dropLast = er.reverse := by simp
    refine ⟨_, rfl, .inl ⟨rfl, _, SqL.of w1.ls⟩, pw, _, _, rfl, rfl, w1.ls, hlast, ?_⟩
    rw [hdl]
    have k1 : Keep pw pn H1 (upd H1 pw (.lst er.reverse)) := Keep.put
    have w2 := w1.putL er.reverse
    have sb : Same H (upd H1 pw (.lst er.reverse)) := same_keep npw hpn sa k1
    have g1 := w1.seqT k1 g1
    have g2 := w1.seqT k1 g2
    have g3 := w1.tg k1 g3
    have hr0 := hr0.keep w1 k1
    generalize upd H1 pw (.lst er.reverse) = H2 at *
    refine ⟨t, _, rfl, g1, rfl, ?_⟩
    refine ⟨_, _, rfl, _, _, rfl, rfl, ?_⟩
    refine ⟨_, rfl, _, _, rfl, rfl, ?_⟩
    have hmany : V.int ((many : Int) + 1) = V.int ((many + 1 : Nat) : Int) := rfl
    unfold walk at hwk
    refine ⟨_, rfl, _, _, rfl, rfl, _, rfl, ite2 (fun c1 => ?_) (fun c1 => ⟨_, rfl, u, _, rfl, .inr g2, _, _, rfl, rfl, _, rfl, ite2 (fun c2 => ?_) (fun c2 => ⟨_, rfl, pw, pn, y, d1, rfl, g3, _, rfl, ?_⟩)⟩)⟩
    · have h1 : many ≥ 60 ∨ way.length > 9 := .inl (by
        have h : (60 : Int) < (many : Int) + 1 := of_decide_eq_true c1
        omega)
      rw [if_pos h1] at hwk
      exact ⟨_, rfl, (by show 1 ≤ 1000; decide), mk H2 u way sb g2 g4 g5 hwk.symm⟩
    · have h1 : many ≥ 60 ∨ way.length > 9 := .inr (by
        have := of_decide_eq_true c2
        have e : (wayV way).length = way.length := List.length_map ..
        rw [e] at this
        omega)
      rw [if_pos h1] at hwk
      exact ⟨_, rfl, (by show 1 ≤ 1000; decide), mk H2 u way sb g2 g4 g5 hwk.symm⟩
    have h1 : ¬ (many ≥ 60 ∨ way.length > 9) := by
      have a1 : ¬ (60 : Int) < (many : Int) + 1 := of_decide_eq_false (Bool.eq_false_iff.mpr c1)
      have a2 := of_decide_eq_false (Bool.eq_false_iff.mpr c2)
      have e : (wayV way).length = way.length := List.length_map ..
      rw [e] at a2
      omega
    rw [if_neg h1] at hwk
    cases hf : formD d1 with
    | none =>
      rw [hf] at hwk
      exact iteT ⟨_, rfl, (by show 1 ≤ 1000; decide), mk H2 u way sb g2 g4 g5 hwk.symm⟩
    | some op =>
    obtain ⟨o, ps⟩ := op
    rw [hf] at hwk
    dsimp only at hwk
    have hps := form_few hf
    refine iteF ⟨_, rfl, pw, pn, y, d1, o, ps, rfl, g3, hf, ?_⟩
    refine ⟨fun σ' H' => σ' = [some v, some (.ref pn), some (.int ((many + 1 : Nat) : Int)), some (.ref pw), some (.ref u), some y, some (nameV o), x7, x8] ∧ Two H' pw pn er.reverse (nmD (addN ns o)) ∧ Keep pw pn H2 H', ?_, ?_⟩
    · refine ⟨_, rfl, rfl, _, rfl, ?_⟩
      cases o with
      | none => exact iteF ⟨rfl, w2, Keep.refl⟩
      | some x =>
        refine iteT ⟨_, rfl, _, rfl, pn, _, rfl, DPut.k (k := .inr x) w2.ds (by rw [nmD_len]; exact Nat.lt_of_le_of_lt hn (by decide)), ?_⟩
        exact ⟨rfl, by rw [nmD_put]; exact w2.putD _, Keep.putl⟩
    rintro σ H3 ⟨rfl, w3, k3⟩
    have sc := same_keep npw hpn sb k3
    have g2 := w2.seqT k3 g2
    have g3 := w2.tg k3 g3
    have hr0 := hr0.keep w2 k3
    refine ⟨_, rfl, pn, _, rfl, w3.ds, _, _, rfl, rfl, _, rfl, ite2 (fun c3 => ?_) (fun c3 => ?_)⟩
    · have h2 : (addN ns o).length > 10 := by
        have := of_decide_eq_true c3
        rw [nmD_len] at this
        omega
      rw [if_pos h2] at hwk
      exact ⟨_, rfl, (by show 1 ≤ 1000; decide), mk H3 u way sc g2 g4 g5 hwk.symm⟩
    have h2 : ¬ (addN ns o).length > 10 := by
      have := of_decide_eq_false (Bool.eq_false_iff.mpr c3)
      rw [nmD_len] at this
      omega
    rw [if_neg h2] at hwk
    refine ⟨_, rfl, pw, pn, y, d1, o, ps, rfl, g3, hf, fun H4 pi xs e4 hpi hxs => ?_⟩
    have w4 := w3.same e4
    have k4 : Keep pw pn H3 H4 := Keep.of e4
    have sd := Same.trans sc e4
    have g2 := w3.seqT k4 g2
    have hr0 := hr0.keep w3 k4
    have hxl : xs.length = ps.length := hxs.len.symm
    refine ⟨_, rfl, pi, _, rfl, .inr hpi, _, rfl, by decide, by decide, by omega, by omega, ?_⟩
    have eN : ((xs.length : Int) - 0).toNat = ps.length := by omega
    rw [eN]
    refine for_rangeC (fun j σ' H' => ∃ (es' : List V) (x8' : Option V), σ' = [some v, some (.ref pn), some (.int ((many + 1 : Nat) : Int)), some (.ref pw), some (.ref u), some y, some (nameV o), some (.ref pi), x8'] ∧
      Two H' pw pn (es' ++ er).reverse (nmD (addN ns o)) ∧ Ents K pw pn H' es' ((kids way 0 ps).drop (ps.length - j)) ∧ Ents K pw pn H' er sr ∧ TgAll K pw pn H' xs ps ∧ SqT K H' pi xs ∧ SqT K H' u (wayV way) ∧ Same H H') ?_ ?_ ?_
    · refine ⟨[], x8, rfl, w4, ?_, hr0, hxs, hpi, g2, sd⟩
      rw [Nat.sub_zero, ← kids_length (way := way) (i := 0), List.drop_length]
      exact .nil
    · rintro j σ' H' hj ⟨es', x8', rfl, w5, a1, a2, a3, a4, a5, a6⟩
      obtain ⟨i, hi⟩ : ∃ i, ps.length - j = i + 1 := ⟨ps.length - j - 1, by omega⟩
      have ei : (0 : Int) + ((ps.length : Nat) : Int) - 1 + ((j : Nat) : Int) * -1 = ((i : Nat) : Int) := by omega
      rw [ei]
      obtain ⟨dp, hdp⟩ : ∃ dp, ps[i]? = some dp := ⟨_, List.getElem?_eq_getElem (by omega)⟩
      obtain ⟨xp, hxp, hxt⟩ := a3.get hdp
      have ewl : (wayV way).length = way.length := List.length_map ..
      refine ⟨_, rfl, .inl ⟨rfl, _, SqL.of w5.ls⟩, _, rfl, u, _, rfl, .inl a5, _, rfl, ?_, fun p1 hp1 => ?_⟩
      · rw [List.length_append, ewl]
        exact Nat.le_trans (by show _ ≤ 11; simp only [List.length_cons, List.length_nil]; omega) (by decide)
      have b1 : Keep pw pn H' (upd H' p1 (.tup (wayV way ++ [V.int (i : Nat)]))) := Keep.new hp1
      refine ⟨_, rfl, _, rfl, pi, xs, _, xp, rfl, rfl, Same.seqT (same_new hp1 _) a4, atI_nat (j := i) hxp, (by show 2 ≤ sizeLine; decide), fun p2 hp2 => ?_⟩
      have b2 := b1.trans (Keep.new hp2 (o := .tup [V.ref p1, xp]))
      have sx := Same.trans (same_new hp1 (.tup (wayV way ++ [V.int (i : Nat)]))) (same_new hp2 (.tup [V.ref p1, xp]))
      have z1 : upd (upd H' p1 (.tup (wayV way ++ [V.int (i : Nat)]))) p2 (.tup [V.ref p1, xp]) p2 = some (.tup [V.ref p1, xp]) := upd_same
      have z2 : upd (upd H' p1 (.tup (wayV way ++ [V.int (i : Nat)]))) p2 (.tup [V.ref p1, xp]) p1 = some (.tup (wayV way ++ [V.int (i : Nat)])) := s_at (same_new hp2 _) upd_same
      have w6 := w5.same sx
      have a1 := a1.keep w5 b2
      have a2 := a2.keep w5 b2
      have a3 := w5.tgs b2 a3
      have a4 := w5.seqT b2 a4
      have a5 := w5.seqT b2 a5
      have a6 := Same.trans a6 sx
      have hxt := w5.tg b2 hxt
      clear b1 b2 sx
      generalize upd (upd H' p1 (.tup (wayV way ++ [V.int (i : Nat)]))) p2 (.tup [V.ref p1, xp]) = H6 at *
      have lenE : es'.length ≤ 3 := by
        rw [a1.len, List.length_drop, kids_length]
        omega
      have lenR : er.length ≤ 121 := by
        rw [a2.len]
        simp only [List.length_cons] at hst
        omega
      refine ⟨pw, _, _, rfl, rfl, w6.ls, ?_, ?_⟩
      · rw [List.length_reverse, List.length_append]
        exact Nat.lt_of_le_of_lt (show _ ≤ 124 by omega) (by decide)
      have b3 : Keep pw pn H6 (upd H6 pw (.lst ((es' ++ er).reverse ++ [V.ref p2]))) := Keep.put
      have er2 : (es' ++ er).reverse ++ [V.ref p2] = ((V.ref p2 :: es') ++ er).reverse := by simp
      refine ⟨V.ref p2 :: es', _, rfl, ?_, ?_, a2.keep w6 b3, w6.tgs b3 a3, w6.seqT b3 a4, w6.seqT b3 a5, same_keep npw hpn a6 b3⟩
      · rw [← er2]
        exact w6.putL _
      · have e7 : ps.length - (j + 1) = i := by omega
        rw [e7, kids_drop hdp, ← hi]
        have ev : wayV (way ++ [i]) = wayV way ++ [V.int (i : Nat)] := by
          unfold wayV
          rw [List.map_append]
          rfl
        refine .cons ⟨p2, p1, xp, rfl, w6.seqT b3 (SqT.of z1), w6.seqT b3 (by rw [ev]; exact SqT.of z2), w6.tg b3 hxt, ?_, fun n hnn => ?_⟩ (a1.keep w6 b3)
        · rw [List.length_append, List.length_singleton]
          omega
        · rcases List.mem_append.mp hnn with q | q
          · exact g5 n q
          · rw [List.mem_singleton.mp q]
            omega
    · rintro σ' H' ⟨es', x8', rfl, w5, a1, a2, a3, a4, a5, a6⟩
      rw [Nat.sub_self, List.drop_zero] at a1
      refine ⟨addN ns o, kids way 0 ps ++ sr, es' ++ er, many + 1, _, _, _, _, _, rfl, w5, a1.app a2, a6, by omega, by omega, by omega, ?_, hwk⟩
      rw [List.length_append, kids_length]
      simp only [List.length_cons] at hst
      omega
end
end Kn

set_option Elab.async false
set_option linter.all false
set_option maxRecDepth 100000
set_option maxHeartbeats 4000000
set_option pp.maxSteps 1200
namespace PySem
/-! ### list.extend of a tuple of any kind -/
open AutoSeq1 in
theorem kn_extend (l : Addr) (items : Array Value) (n : Nat) (b : Addr) (items2 : Array Value) (n2 : Nat) (dc : Option Addr) (sl : Array (Option Value)) (hs0 : ¬(!items.isEmpty && Builtin.List.listTooLong (items.size + items2.size)) = true) (hs1 : items.size ≤ sizeLine) (hs2 : items.size + items2.size ≤ sizeLine + 1) :
    Meets (Builtin.«list.extend» ⟨[.ref l, .ref b], []⟩) (fun _ R s => (s.heap.get? l = some { cls := .type "list", dict := none, data := .seq items n, slots := #[] } ∧ s.heap.get? b = some { cls := .type "tuple", dict := dc, data := .seq items2 n2, slots := sl }) ∧ R (.ok (.ret Value.none)) { s with heap := s.heap.update l (Obj.mapSeq fun x => x ++ items2), toks := s.toks }) := .of_wp fun prog w A R s h => by
    obtain ⟨hp, g, d, tk, os⟩ := s
    obtain ⟨⟨hl, hb⟩, h⟩ := h
    have f1 := idx_int
    have f2 := sub_tuple_tuple; have f3 := sub_list_list; have f4 := sub_tuple_list
    have f5 := sub_list_tuple
    have hz' : (items ++ items2).size ≤ sizeLine + 1 := by
      rw [Array.size_append]
      exact hs2
    wp_walk using (wpAny_updateSeq hl rfl (hz := hs1) (_hz' := hz')), wpAny_loadPart' hl, wpAny_loadPart' hb
    exact ⟨_, rfl, h⟩
end PySem
namespace PySem
open PyProof.Rows L2
section
variable {prog : Program} {w : World} {A : Around} {E : Value → Shared → Prop} {s : Shared}
/-! ### t[::-1] of a tuple -/
theorem kn_adj (n : Nat) : Builtin.Slice.sliceAdjust none none (-1) (n : Int) = ((n : Int) - 1, -1) := rfl
theorem kn_plc (n : Nat) : Builtin.Slice.slicePlaces ((n : Int) - 1) (-1) (-1) = n := by
  unfold Builtin.Slice.slicePlaces
  rw [if_neg (show ¬ ((-1 : Int) > 0) by decide)]
  by_cases h : n = 0
  · subst h
    rfl
  · rw [if_pos (show (n : Int) - 1 > -1 by omega)]
    have : ((n : Int) - 1 - -1 - 1) / - -1 + 1 = (n : Int) := by
      show ((n : Int) - 1 - -1 - 1) / 1 + 1 = n
      rw [Int.ediv_one]
      omega
    rw [this]
    exact Int.toNat_natCast n
theorem kn_pick (xs : Array Value) : ((List.range xs.size).filterMap fun (m : Nat) => xs[(((xs.size : Int) - 1) + (m : Int) * -1).toNat]?).toArray = xs.toList.reverse.toArray := by
  congr 1
  apply List.ext_getElem?
  intro i
  have e : (List.range xs.size).filterMap (fun (m : Nat) => xs[(((xs.size : Int) - 1) + (m : Int) * -1).toNat]?) = (List.range xs.size).map fun m => xs.toList.reverse[m]?.getD .none := by
    have key : ∀ l : List Nat, (∀ m ∈ l, m < xs.size) → l.filterMap (fun (m : Nat) => xs[(((xs.size : Int) - 1) + (m : Int) * -1).toNat]?) = l.map fun m => xs.toList.reverse[m]?.getD .none := by
      intro l
      induction l with
      | nil => exact fun _ => rfl
      | cons m r ih =>
        intro hm
        have h1 := hm m List.mem_cons_self
        have e1 : (((xs.size : Int) - 1) + (m : Int) * -1).toNat = xs.size - 1 - m := by omega
        have e2 : xs[xs.size - 1 - m]? = some (xs.toList.reverse[m]?.getD .none) := by
          rw [List.getElem?_reverse (by rw [Array.length_toList]; exact h1), Array.length_toList, Array.getElem?_toList]
          rw [Array.getElem?_eq_getElem (by omega)]
          rfl
        rw [List.filterMap_cons, e1, e2, List.map_cons, ih fun z hz => hm z (List.mem_cons_of_mem _ hz)]
    exact key _ fun m hm => List.mem_range.mp hm
  rw [e, List.getElem?_map]
  by_cases hi : i < xs.size
  · rw [List.getElem?_range hi]
    have : i < xs.toList.reverse.length := by
      rw [List.length_reverse, Array.length_toList]
      exact hi
    rw [List.getElem?_eq_getElem this]
    simp [List.getElem?_eq_getElem this]
  · rw [List.getElem?_eq_none (by rw [List.length_range]; omega), List.getElem?_eq_none (by rw [List.length_reverse, Array.length_toList]; omega)]
    rfl
theorem kn_applied {sl : Addr} {vs : Value} {n : Nat} {Q : Int × Int × Nat → Shared → Prop} (hs : s.heap.IsSliceOf sl .none .none vs) (ps : IsPart vs (some (-1)))
    (h : Q ((n : Int) - 1, -1, n) s) : wpAny (model prog w) A (Builtin.Slice.sliceApplied (.ref sl) (pure (n : Int))) Q E s := by
  obtain ⟨os, hos, _, hds⟩ := id hs
  unfold Builtin.Slice.sliceApplied Builtin.Slice.sliceFields
  refine wpAny_bind (wpAny_bind (wpAny_field hos hds (x := .none) rfl (wpAny_bind (wpAny_field hos hds (x := .none) rfl (wpAny_bind (wpAny_field hos hds (x := vs) rfl (wpAny_pure ?_)))))))
  refine wpAny_bind (HT.slicePart_ ps ?_)
  show wpAny _ _ (if ((-1 : Int) == 0) = true then _ else _) _ _ s
  rw [if_neg (by decide)]
  refine wpAny_bind (slicePart_none (wpAny_bind (slicePart_none (wpAny_bind (wpAny_pure ?_)))))
  show wpAny _ _ (match Builtin.Slice.sliceAdjust none none (-1) (n : Int) with | (lo, hi) => pure (lo, (-1 : Int), Builtin.Slice.slicePlaces lo hi (-1))) _ _ s
  rw [kn_adj]
  show wpAny _ _ (pure ((n : Int) - 1, (-1 : Int), Builtin.Slice.slicePlaces ((n : Int) - 1) (-1) (-1))) _ _ s
  rw [kn_plc]
  exact wpAny_pure h
theorem kn_getRev {t sl : Addr} {items : Array Value} {vs : Value} {Q : Value → Shared → Prop} (ht : IsTup s.heap t items) (hs : s.heap.IsSliceOf sl .none .none vs) (ps : IsPart vs (some (-1)))
    (h : Q (.ref s.heap.objs.size) { s with heap := s.heap.push { cls := .type "tuple", data := .seq items.toList.reverse.toArray } })
    (hz : items.size ≤ sizeLine) : wpAny (model prog w) A (getItem (.ref t) (.ref sl)) Q E s := by
  have hk : sizeOk (.seq items.toList.reverse.toArray) := by
    show items.toList.reverse.toArray.size ≤ sizeLine
    rw [List.size_toArray, List.length_reverse, Array.length_toList]
    exact hz
  obtain ⟨os, hos, hcs, _⟩ := id hs
  have hT2 : s.TypeIs (.ref sl) "slice" := ⟨os, hos, hcs⟩
  unfold getItem
  try with_reducible refine wpAny_holding ?_
  refine wpAny_bind (wpAny_sequenceKey ht.typeIs (by decide) ?_)
  refine wpAny_bind (wpAny_callSpecial?_slot (name := Str.ofString "__getitem__") ht.typeIs PyProof.Rows.slot_tuple_getitem
    (wpAny_call_entry PyProof.Rows.slot_tuple_getitem ht.typeIs PyProof.Rows.entry_tuple_getitem ?_ (PyProof.Rows.args_tuple_getitem _ _)))
  show wpAny _ _ (Builtin.Tuple.tupleItemsOf (.ref t) >>= _) _ _ s
  refine wpAny_bind (tupleItemsOf_ ht (wpAny_bind (wpAny_typeOf hT2 ?_)))
  rw [if_pos (by decide)]
  refine wpAny_bind (kn_applied hs ps ?_)
  have hno : ¬ ((((items.size : Int) - 1) == 0 && (-1 : Int) == 1 && items.size == items.size) = true) := by
    intro q
    rw [Bool.and_eq_true, Bool.and_eq_true] at q
    exact absurd q.1.2 (by decide)
  show wpAny _ _ (if (((items.size : Int) - 1) == 0 && (-1 : Int) == 1 && items.size == items.size) = true then _ else _) _ _ s
  rw [if_neg hno, kn_pick]
  first
    | exact wpAny_bind (m := Builtin.Tuple.tupleExact _) (wpAny_newObj_type (wpAny_pure ⟨_, rfl, wpAny_pure h⟩) hk)
    | exact wpAny_bind (m := Builtin.Tuple.tupleExact _) (wpAny_newObj_type (wpAny_bind (wpAny_pure (wpAny_pure ⟨_, rfl, wpAny_pure h⟩))) hk)
    | exact wpAny_bind (wpAny_bind (m := Builtin.Tuple.tupleExact _) (wpAny_newObj_type (wpAny_pure (wpAny_pure ⟨_, rfl, wpAny_pure h⟩)) hk))
    | exact wpAny_bind (wpAny_bind (m := Builtin.Tuple.tupleExact _) (wpAny_newObj_type (wpAny_pure ⟨_, rfl, wpAny_pure h⟩) hk))
end
end PySem
namespace Kn
open PySem L2 TL PySem.Spec PyProof.Rows
def tRevT (K : PySem.W.Frag) (te : TE) : TE := fun σ H Q => te σ H fun x H1 => ∃ a xs, x = .ref a ∧ SqT K H1 a xs ∧ ∀ p, H1 p = none → Q (.ref p) (upd H1 p (.tup xs.reverse))
def rExtT (K : PySem.W.Frag) : V → List V → Hp → VK → Prop := fun x vs H Q => ∃ l b xs zs, x = .ref l ∧ vs = [.ref b] ∧ H l = some (.lst xs) ∧ SqT K H b zs ∧ xs.length + zs.length ≤ 1000 ∧ Q .non (upd H l (.lst (xs ++ zs)))
section
variable {X : Cx}
theorem pe_revT {e : Expr} {te : TE} {k : Nat} {p1 p2 p3 pos : Pos} (he : PE X e te) : PE X (.Subscript e (.Slice none none (some (.UnaryOp .USub (.Constant (.int 1) k p1) p2)) p3) pos) (tRevT X.K te) := by
  refine ⟨fun pins s σ H Q I h => ?_⟩
  refine Subscript_ (thn (he.run pins s σ H _ I h) fun v s1 ⟨x, H1, I1, r1, a, xs, ex, hx, q⟩ => ?_)
  subst ex
  cases r1
  have hst : PO X (some (.UnaryOp .USub (.Constant (.int 1) k p1) p2)) (tPart (tUn (rU fun i => .int (-i)) (tC (.int 1)))) := po_some (pe_un un_neg pe_int)
  refine wpAny_Slice (thn (po_none.run pins s1 σ H1 (fun o H2 => o = none ∧ H2 = H1) I1 ⟨rfl, rfl⟩) fun vl s2 ⟨l, H2, I2, pl, el, e2⟩ => ?_)
  subst el e2
  refine thn (po_none.run pins s2 σ H2 (fun o H3 => o = none ∧ H3 = H2) I2 ⟨rfl, rfl⟩) fun vu s3 ⟨u, H3, I3, pu, eu, e3⟩ => ?_
  subst eu e3
  refine thn (hst.run pins s3 σ H3 (fun o H4 => o = some (-1) ∧ H4 = H3) I3 ⟨1, rfl, -1, rfl, rfl, rfl⟩) fun vs s4 ⟨o, H4, I4, ps, eo, e4⟩ => ?_
  subst eo e4
  cases pl
  cases pu
  have I5 : Inv X pins σ H4 { s4 with heap := s4.heap.push { cls := .type "slice", data := .fields #[.none, .none, vs] } } := I4.kept (t' := s4.toks) fun b ob q => Heap.get?_push_of_some _ q
  obtain ⟨its, r, ht, hz⟩ := I5.tuple hx
  have hlen : its.length = xs.length := r.length.symm
  show wpAny (model X.prog X.w) X.A (subscriptTail e (.Slice none none (some (.UnaryOp .USub (.Constant (.int 1) k p1) p2)) p3) (.ref a) (.ref s4.heap.objs.size)) (EP X pins σ Q) X.xe { s4 with heap := s4.heap.push { cls := .type "slice", data := .fields #[.none, .none, vs] } }
  refine tail_any (ops := [.ref a, .ref s4.heap.objs.size]) ht.typeIs PyProof.Rows.slot_tuple_getitem.lookup ?_ (by with_unfolding_all rfl)
  refine kn_getRev ht (Heap.IsSliceOf.new _ .none .none vs) ps ?_ (by rw [List.size_toArray]; omega)
  refine ⟨.ref _, _, I5.laid (t' := s4.toks) (o := .tup xs.reverse) (fun b ob q => Heap.get?_push_of_some _ q) (Nat.le_refl _) ?_, rfl, q _ (I5.hok.fresh (Nat.le_refl _))⟩
  exact ⟨by rw [List.length_reverse]; exact hz, _, r.reverse, IsTup.new _ _⟩
theorem mt_extT : MtM X "list.extend" (rExtT X.K) := by
  intro pins s σ H x vs v us Q I rx rv h
  obtain ⟨l, b, xs, zs, rfl, rfl, hH, hB, hz, q⟩ := h
  cases rx
  obtain ⟨u, rfl, ru⟩ := rv.one
  cases ru
  obtain ⟨z, its, n, r, hl, e⟩ := I.lstM hH
  obtain ⟨its2, r2, ⟨ob, hob, hcl, n2, hda⟩, _⟩ := I.tuple hB
  obtain ⟨cls, dc, data, sl⟩ := ob
  dsimp only at hcl hda
  subst hcl hda
  have z1 : sizeLine = 16777216 := sizeLine_eq
  have l1 : its.toArray.size = xs.length := by rw [List.size_toArray]; exact r.length.symm
  have l2 : its2.toArray.size = zs.length := by rw [List.size_toArray]; exact r2.length.symm
  have hlong : ¬ (!its.toArray.isEmpty && Builtin.List.listTooLong (its.toArray.size + its2.toArray.size)) = true := by
    rw [notLongL (by omega), Bool.and_false]
    exact Bool.false_ne_true
  refine call_meets F.slot_list_extend ⟨_, e, rfl⟩ F.entry_list_extend (F.args_list_extend_2 _ _) (kn_extend l its.toArray n b its2.toArray n2 dc sl hlong (by omega) (by omega)) ⟨⟨e, hob⟩, ?_⟩
  refine ⟨.non, _, I.lset (its' := its ++ its2) hH e (by simp) (r.append r2) ?_, rfl, q⟩
  rw [List.length_append]
  omega
end
end Kn

set_option Elab.async false
set_option linter.all false
set_option maxRecDepth 100000
set_option maxHeartbeats 4000000
set_option pp.maxSteps 1200
namespace Kn
open PySem L2 TL PySem.Spec PyProof.Rows
section
variable {X : Cx} {E : XK}
/-- x(e, ..), a def that may refuse, told on -/
theorem pe_defX {x : Str} {k : Nat} {ps : List Str} {sp : Sp} {e : Expr} {es : List Expr} {t : TA} {p pos : Pos} (D : Def X.prog X.w X.K X.mg X.base (L2.CX X.prog X.w) x k ps sp) (hr : Room k X.A) (hg : Gl X x) (tk : Takes X fun cls d _ H => E cls d H) (ha : PA X (e :: es) t)
    (hdb : (x == ("__debug__" : Str)) = false := by decide) (h1 : starEach (e :: es) X.env = (false, eval e X.env) :: starEach es X.env := by rfl) (h2 : (backTo pos (starEach es X.env)).any (·.1) = false := by rfl) :
    PE X (.Call (.Name x p) (e :: es) [] pos) (tCall sp [] E t) := by
  obtain ⟨f, fd, m, kp, b, ok⟩ := D.ex
  exact pe_call ok hr hg m kp b .nil (passes_call tk (fun _ _ _ _ h => h)) ha hdb h1 h2
end
/-! ### names_in -/
def spNamesIn (K : PySem.W.Frag) (C : Addr) : Sp := fun vs H Q E => ∃ (s l : Addr) (v : V) (d : PyData), vs = [v] ∧ Tg K s l H v d ∧
  (placeD d = none → ∀ (H' : Hp) (p : Addr), Same H H' → H' p = some (.lst ((namesD d).map V.str)) → Q (.ref p) H') ∧
  ∀ way, placeD d = some way → ∀ (H' : Hp) (dx p : Addr), Same H H' → H dx = none → H' dx = some (.xd [("place", .ref p)]) → SqT K H' p (wayV way) → way.length ≤ 10 → (∀ n ∈ way, n < 16) → E (.ref C) (some dx) H'
theorem good_some {n : Nat} {d : PyData} (h : goodH n d = true) : ∃ k o ps, n = k + 1 ∧ formD d = some (o, ps) ∧ (∀ p ∈ ps, goodH k p = true) ∧ cnt n d = 1 + (ps.map (cnt k)).sum := by
  cases n with
  | zero => cases h
  | succ k =>
    unfold goodH at h
    cases hf : formD d with
    | none =>
      rw [hf] at h
      cases h
    | some op =>
      obtain ⟨o, ps⟩ := op
      rw [hf] at h
      refine ⟨k, o, ps, rfl, rfl, List.all_eq_true.mp h, ?_⟩
      unfold cnt
      rw [hf]
def scnt (st : List (Nat × PyData)) : Nat := (st.map fun e => cnt e.1 e.2).sum
theorem scnt_app (k : Nat) (ps : List PyData) (st : List (Nat × PyData)) : scnt ((ps.map fun p => (k, p)) ++ st) = (ps.map (cnt k)).sum + scnt st := by
  unfold scnt
  rw [List.map_append, List.sum_append, List.map_map]
  rfl
theorem snds (k : Nat) (ps : List PyData) (st : List (Nat × PyData)) : ((ps.map fun p => (k, p)) ++ st).map (·.2) = ps ++ st.map (·.2) := by
  rw [List.map_append, List.map_map]
  congr 1
  have : ((fun e : Nat × PyData => e.2) ∘ fun p => (k, p)) = id := rfl
  rw [this, List.map_id]
theorem TgAll.app {K : PySem.W.Frag} {s l : Addr} {H : Hp} : ∀ {a b : List V} {x y : List PyData}, TgAll K s l H a x → TgAll K s l H b y → TgAll K s l H (a ++ b) (x ++ y)
  | _, _, _, _, .nil, h => h
  | _, _, _, _, .cons a b, h => .cons a (TgAll.app b h)
def nmOf (d : PyData) : Option Str := match formD d with
  | some (o, _) => o
  | none => none
/-- the parts as they are met -/
def walkP : Nat → List PyData → List PyData
  | 0, _ => []
  | _ + 1, [] => []
  | f + 1, d :: st => match formD d with
    | none => []
    | some (_, ps) => d :: walkP f (ps ++ st)
def partsD (d : PyData) : List PyData := walkP 61 [d]
theorem walkP_names : ∀ (f : Nat) (ns : List Str) (st : List PyData), (walkP f st).foldl (fun ns d => addN ns (nmOf d)) ns = walkN f ns st
  | 0, _, _ => rfl
  | _ + 1, _, [] => rfl
  | f + 1, ns, d :: st => by
    unfold walkP walkN
    cases hf : formD d with
    | none => rfl
    | some op =>
      obtain ⟨o, ps⟩ := op
      have e : nmOf d = o := by
        unfold nmOf
        rw [hf]
      simp only [List.foldl_cons, e]
      exact walkP_names f (addN ns o) (ps ++ st)
theorem walkP_len : ∀ (f : Nat) (st : List PyData), (walkP f st).length ≤ f
  | 0, _ => Nat.le_refl _
  | _ + 1, [] => Nat.zero_le _
  | f + 1, d :: st => by
    unfold walkP
    cases hf : formD d with
    | none => exact Nat.zero_le _
    | some op => exact Nat.succ_le_succ (walkP_len f _)
theorem walkP_form : ∀ (f : Nat) (st : List PyData), ∀ d ∈ walkP f st, ∃ o ps, formD d = some (o, ps)
  | 0, _, _, h => by cases h
  | _ + 1, [], _, h => by cases h
  | f + 1, d :: st, x, h => by
    unfold walkP at h
    cases hf : formD d with
    | none =>
      rw [hf] at h
      cases h
    | some op =>
      obtain ⟨o, ps⟩ := op
      rw [hf] at h
      rcases List.mem_cons.mp h with rfl | h
      · exact ⟨o, ps, hf⟩
      · exact walkP_form f _ x h
theorem pureAll_of : ∀ {ds : List PyData}, (∀ d ∈ ds, pureD d = true) → pureAll ds = true
  | [], _ => rfl
  | d :: r, h => by
    simp only [pureAll, h d List.mem_cons_self, pureAll_of fun x hx => h x (List.mem_cons_of_mem _ hx), Bool.and_self]
theorem good_pure {n : Nat} {d : PyData} (h : goodH n d = true) : pureD d = true := (good_show n d h).1
theorem TgAll.atS {K : PySem.W.Frag} {s l : Addr} {H : Hp} : ∀ {j : Nat} {xs : List V} {ds : List PyData} {x : V}, TgAll K s l H xs ds → xs[j]? = some x → ∃ d, ds[j]? = some d ∧ Tg K s l H x d
  | _, _, _, _, .nil, h => by simp at h
  | 0, _, _, x', .cons a b, h => ⟨_, rfl, by
      have e := Option.some.inj h
      rw [← e]
      exact a⟩
  | j + 1, _, _, _, .cons a b, h => TgAll.atS (j := j) b h
theorem seqT_putL {K : PySem.W.Frag} {H : Hp} {D a : Addr} {xs ys zs : List V} (hD : H D = some (.lst ys)) (h : SqT K H a xs) : SqT K (upd H D (.lst zs)) a xs := by
  rcases h with (h | ⟨o, h⟩) | h
  · exact .inl (.inl (by rw [upd_ne (ne_of h hD (by intro z; cases z))]; exact h))
  · exact .inl (.inr ⟨o, by rw [upd_ne (ne_of h hD (by intro z; cases z))]; exact h⟩)
  · exact .inr h
theorem same_putL {H0 H : Hp} {D : Addr} {zs : List V} (n : H0 D = none) (e : Same H0 H) : Same H0 (upd H D (.lst zs)) := fun b o u => by
  rw [upd_ne (ne_of_none u n)]
  exact e b o u
/-! ### parts_met -/
abbrev sPartsMet : Stmt := top 21
def spPartsMet (K : PySem.W.Frag) (C : Addr) : Sp := fun vs H Q E => ∃ (s l : Addr) (v : V) (d : PyData), vs = [v] ∧ Tg K s l H v d ∧
  (placeD d = none → ∀ (H' : Hp) (p : Addr) (es : List V), Same H H' → H' p = some (.lst es) → TgAll K s l H' es (partsD d) → Q (.ref p) H') ∧
  ∀ way, placeD d = some way → ∀ (H' : Hp) (dx p : Addr), Same H H' → H dx = none → H' dx = some (.xd [("place", .ref p)]) → SqT K H' p (wayV way) → way.length ≤ 10 → (∀ n ∈ way, n < 16) → E (.ref C) (some dx) H'
def WPm (K : PySem.W.Frag) (s l : Addr) (H0 : Hp) (pm pw : Addr) (v : V) (d0 : PyData) (m : Nat) (σ : L2.St) (H : Hp) : Prop := ∃ (st : List (Nat × PyData)) (es gs : List V) (pds : List PyData) (x3 : Option V),
  σ = [some v, some (.ref pm), some (.ref pw), x3] ∧ pm ≠ pw ∧ H pw = some (.lst es.reverse) ∧ H pm = some (.lst gs) ∧ TgAll K s l H es (st.map (·.2)) ∧ TgAll K s l H gs pds ∧ Same H0 H ∧ gs.length + m ≤ 61 ∧ st.length + 2 * m ≤ 123 ∧ scnt st ≤ m ∧ (∀ e ∈ st, goodH e.1 e.2 = true) ∧ (∀ p ∈ pds, pureD p = true) ∧ pds ++ walkP m (st.map (·.2)) = partsD d0
abbrev nPM : List Str := ["formula", "met", "waiting", "part"]
section
variable {P : Program} {w : World} {K : PySem.W.Frag} {mg : Str → Option Value} {base : Heap}
theorem scPartsMet : FnScope nPM ["formula"] (defScope sPartsMet) := ⟨rfl, rfl, rfl, by decide +kernel, rfl, by decide +kernel, by decide +kernel⟩
theorem ok_partsmet {f C : Addr} {fd : FuncData} (F : Fun K "parts_met" "parts_met" sPartsMet f fd) (ND : Def P w K mg base (L2.CX P w) "need_formula" 3 ["thing"] (spNeed K C))
    (PO : Def P w K mg base CX0 "parts_of" 1 ["part"] (spPartsOf K)) :
    FnOk P w K mg base (L2.CX P w) 4 f fd ["formula"] (spPartsMet K C) := by
  refine F.okX scPartsMet (fun vs H Q E h => ?_) (fun cdv A outer s H vs Q E hr h => ?_)
  · obtain ⟨s, l, v, d, rfl, _⟩ := h
    rfl
  obtain ⟨s0, l0, v, d0, rfl, hv, qn, qe⟩ := h
  have hr1 : Room 1 _ := hr.mono (by omega)
  refine ⟨_, pss_cons (ps_set (i := 1) scPartsMet.nd rfl (Or.inl rfl) (pe_lst pa_nil))
    (pss_cons (ps_set (i := 2) scPartsMet.nd rfl (Or.inl rfl) (pe_lst (pa_cons (pe_defX ND hr rfl (takes_of rfl rfl rfl rfl) (pa_cons (pv 0) pa_nil)) pa_nil)))
    (pss_cons (ps_while (passes_of rfl) (pt_truth (pv 2) (fun _ => rfl))
      (pss_cons (ps_set (i := 3) scPartsMet.nd rfl (Or.inl rfl) (pe_bm0 PySem.F.plainAttrs_list PySem.F.slot_list_pop PySem.F.type_list_pop mt_pop (pv 2)))
      (pss_cons (ps_expr (pe_bm PySem.F.plainAttrs_list PySem.F.slot_list_append PySem.F.type_list_append mt_append (pv 1) (pa_cons (pv 3) pa_nil)))
      (pss_one (ps_expr (pe_bm PySem.F.plainAttrs_list PySem.F.slot_list_extend PySem.F.type_list_extend mt_extT (pv 2) (pa_cons (pe_revT (pe_def PO hr1 rfl (pa_cons (pv 3) pa_nil))) pa_nil)))))))
    (pss_one (ps_ret (pv 1))))), ?_⟩
  refine ⟨Nat.zero_le _, fun pm hpm => ⟨_, rfl, s0, l0, v, d0, rfl, hv.same (same_new hpm _), fun hnone H2 e2 => ?_, fun way hw H2 dx p e2 h1 h2 h3 h4 h5 => ?_⟩⟩
  rotate_left
  · exact qe way hw H2 dx p (Same.trans (same_new hpm _) e2) (none_back (same_new hpm _) h1) h2 h3 h4 h5
  refine ⟨(by show 1 ≤ sizeLine; decide), fun pw hpw => ?_⟩
  obtain ⟨hg, hc⟩ := place_good hnone
  have s1 : Same H (upd H pm (.lst [])) := same_new hpm _
  have s2 := Same.trans s1 e2
  have npw : H pw = none := none_back s2 hpw
  refine ⟨WPm K s0 l0 H pm pw v d0, ⟨61, ?_⟩, fun m σ H1 hW => ?_⟩
  · refine ⟨[(10, d0)], [v], [], [], _, rfl, fun z => ?_, upd_same, s_at (Same.trans e2 (same_new hpw _)) upd_same, .cons (hv.same (Same.trans s2 (same_new hpw (.lst [v])))) .nil, .nil, Same.trans s2 (same_new hpw _), Nat.le_refl _, Nat.le_refl _, ?_, fun e he => ?_, fun p hp => (nomatch hp), rfl⟩
    · rw [← z, s_at e2 upd_same] at hpw
      cases hpw
    · show cnt 10 d0 + 0 ≤ 61
      omega
    · rw [List.mem_singleton.mp he]
      exact hg
  obtain ⟨st, es, gs, pds, x3, rfl, ne, hw, hm, ent, met, sa, hn, hst, hsc, hgd, hpu, hwk⟩ := hW
  refine ⟨_, rfl, _, .inl ⟨_, SqL.of hw, rfl⟩, ?_⟩
  cases st with
  | nil =>
    cases ent
    refine iteF ⟨_, rfl, ?_⟩
    have e1 : walkP m ([] : List PyData) = [] := by
      cases m <;> rfl
    have e2 : pds = partsD d0 := by
      rw [← hwk, List.map_nil, e1, List.append_nil]
    exact qn hnone _ pm gs sa hm (e2 ▸ met)
  | cons e0 sr =>
    obtain ⟨n, d1⟩ := e0
    obtain ⟨k, o, ps, rfl, hf, hgp, hcn⟩ := good_some (n := n) (d := d1) (hgd (n, d1) List.mem_cons_self)
    have hps := form_few hf
    have hs1 : scnt ((k + 1, d1) :: sr) = cnt (k + 1) d1 + scnt sr := by
      unfold scnt
      rw [List.map_cons, List.sum_cons]
    obtain ⟨m, rfl⟩ : ∃ j, m = j + 1 := ⟨m - 1, by omega⟩
    have hd1 : pureD d1 = true := good_pure (hgd (k + 1, d1) List.mem_cons_self)
    have hsr : pureAll (sr.map (·.2)) = true := pureAll_of fun x hx => by
      obtain ⟨e, he, rfl⟩ := List.mem_map.mp hx
      exact good_pure (hgd e (List.mem_cons_of_mem _ he))
    have hpa := pureAll_of hpu
    cases ent with
    | @cons y er _ _ g3 hr0 =>
    have hne : (!(y :: er).reverse.isEmpty) = true := by simp
    rw [hne]
    refine iteT ⟨fun σ' H' => WPm K s0 l0 H pm pw v d0 m σ' H', fun _ _ h => ⟨m, Nat.lt_succ_self m, h⟩, ?_⟩
    have hlast : (y :: er).reverse[(y :: er).reverse.length - 1]? = some y := by simp
    have hdl : (y :: er).reverse.dropLast = er.reverse := by simp
    refine ⟨_, rfl, .inl ⟨rfl, _, SqL.of hw⟩, pw, _, _, rfl, rfl, hw, hlast, ?_⟩
    rw [hdl]
    have g3 := g3.pmono (s' := s0) (l' := l0) (fun _ _ q => seqT_putL (zs := er.reverse) hw q) hd1
    have hr0 := hr0.pmono (s' := s0) (l' := l0) (fun _ _ q => seqT_putL (zs := er.reverse) hw q) hsr
    have met := met.pmono (s' := s0) (l' := l0) (fun _ _ q => seqT_putL (zs := er.reverse) hw q) hpa
    have hm : (upd H1 pw (.lst er.reverse)) pm = some (.lst gs) := by rw [upd_ne ne]; exact hm
    have hw : (upd H1 pw (.lst er.reverse)) pw = some (.lst er.reverse) := upd_same
    have sa := same_putL (zs := er.reverse) npw sa
    generalize upd H1 pw (.lst er.reverse) = H2 at *
    have hwk : pds ++ walkP (m + 1) (d1 :: sr.map (·.2)) = partsD d0 := hwk
    unfold walkP at hwk
    rw [hf] at hwk
    dsimp only at hwk
    have hgl : gs.length < sizeLine := Nat.lt_of_le_of_lt (show _ ≤ 61 by omega) (by decide)
    refine ⟨_, rfl, .inl ⟨rfl, _, SqL.of hm⟩, _, rfl, pm, _, _, rfl, rfl, hm, hgl, ?_⟩
    have g3 := g3.pmono (s' := s0) (l' := l0) (fun _ _ q => seqT_putL (zs := gs ++ [y]) hm q) hd1
    have hr0 := hr0.pmono (s' := s0) (l' := l0) (fun _ _ q => seqT_putL (zs := gs ++ [y]) hm q) hsr
    have met := (met.pmono (s' := s0) (l' := l0) (fun _ _ q => seqT_putL (zs := gs ++ [y]) hm q) hpa).app (.cons g3 .nil)
    have hw : (upd H2 pm (.lst (gs ++ [y]))) pw = some (.lst er.reverse) := by rw [upd_ne ne.symm]; exact hw
    have hm : (upd H2 pm (.lst (gs ++ [y]))) pm = some (.lst (gs ++ [y])) := upd_same
    have sa := same_putL (zs := gs ++ [y]) hpm sa
    generalize upd H2 pm (.lst (gs ++ [y])) = H3 at *
    refine ⟨_, rfl, .inl ⟨rfl, _, SqL.of hw⟩, _, rfl, s0, l0, y, d1, o, ps, rfl, g3, hf, fun H4 pi xs e4 hpi hxs => ⟨pi, xs, rfl, hpi, fun p1 hp1 => ?_⟩⟩
    have sx := Same.trans e4 (same_new hp1 (.tup xs.reverse))
    have z1 : upd H4 p1 (.tup xs.reverse) p1 = some (.tup xs.reverse) := upd_same
    have hr0 := hr0.same sx
    have met := met.same sx
    have hw := sx _ _ hw
    have hm := sx _ _ hm
    have hxs := hxs.same (same_new hp1 (.tup xs.reverse))
    have sd := Same.trans sa sx
    clear sx
    generalize upd H4 p1 (.tup xs.reverse) = H6 at *
    have hxl : ps.length = xs.length := hxs.len
    have hel : (sr.map fun e : Nat × PyData => e.2).length = er.length := hr0.len
    rw [List.length_map] at hel
    simp only [List.length_cons] at hst
    refine ⟨pw, p1, _, _, rfl, rfl, hw, SqT.of z1, ?_, ?_⟩
    · rw [List.length_reverse, List.length_reverse]
      omega
    have er2 : er.reverse ++ xs.reverse = (xs ++ er).reverse := by simp
    rw [er2]
    have hpp : pureAll ps = true := pureAll_of fun x hx => good_pure (hgp x hx)
    have hpds : ∀ p ∈ pds ++ [d1], pureD p = true := fun p hp => by
      rcases List.mem_append.mp hp with hp | hp
      · exact hpu p hp
      · rw [List.mem_singleton.mp hp]
        exact hd1
    refine ⟨(ps.map fun p => (k, p)) ++ sr, xs ++ er, gs ++ [y], pds ++ [d1], _, rfl, ne, upd_same, by rw [upd_ne ne]; exact hm, ?_, met.pmono (fun _ _ q => seqT_putL hw q) (pureAll_of hpds), same_putL npw sd, ?_, ?_, ?_, fun e he => ?_, hpds, ?_⟩
    · rw [snds]
      exact (hxs.pmono (s' := s0) (l' := l0) (fun _ _ q => seqT_putL hw q) hpp).app (hr0.pmono (fun _ _ q => seqT_putL hw q) hsr)
    · rw [List.length_append, List.length_singleton]
      omega
    · rw [List.length_append, List.length_map]
      omega
    · rw [scnt_app]
      omega
    · rcases List.mem_append.mp he with he | he
      · obtain ⟨p, hp, rfl⟩ := List.mem_map.mp he
        exact hgp p hp
      · exact hgd e (List.mem_cons_of_mem _ he)
    · rw [snds, List.append_assoc]
      exact hwk
end
abbrev nNI : List Str := ["formula", "names", "part", "name"]
section
variable {P : Program} {w : World} {K : PySem.W.Frag} {mg : Str → Option Value} {base : Heap}
theorem scNamesIn : FnScope nNI ["formula"] (defScope sNamesIn) := ⟨rfl, rfl, rfl, by decide +kernel, rfl, by decide +kernel, by decide +kernel⟩
theorem ok_namesin {f C : Addr} {fd : FuncData} (F : Fun K "names_in" "names_in" sNamesIn f fd) (PM : Def P w K mg base (L2.CX P w) "parts_met" 4 ["formula"] (spPartsMet K C))
    (NI : Def P w K mg base CX0 "name_in" 1 ["part"] (spNameIn K)) (mL : mg "list" = none) :
    FnOk P w K mg base (L2.CX P w) 5 f fd ["formula"] (spNamesIn K C) := by
  refine F.okX scNamesIn (fun vs H Q E h => ?_) (fun cdv A outer s H vs Q E hr h => ?_)
  · obtain ⟨s, l, v, d, rfl, _⟩ := h
    rfl
  obtain ⟨s0, l0, v, d0, rfl, hv, qn, qe⟩ := h
  have hr1 : Room 1 _ := hr.mono (by omega)
  refine ⟨_, pss_cons (ps_set (i := 1) scNamesIn.nd rfl (Or.inl rfl) pe_dnewK)
    (pss_cons (ps_for (passes_of rfl) rfl (pi_list (pe_defX PM hr rfl (takes_of rfl rfl rfl rfl) (pa_cons (pv 0) pa_nil))) (pg_name (i := 2) scNamesIn.nd rfl (Or.inl rfl))
      (pss_cons (ps_set (i := 3) scNamesIn.nd rfl (Or.inl rfl) (pe_def NI hr1 rfl (pa_cons (pv 2) pa_nil)))
      (pss_one (ps_if (pt_cmpR op_notN (pv 3) pe_non (nomark _)) (pss_one (ps_dput (hu_of hr) (pv 1) (pv 3) pe_bl rfl)) pss_nil))))
    (pss_one (ps_ret (pe_callTy (call_listD rfl) (by rfl) mL PyProof.Rows.boot_list (pa_cons (pv 1) pa_nil))))), ?_⟩
  refine fun pn hpn => ⟨_, rfl, s0, l0, v, d0, rfl, hv.same (same_new hpn _), fun hnone H2 pl es e2 hl hes => ?_, fun way hw H2 dx p e2 h1 h2 h3 h4 h5 => ?_⟩
  rotate_left
  · exact qe way hw H2 dx p (Same.trans (same_new hpn _) e2) (none_back (same_new hpn _) h1) h2 h3 h4 h5
  obtain ⟨hg, hc⟩ := place_good hnone
  have s1 : Same H (upd H pn (.dK [])) := same_new hpn _
  have s2 := Same.trans s1 e2
  have hd : H2 pn = some (.dK []) := s_at e2 upd_same
  have npl : pl ≠ pn := fun z => by
    rw [z, hd] at hl
    cases hl
  have hel : (partsD d0).length = es.length := hes.len
  have hlen : (partsD d0).length ≤ 61 := walkP_len 61 [d0]
  have hpu : ∀ (f : Nat) (st : List (Nat × PyData)), (∀ e ∈ st, goodH e.1 e.2 = true) → ∀ p ∈ walkP f (st.map (·.2)), pureD p = true := fun f => by
    induction f with
    | zero =>
      intro st _ p hp
      cases hp
    | succ f ih =>
      intro st hst p hp
      cases st with
      | nil => cases hp
      | cons e sr =>
        obtain ⟨n, d1⟩ := e
        obtain ⟨k, o, ps, rfl, hf, hgp, hcn⟩ := good_some (n := n) (d := d1) (hst (n, d1) List.mem_cons_self)
        have hp : p ∈ walkP (f + 1) (d1 :: sr.map (·.2)) := hp
        unfold walkP at hp
        rw [hf] at hp
        rcases List.mem_cons.mp hp with rfl | hp
        · exact good_pure (hst (k + 1, p) List.mem_cons_self)
        · refine ih ((ps.map fun p => (k, p)) ++ sr) (fun e he => ?_) p (by rw [snds]; exact hp)
          rcases List.mem_append.mp he with he | he
          · obtain ⟨p, hp, rfl⟩ := List.mem_map.mp he
            exact hgp p hp
          · exact hst e (List.mem_cons_of_mem _ he)
  have hpu : ∀ p ∈ partsD d0, pureD p = true := hpu 61 [(10, d0)] fun e he => by
    rw [List.mem_singleton.mp he]
    exact hg
  refine ⟨pl, rfl, ⟨_, SqL.of hl⟩, ?_⟩
  refine for_list (K := K) (a := pl) (xs := es) (fun i σ' H' => ∃ (x2 x3 : Option V), σ' = [some v, some (.ref pn), x2, x3] ∧ Keep pn pn H2 H' ∧ H' pn = some (.dK (nmD (((partsD d0).take i).foldl (fun ns d => addN ns (nmOf d)) []))))
    ⟨_, _, rfl, Keep.refl, hd⟩ (fun i σ' H' _ t => SqL.of (t.choose_spec.choose_spec.2.1 _ _ npl npl hl)) ?_ ?_
  · rintro i x σ' H3 hi ⟨x2, x3, rfl, k3, h3⟩
    obtain ⟨p, hp, hT⟩ := hes.atS hi
    have hpm : p ∈ partsD d0 := List.mem_of_getElem? hp
    obtain ⟨o, ps, hf⟩ := walkP_form 61 [d0] p hpm
    have eo : nmOf p = o := by
      unfold nmOf
      rw [hf]
    have hT3 := hT.pmono (s' := s0) (l' := l0) (H' := H3) (fun a xs q => by
      rcases q with (q | ⟨u, q⟩) | q
      · exact .inl (.inl (k3 _ _ (ne_of q hd (by intro z; cases z)) (ne_of q hd (by intro z; cases z)) q))
      · exact .inl (.inr ⟨u, k3 _ _ (ne_of q hd (by intro z; cases z)) (ne_of q hd (by intro z; cases z)) q⟩)
      · exact .inr q) (hpu p hpm)
    have eT : ((partsD d0).take (i + 1)).foldl (fun ns d => addN ns (nmOf d)) [] = addN (((partsD d0).take i).foldl (fun ns d => addN ns (nmOf d)) []) o := by
      rw [List.take_add_one, hp, Option.toList_some, List.foldl_append, List.foldl_cons, List.foldl_nil, eo]
    have hL : ∀ (ds : List PyData) (ns : List Str), (ds.foldl (fun ns d => addN ns (nmOf d)) ns).length ≤ ns.length + ds.length := fun ds => by
      induction ds with
      | nil => exact fun ns => Nat.le_refl _
      | cons d r ih =>
        intro ns
        have a := ih (addN ns (nmOf d))
        have b := addN_len ns (nmOf d)
        simp only [List.foldl_cons, List.length_cons]
        omega
    have hLi := hL ((partsD d0).take i) []
    rw [List.length_take, List.length_nil] at hLi
    refine ⟨_, rfl, s0, l0, x, p, o, ps, rfl, hT3, hf, _, rfl, rfl, _, rfl, ?_⟩
    cases o with
    | none => exact iteF ⟨_, _, rfl, k3, by rw [eT]; exact h3⟩
    | some z =>
      refine iteT ⟨_, rfl, _, rfl, pn, _, rfl, DPut.k (k := .inr z) h3 (by rw [nmD_len]; exact Nat.lt_of_le_of_lt (show _ ≤ 61 by omega) (by decide)), ?_⟩
      exact ⟨_, _, rfl, k3.trans Keep.put, by rw [nmD_put, eT]; exact upd_same⟩
  · rintro σ' H3 ⟨x2, x3, rfl, k3, h3⟩
    rw [← hel, List.take_length] at h3
    unfold partsD at h3
    rw [walkP_names] at h3
    refine ⟨_, rfl, pn, _, rfl, Rd.of h3, fun p hp => qn hnone _ p ?_ ?_⟩
    · exact Same.trans (fun b u q => k3 b u (ne_of_none q hpn) (ne_of_none q hpn) (s2 b u q)) (same_new hp _)
    · have e2 : ((nmD (namesD d0)).map fun kv => kV kv.1) = (namesD d0).map V.str := by
        unfold nmD
        rw [List.map_map]
        rfl
      rw [← e2]
      exact upd_same
end
end Kn

set_option Elab.async false
set_option linter.all false
set_option maxRecDepth 100000
set_option maxHeartbeats 4000000
set_option pp.maxSteps 1200
namespace Kn
open PySem L2 TL PySem.Spec PyProof.Rows
/-! ### a text among texts -/
theorem inV_strs (z : Str) (ws : List Str) : inV (.str z) (ws.map V.str) = decide (z ∈ ws) := by
  unfold inV
  rw [List.any_map]
  induction ws with
  | nil => rfl
  | cons y r ih =>
    rw [List.any_cons, ih]
    by_cases h : y = z
    · have e : (((fun y => eqV y (V.str z)) ∘ V.str) y) = true := by
        rw [h]
        show decide (z = z) = true
        exact decide_eq_true rfl
      rw [e, h]
      simp
    · have h2 : ¬ z = y := fun q => h q.symm
      have e : (((fun y => eqV y (V.str z)) ∘ V.str) y) = false := decide_eq_false h
      rw [e]
      simp [h2]
theorem flat_strs (ws : List Str) : (ws.map V.str).all flatV = true := by
  rw [List.all_map]
  exact List.all_eq_true.mpr fun _ _ => rfl
abbrev w3 : List Str := [("yes" : Str), "no", "name"]
abbrev q3 : List Str := [("some" : Str), "all", "put"]
abbrev n4 : List Str := [("name" : Str), "some", "all", "put"]
theorem shape_kinds : ∀ p ∈ shapeTab, (p.1 ∈ w3 → p.2.2 = 0) ∧ (p.1 ∈ q3 → p.2.1 = 1) ∧ (p.1 ∉ w3 → p.1 ∉ q3 → p.2.1 = 0) ∧ (p.1 ∈ n4 ↔ p.2.1 = 1) := by decide +kernel
theorem shape_kind {z : Str} {a b : Nat} (h : shapeT z = some (a, b)) : (z ∈ w3 → b = 0) ∧ (z ∈ q3 → a = 1) ∧ (z ∉ w3 → z ∉ q3 → a = 0) ∧ (z ∈ n4 ↔ a = 1) := shape_kinds _ (shapeT_mem h)
theorem TgAll.nilr {K : PySem.W.Frag} {s l : Addr} {H : Hp} {xs : List V} (h : TgAll K s l H xs []) : xs = [] := by
  cases h
  rfl
section
variable {P : Program} {w : World} {K : PySem.W.Frag} {mg : Str → Option Value} {base : Heap}
/-! ### _law_own -/
theorem scOwn : FnScope ["formula"] ["formula"] (defScope sOwn) := ⟨rfl, rfl, rfl, by decide +kernel, rfl, by decide +kernel, by decide +kernel⟩
def spOwn (K : PySem.W.Frag) : Sp := fun vs H Q _ => ∃ (s l : Addr) (v : V) (d : PyData) (o : Option Str) (ps : List PyData) (H0 : Hp), vs = [v] ∧ Same H0 H ∧ Tg K s l H0 v d ∧ formD d = some (o, ps) ∧
  ∀ (H' : Hp) (p : Addr) (xs : List V), Same H H' → H p = none → H' p = some (.lst xs) → TgAll K s l H0 xs ps → Q (.ref p) H'
theorem ok_own {f : Addr} {fd : FuncData} (F : Fun K "_law_own" "_law_own" sOwn f fd) (mL : mg "list" = none) : FnOk P w K mg base CX0 1 f fd ["formula"] (spOwn K) := by
  refine F.ok scOwn (fun vs H Q E h => ?_) (fun cdv A outer s H vs Q E hr h => ?_)
  · obtain ⟨s, l, v, d, o, ps, H0, rfl, _⟩ := h
    rfl
  obtain ⟨s, l, v, d, o, ps, H0, rfl, e00, hv, hf, q⟩ := h
  refine ⟨_, pss_cons (ps_if (pt_cmpR op_in_seq (pe_ix ix_tup (pv 0) pe_int (fun _ _ => rfl)) (pe_tup (pa_cons pe_str (pa_cons pe_str (pa_cons pe_str pa_nil)))) (by rfl)) (pss_one (ps_ret (pe_lst pa_nil))) pss_nil)
    (pss_one (ps_ret (pe_callTy call_list_of (by rfl) mL PyProof.Rows.boot_list (pa_cons (pe_ifExp (pt_cmpR op_in_seq (pe_ix ix_tup (pv 0) pe_int (fun _ _ => rfl)) (pe_tup (pa_cons pe_str (pa_cons pe_str (pa_cons pe_str pa_nil)))) (by rfl))
      (pe_slice sl_tupA (pv 0) (po_some pe_int) po_none) (pe_slice sl_tupA (pv 0) (po_some pe_int) po_none)) pa_nil)))), ?_⟩
  have fin : ∀ (z : Str) (a : Addr) (xr xp : List V) (c b : Nat) (H1 : Hp), Same H H1 → z ∉ w3 → shapeT z = some (c, b) → SqT K H a (.str z :: xr) → TgAll K s l H0 xp ps → (c = 0 → xp = xr) → (c = 1 → ∃ x, xr = x :: xp) → ∀ t, H1 t = none →
      (rIn K false (.str z) (.ref t) (upd H1 t (.tup [.str "some", .str "all", .str "put"])) fun v H2 => ∃ k, v = .bl k ∧ if k = true then rSlA K (.ref a) (some 2) none H2 (fun v H3 => ∃ p ys, [v] = [.ref p] ∧ (SqL K H3 p ys ∨ SqT K H3 p ys) ∧ ∀ l, H3 l = none → Q (.ref l) (upd H3 l (.lst ys)))
        else rSlA K (.ref a) (some 1) none H2 (fun v H3 => ∃ p ys, [v] = [.ref p] ∧ (SqL K H3 p ys ∨ SqT K H3 p ys) ∧ ∀ l, H3 l = none → Q (.ref l) (upd H3 l (.lst ys)))) := by
    intro z a xr xp c b H1 e1 hn hs ha hx h0 h1 t ht
    obtain ⟨k1, k2, k3, _⟩ := shape_kind hs
    refine ⟨t, _, rfl, .inr (SqT.of upd_same), rfl, rfl, _, rfl, ite2 (fun c3 => ?_) (fun c3 => ?_)⟩
    · have c3 : decide (z ∈ q3) = true := (inV_strs z q3).symm.trans c3
      obtain ⟨x, rfl⟩ := h1 (k2 (of_decide_eq_true c3))
      refine slA_any (Same.seqT (Same.trans e1 (same_new ht _)) ha) fun H3 p e3 h3 => ⟨p, _, rfl, .inr h3, fun l hl => ?_⟩
      have e4 := Same.trans (Same.trans e1 (same_new ht _)) (Same.trans e3 (same_new hl (.lst (cutV (V.str z :: x :: xp) (some 2) none))))
      have ec : cutV (V.str z :: x :: xp) (some 2) none = xp := cut_drop (j := 2) (by rw [List.length_cons, List.length_cons]; omega)
      rw [ec] at e4 ⊢
      exact q _ l xp e4 (none_back (Same.trans (Same.trans e1 (same_new ht _)) e3) hl) upd_same hx
    · have c3 : ¬ decide (z ∈ q3) = true := fun z2 => c3 ((inV_strs z q3).trans z2)
      have nq : z ∉ q3 := fun z2 => c3 (decide_eq_true z2)
      have ec : cutV (V.str z :: xr) (some 1) none = xr := cut_drop (j := 1) (by rw [List.length_cons]; omega)
      refine slA_any (Same.seqT (Same.trans e1 (same_new ht _)) ha) fun H3 p e3 h3 => ⟨p, _, rfl, .inr h3, fun l hl => ?_⟩
      have e4 := Same.trans (Same.trans e1 (same_new ht _)) (Same.trans e3 (same_new hl (.lst (cutV (V.str z :: xr) (some 1) none))))
      rw [ec] at e4 ⊢
      have ex : xp = xr := h0 (k3 hn nq)
      rw [← ex] at e4 ⊢
      exact q _ l xp e4 (none_back (Same.trans (Same.trans e1 (same_new ht _)) e3) hl) upd_same hx
  obtain ⟨z, b, hl, ⟨hs, rfl, rfl⟩ | ⟨x, hs, rfl, rfl, hx⟩⟩ := formD_inv hf
  · cases hv with
    | @tup a xs ds ha hxs =>
      have ha := Same.seqT e00 ha
      cases hxs with
      | @cons x0 xr d0 dr h0 hr0 =>
        cases h0
        refine ⟨_, rfl, a, _, _, _, rfl, rfl, ha, atI_nat (j := 0) rfl, (by show 3 ≤ sizeLine; decide), fun t1 ht1 => ⟨t1, _, rfl, .inr (SqT.of upd_same), rfl, rfl, _, rfl, ite2 (fun c1 => ?_) (fun c1 => ?_)⟩⟩
        · have c1 : decide (z ∈ w3) = true := (inV_strs z w3).symm.trans c1
          have hb := (shape_kind hs).1 (of_decide_eq_true c1)
          have e0 : ps = [] := List.eq_nil_of_length_eq_zero (by omega)
          subst e0
          have ex := hr0.nilr
          subst ex
          exact ⟨Nat.zero_le _, fun p hp => q _ p [] (Same.trans (same_new ht1 _) (same_new hp _)) (none_back (same_new ht1 _) hp) upd_same .nil⟩
        · have c1 : z ∉ w3 := fun z2 => c1 ((inV_strs z w3).trans (decide_eq_true z2))
          refine ⟨_, rfl, a, _, _, _, rfl, rfl, Same.seqT (same_new ht1 _) ha, atI_nat (j := 0) rfl, (by show 3 ≤ sizeLine; decide), fun t ht => ?_⟩
          have := fin z a xr xr 0 b _ (same_new ht1 _) c1 hs ha hr0 (fun _ => rfl) (fun h => by cases h) t ht
          obtain ⟨p, xs, e1, e2, e3, e4, k, e5, e6⟩ := this
          refine ⟨p, xs, e1, e2, e3, e4, k, e5, ?_⟩
          cases k with
          | true => exact ⟨_, rfl, _, rfl, e6⟩
          | false => exact ⟨_, rfl, _, rfl, e6⟩
  · cases hv with
    | @tup a xs ds ha hxs =>
      have ha := Same.seqT e00 ha
      cases hxs with
      | @cons x0 xr d0 dr h0 hr0 =>
        cases h0
        cases hr0 with
        | @cons x1 xr1 d1 dr1 h1 hr1 =>
        cases h1
        refine ⟨_, rfl, a, _, _, _, rfl, rfl, ha, atI_nat (j := 0) rfl, (by show 3 ≤ sizeLine; decide), fun t1 ht1 => ⟨t1, _, rfl, .inr (SqT.of upd_same), rfl, rfl, _, rfl, ite2 (fun c1 => ?_) (fun c1 => ?_)⟩⟩
        · have c1 : decide (z ∈ w3) = true := (inV_strs z w3).symm.trans c1
          have hb := (shape_kind hs).1 (of_decide_eq_true c1)
          have e0 : ps = [] := List.eq_nil_of_length_eq_zero (by omega)
          subst e0
          have ex := hr1.nilr
          subst ex
          exact ⟨Nat.zero_le _, fun p hp => q _ p [] (Same.trans (same_new ht1 _) (same_new hp _)) (none_back (same_new ht1 _) hp) upd_same .nil⟩
        · have c1 : z ∉ w3 := fun z2 => c1 ((inV_strs z w3).trans (decide_eq_true z2))
          refine ⟨_, rfl, a, _, _, _, rfl, rfl, Same.seqT (same_new ht1 _) ha, atI_nat (j := 0) rfl, (by show 3 ≤ sizeLine; decide), fun t ht => ?_⟩
          have := fin z a (V.str x :: xr1) xr1 1 b _ (same_new ht1 _) c1 hs ha hr1 (fun h => by cases h) (fun _ => ⟨_, rfl⟩) t ht
          obtain ⟨p, xs, e1, e2, e3, e4, k, e5, e6⟩ := this
          refine ⟨p, xs, e1, e2, e3, e4, k, e5, ?_⟩
          cases k with
          | true => exact ⟨_, rfl, _, rfl, e6⟩
          | false => exact ⟨_, rfl, _, rfl, e6⟩
end
end Kn

set_option Elab.async false
set_option linter.all false
set_option maxRecDepth 100000
set_option maxHeartbeats 4000000
set_option pp.maxSteps 1200
namespace Kn
open PySem L2 TL PySem.Spec PyProof.Rows
/-! ### _law_named -/
theorem pre_len : ∀ (n : Nat) (d : PyData), goodH n d = true → (pre n d).length ≤ cnt n d
  | 0, _, h => by cases h
  | n + 1, d, h => by
    obtain ⟨k, o, ps, e, hf, hg, hc⟩ := good_some h
    obtain rfl : n = k := Nat.succ.inj e
    rw [hc]
    unfold pre
    rw [hf]
    dsimp only
    rw [List.length_append]
    have h1 : o.toList.length ≤ 1 := by cases o <;> simp
    have h2 : ∀ qs : List PyData, (∀ p ∈ qs, goodH n p = true) → (qs.flatMap (pre n)).length ≤ (qs.map (cnt n)).sum := by
      intro qs
      induction qs with
      | nil => exact fun _ => Nat.le_refl _
      | cons p r ih =>
        intro hq
        rw [List.flatMap_cons, List.length_append, List.map_cons, List.sum_cons]
        have := pre_len n p (hq p List.mem_cons_self)
        have := ih fun z hz => hq z (List.mem_cons_of_mem _ hz)
        omega
    have := h2 ps hg
    omega
theorem fold_addS_len : ∀ (xs acc : List Str), (xs.foldl addS acc).length ≤ acc.length + xs.length
  | [], acc => Nat.le_refl _
  | x :: r, acc => by
    rw [List.foldl_cons]
    have h1 := fold_addS_len r (addS acc x)
    have h2 : (addS acc x).length ≤ acc.length + 1 := addN_len acc (some x)
    rw [List.length_cons]
    omega
theorem named_len {n : Nat} {d : PyData} (h : goodH n d = true) : (namedR n d).length ≤ cnt n d := by
  rw [namedR_pre]
  have h1 := fold_addS_len (pre n d) []
  have h2 := pre_len n d h
  rw [List.length_nil] at h1
  omega
abbrev stepN (n : Nat) (found : List Str) (p : PyData) : List Str := found ++ (namedR n p).filter fun x => decide (x ∉ found)
theorem foldN_len {n : Nat} : ∀ {ps : List PyData} {acc : List Str}, (∀ p ∈ ps, goodH n p = true) → (ps.foldl (stepN n) acc).length ≤ acc.length + (ps.map (cnt n)).sum
  | [], acc, _ => Nat.le_refl _
  | p :: r, acc, h => by
    rw [List.foldl_cons, List.map_cons, List.sum_cons]
    have h1 := foldN_len (ps := r) (acc := stepN n acc p) fun z hz => h z (List.mem_cons_of_mem _ hz)
    have h2 := named_len (h p List.mem_cons_self)
    have h3 := List.length_filter_le (fun x => decide (x ∉ acc)) (namedR n p)
    have h4 : (stepN n acc p).length = acc.length + ((namedR n p).filter fun x => decide (x ∉ acc)).length := List.length_append ..
    omega
theorem cnt_mem {n : Nat} {ps : List PyData} {p : PyData} (h : p ∈ ps) : cnt n p ≤ (ps.map (cnt n)).sum := by
  induction ps with
  | nil => cases h
  | cons q r ih =>
    rw [List.map_cons, List.sum_cons]
    rcases List.mem_cons.mp h with h | h
    · rw [h]
      omega
    · have := ih h
      omega
theorem take_sum {n : Nat} : ∀ (ps : List PyData) (i : Nat), ((ps.take i).map (cnt n)).sum ≤ (ps.map (cnt n)).sum
  | [], i => by simp
  | p :: r, 0 => by simp
  | p :: r, i + 1 => by
    rw [List.take_succ_cons, List.map_cons, List.sum_cons, List.map_cons, List.sum_cons]
    have := take_sum (n := n) r i
    omega
theorem same_mut {H0 H : Hp} {p : Addr} {o : HO} (n : H0 p = none) (e : Same H0 H) : Same H0 (upd H p o) := fun b u q => by
  rw [upd_ne (ne_of_none q n)]
  exact e b u q
theorem TgAll.at {K : PySem.W.Frag} {s l : Addr} {H : Hp} : ∀ {j : Nat} {xs : List V} {ds : List PyData} {x : V}, TgAll K s l H xs ds → xs[j]? = some x → ∃ d, ds[j]? = some d ∧ Tg K s l H x d
  | _, _, _, _, .nil, h => by simp at h
  | 0, _, _, x', .cons a b, h => ⟨_, rfl, by
      have e := Option.some.inj h
      rw [← e]
      exact a⟩
  | j + 1, _, _, _, .cons a b, h => TgAll.at (j := j) b h
/-- the names of a good thing below n deep, as they are met -/
def spNamed (K : PySem.W.Frag) (n : Nat) : Sp := fun vs H Q _ => ∃ (s l : Addr) (v : V) (d : PyData), vs = [v] ∧ Tg K s l H v d ∧ goodH n d = true ∧ cnt n d ≤ 60 ∧
  ∀ (H' : Hp) (p : Addr), Same H H' → H p = none → H' p = some (.lst ((namedR n d).map V.str)) → Q (.ref p) H'
abbrev nNamed : List Str := ["formula", "found", "part", "name"]
section
variable {P : Program} {w : World} {K : PySem.W.Frag} {mg : Str → Option Value} {base : Heap}
theorem scNamed : FnScope nNamed ["formula"] (defScope sNamed) := ⟨rfl, rfl, rfl, by decide +kernel, rfl, by decide +kernel, by decide +kernel⟩
theorem step_named {n : Nat} {f : Addr} {fd : FuncData} (F : Fun K "_law_named" "_law_named" sNamed f fd) (bG : Binds K fd ["formula"] []) (mG : mg "_law_named" = some (.ref f)) (O : Def P w K mg base CX0 "_law_own" 1 ["formula"] (spOwn K))
    (G : FnOk P w K mg base CX0 (n + 2) f fd ["formula"] (spNamed K n)) : FnOk P w K mg base CX0 (n + 3) f fd ["formula"] (spNamed K (n + 1)) := by
  refine F.ok scNamed (fun vs H Q E h => ?_) (fun cdv A outer s H vs Q E hr h => ?_)
  · obtain ⟨s, l, v, d, rfl, _⟩ := h
    rfl
  obtain ⟨s, l, v, d, rfl, hv, hg, hc, q⟩ := h
  have hr1 : Room 1 _ := hr.mono (by omega)
  refine ⟨_, Evl.pss_cut (ps_set (i := 1) scNamed.nd rfl (Or.inr rfl) (pe_ifExp (pt_cmpR op_in_seq (pe_ix ix_tup (pv 0) pe_int (fun _ _ => rfl)) (pe_tup (pa_cons pe_str (pa_cons pe_str (pa_cons pe_str (pa_cons pe_str pa_nil))))) (by rfl)) (pe_lst (pa_cons (pe_ix ix_tup (pv 0) pe_int (fun _ _ => rfl)) pa_nil)) (pe_lst pa_nil)))
    (pss_cons (ps_for PassesOwn.never rfl (pi_list (pe_def O hr1 rfl (pa_cons (pv 0) pa_nil))) (pg_name (i := 2) scNamed.nd rfl (Or.inl rfl))
      (pss_one (ps_set (i := 1) scNamed.nd rfl (Or.inr rfl) (pe_op op_cat (pv 1)
        (pe_lc (own := [("name", 3)]) (g := gName 3) rfl scNamed.nd (pi_list (pe_call G hr rfl mG F.kp bG .nil pass0 (pa_cons (pv 2) pa_nil))) (blkOk_by (own := [("name", 3)]) (N := nNamed) (sc := defScope sNamed) (by decide +kernel))
          (fun _ _ _ _ _ => pg_name (i := 3) scNamed.nd rfl (Or.inl rfl)) (fun _ _ _ _ _ => pts_one (pt_cmpR (op_notInK (K := K) rfl) (pv 3) (pv 1) (by rfl))) (fun _ _ _ _ _ => pv 3))))))
    (pss_one (ps_ret (pv 1)))), ?_⟩
  obtain ⟨k, o, ps, e, hf, hgp, hcn⟩ := good_some hg
  obtain rfl : n = k := Nat.succ.inj e
  rw [hcn] at hc
  have hps := form_few hf
  have eR : namedR (n + 1) d = ps.foldl (stepN n) o.toList := by
    conv => lhs; unfold namedR
    rw [hf]
  have hol : o.toList.length ≤ 1 := by cases o <;> simp
  refine ⟨fun σ' H' => ∃ p1, σ' = [some v, some (.ref p1), none, none] ∧ Same H H' ∧ H p1 = none ∧ H' p1 = some (.lst (o.toList.map V.str)), ?_, ?_⟩
  · obtain ⟨z, b, hl, ⟨hs, rfl, rfl⟩ | ⟨x, hs, rfl, rfl, hx⟩⟩ := formD_inv hf
    · cases hv with
      | @tup a xs ds ha hxs =>
        cases hxs with
        | @cons x0 xr d0 dr h0 hr0 =>
          cases h0
          refine ⟨_, rfl, a, _, _, _, rfl, rfl, ha, atI_nat (j := 0) rfl, (by show 4 ≤ sizeLine; decide), fun t1 ht1 => ⟨t1, _, rfl, .inr (SqT.of upd_same), rfl, rfl, _, rfl, ite2 (fun c1 => ?_) (fun c1 => ?_)⟩⟩
          · have c1 : decide (z ∈ n4) = true := (inV_strs z n4).symm.trans c1
            exact absurd ((shape_kind hs).2.2.2.mp (of_decide_eq_true c1)) (by decide)
          · exact ⟨Nat.zero_le _, fun p hp => ⟨p, rfl, Same.trans (same_new ht1 _) (same_new hp _), none_back (same_new ht1 _) hp, upd_same⟩⟩
    · cases hv with
      | @tup a xs ds ha hxs =>
        cases hxs with
        | @cons x0 xr d0 dr h0 hr0 =>
          cases h0
          cases hr0 with
          | @cons x1 xr1 d1 dr1 h1 hr1 =>
          cases h1
          refine ⟨_, rfl, a, _, _, _, rfl, rfl, ha, atI_nat (j := 0) rfl, (by show 4 ≤ sizeLine; decide), fun t1 ht1 => ⟨t1, _, rfl, .inr (SqT.of upd_same), rfl, rfl, _, rfl, ite2 (fun c1 => ?_) (fun c1 => ?_)⟩⟩
          · exact ⟨_, rfl, a, _, _, _, rfl, rfl, Same.seqT (same_new ht1 _) ha, atI_nat (j := 1) rfl, (by show 1 ≤ sizeLine; decide), fun p hp => ⟨p, rfl, Same.trans (same_new ht1 _) (same_new hp _), none_back (same_new ht1 _) hp, upd_same⟩⟩
          · exact absurd ((inV_strs z n4).trans (decide_eq_true ((shape_kind hs).2.2.2.mpr rfl))) c1
  rintro σ H1 ⟨p1, rfl, e1, n1, h1⟩
  refine ⟨_, rfl, s, l, v, d, o, ps, H1, rfl, Same.refl _, hv.same e1, hf, fun H2 pl xs e2 n2 h2 hxs => ⟨pl, rfl, ⟨_, SqL.of h2⟩, ?_⟩⟩
  have hxs := hxs.same e2
  have hxl : ps.length = xs.length := hxs.len
  refine for_list (K := K) (a := pl) (xs := xs) (fun i σ' H' => ∃ (pf : Addr) (x2 x3 : Option V), σ' = [some v, some (.ref pf), x2, x3] ∧ Same H2 H' ∧ H pf = none ∧ H' pf = some (.lst (((ps.take i).foldl (stepN n) o.toList).map V.str)))
    ⟨p1, _, _, rfl, Same.refl _, n1, e2 _ _ h1⟩ (fun i σ' H' _ t => SqL.of (t.choose_spec.choose_spec.choose_spec.2.1 _ _ h2)) ?_ ?_
  · rintro i x σ' H3 hi ⟨pf, x2, x3, rfl, e3, n3, h3⟩
    obtain ⟨p, hp, hT⟩ := hxs.at hi
    have hpm : p ∈ ps := List.mem_of_getElem? hp
    have hT3 := hT.same e3
    have hcp := cnt_mem (n := n) hpm
    have hF : ((ps.take i).foldl (stepN n) o.toList).length ≤ 60 := by
      have a1 := foldN_len (n := n) (ps := ps.take i) (acc := o.toList) fun z hz => hgp z (List.mem_of_mem_take hz)
      have a2 := take_sum (n := n) ps i
      omega
    have hFn : (stepN n ((ps.take i).foldl (stepN n) o.toList) p).length ≤ 120 := by
      have a1 := named_len (hgp p hpm)
      have a2 := List.length_filter_le (fun x => decide (x ∉ (ps.take i).foldl (stepN n) o.toList)) (namedR n p)
      rw [List.length_append]
      omega
    have eT : (ps.take (i + 1)).foldl (stepN n) o.toList = stepN n ((ps.take i).foldl (stepN n) o.toList) p := by
      rw [List.take_add_one, hp, List.foldl_append]
      rfl
    generalize (ps.take i).foldl (stepN n) o.toList = fo at *
    refine ⟨_, rfl, _, rfl, s, l, x, p, rfl, hT3, hgp p hpm, by omega, fun H4 pr e4 n4' h4 => ⟨pr, rfl, ⟨_, SqL.of h4⟩, fun D hD => ?_⟩⟩
    have nDr : pr ≠ D := fun z => by
      rw [← z, h4] at hD
      cases hD
    refine lc_list (K := K) (a := pr) (xs := (namedR n p).map V.str) (fun j H' => Same H4 H' ∧ H' D = some (.lst ((((namedR n p).take j).filter fun x => decide (x ∉ fo)).map V.str)))
      ⟨same_mut hD (Same.refl _), upd_same⟩ (fun j H' _ t => SqL.of (t.1 _ _ h4)) ?_ ?_
    · rintro j y H5 hj ⟨e5, h5⟩
      rw [List.getElem?_map] at hj
      obtain ⟨z, hz, rfl⟩ : ∃ z, (namedR n p)[j]? = some z ∧ V.str z = y := by
        cases e : (namedR n p)[j]? with
        | none =>
          rw [e] at hj
          cases hj
        | some z =>
          rw [e] at hj
          exact ⟨z, rfl, Option.some.inj hj⟩
      have et : (namedR n p).take (j + 1) = (namedR n p).take j ++ [z] := by
        rw [List.take_add_one, hz]
        rfl
      refine ⟨rfl, _, rfl, _, rfl, pf, _, rfl, .inl (SqL.of (e5 _ _ (e4 _ _ h3))), rfl, flat_strs _, _, rfl, ite2 (fun c => ?_) (fun c => ?_)⟩
      · have c : (!inV (V.str z) (fo.map V.str)) = true := c
        rw [inV_strs] at c
        have c2 : z ∉ fo := by simpa using c
        refine ⟨_, rfl, _, h5, ?_, same_mut hD e5, ?_⟩
        · rw [List.length_map]
          have a1 := named_len (hgp p hpm)
          have a2 := List.length_filter_le (fun x => decide (x ∉ fo)) ((namedR n p).take j)
          rw [List.length_take] at a2
          exact Nat.lt_of_le_of_lt (show _ ≤ 60 by omega) (by decide)
        · rw [upd_same, et, List.filter_append, List.map_append]
          have : ([z].filter fun x => decide (x ∉ fo)) = [z] := by simp [c2]
          rw [this]
          rfl
      · have c : ¬ (!inV (V.str z) (fo.map V.str)) = true := c
        rw [inV_strs] at c
        have c2 : z ∈ fo := by simpa using c
        refine ⟨e5, ?_⟩
        rw [et, List.filter_append]
        have : ([z].filter fun x => decide (x ∉ fo)) = [] := by simp [c2]
        rw [this, List.append_nil]
        exact h5
    · rintro H5 ⟨e5, h5⟩
      rw [List.length_map, List.take_length] at h5
      refine ⟨pf, D, _, _, rfl, rfl, e5 _ _ (e4 _ _ h3), h5, ?_, fun p5 hp5 => ?_⟩
      · rw [← List.length_append, ← List.map_append, List.length_map]
        exact Nat.le_trans hFn (by decide)
      · refine ⟨p5, _, _, rfl, Same.trans (Same.trans e3 (Same.trans e4 e5)) (same_new hp5 _), none_back (Same.trans (Same.trans e1 e2) (Same.trans e3 (Same.trans e4 e5))) hp5, ?_⟩
        rw [upd_same, eT, List.map_append]
  · rintro σ' H3 ⟨pf, x2, x3, rfl, e3, n3, h3⟩
    rw [← hxl, List.take_length, ← eR] at h3
    exact ⟨_, rfl, q H3 pf (Same.trans (Same.trans e1 e2) e3) n3 h3⟩
theorem all_named {f : Addr} {fd : FuncData} (F : Fun K "_law_named" "_law_named" sNamed f fd) (bG : Binds K fd ["formula"] []) (mG : mg "_law_named" = some (.ref f)) (O : Def P w K mg base CX0 "_law_own" 1 ["formula"] (spOwn K)) :
    ∀ n : Nat, FnOk P w K mg base CX0 (n + 2) f fd ["formula"] (spNamed K n)
  | 0 => by
    have no : ∀ vs H Q E, ¬ spNamed K 0 vs H Q E := fun vs H Q E h => by
      obtain ⟨s, l, v, d, _, _, hg, _⟩ := h
      cases hg
    exact ⟨fun vs H Q E h => absurd h (no vs H Q E), fun A outer s H args us vs Q E _ _ _ _ h => absurd h (no vs H Q E)⟩
  | n + 1 => step_named F bG mG O (all_named F bG mG O n)
end
end Kn

set_option Elab.async false
set_option linter.all false
set_option maxRecDepth 100000
set_option maxHeartbeats 4000000
set_option pp.maxSteps 1200
namespace Kn
open PySem L2 TL PySem.Spec PyProof.Rows
/-! ### _law_is_name -/
def isLow (c : Nat) : Bool := decide (97 ≤ c) && decide (c ≤ 122)
theorem abc_isLow : ∀ c : Nat, decide (c ∈ abc.cps.toList) = isLow c := by
  intro c
  by_cases h : c < 128
  · exact (by decide +kernel : ∀ c ∈ List.range 128, decide (c ∈ abc.cps.toList) = isLow c) c (List.mem_range.mpr h)
  · have h1 : ∀ d ∈ abc.cps.toList, d ≤ 122 := by decide +kernel
    have h2 : c ∉ abc.cps.toList := fun z => by
      have := h1 c z
      omega
    rw [decide_eq_false h2]
    unfold isLow
    rw [decide_eq_false (show ¬ c ≤ 122 by omega), Bool.and_false]
theorem low_all (z : Str) : lowB z = z.cps.toList.all isLow := by
  unfold lowB
  rfl
theorem one_ok {z : Str} {c : Nat} (h : PyData.strOk z = true) (hc : c ∈ z.cps.toList) : PyData.strOk ⟨#[c]⟩ = true := by
  unfold PyData.strOk at h ⊢
  rw [← Array.all_toList, List.all_eq_true] at h
  have := h c hc
  simp only [List.all_cons, List.all_nil, Bool.and_true, Array.all_toList.symm]
  exact this
theorem filt_nil (l : List Nat) : (l.filter fun c => !isLow c).isEmpty = l.all isLow := by
  induction l with
  | nil => rfl
  | cons c r ih =>
    rw [List.filter_cons, List.all_cons]
    cases hc : isLow c with
    | true =>
      rw [if_neg (by decide), ih, Bool.true_and]
    | false =>
      rw [if_pos (by decide), Bool.false_and]
      rfl
theorem scLIsName : FnScope ["thing", "sign"] ["thing"] (defScope sLIsName) := ⟨rfl, rfl, rfl, by decide +kernel, rfl, by decide +kernel, by decide +kernel⟩
def spLIsName (K : PySem.W.Frag) : Sp := fun vs H Q _ => ∃ (s l : Addr) (v : V) (d : PyData), vs = [v] ∧ Tg K s l H v d ∧ ∀ H', Same H H' → Q (.bl (isNameD d)) H'
section
variable {P : Program} {w : World} {K : PySem.W.Frag} {mg : Str → Option Value} {base : Heap}
theorem ok_lisname {f : Addr} {fd : FuncData} (F : Fun K "_law_is_name" "_law_is_name" sLIsName f fd) (mi : mg "isinstance" = none) (ms : mg "str" = none) (ml : mg "len" = none) : FnOk P w K mg base CX0 1 f fd ["thing"] (spLIsName K) := by
  refine F.ok scLIsName (fun vs H Q E h => ?_) (fun cdv A outer s H vs Q E hr h => ?_)
  · obtain ⟨s, l, v, d, rfl, _⟩ := h
    rfl
  obtain ⟨s, l, v, d, rfl, hv, q⟩ := h
  refine ⟨_, pss_cons (ps_if (PW.pt (pw_or (pt_not (pt_val (pe_callB call_isi (by rfl) mi PyProof.Rows.boot_isinstance (pa_cons (pv 0) (pa_cons (pe_bltn (v := .ty "str") (by rfl) ms PyProof.Rows.boot_str rfl) pa_nil)))))
      (pw_or (pt_cmpR op_eq (pv 0) pe_str (nomark _)) (pw_or1 (pt_cmpR op_gt (pe_callB call_len (by rfl) ml PySem.boot_len (pa_cons (pv 0) pa_nil)) pe_int (nomark _))))))
      (pss_one (ps_ret pe_bl)) pss_nil)
    (pss_one (ps_ret (pe_cmpR (op_eqD hr.units) (pe_lc (own := [("sign", 1)]) (g := gName 1) rfl scLIsName.nd (pi_str (pv 0)) (blkOk_by (own := [("sign", 1)]) (N := ["thing", "sign"]) (sc := defScope sLIsName) (by decide +kernel))
      (fun _ _ _ _ _ => pg_name (i := 1) scLIsName.nd rfl (Or.inl rfl)) (fun _ _ _ _ _ => pts_one (pt_cmpR op_notIn_str (pv 1) pe_str (by rfl))) (fun _ _ _ _ _ => pv 1)) (pe_lst pa_nil) (nomark _)))), ?_⟩
  refine ⟨_, rfl, ?_⟩
  obtain ⟨ty, ty1, _, ty2⟩ := tg_ty hv
  refine ⟨v, .ty "str", .type ty, .type "str", isStr d, rfl, .ty _, ty1, kit_ty ty2, _, rfl, ?_⟩
  cases hv with
  | str z hz =>
    have hz1 := okS_len hz
    have hz2 : z.length ≤ sizeLine := Nat.le_of_lt (small1000 hz1)
    have e : isNameD (.str z) = (decide (1 ≤ z.length) && decide (z.length ≤ 8) && lowB z) := rfl
    have e0 : decide (V.str z = V.str ("" : Str)) = decide (z.length = 0) := by
      by_cases h : z.length = 0
      · rw [decide_eq_true h]
        refine decide_eq_true ?_
        have : z.cps.size = 0 := h
        have h2 : z.cps = #[] := Array.eq_empty_of_size_eq_zero this
        congr 1
        cases z
        congr 1
      · rw [decide_eq_false h]
        refine decide_eq_false fun q => h ?_
        rw [V.str.inj q]
        rfl
    refine iteF ⟨_, rfl, rfl, _, rfl, ?_⟩
    rw [e0]
    by_cases h0 : z.length = 0
    · rw [decide_eq_true h0]
      refine iteT ?_
      rw [e, decide_eq_false (show ¬ 1 ≤ z.length by omega), Bool.false_and, Bool.false_and] at q
      exact q H (Same.refl H)
    rw [decide_eq_false h0]
    refine iteF ⟨_, rfl, _, _, rfl, ⟨hz2, rfl⟩, _, _, rfl, rfl, _, rfl, ite2 (fun c8 => ?_) (fun c8 => ?_)⟩
    · have h8 : (8 : Int) < (z.length : Int) := of_decide_eq_true c8
      rw [e, decide_eq_false (show ¬ z.length ≤ 8 by omega), Bool.and_false, Bool.false_and] at q
      exact q H (Same.refl H)
    have h8 : ¬ (8 : Int) < (z.length : Int) := of_decide_eq_false (Bool.eq_false_iff.mpr c8)
    rw [e, decide_eq_true (show 1 ≤ z.length by omega), decide_eq_true (show z.length ≤ 8 by omega), Bool.true_and, Bool.true_and, low_all] at q
    refine ⟨_, rfl, z, rfl, fun D hD => ?_⟩
    refine lc_it (walk_str (z := z)) (fun j H' => Same H H' ∧ H' D = some (.lst ((((z.cps.toList.take j).filter fun c => !isLow c).map fun c => (⟨#[c]⟩ : Str)).map V.str)))
      ⟨same_mut hD (Same.refl _), upd_same⟩ (fun _ _ _ _ => True.intro) ?_ ?_
    · rintro j x Ha Hb hj ⟨p1, p2⟩ ⟨rfl, cc, hcc, rfl⟩
      have h5 : z.cps.toList[j]? = some cc := by
        rw [← hcc]
        simp
      have e5 : z.cps.toList.take (j + 1) = z.cps.toList.take j ++ [cc] := by
        rw [List.take_add_one, h5]
        rfl
      refine ⟨rfl, ?_⟩
      show _
      refine ⟨_, rfl, _, _, rfl, rfl, _, rfl, ?_⟩
      have ec : (!(!(Builtin.Str.occurrences abc ⟨#[cc]⟩ 0 abc.length 1).isEmpty)) = !isLow cc := by
        rw [StrLaws.found_one, abc_isLow]
      refine ite2 (fun c => ?_) (fun c => ?_)
      · have c : (!isLow cc) = true := ec.symm.trans c
        refine ⟨_, rfl, _, p2, ?_, same_mut hD p1, ?_⟩
        · rw [List.length_map, List.length_map]
          have a1 := List.length_filter_le (fun c => !isLow c) (z.cps.toList.take j)
          rw [List.length_take] at a1
          have a2 : z.cps.toList.length = z.length := by simp [Str.length]
          exact small1000 (by omega)
        · rw [upd_same, e5, List.filter_append, List.map_append, List.map_append]
          have : ([cc].filter fun c => !isLow c) = [cc] := by simp [c]
          rw [this]
          rfl
      · have c : ¬ (!isLow cc) = true := fun z2 => c (ec.trans z2)
        refine ⟨p1, ?_⟩
        rw [e5, List.filter_append]
        have : ([cc].filter fun c => !isLow c) = [] := by simp at c; simp [c]
        rw [this, List.append_nil]
        exact p2
    · rintro H4 ⟨p1, p2⟩
      have e6 : z.cps.toList.take z.cps.size = z.cps.toList := by
        rw [List.take_of_length_le]
        simp
      rw [e6] at p2
      refine ⟨Nat.zero_le _, fun t3 ht3 => ⟨.list (((z.cps.toList.filter fun c => !isLow c).map fun c => (⟨#[c]⟩ : Str)).map PyData.str), .list [], .lst (SqL.of (s_at (same_new ht3 _) p2)) (dpStrs _), .lst (SqL.of upd_same) .nil, shStrs fun y hy => ?_, rfl, ?_⟩⟩
      · obtain ⟨c, hc, rfl⟩ := List.mem_map.mp hy
        exact one_ok (okS_ok hz) (List.mem_filter.mp hc).1
      · rw [eqvStrs0]
        have : (((z.cps.toList.filter fun c => !isLow c).map fun c => (⟨#[c]⟩ : Str))).isEmpty = z.cps.toList.all isLow := by
          rw [List.isEmpty_map, filt_nil]
        rw [this]
        exact q _ (Same.trans p1 (same_new ht3 _))
  | _ => exact iteT (q H (Same.refl H))
end
end Kn

set_option Elab.async false
set_option linter.all false
set_option maxRecDepth 100000
set_option maxHeartbeats 4000000
set_option pp.maxSteps 1200
namespace Kn
open PySem L2 TL PySem.Spec PyProof.Rows
/-! ### a list beside the empty list -/
def rNeN (K : PySem.W.Frag) : R2 := fun x y H Q => ∃ a b xs, x = .ref a ∧ y = .ref b ∧ SqL K H a xs ∧ SqL K H b [] ∧ Q (.bl (!xs.isEmpty)) H
theorem op_neN {X : Cx} (hu : X.A.units + 64 < cLine) : OpR X (compareOp .NotEq) (rNeN X.K) := by
  intro pins s σ H x y v u Q I rx ry h
  obtain ⟨a, b, xs, rfl, rfl, ha, hb, q⟩ := h
  cases rx
  cases ry
  obtain ⟨its, r, pl, hz⟩ := I.list ha
  obtain ⟨its2, r2, pl2, _⟩ := I.list hb
  have l1 : its.length = xs.length := r.length.symm
  have l2 : its2.length = 0 := r2.length.symm
  show wpAny (model X.prog X.w) X.A (richCompare .NotEq (.ref a) (.ref b)) _ _ s
  cases xs with
  | nil =>
    refine PySem.SeqAt.RcNeAt.lists (e := fun _ => true) pl.isList pl2.isList ?_ (by omega) (fun j h1 _ => ?_) _ _ _ _ ?_
    · rw [List.size_toArray, List.size_toArray, l1, l2]
      rfl
    · rw [List.size_toArray, l1] at h1
      exact absurd h1 (Nat.not_lt_zero _)
    · have e : (List.range its.toArray.size).all (fun _ => true) = true := by simp
      rw [e]
      exact ⟨.bl false, H, I, rfl, q⟩
  | cons y r =>
    refine PySem.SeqAt.RcNeAt.lists_lengths pl.isList pl2.isList ?_ (by omega) _ _ _ _ ?_
    · rw [List.size_toArray, List.size_toArray, l1, l2]
      rfl
    · exact ⟨.bl true, H, I, rfl, q⟩
theorem op_catAK {X : Cx} {K : PySem.W.Frag} (h : X.K = K) : OpR X (binaryOp .Add) (rCatA K) := by
  subst h
  exact op_catA
/-! ### _law_place -/
/-! #### entries, lists changing -/
def TK (K : PySem.W.Frag) (H H' : Hp) : Prop := ∀ a xs, SqT K H a xs → SqT K H' a xs
section
variable {K : PySem.W.Frag} {s l : Addr} {H0 H H' : Hp}
theorem tk_same (e : Same H H') : TK K H H' := fun _ _ h => Same.seqT e h
theorem tk_put {p : Addr} {xs : List V} {o : HO} (hp : H p = some (.lst xs)) : TK K H (upd H p o) := fun a ys h => by
  rcases h with (h | ⟨u, h⟩) | h
  · exact .inl (.inl (by rw [upd_ne (ne_of h hp (by intro z; cases z))]; exact h))
  · exact .inl (.inr ⟨u, by rw [upd_ne (ne_of h hp (by intro z; cases z))]; exact h⟩)
  · exact .inr h
def EntP (K : PySem.W.Frag) (s l : Addr) (H0 H : Hp) (x : V) (e : List Nat × PyData) : Prop := ∃ (t u : Addr) (y : V), x = .ref t ∧ SqT K H t [.ref u, y] ∧ SqT K H u (wayV e.1) ∧ Tg K s l H0 y e.2 ∧ e.1.length ≤ 10 ∧ ∀ n ∈ e.1, n < 16
inductive EntsP (K : PySem.W.Frag) (s l : Addr) (H0 H : Hp) : List V → List (List Nat × PyData) → Prop
  | nil : EntsP K s l H0 H [] []
  | cons {x : V} {r : List V} {e : List Nat × PyData} {es : List (List Nat × PyData)} : EntP K s l H0 H x e → EntsP K s l H0 H r es → EntsP K s l H0 H (x :: r) (e :: es)
theorem EntP.tk (k : TK K H H') {x : V} {e : List Nat × PyData} (h : EntP K s l H0 H x e) : EntP K s l H0 H' x e := let ⟨t, u, y, e1, h1, h2, h3⟩ := h; ⟨t, u, y, e1, k _ _ h1, k _ _ h2, h3⟩
theorem EntsP.tk (k : TK K H H') : ∀ {x : List V} {e : List (List Nat × PyData)}, EntsP K s l H0 H x e → EntsP K s l H0 H' x e
  | _, _, .nil => .nil
  | _, _, .cons a b => .cons (a.tk k) (EntsP.tk k b)
theorem EntsP.app : ∀ {a b : List V} {x y : List (List Nat × PyData)}, EntsP K s l H0 H a x → EntsP K s l H0 H b y → EntsP K s l H0 H (a ++ b) (x ++ y)
  | _, _, _, _, .nil, h => h
  | _, _, _, _, .cons a b, h => .cons a (EntsP.app b h)
theorem EntsP.len : ∀ {a : List V} {x : List (List Nat × PyData)}, EntsP K s l H0 H a x → a.length = x.length
  | _, _, .nil => rfl
  | _, _, .cons _ b => congrArg (· + 1) (EntsP.len b)
end
/-- how long a part is by its word -/
def longsK : List (Key × V) := shapeTab.map fun p => (.inr p.1, .int ((1 + p.2.1 + p.2.2 : Nat) : Int))
theorem longs_get (z : Str) : valV longsK (.inr z) = (shapeT z).map fun q => .int ((1 + q.1 + q.2 : Nat) : Int) := by
  have key : ∀ l : List (Str × (Nat × Nat)), valV (l.map fun p => ((.inr p.1 : Key), V.int ((1 + p.2.1 + p.2.2 : Nat) : Int))) (.inr z) = (l.lookup z).map fun q => .int ((1 + q.1 + q.2 : Nat) : Int) := by
    intro l
    induction l with
    | nil => rfl
    | cons p r ih =>
      obtain ⟨y, q⟩ := p
      rw [List.map_cons]
      by_cases h : y = z
      · subst h
        rw [valV_pos rfl, List.lookup_cons_self]
        rfl
      · rw [valV_neg (fun e => h (Sum.inr.inj e)), ih]
        have : (z == y) = false := beq_eq_false_iff_ne.mpr fun e => h e.symm
        rw [List.lookup_cons, this]
  exact key shapeTab
def WP (K : PySem.W.Frag) (s l : Addr) (H0 : Hp) (v : V) (d0 : PyData) (m : Nat) (σ : L2.St) (H : Hp) : Prop := ∃ (ns : List Str) (st : List (List Nat × PyData)) (es : List V) (met : Nat) (pg pl pm : Addr) (x5 x6 x7 x8 : Option V),
  σ = [some v, some (.ref pg), some (.ref pl), some (.ref pm), some (.int (met : Nat)), x5, x6, x7, x8] ∧ H pg = some (.dK longsK) ∧ H pl = some (.lst es.reverse) ∧ H pm = some (.lst (ns.map V.str)) ∧ H0 pg = none ∧ H0 pl = none ∧ H0 pm = none ∧ pm ≠ pl ∧
  EntsP K s l H0 H es st ∧ Same H0 H ∧ ns.length ≤ 10 ∧ m + met = 61 ∧ met ≤ 60 ∧ st.length ≤ 2 * met + 1 ∧ walk m met ns st = placeD d0
abbrev nPl : List Str := ["thing", "longs", "left", "names", "met", "way", "part", "some", "k"]
def spPlace (K : PySem.W.Frag) : Sp := fun vs H Q _ => ∃ (s l : Addr) (v : V) (d : PyData), vs = [v] ∧ Tg K s l H v d ∧
  (placeD d = none → ∀ H', Same H H' → Q .non H') ∧
  ∀ way, placeD d = some way → ∀ (H' : Hp) (p : Addr), Same H H' → SqT K H' p (wayV way) → way.length ≤ 10 → (∀ n ∈ way, n < 16) → Q (.ref p) H'
section
variable {P : Program} {w : World} {K : PySem.W.Frag} {mg : Str → Option Value} {base : Heap}
theorem scPlace : FnScope nPl ["thing"] (defScope sPlace) := ⟨rfl, rfl, rfl, by decide +kernel, rfl, by decide +kernel, by decide +kernel⟩
theorem ok_place {f : Addr} {fd : FuncData} (F : Fun K "_law_place" "_law_place" sPlace f fd) (N : Def P w K mg base CX0 "_law_is_name" 1 ["thing"] (spLIsName K)) (O : Def P w K mg base CX0 "_law_own" 1 ["formula"] (spOwn K))
    (mi : mg "isinstance" = none) (ms : mg "str" = none) (mt : mg "tuple" = none) (ml : mg "len" = none) (mn : mg "int" = none) (mr : mg "range" = none) : FnOk P w K mg base CX0 2 f fd ["thing"] (spPlace K) := by
  refine F.ok scPlace (fun vs H Q E h => ?_) (fun cdv A outer s H vs Q E hr h => ?_)
  · obtain ⟨s, l, v, d, rfl, _⟩ := h
    rfl
  obtain ⟨s0, l0, v, d0, rfl, hv, qn, qp⟩ := h
  refine ⟨_, pss_cons (ps_set (i := 1) scPlace.nd rfl (Or.inl rfl) (pe_disp (pps_cons pe_str pe_int (pps_cons pe_str pe_int (pps_cons pe_str pe_int (pps_cons pe_str pe_int (pps_cons pe_str pe_int (pps_cons pe_str pe_int (pps_cons pe_str pe_int (pps_cons pe_str pe_int (pps_cons pe_str pe_int (pps_cons pe_str pe_int pps_nil)))))))))) (by rfl) (by rfl) (fun z => by cases z) (by decide)))
    (pss_cons (ps_dput (hu_of hr) (pv 1) pe_str pe_int rfl)
    (pss_cons (ps_par3 (i := 2) (j := 3) (l := 4) rfl scPlace.nd rfl rfl rfl (by decide) (by decide) (by decide) rfl rfl rfl (pa_cons (pe_lst (pa_cons (pe_tup (pa_cons (pe_tup pa_nil) (pa_cons (pv 0) pa_nil))) pa_nil)) (pa_cons (pe_lst pa_nil) (pa_cons pe_int pa_nil))) rfl)
    (pss_cons (ps_while PassesOwn.never (pt_cmpR (op_neN hr.units) (pv 2) (pe_lst pa_nil) (nomark _))
      (pss_cons (ps_asg (pe_bm0 PySem.F.plainAttrs_list PySem.F.slot_list_pop PySem.F.type_list_pop mt_pop (pv 2)) (pg_tup rfl (pgs_cons (pg_name (i := 5) scPlace.nd rfl (Or.inr rfl)) (pgs_cons (pg_name (i := 6) scPlace.nd rfl (Or.inl rfl)) pgs_nil))))
      (pss_cons (ps_if (PW.pt (pw_or (pt_cmpR op_eq (pv 4) pe_int (nomark _)) (pw_or (pt_cmpR op_eq (pe_callB call_len_seq (by rfl) ml PySem.boot_len (pa_cons (pv 5) pa_nil)) pe_int (nomark _)) (pw_or (pt_not (pt_val (pe_callB call_isi (by rfl) mi PyProof.Rows.boot_isinstance (pa_cons (pv 6) (pa_cons (pe_bltn (v := .ty "tuple") (by rfl) mt PyProof.Rows.boot_tuple rfl) pa_nil)))))
          (pw_or1 (pt_cmpR op_eq (pe_callB call_len_seq (by rfl) ml PySem.boot_len (pa_cons (pv 6) pa_nil)) pe_int (nomark _))))))) (pss_one (ps_ret (pv 5))) pss_nil)
      (pss_cons (ps_if (PW.pt (pw_or (pt_not (pt_val (pe_callB call_isi (by rfl) mi PyProof.Rows.boot_isinstance (pa_cons (pe_ix ix_tup (pv 6) pe_int (fun _ _ => rfl)) (pa_cons (pe_bltn (v := .ty "str") (by rfl) ms PyProof.Rows.boot_str rfl) pa_nil)))))
          (pw_or1 (pt_cmpR op_ne (pe_callB call_len_seq (by rfl) ml PySem.boot_len (pa_cons (pv 6) pa_nil)) (pe_dget2 (hu_of hr) (pv 1) (pe_ix ix_tup (pv 6) pe_int (fun _ _ => rfl)) pe_int ⟨rfl, rfl, rfl, rfl⟩) (nomark _))))) (pss_one (ps_ret (pv 5))) pss_nil)
      (Evl.pss_cut (ps_if (pt_cmpR op_in_seq (pe_ix ix_tup (pv 6) pe_int (fun _ _ => rfl)) (pe_tup (pa_cons pe_str (pa_cons pe_str (pa_cons pe_str (pa_cons pe_str pa_nil))))) (by rfl))
        (pss_cons (ps_if (pt_not (pt_val (pe_def N hr rfl (pa_cons (pe_ix ix_tup (pv 6) pe_int (fun _ _ => rfl)) pa_nil)))) (pss_one (ps_ret (pv 5))) pss_nil)
        (pss_one (ps_set (i := 3) scPlace.nd rfl (Or.inl rfl) (pe_op op_cat (pv 3) (pe_op op_rep (pe_lst (pa_cons (pe_ix ix_tup (pv 6) pe_int (fun _ _ => rfl)) pa_nil)) (pe_callTy call_int1 (by rfl) mn (by decide +kernel) (pa_cons (pe_cmpR op_notIn_seq (pe_ix ix_tup (pv 6) pe_int (fun _ _ => rfl)) (pv 3) (by rfl)) pa_nil))))))) pss_nil)
      (pss_cons (ps_if (pt_cmpR op_eq (pe_callB call_len_seq (by rfl) ml PySem.boot_len (pa_cons (pv 3) pa_nil)) pe_int (nomark _)) (pss_one (ps_ret (pv 5))) pss_nil)
      (pss_cons (ps_set (i := 4) scPlace.nd rfl (Or.inl rfl) (pe_op op_add (pv 4) pe_int))
      (pss_cons (ps_set (i := 7) scPlace.nd rfl (Or.inr rfl) (pe_def O hr rfl (pa_cons (pv 6) pa_nil)))
      (pss_one (ps_set (i := 2) scPlace.nd rfl (Or.inl rfl) (pe_op op_cat (pv 2)
        (pe_lc (own := [("k", 8)]) (g := gName 8) (tt := tYes) rfl scPlace.nd (pi_range1 rfl mr (pa_cons (pe_callB call_len_seq (by rfl) ml PySem.boot_len (pa_cons (pv 7) pa_nil)) pa_nil)) (blkOk_by (own := [("k", 8)]) (N := nPl) (sc := defScope sPlace) (by decide +kernel))
          (fun _ _ _ _ _ => pg_name (i := 8) scPlace.nd rfl (Or.inl rfl)) (fun _ _ _ _ _ => pts_nil)
          (fun _ _ _ _ _ => pe_tup (pa_cons (pe_op (op_catAK (K := K) rfl) (pv 5) (pe_tup (pa_cons (pe_op op_sub (pe_op op_sub (pe_callB (call_lenK (K := K) rfl) (by rfl) ml PySem.boot_len (pa_cons (pv 7) pa_nil)) pe_int) (pv 8)) pa_nil)))
            (pa_cons (pe_ix (ix_listK (K := K) rfl) (pv 7) (pe_op op_sub (pe_op op_sub (pe_callB (call_lenK (K := K) rfl) (by rfl) ml PySem.boot_len (pa_cons (pv 7) pa_nil)) pe_int) (pv 8)) (fun _ _ => rfl)) pa_nil)))))))))))))))
    (pss_one (ps_ret pe_non))))), ?_⟩
  refine fun pg hpg => ⟨upd_same, (shapeTab.take 10).map fun p => (.inr p.1, .int ((1 + p.2.1 + p.2.2 : Nat) : Int)), rfl, (by decide), _, rfl, pg, _, rfl, DPut.k (k := .inr "put") upd_same ?_, ?_⟩
  · rw [mergeK_nd (by show ((shapeTab.take 10).map fun p => (Sum.inr p.1 : Key)).Nodup; decide +kernel)]
    exact Nat.lt_of_le_of_lt (show _ ≤ 10 by decide) (by decide)
  have eL : putK (mergeK [] ((shapeTab.take 10).map fun p => ((Sum.inr p.1 : Key), V.int ((1 + p.2.1 + p.2.2 : Nat) : Int)))) (.inr "put") (.int 4) = longsK := by
    rw [mergeK_nd (by show ((shapeTab.take 10).map fun p => (Sum.inr p.1 : Key)).Nodup; decide +kernel)]
    rfl
  rw [eL]
  have f1 : Same H (upd (upd (upd H pg (.dK [])) pg (.dK (mergeK [] ((shapeTab.take 10).map fun p => ((Sum.inr p.1 : Key), V.int ((1 + p.2.1 + p.2.2 : Nat) : Int)))))) pg (.dK longsK)) := same_mut hpg (same_mut hpg (same_new hpg _))
  have f2 : (upd (upd (upd H pg (.dK [])) pg (.dK (mergeK [] ((shapeTab.take 10).map fun p => ((Sum.inr p.1 : Key), V.int ((1 + p.2.1 + p.2.2 : Nat) : Int)))))) pg (.dK longsK)) pg = some (.dK longsK) := upd_same
  generalize upd (upd (upd H pg (.dK [])) pg (.dK (mergeK [] ((shapeTab.take 10).map fun p => ((Sum.inr p.1 : Key), V.int ((1 + p.2.1 + p.2.2 : Nat) : Int)))))) pg (.dK longsK) = Hg at *
  refine ⟨Nat.zero_le _, fun t0 ht0 => ⟨_, rfl, (by show 2 ≤ sizeLine; decide), fun t1 ht1 => ⟨(by show 1 ≤ sizeLine; decide), fun pl hpl => ⟨Nat.zero_le _, fun pm hpm => ⟨_, _, _, rfl, ?_⟩⟩⟩⟩⟩
  have h1 : Same Hg (upd Hg t0 (.tup [])) := same_new ht0 _
  have h2 := Same.trans h1 (same_new ht1 (.tup [V.ref t0, v]))
  have h3 := Same.trans h2 (same_new hpl (.lst [V.ref t1]))
  have h4 := Same.trans h3 (same_new hpm (.lst []))
  refine ⟨WP K s0 l0 H v d0, ⟨61, ?_⟩, fun m σ H1 hW => ?_⟩
  · refine ⟨[], [([], d0)], [.ref t1], 0, pg, pl, pm, _, _, _, _, rfl, h4 _ _ f2, s_at (same_new hpm _) upd_same, upd_same, hpg, none_back (Same.trans f1 h2) hpl, none_back (Same.trans f1 h3) hpm, fun z => ?_, .cons ⟨t1, t0, v, rfl, ?_, ?_, hv, Nat.zero_le _, fun n hn => by cases hn⟩ .nil, Same.trans f1 h4, Nat.zero_le _, rfl, Nat.zero_le _, Nat.le_refl _, rfl⟩
    · rw [z, upd_same] at hpm
      cases hpm
    · exact SqT.of (s_at (Same.trans (same_new hpl _) (same_new hpm _)) upd_same)
    · exact SqT.of (s_at (Same.trans (same_new ht1 (.tup [V.ref t0, v])) (Same.trans (same_new hpl _) (same_new hpm _))) upd_same)
  clear f1 f2 h1 h2 h3 h4 ht0 ht1 hpl hpm eL hpg
  obtain ⟨ns, st, es, met, pg, pl, pm, x5, x6, x7, x8, rfl, g1, g2, g3, n1, n2, n3, ne, ent, sa, hn, hm, h60, hst, hwk⟩ := hW
  refine ⟨_, rfl, Nat.zero_le _, fun te hte => ⟨pl, te, _, rfl, rfl, SqL.of (s_at (same_new hte _) g2), SqL.of upd_same, _, rfl, ?_⟩⟩
  have e1 : Same H1 (upd H1 te (.lst [])) := same_new hte _
  have g1 := e1 _ _ g1
  have g2 := e1 _ _ g2
  have g3 := e1 _ _ g3
  have ent := ent.tk (tk_same e1)
  have sa := Same.trans sa e1
  clear e1
  generalize upd H1 te (.lst []) = H2 at *
  obtain ⟨m, rfl⟩ : ∃ k, m = k + 1 := ⟨m - 1, by omega⟩
  cases ent with
  | nil => exact iteF (qn hwk.symm H2 sa)
  | @cons e er e0 sr he hr0 =>
    obtain ⟨way, d1⟩ := e0
    obtain ⟨t, u, y, rfl, a1, a2, a3, a4, a5⟩ := he
    have a4 : way.length ≤ 10 := a4
    have a5 : ∀ n ∈ way, n < 16 := a5
    have hne : (!(V.ref t :: er).reverse.isEmpty) = true := by simp
    rw [hne]
    refine iteT ⟨fun σ' H' => WP K s0 l0 H v d0 m σ' H', fun _ _ h => ⟨m, Nat.lt_succ_self m, h⟩, ?_⟩
    have hlast : (V.ref t :: er).reverse[(V.ref t :: er).reverse.length - 1]? = some (V.ref t) := by simp
    have hdl : (V.ref t :: er).reverse.dropLast = er.reverse := by simp
    refine ⟨_, rfl, .inl ⟨rfl, _, SqL.of g2⟩, pl, _, _, rfl, rfl, g2, hlast, ?_⟩
    rw [hdl]
    have k1 : TK K H2 (upd H2 pl (.lst er.reverse)) := tk_put g2
    have g1' : upd H2 pl (.lst er.reverse) pg = some (.dK longsK) := by
      rw [upd_ne (ne_of g1 g2 (by intro z; cases z))]
      exact g1
    have g3' : upd H2 pl (.lst er.reverse) pm = some (.lst (ns.map V.str)) := by
      rw [upd_ne ne]
      exact g3
    have g2' : upd H2 pl (.lst er.reverse) pl = some (.lst er.reverse) := upd_same
    have sa := same_mut n2 sa (o := .lst er.reverse)
    have a1 := k1 _ _ a1
    have a2 := k1 _ _ a2
    have hr0 := hr0.tk k1
    clear k1 g1 g2 g3
    generalize upd H2 pl (.lst er.reverse) = H3 at *
    have a3' := a3.same sa
    refine ⟨t, _, rfl, a1, rfl, _, _, rfl, _, _, rfl, rfl, ?_⟩
    have e9 : (wayV way).length = way.length := List.length_map ..
    have gone : placeD d0 = some way → ∀ H', Same H3 H' → Q (.ref u) H' := fun hw H' e => qp way hw H' u (Same.trans sa e) (Same.seqT e a2) a4 a5
    unfold walk at hwk
    refine ⟨_, rfl, rfl, _, rfl, ite2 (fun c1 => ?_) (fun c1 => ⟨_, rfl, u, _, rfl, .inr a2, rfl, _, rfl, ite2 (fun c2 => ?_) (fun c2 => ?_)⟩)⟩
    · have c : (met : Int) = 60 := V.int.inj (of_decide_eq_true c1)
      rw [if_pos (.inl (by omega))] at hwk
      exact ⟨_, rfl, gone hwk.symm H3 (Same.refl _)⟩
    · have c : ((wayV way).length : Int) = 10 := V.int.inj (of_decide_eq_true c2)
      rw [if_pos (.inr (by omega))] at hwk
      exact ⟨_, rfl, gone hwk.symm H3 (Same.refl _)⟩
    have hno : ¬ (met ≥ 60 ∨ way.length > 9) := by
      have b1 : ¬ V.int (met : Int) = V.int 60 := of_decide_eq_false (Bool.eq_false_iff.mpr c1)
      have b2 : ¬ V.int ((wayV way).length : Int) = V.int 10 := of_decide_eq_false (Bool.eq_false_iff.mpr c2)
      have b3 : met ≠ 60 := fun z => b1 (by rw [z]; rfl)
      have b4 : way.length ≠ 10 := fun z => b2 (by rw [e9, z]; rfl)
      omega
    rw [if_neg hno] at hwk
    have bad : formD d1 = none → ∀ H', Same H3 H' → Q (.ref u) H' := fun hf => by
      rw [hf] at hwk
      exact gone hwk.symm
    obtain ⟨ty, ty1, ty2, _⟩ := tg_ty a3'
    refine ⟨_, rfl, y, .ty "tuple", .type ty, .type "tuple", isTup d1, rfl, .ty _, ty1, kit_ty ty2, _, rfl, ?_⟩
    cases a3' with
    | @tup a xs ds ha hxs =>
      refine iteF ⟨_, rfl, a, _, rfl, .inr ha, rfl, _, rfl, ?_⟩
      cases hxs with
      | nil => exact iteT ⟨_, rfl, bad rfl H3 (Same.refl _)⟩
      | @cons x0 xr d0' dr h0 hr1 =>
        have e0 : decide (V.int (((x0 :: xr).length : Nat) : Int) = V.int 0) = false := decide_eq_false fun z => by
          have := V.int.inj z
          rw [List.length_cons] at this
          omega
        rw [e0]
        refine iteF ⟨_, rfl, a, _, _, x0, rfl, rfl, ha, atI_nat (j := 0) rfl, ?_⟩
        obtain ⟨tz, tz1, _, tz2⟩ := tg_ty h0
        refine ⟨x0, .ty "str", .type tz, .type "str", isStr d0', rfl, .ty _, tz1, kit_ty tz2, _, rfl, ?_⟩
        cases h0 with
        | str z hz =>
          refine iteF ⟨_, rfl, a, _, rfl, .inr ha, _, rfl, pg, rfl, .inl ⟨_, .inl g1'⟩, _, rfl, a, _, _, _, rfl, rfl, ha, atI_nat (j := 0) rfl, _, DGet.k (k := .inr z) g1', ?_⟩
          rw [longs_get]
          have hrl : dr.length = xr.length := hr1.len
          cases hs : shapeT z with
          | none =>
            refine ⟨rfl, _, rfl, ?_⟩
            have : (!decide (V.int (((V.str z :: xr).length : Nat) : Int) = V.int 0)) = true := by
              rw [decide_eq_false (fun q => by
                have := V.int.inj q
                rw [List.length_cons] at this
                omega)]
              rfl
            have e : (!decide (V.int (((V.str z :: xr).length : Nat) : Int) = (Option.map (fun q : Nat × Nat => V.int ((1 + q.1 + q.2 : Nat) : Int)) none).getD (V.int 0))) = true := this
            rw [e]
            exact iteT ⟨_, rfl, bad (form_no hs) H3 (Same.refl _)⟩
          | some sp =>
            obtain ⟨p, p2⟩ := sp
            have hp1 : p ≤ 1 := (shapeT_word hs).2.2.1
            have hform := form_some (r := dr) hs
            refine ⟨rfl, _, rfl, ?_⟩
            by_cases hlen : dr.length = p + p2
            rotate_left
            · have e : (!decide (V.int (((V.str z :: xr).length : Nat) : Int) = (Option.map (fun q : Nat × Nat => V.int ((1 + q.1 + q.2 : Nat) : Int)) (some (p, p2))).getD (V.int 0))) = true := by
                show (!decide (V.int (((V.str z :: xr).length : Nat) : Int) = V.int ((1 + p + p2 : Nat) : Int))) = true
                rw [decide_eq_false (fun q => by
                  have := V.int.inj q
                  rw [List.length_cons] at this
                  omega)]
                rfl
              rw [e]
              refine iteT ⟨_, rfl, bad ?_ H3 (Same.refl _)⟩
              rw [decide_eq_false hlen, Bool.false_and] at hform
              exact Option.isNone_iff_eq_none.mp (by rw [← Option.not_isSome, hform]; rfl)
            have e : (!decide (V.int (((V.str z :: xr).length : Nat) : Int) = (Option.map (fun q : Nat × Nat => V.int ((1 + q.1 + q.2 : Nat) : Int)) (some (p, p2))).getD (V.int 0))) = false := by
              show (!decide (V.int (((V.str z :: xr).length : Nat) : Int) = V.int ((1 + p + p2 : Nat) : Int))) = false
              rw [decide_eq_true (by
                rw [List.length_cons]
                congr 1
                omega)]
              rfl
            rw [e]
            rw [decide_eq_true hlen, Bool.true_and] at hform
            have nodef : formD (.tuple (.str z :: dr)) = none → ∀ H', Same H3 H' → Q (.ref u) H' := bad
            refine iteF ⟨fun σ' H' => ∃ (pm' : Addr) (o : Option Str) (ps : List PyData), formD (.tuple (.str z :: dr)) = some (o, ps) ∧ σ' = [some v, some (.ref pg), some (.ref pl), some (.ref pm'), some (.int (met : Nat)), some (.ref u), some (.ref a), x7, x8] ∧ Same H3 H' ∧ H' pm' = some (.lst ((addN ns o).map V.str)) ∧ H pm' = none ∧ pm' ≠ pl, ?_, ?_⟩
            · refine ⟨_, rfl, a, _, _, _, rfl, rfl, ha, atI_nat (j := 0) rfl, (by show 4 ≤ sizeLine; decide), fun t1 ht1 => ⟨t1, _, rfl, .inr (SqT.of upd_same), rfl, rfl, _, rfl, ite2 (fun c3 => ?_) (fun c3 => ?_)⟩⟩
              · have c3 : decide (z ∈ n4) = true := (inV_strs z n4).symm.trans c3
                have p1 : p = 1 := (shape_kind hs).2.2.2.mp (of_decide_eq_true c3)
                subst p1
                cases hr1 with
                | nil =>
                  rw [List.length_nil] at hlen
                  omega
                | @cons x1 xr1 d2 dr1 h1 hr2 =>
                have e2 : Same H3 (upd H3 t1 (.tup [V.str "name", V.str "some", V.str "all", V.str "put"])) := same_new ht1 _
                refine ⟨_, rfl, a, _, _, x1, rfl, rfl, Same.seqT e2 ha, atI_nat (j := 1) rfl, s0, l0, x1, d2, rfl, h1.same e2, fun H4 e4 => ⟨_, rfl, ?_⟩⟩
                have e5 := Same.trans e2 e4
                clear e2 e4
                have hform : (formD (.tuple (.str z :: d2 :: dr1))).isSome = isNameD d2 := hform
                cases hnm : isNameD d2 with
                | false =>
                  rw [hnm] at hform
                  exact iteT ⟨_, rfl, nodef (Option.isNone_iff_eq_none.mp (by rw [← Option.not_isSome, hform]; rfl)) H4 e5⟩
                | true =>
                  refine iteF ?_
                  cases h1 with
                  | str x hx =>
                    have hf : formD (.tuple (.str z :: .str x :: dr1)) = some (some x, dr1) := by
                      rw [hnm] at hform
                      unfold formD at hform ⊢
                      dsimp only at hform ⊢
                      rw [hs] at hform ⊢
                      dsimp only at hform ⊢
                      split
                      · rfl
                      · rename_i hc
                        rw [if_neg hc] at hform
                        cases hform
                    have g3'' := e5 _ _ g3'
                    refine ⟨_, rfl, _, rfl, a, _, _, _, rfl, rfl, Same.seqT e5 ha, atI_nat (j := 1) rfl, (by show 1 ≤ sizeLine; decide), fun p1 hp1 => ?_⟩
                    have e6 := Same.trans e5 (same_new hp1 (.lst [V.str x]))
                    refine ⟨_, rfl, a, _, _, _, rfl, rfl, Same.seqT e6 ha, atI_nat (j := 1) rfl, _, rfl, pm, _, rfl, .inl (SqL.of (e6 _ _ g3')), rfl, flat_strs _, .inr ⟨_, rfl, p1, _, _, rfl, rfl, upd_same, ?_, ?_, ?_, fun p2 hp2 => ⟨pm, p2, _, _, rfl, rfl, (Same.trans e6 (same_new hp2 _)) _ _ g3', upd_same, ?_, fun p3 hp3 => ?_⟩⟩⟩
                    · show -(2 ^ 63) ≤ (if (!inV (V.str x) (ns.map V.str)) = true then (1 : Int) else 0)
                      split <;> decide
                    · show (if (!inV (V.str x) (ns.map V.str)) = true then (1 : Int) else 0) < 2 ^ 63
                      split <;> decide
                    · show 1 * (if (!inV (V.str x) (ns.map V.str)) = true then (1 : Int) else 0).toNat ≤ sizeLine
                      split <;> decide
                    · show (ns.map V.str).length + (List.replicate (if (!inV (V.str x) (ns.map V.str)) = true then (1 : Int) else 0).toNat [V.str x]).flatten.length ≤ sizeLine
                      rw [List.length_map]
                      split
                      · exact Nat.le_trans (show _ ≤ 11 by show ns.length + 1 ≤ 11; omega) (by decide)
                      · exact Nat.le_trans (show _ ≤ 11 by show ns.length + 0 ≤ 11; omega) (by decide)
                    · refine ⟨p3, some x, dr1, hf, rfl, Same.trans e6 (Same.trans (same_new hp2 _) (same_new hp3 _)), ?_, none_back (Same.trans sa (Same.trans e6 (same_new hp2 _))) hp3, fun z2 => ?_⟩
                      · rw [upd_same]
                        congr 2
                        show ns.map V.str ++ (List.replicate (if (!inV (V.str x) (ns.map V.str)) = true then (1 : Int) else 0).toNat [V.str x]).flatten = _
                        rw [inV_strs]
                        unfold addN
                        dsimp only
                        by_cases hxn : x ∈ ns
                        · rw [decide_eq_true hxn, if_pos hxn, if_neg (by decide)]
                          exact List.append_nil _
                        · rw [decide_eq_false hxn, if_neg hxn, if_pos (by decide), List.map_append]
                          rfl
                      · rw [z2, s_at (Same.trans e6 (same_new hp2 _)) g2'] at hp3
                        cases hp3
                  | _ => cases hnm
              · have c3 : ¬ z ∈ n4 := fun z2 => c3 ((inV_strs z n4).trans (decide_eq_true z2))
                have p0 : p = 0 := by
                  have : p ≠ 1 := fun z2 => c3 ((shape_kind hs).2.2.2.mpr z2)
                  omega
                subst p0
                have hf : formD (.tuple (.str z :: dr)) = some (none, dr) := by
                  unfold formD
                  dsimp only
                  rw [hs]
                  dsimp only
                  rw [if_pos (by omega)]
                refine ⟨pm, none, dr, hf, rfl, same_new ht1 _, (same_new ht1 _) _ _ g3', n3, ne⟩
            rintro σ H4 ⟨pm', o, ps, hf, rfl, e4, h4, n4', ne'⟩
            rw [hf] at hwk
            dsimp only at hwk
            have hps := form_few hf
            refine ⟨_, rfl, pm', _, rfl, .inl (SqL.of h4), rfl, _, rfl, ite2 (fun c5 => ?_) (fun c5 => ?_)⟩
            · have c : (((addN ns o).map V.str).length : Int) = 11 := V.int.inj (of_decide_eq_true c5)
              rw [List.length_map] at c
              rw [if_pos (by omega)] at hwk
              exact ⟨_, rfl, gone hwk.symm H4 e4⟩
            have hal := addN_len ns o
            have hle : ¬ (addN ns o).length > 10 := by
              have c : ¬ V.int (((addN ns o).map V.str).length : Int) = V.int 11 := of_decide_eq_false (Bool.eq_false_iff.mpr c5)
              rw [List.length_map] at c
              have : (addN ns o).length ≠ 11 := fun z2 => c (by rw [z2]; rfl)
              omega
            rw [if_neg hle] at hwk
            refine ⟨_, rfl, _, _, rfl, rfl, ?_⟩
            refine ⟨_, rfl, s0, l0, .ref a, .tuple (.str z :: dr), o, ps, H, rfl, Same.trans sa e4, a3, hf, fun H5 pq xs e5 n5 h5 hxs => ?_⟩
            have sb := Same.trans (Same.trans sa e4) e5
            have q2 : H5 pl = some (.lst er.reverse) := e5 _ _ (e4 _ _ g2')
            have q1 : H5 pg = some (.dK longsK) := e5 _ _ (e4 _ _ g1')
            have q3 : H5 pm' = some (.lst ((addN ns o).map V.str)) := e5 _ _ h4
            have qu : SqT K H5 u (wayV way) := Same.seqT (Same.trans e4 e5) a2
            have hxl : ps.length = xs.length := hxs.len
            have hrE := hr0.tk (tk_same (Same.trans e4 e5))
            refine ⟨_, rfl, _, rfl, pq, _, rfl, .inl (SqL.of h5), _, rfl, by omega, by omega, fun D hD => ?_⟩
            have hst' : sr.length ≤ 2 * met := by
              simp only [List.length_cons] at hst
              omega
            refine lc_range (lo := 0) (n := (xs.length : Int).toNat) (fun j H' => Same H5 H' ∧ ∃ es' : List V, H' D = some (.lst es'.reverse) ∧ EntsP K s0 l0 H H' es' ((kids way 0 ps).drop (ps.length - j)))
              ⟨same_mut hD (Same.refl _), [], upd_same, by rw [Nat.sub_zero, ← kids_length (way := way) (i := 0), List.drop_length]; exact .nil⟩ ?_ ?_
            · rintro j H6 hj ⟨e6, es', h6, ent'⟩
              obtain ⟨i, hi⟩ : ∃ i, ps.length - j = i + 1 := ⟨ps.length - j - 1, by omega⟩
              have ei : (xs.length : Int) - 1 - (0 + (j : Int)) = ((i : Nat) : Int) := by omega
              obtain ⟨dp, hdp⟩ : ∃ dp, ps[i]? = some dp := ⟨_, List.getElem?_eq_getElem (by omega)⟩
              obtain ⟨xp, hxp, hxt⟩ := hxs.get hdp
              have l6 : SqL K H6 pq xs := SqL.of (e6 _ _ h5)
              refine ⟨rfl, ?_⟩
              show _
              refine ⟨_, rfl, _, rfl, _, _, rfl, .inl ⟨_, l6, rfl⟩, _, _, rfl, rfl, _, rfl, _, _, rfl, rfl, ?_⟩
              refine ⟨(by show 1 ≤ sizeLine; decide), fun p1 hp1 => ?_⟩
              have y1 : Same H6 (upd H6 p1 (.tup [V.int ((xs.length : Int) - 1 - (0 + (j : Int)))])) := same_new hp1 _
              refine catA_any (ys := [V.int (i : Nat)]) (Same.seqT (Same.trans e6 y1) qu) (SqT.of (by rw [← ei]; exact upd_same)) (by rw [e9]; show way.length + 1 ≤ 1000; omega) fun H7 p7 e7 s7 => ?_
              have y2 := Same.trans y1 e7
              have l7 : SqL K H7 pq xs := SqL.of ((Same.trans e6 y2) _ _ h5)
              refine ⟨_, rfl, _, rfl, _, _, rfl, .inl ⟨_, l7, rfl⟩, _, _, rfl, rfl, _, rfl, _, _, rfl, rfl, ?_⟩
              refine ⟨pq, xs, (xs.length : Int) - 1 - (0 + (j : Int)), xp, rfl, rfl, l7, (by rw [ei]; exact atI_nat (j := i) hxp), (by show 2 ≤ sizeLine; decide), fun p8 hp8 => ?_⟩
              have y3 := Same.trans y2 (same_new hp8 (.tup [V.ref p7, xp]))
              have z8 : upd H7 p8 (.tup [V.ref p7, xp]) p8 = some (.tup [V.ref p7, xp]) := upd_same
              have z7 := Same.seqT (same_new hp8 (.tup [V.ref p7, xp])) s7
              have z6 := y3 _ _ h6
              clear y1 y2 hp8 e7 l6 l7
              generalize upd H7 p8 (.tup [V.ref p7, xp]) = H8 at *
              have le' : es'.length ≤ 3 := by
                rw [ent'.len, List.length_drop, kids_length]
                omega
              refine ⟨_, z6, ?_, same_mut hD (Same.trans e6 y3), V.ref p8 :: es', ?_, ?_⟩
              · rw [List.length_reverse]
                exact Nat.lt_of_le_of_lt le' (by decide)
              · rw [upd_same, List.reverse_cons]
              · have k9 : TK K H8 (upd H8 D (.lst (es'.reverse ++ [V.ref p8]))) := tk_put z6
                have e10 : ps.length - (j + 1) = i := by omega
                have ev : wayV (way ++ [i]) = wayV way ++ [V.int (i : Nat)] := by
                  unfold wayV
                  rw [List.map_append]
                  rfl
                rw [e10, kids_drop hdp, ← hi]
                refine .cons ⟨p8, p7, xp, rfl, k9 _ _ (SqT.of z8), k9 _ _ (by rw [ev]; exact z7), hxt, ?_, fun n hnn => ?_⟩ ((ent'.tk (tk_same y3)).tk k9)
                · rw [List.length_append, List.length_singleton]
                  omega
                · rcases List.mem_append.mp hnn with q | q
                  · exact a5 n q
                  · rw [List.mem_singleton.mp q]
                    omega
            · rintro H6 ⟨e6, es', h6, ent'⟩
              have e10 : ps.length - (xs.length : Int).toNat = 0 := by omega
              rw [e10, List.drop_zero] at ent'
              have l1 : es'.length = ps.length := by rw [ent'.len, kids_length]
              have l2 : er.length = sr.length := hrE.len
              refine ⟨pl, D, _, _, rfl, rfl, e6 _ _ q2, h6, ?_, fun p9 hp9 => ?_⟩
              · rw [List.length_reverse, List.length_reverse]
                exact Nat.le_trans (show _ ≤ 125 by omega) (by decide)
              have er2 : er.reverse ++ es'.reverse = (es' ++ er).reverse := by simp
              rw [er2]
              have y1 : Same H6 (upd H6 p9 (.lst (es' ++ er).reverse)) := same_new hp9 _
              have y2 := Same.trans e6 y1
              refine ⟨addN ns o, kids way 0 ps ++ sr, es' ++ er, met + 1, pg, p9, pm', _, _, _, _, rfl, y2 _ _ q1, upd_same, y2 _ _ q3, n1, none_back (Same.trans sb e6) hp9, n4', fun z2 => ?_, (ent'.tk (tk_same y1)).app (hrE.tk (tk_same y2)), Same.trans sb y2, by omega, by omega, by omega, ?_, hwk⟩
              · rw [← z2, e6 _ _ q3] at hp9
                cases hp9
              · rw [List.length_append, kids_length]
                omega
        | _ => exact iteT ⟨_, rfl, bad rfl H3 (Same.refl _)⟩
    | _ => exact iteT ⟨_, rfl, bad rfl H3 (Same.refl _)⟩
end
end Kn

set_option Elab.async false
set_option linter.all false
set_option maxRecDepth 100000
set_option maxHeartbeats 4000000
set_option pp.maxSteps 1200
namespace PySem.W
open PySem PySem.Spec PySem.Calls PyProof.Rows
/-! ### a tuple of nine classes in an except clause, the first one fits -/
section
variable {M : Model} {K : Frag}
theorem kn_exm9 {c1 c2 c3 c4 c5 c6 c7 c8 c9 cls : Value} {tp e : Addr} {b2 b3 b4 b5 b6 b7 b8 b9 : Bool} {h : Heap} (X : K.In h) (LT : Looks M h (typeOf (.ref e)) cls) (hp : h.get? tp = some { cls := .type "tuple", data := .seq [c1, c2, c3, c4, c5, c6, c7, c8, c9].toArray })
    (x1 : exmOne K cls c1 = some true) (x2 : exmOne K cls c2 = some b2) (x3 : exmOne K cls c3 = some b3) (x4 : exmOne K cls c4 = some b4) (x5 : exmOne K cls c5 = some b5) (x6 : exmOne K cls c6 = some b6) (x7 : exmOne K cls c7 = some b7) (x8 : exmOne K cls c8 = some b8) (x9 : exmOne K cls c9 = some b9) :
    Looks M h (excMatches (.ref e) (.ref tp)) true := by
  intro A Q E s k₀ q
  obtain ⟨hh, g, d, tk, os⟩ := s
  have k : ∀ b o, h.get? b = some o → hh.get? b = some o := k₀
  have LT0 := (((Looks.ld (M := M) hp).andThen .now).andThen (Looks.of_pure isSubtype_tuple_tuple) : Looks M h (isInstance (.ref tp) (.type "tuple")) true).keeps k
  have e1 := (exm_cls (M := M) X x1).1.keeps k
  have S1 := (exm_cls (M := M) X x1).2.keeps k
  have e2 := (exm_cls (M := M) X x2).1.keeps k
  have e3 := (exm_cls (M := M) X x3).1.keeps k
  have e4 := (exm_cls (M := M) X x4).1.keeps k
  have e5 := (exm_cls (M := M) X x5).1.keeps k
  have e6 := (exm_cls (M := M) X x6).1.keeps k
  have e7 := (exm_cls (M := M) X x7).1.keeps k
  have e8 := (exm_cls (M := M) X x8).1.keeps k
  have e9 := (exm_cls (M := M) X x9).1.keeps k
  have LT := LT.keeps k
  have hp' := k _ _ hp
  clear x1 x2 x3 x4 x5 x6 x7 x8 x9
  unfold excMatches
  refine wpAny_bind (LT0.at ?_)
  dsimp only
  rw [if_pos rfl]
  first
    | refine wpAny_bind (wpAny_seqItems hp' rfl ?_)
    | refine wpAny_bind (wpAny_bind (wpAny_seqItems hp' rfl (wpAny_pure ?_)))
  dsimp only [Option.getD_some, Option.getD]
  (repeat (first | simp only [List.forIn_cons, List.forIn_nil, Bool.not_true, Bool.false_eq_true, if_false, if_true] | lk))
  exact q
end
end PySem.W
namespace Kn
open PySem L2 TL PySem.Spec PyProof.Rows
/-! ### an exception in the air, things laid beside it -/
theorem fly_push {B h : Heap} {l : List Env} {a : Addr} {Z : Obj → Prop} {o : Obj} (x : HandSPX.FlyingZ B l a Z h) : HandSPX.FlyingZ B l a Z (h.push o) := by
  obtain ⟨h1, h2, h3, oe, vs, T, oT, ts, e1, e2, e3, e4, e5, e6, e7, e8, e9⟩ := x
  exact ⟨fun b u q => Heap.get?_push_of_some _ (h1 b u q), h2, Heap.FunFrames.of_keeps (fun b u q _ => ⟨u, Heap.get?_push_of_some _ q, rfl⟩) h3, oe, vs, T, oT, ts, Heap.get?_push_of_some _ e1, e2, e3, e4, e5, e6, Heap.get?_push_of_some _ e7, e8, e9⟩
/-- names of classes in a row -/
inductive NamesL (X : Cx) : List Expr → List Value → Prop
  | nil : NamesL X [] []
  | cons {x : Str} {c : Value} {p : Pos} {es : List Expr} {cs : List Value} : Names X x c → NamesL X es cs → NamesL X (.Name x p :: es) (c :: cs)
theorem namesL_run {X : Cx} {a : Addr} {pn pins : List (Addr × Obj)} {σ : L2.St} {H : Hp} {s : Shared} (I : Inv (X.suite a pn) pins σ H s) {E : Value → Shared → Prop} {pos : Pos} : ∀ {es : List Expr} {cs : List Value} {Q : List Value → Shared → Prop}, NamesL X es cs → Q cs s →
    wpAny (model X.prog X.w) (X.A.mark (some (.ref a))) (spliced (backTo pos (starEach es X.env))) Q E s
  | _, _, Q, .nil, q => Calls.spliced_nil q
  | _, _, Q, .cons (x := x) (c := c) (p := p) (es := es) (cs := cs) hn hr, q => by
    show wpAny _ _ (spliced ((false, eval (.Name x p) X.env) :: backTo pos (starEach es X.env))) _ _ s
    refine Calls.spliced_cons ?_
    have rest : wpAny (model X.prog X.w) (X.A.mark (some (.ref a))) (spliced (backTo pos (starEach es X.env))) (fun us s2 => Q (c :: us) s2) E s := namesL_run I hr q
    obtain ⟨hg, hd, hm | ⟨hm, hv, hnn⟩⟩ := hn
    · exact ld_glob (X := X.suite a pn) I hg hm rest hd
    · exact ld_blt (X := X.suite a pn) I hg hm hv rest hnn hd
/-! ### try .. except (C1, .., C9) as n: y = n, and what follows, with the exception kept -/
section
variable {X : Cx} {pins pn' : List (Addr × Obj)} {σ : L2.St} {H : Hp} {s : Shared} {a : Addr} {q : Addr × Obj} {xe : Value → Shared → Prop}
theorem untr (I : Inv (X.tr (q :: (X.pn ++ pins)) xe) pn' σ H s) (ok : X.Ok) : Inv X pins σ H s :=
  ⟨ok, I.os, I.bare, I.base, I.loc, I.cell, I.free, I.freeC, fun p hp => I.pin p (List.mem_append_left pn' (List.mem_cons_of_mem q hp)), I.hok, I.len⟩
theorem totr (I : Inv (X.suite a (q :: (X.pn ++ pins))) [] σ H s) (ok : X.Ok) : Inv (X.tr (q :: (X.pn ++ pins)) X.xe) [] σ H s :=
  ⟨ok.toTry _ _, I.os, I.bare, I.base, I.loc, I.cell, I.free, I.freeC, fun p hp => I.pin p hp, I.hok, I.len⟩
theorem push_any (I : Inv X pins σ H s) (o : Obj) : Inv X pins σ H { s with heap := s.heap.push o } := I.kept (t' := s.toks) fun b ob e => Heap.get?_push_of_some _ e
end
/-- an end that isn't reached -/
def never : Ends := { nx := fun _ _ => False, rt := fun _ _ => False, bk := fun _ _ => False, ct := fun _ _ => False }
def wKp (K : PySem.W.Frag) (c1 : Value) (cs : List Value) (i j ln : Nat) (tr : Addr → Value → Option Addr → TS) (D : Ends) : WX := fun cls d σ H =>
  PySem.W.exmOne K cls c1 = some true ∧ (∀ c ∈ cs, ∃ b, PySem.W.exmOne K cls c = some b) ∧ ∀ a, H a = none → σ.length = ln → tr a cls d D (((σ.set i (some (.ref a))).set j (some (.ref a))).set i none) H
section
variable {X : Cx} {body rest : List Stmt} {n y : Str} {i j kt : Nat} {es : List Expr} {tpos npos ypos apos pos pos' : Pos} {c1 c2 c3 c4 c5 c6 c7 c8 c9 : Value} {tb : WX → TS} {tr : Addr → Value → Option Addr → TS}
theorem pss_keep (hs : X.stack = X.env :: X.outer) (hf : X.env.frame = some X.env.locals) (hN : X.N.Nodup) (hi : X.N[i]? = some n) (hln : X.env.kindOf n = some .local) (hv : Vis X.env.scope n) (hnd : (n == ("__debug__" : Str)) = false) (hnc : (n == ("__classdict__" : Str)) = false) (hj : X.N[j]? = some y) (hly : Loc X.env.scope y) (hlk : X.env.scope.names.lookup y = some .local)
    (hes : NamesL X es [c1, c2, c3, c4, c5, c6, c7, c8, c9]) (hsw : swapsWith (.Name n npos) (some (.Name y ypos)) apos.line X.env = pure false)
    (hb : ∀ (W : WX) (pn : List (Addr × Obj)) (xe : Value → Shared → Prop), Takes (X.tr pn xe) W → PassesOwn (model X.prog X.w) X.A X.env xe → PSs (X.tr pn xe) body (tb W))
    (hr : ∀ (a : Addr) (oe : Obj) (cls : Value) (d : Option Addr) (pn : List (Addr × Obj)), Zc cls d oe → (∃ vs, oe.data = .fields vs) → PSs (X.tr ((a, oe) :: pn) X.xe) rest (tr a cls d)) :
    PSs X (.Try body [.ExceptHandler (some (.Tuple es kt tpos)) (some n) [.Assign [.Name y ypos] (.Name n npos) apos] pos'] [] [] pos :: rest) (fun D σ H => tb (wKp X.K c1 [c2, c3, c4, c5, c6, c7, c8, c9] i j X.N.length tr D) never σ H) := by
  refine ⟨fun pins s σ H D I h => ?_⟩
  have ok := I.ok; have hfr : X.A.frames = some (X.env :: X.outer) := by rw [ok.frames, hs]
  have main : wpAny (model X.prog X.w) X.A (exec (.Try body [.ExceptHandler (some (.Tuple es kt tpos)) (some n) [.Assign [.Name y ypos] (.Name n npos) apos] pos'] [] [] pos) X.env)
      (fun f s1 => f = Flow.next ∧ ∃ (a : Addr) (oe : Obj) (cls : Value) (d : Option Addr) (σ' : L2.St) (H' : Hp), Zc cls d oe ∧ (∃ vs, oe.data = .fields vs) ∧ Inv (X.tr ((a, oe) :: (X.pn ++ pins)) X.xe) [] σ' H' s1 ∧ tr a cls d D σ' H') X.xe s := by
    refine wpAny_Try_except ?_
    refine wpAny_mono ((hb (wKp X.K c1 [c2, c3, c4, c5, c6, c7, c8, c9] i j X.N.length tr D) (X.pn ++ pins) (fun e s₁ => wpAny (model X.prog X.w) X.A (noteFrame e X.env) (fun _ s₂ => wpAny (model X.prog X.w) X.A (setFlight e none) (fun _ s₃ =>
      wpAny (model X.prog X.w) X.A (handleBy e X.env [.ExceptHandler (some (.Tuple es kt tpos)) (some n) [.Assign [.Name y ypos] (.Name n npos) apos] pos'])
        (fun f s1 => f = Flow.next ∧ ∃ (a : Addr) (oe : Obj) (cls : Value) (d : Option Addr) (σ' : L2.St) (H' : Hp), Zc cls d oe ∧ (∃ vs, oe.data = .fields vs) ∧ Inv (X.tr ((a, oe) :: (X.pn ++ pins)) X.xe) [] σ' H' s1 ∧ tr a cls d D σ' H') X.xe s₃) X.xe s₂) X.xe s₁) (fun u s' xx => ?_) PassesOwn.looking).run [] s σ H never (I.toTry _) h) (fun f s1 hsp => ?_) (fun e s1 he => he)
    · obtain ⟨a, BB, sI, pins', σ', H', cls, d, rfl, G', nb, up, sky, na, os, ag, w1, w2, w3⟩ := xx
      have G : Inv X pins σ' H' sI := G'.ofTry ok
      have sky' : Sky BB (X.env :: X.outer) a (Zc cls d) X.env.locals s'.heap := hs ▸ sky
      show wpAny (model X.prog X.w) X.A (noteFrame (.ref a) X.env) _ _ _
      refine Sky.land Zc.steady hfr hf sky' fun g3 fl3 up3 => ?_
      have G3 : Inv X pins σ' H' { s' with heap := g3 } := G.landed nb fl3.1 (up.trans up3) os ag
      obtain ⟨o3, v3, he3, hz3, hd3⟩ := fl3.there
      have nfr : a ∉ frs (X.env :: X.outer) := fun hm => by
        obtain ⟨_, o', e', hnf⟩ := (fl3.2.2.1).mem hm
        rw [he3] at e'
        cases e'
        exact hnf _ hd3
      have nL : a ≠ X.env.locals := fun z => nfr (List.mem_filterMap.mpr ⟨X.env, .head _, by rw [hf, z]⟩)
      have nF : a ∉ X.fs := fun hm => by
        obtain ⟨e, he, q⟩ := List.mem_filterMap.mp hm
        exact nfr (List.mem_filterMap.mpr ⟨e, .tail _ he, q⟩)
      have S3 := G3.suite he3 hd3 na nL nF
      refine wpAny_handleBy_cons (codeAny_handlers_test ?_) (by intro q; cases q)
      refine Tuple_ (namesL_run S3 hes ?_)
      refine wpAny_newObj_type ?_ (by show 9 ≤ sizeLine; decide)
      have fl4 := fly_push (o := { cls := .type "tuple", data := .seq [c1, c2, c3, c4, c5, c6, c7, c8, c9].toArray }) fl3
      have kK : X.K.In (g3.push { cls := .type "tuple", data := .seq [c1, c2, c3, c4, c5, c6, c7, c8, c9].toArray }) := (push_any G3 _).kIn
      have LT : PySem.W.Looks (model X.prog X.w) (g3.push { cls := .type "tuple", data := .seq [c1, c2, c3, c4, c5, c6, c7, c8, c9].toArray }) (typeOf (.ref a)) cls := fun A Q E s k q => wpAny_typeOf_ref (k _ _ (Heap.get?_push_of_some _ he3)) (hz3.1 ▸ q)
      obtain ⟨b2, x2⟩ := w2 c2 (by simp)
      obtain ⟨b3, x3⟩ := w2 c3 (by simp)
      obtain ⟨b4, x4⟩ := w2 c4 (by simp)
      obtain ⟨b5, x5⟩ := w2 c5 (by simp)
      obtain ⟨b6, x6⟩ := w2 c6 (by simp)
      obtain ⟨b7, x7⟩ := w2 c7 (by simp)
      obtain ⟨b8, x8⟩ := w2 c8 (by simp)
      obtain ⟨b9, x9⟩ := w2 c9 (by simp)
      have LM := PySem.W.kn_exm9 (M := model X.prog X.w) kK LT (Heap.get?_push_size g3 rfl) w1 x2 x3 x4 x5 x6 x7 x8 x9
      refine LM.here ?_
      refine codeAny_handlers_suite_as ?_
      refine HandSPX.lands_againZ fl4 fun g5 fl5 up5 => ?_
      have G4 : Inv X pins σ' H' { s' with heap := g5 } := G.landed nb fl5.1 (((up.trans up3).trans (fun b o e _ => ⟨o.slots, Heap.get?_push_of_some _ e⟩)).trans up5) os ag
      obtain ⟨o5, v5, he5, hz5, hd5⟩ := fl5.there
      have S5 := G4.suite he5 hd5 na nL nF
      refine store_ok (X := X.suite a ((a, o5) :: (X.pn ++ pins))) (v := .ref a) S5 hN hi (.inl hln) rfl (fun s6 S6 => ?_) (.inr hln)
      have hasg : PSs (X.suite a ((a, o5) :: (X.pn ++ pins))) [.Assign [.Name y ypos] (.Name n npos) apos] _ := pss_one (ps_set (i := j) hN hj hly (pe_var (i := i) hi hv hnd hnc) hsw (.inr hlk))
      refine wpAny_mono (hasg.run [] s6 _ H' { never with nx := fun σ6 H6 => tr a cls d D (σ6.set i none) H6 } S6 ?_) (fun f s7 hsp => ?_) (fun _ _ z => False.elim z)
      · have hl : i < σ'.length := by
          have h1 := G4.len
          have h2 := (List.getElem?_eq_some_iff.mp hi).1
          omega
        exact ⟨.ref a, List.getElem?_set_self hl, w3 a na G4.len⟩
      · cases f with
        | next =>
          obtain ⟨σ7, H7, S7, q7⟩ := hsp
          exact gone_ok (X := X.suite a ((a, o5) :: (X.pn ++ pins))) S7 hN hi hln fun s8 S8 => ⟨rfl, a, o5, cls, d, _, _, hz5, ⟨_, hd5⟩, totr S8 ok, q7⟩
        | brk =>
          obtain ⟨_, _, _, q7⟩ := hsp
          exact False.elim q7
        | cont =>
          obtain ⟨_, _, _, q7⟩ := hsp
          exact False.elim q7
        | ret u =>
          obtain ⟨_, _, _, _, _, q7⟩ := hsp
          exact False.elim q7
    · cases f with
      | next =>
        obtain ⟨_, _, _, q7⟩ := hsp
        exact False.elim q7
      | brk =>
        obtain ⟨_, _, _, q7⟩ := hsp
        exact False.elim q7
      | cont =>
        obtain ⟨_, _, _, q7⟩ := hsp
        exact False.elim q7
      | ret u =>
        obtain ⟨_, _, _, _, _, q7⟩ := hsp
        exact False.elim q7
  refine wpAny_execs_cons (thn main fun f s1 q => ?_)
  obtain ⟨rfl, a, oe, cls, d, σ', H', hz, hd, G', w⟩ := q
  refine wpAny_mono ((hr a oe cls d (X.pn ++ pins) hz hd).run [] s1 σ' H' D G' w) (fun f s2 hsp => ?_) (fun _ _ z => z)
  cases f with
  | next =>
    obtain ⟨σ7, H7, S7, q7⟩ := hsp
    exact ⟨σ7, H7, untr S7 ok, q7⟩
  | brk =>
    obtain ⟨σ7, H7, S7, q7⟩ := hsp
    exact ⟨σ7, H7, untr S7 ok, q7⟩
  | cont =>
    obtain ⟨σ7, H7, S7, q7⟩ := hsp
    exact ⟨σ7, H7, untr S7 ok, q7⟩
  | ret u =>
    obtain ⟨v, σ7, H7, S7, r7, q7⟩ := hsp
    exact ⟨v, σ7, H7, untr S7 ok, r7, q7⟩
/-! ### the kept exception looked at -/
def tXfK (a : Addr) (cls : Value) (d : Option Addr) (C : Addr) (f : Str) (te : TE) : TE := fun σ H Q => te σ H fun x H1 => x = .ref a ∧ cls = .ref C ∧ ∃ (dd : Addr) (fs : List (Str × V)) (v : V), d = some dd ∧ H1 dd = some (.xd fs) ∧ fs.lookup f = some v ∧ Q v H1
end
section
variable {Y : Cx} {a C : Addr} {oe : Obj} {cls : Value} {d : Option Addr}
theorem kept_at {pins : List (Addr × Obj)} {σ : L2.St} {H1 : Hp} {s1 : Shared} {dd : Addr} {fs : List (Str × V)} (hm : (a, oe) ∈ Y.pn) (hz : Zc (.ref C) (some dd) oe) (hf : ∃ vs, oe.data = .fields vs) (I1 : Inv Y pins σ H1 s1) (ea : H1 dd = some (.xd fs)) :
    ∃ (od : Obj) (mA : Str → Option Value), PySem.W.InstAt s1.heap a oe C (some od) ∧ (∀ n, PySem.W.lookIn n od = some (mA n)) ∧ ∀ n, RelO (fs.lookup n) (mA n) := by
  obtain ⟨h1, _⟩ := I1.pin (a, oe) (List.mem_append_left pins hm)
  obtain ⟨vs, hd⟩ := hf
  have hx : ObjOk Y.prog Y.w H1 s1.heap dd (.xd fs) := I1.hok dd _ ea
  obtain ⟨mA, hns, hr⟩ := hx
  obtain ⟨od, ho, hl⟩ := lookIn_ns hns
  exact ⟨od, mA, ⟨h1, hz.1, by unfold PySem.W.notCls; rw [hd] <;> rfl, by rw [hz.2]; exact ho⟩, hl, hr⟩
/-- caught.f -/
theorem pe_xfK {e : Expr} {te : TE} {pos : Pos} {n : Str} (T : XfC Y.K C) (hno : PySem.W.findIn Y.K (.ref C) n = some none) (hm : (a, oe) ∈ Y.pn) (hz : Zc cls d oe) (hf : ∃ vs, oe.data = .fields vs) (he : PE Y e te)
    (hb : attributeBase e n Y.env (eval e Y.env) = eval e Y.env := by rfl) : PE Y (.Attribute e n pos) (tXfK a cls d C n te) := by
  refine ⟨fun pins s σ H Q I h => attr_of hb (thn (he.run pins s σ H _ I h) fun u s1 hh => ?_)⟩
  obtain ⟨x, H1, I1, rx, rfl, rfl, dd, fs, v, rfl, ea, l, q⟩ := hh
  obtain rfl : u = Value.ref a := rx
  obtain ⟨od, mA, J, hl, hr⟩ := kept_at hm hz hf I1 ea
  obtain ⟨u, hu, ru⟩ := RelO.some_of (v := v) (o := mA n) (by rw [← l]; exact hr n)
  exact HandSPX.exc_get I1.kIn J T.ga T.gg T.exC (PySem.W.findObj_own T.hdC hno rfl (by rw [hl, hu])) (handed_of ru) ⟨v, H1, I1.tok _, ru, q⟩
/-- isinstance(caught, c) -/
def rIsK (K : PySem.W.Frag) (C a : Addr) (cls : Value) (d : Option Addr) : List V → Hp → VK → Prop := fun xs H Q => ∃ (c : V) (cv : Value) (b : Bool) (dd : Addr) (fs : List (Str × V)), xs = [.ref a, c] ∧ ClsV c cv ∧ cls = .ref C ∧ d = some dd ∧ H dd = some (.xd fs) ∧ PySem.W.kitOne K (.ref C) cv = some b ∧ Q (.bl b) H
theorem call_isK (T : ExcC Y.K C) (hm : (a, oe) ∈ Y.pn) (hz : Zc cls d oe) (hf : ∃ vs, oe.data = .fields vs) : CallR Y (.builtin "isinstance") (rIsK Y.K C a cls d) := by
  intro pins s σ H xs us Q I r h
  obtain ⟨c, cv, b, dd, fs, rfl, hcv, rfl, rfl, ea, e, q⟩ := h
  cases r with
  | cons rx rr =>
    cases rr with
    | cons rt rr =>
      cases rr
      cases rx
      have ec := hcv.eq rt
      subst ec
      obtain ⟨od, mA, J, _, _⟩ := kept_at hm hz hf I ea
      exact PySem.W.kia_one (PySem.W.kitx_exc (by obtain ⟨cd, hc, _⟩ := PySem.W.any_some T.hd; rw [hc]; rfl) T.hg T.hk T.hs T.ha T.hn T.ht T.hm) I.kIn J e (fun z => nomatch z) fun tk => ⟨.bl b, H, I.kept (t' := tk) fun _ _ z => z, rfl, q⟩
end
end Kn

set_option Elab.async false
set_option linter.all false
set_option maxRecDepth 100000
set_option maxHeartbeats 4000000
set_option pp.maxSteps 1200
namespace Kn
open PySem L2 TL PySem.Spec PyProof.Rows LamX
/-! ### repr of data, where no repr is under way -/
def rRepr (K : PySem.W.Frag) : List V → Hp → VK → Prop := fun xs H Q => ∃ p d, xs = [.ref p] ∧ Dp K H (.ref p) d ∧ PyData.showable d = true ∧ d.hasDict = false ∧ d.depth ≤ 60 ∧ d.shown.length ≤ sizeLine ∧ Q (.str d.shown) H
section
variable {X : Cx}
theorem call_reprD (hg : X.A.guards = some []) (hu : X.A.units + 64 < cLine) : CallR X (.builtin "repr") (rRepr X.K) := by
  intro pins s σ H xs us Q I r h
  obtain ⟨p, d, rfl, hd, hs, hn, h6, hz, q⟩ := h
  obtain ⟨u, rfl, rx⟩ := vals1 r
  obtain rfl : u = Value.ref p := rx
  obtain ⟨as, rd⟩ := Dp.reads I d _ _ hd rfl
  refine repr_of_reads' rd hs (fun z => by rw [hn] at z; cases z) hg (by omega) (fun _ _ e => e) (fun h' u tk k => ?_) hz
  exact ⟨.str d.shown, H, I.kept k, ⟨u, rfl⟩, q⟩
end
/-! ### defs called where no repr is under way -/
structure FnG (P : Program) (w : World) (K : PySem.W.Frag) (mg : Str → Option Value) (base : Heap) (CX : CXT) (k : Nat) (f : Addr) (fd : FuncData) (ps : List Str) (sp : Sp) : Prop where
  len : ∀ vs H Q E, sp vs H Q E → vs.length = ps.length
  run : ∀ (A : Around) (outer : List Env) (s : Shared) (H : Hp) (args : Args) (us : List Value) (vs : List V) (Q : VK) (E : XK), A.guards = some [] → Room k A → Env0 P w K mg base A outer s H → BindsTo s fd args (ps.zip us) → Vals vs us → sp vs H Q E →
    codeAny (model P w) A (.call (.ref f) args) (CR CX outer P w H s Q E) s
section
variable {P : Program} {w : World} {K : PySem.W.Frag} {mg : Str → Option Value} {base : Heap}
theorem Fn.okG {x qual : Str} {st : Stmt} {f : Addr} {fd : FuncData} {N ps : List Str} {k : Nat} {sp : Sp} (F : Fun K x qual st f fd) (S : FnScope N ps (defScope st)) (len : ∀ vs H Q E, sp vs H Q E → vs.length = ps.length)
    (hbody : ∀ (cdv : Value) (A : Around) (outer : List Env) (s : Shared) (H : Hp) (vs : List V) (Q : VK) (E : XK), PySem.W.codeIn K cdv qual = true → (∃ fd', K.lookup f = some fd' ∧ ∃ kV doc pm an ct, fd'.data = .func (PySem.W.fnOf x qual (defArgs st) (defBody st) (defScope st) .none kV doc pm an cdv ct)) → A.guards = some [] → Room k (A.deeper (envOfC qual (defScope st) s.heap.objs.size f cdv)) → sp vs H Q E →
      ∃ t, PSs (cxOf CX0 P w K mg base N qual (defScope st) f cdv A outer s H E).nox (defBody st) t ∧ t { nx := fun _ H' => Q .non H', rt := Q } (L2.start N vs) H) : FnG P w K mg base CX0 (k + 1) f fd ps sp := by
  obtain ⟨oc, od, kV, doc, pm, an, cdv, ct, osl, rfl, lk, hcd⟩ := F.ex
  refine ⟨len, fun A outer s H args us vs Q E hg hr e0 hb r hsp => ?_⟩
  refine run_ofS lk hcd S hr e0 hb r (len _ _ _ _ hsp) fun hr' => ?_
  obtain ⟨t, h, q⟩ := hbody cdv A outer s H vs Q E hcd ⟨_, lk, kV, doc, pm, an, ct, rfl⟩ hg hr' hsp
  exact ⟨t, h.nox, q⟩
end
section
variable {X : Cx}
theorem pe_callG {CX : CXT} {k : Nat} {f : Addr} {fd : FuncData} {ps : List Str} {sp : Sp} {E : XK} {x : Str} {p pos : Pos} {e : Expr} {es : List Expr} {t : TA} (F : FnG X.prog X.w X.K X.mg X.base CX k f fd ps sp) (gd : X.A.guards = some []) (hr : Room k X.A) (hg : Gl X x) (hm : X.mg x = some (.ref f)) (hk : PySem.W.keepIn X.K (.ref f) = true)
    (hb : L2.Binds X.K fd ps []) (hx : Passes CX X E) (ha : PA X (e :: es) t) (hdb : (x == ("__debug__" : Str)) = false := by decide) (he : starEach (e :: es) X.env = (false, eval e X.env) :: starEach es X.env := by rfl) (hpl : (backTo pos (starEach es X.env)).any (·.1) = false := by rfl) :
    PE X (.Call (.Name x p) (e :: es) [] pos) (tCall sp [] E t) := by
  refine ⟨fun pins s σ H Q I h => wpAny_Call_Name_kw (ld_glob I hg hm ?_ hdb)⟩
  refine PySem.W.callWith_K (h₀ := X.base) I.ok.mod.kin hk (thn (ha.run pos pins s σ H _ I h) fun us s1 ⟨vs, H1, I1, r, q⟩ => ⟨I1.kIn, ?_⟩) he hpl
  show wpAny _ _ (call (.ref f) us) _ _ _
  have q : sp (vs ++ []) H1 Q E := q
  rw [List.append_nil] at q
  have hl : (us ++ []).length = ps.length := by rw [List.append_nil, ← r.length]; exact F.len _ _ _ _ q
  have hbb := hb s1 us I1.kIn hl
  rw [List.append_nil] at hbb
  refine wpAny_call (codeAny_mono (F.run X.A X.stack s1 H1 ⟨us, []⟩ us vs Q E gd hr I1.env0 hbb r q) fun r2 s' hq => ?_)
  cases r2 with
  | error e => exact hx pins σ H1 s1 e s' I1 hq
  | ok fl =>
    cases fl with
    | ret u => exact I1.after hq
    | next => exact False.elim hq
    | brk => exact False.elim hq
    | cont => exact False.elim hq
end
end Kn

set_option Elab.async false
set_option linter.all false
set_option maxRecDepth 100000
set_option maxHeartbeats 4000000
set_option pp.maxSteps 1200
namespace Kn
open PySem L2 TL PySem.Spec PyProof.Rows LamX
/-! ### _law_refused -/
abbrev nRef : List Str := ["deed", "caught", "error", "told", "bases"]
theorem scRefused : FnScope nRef ["deed"] (defScope sRefused) := ⟨rfl, rfl, rfl, by decide +kernel, rfl, by decide +kernel, by decide +kernel⟩
/-- what is known of the classes: C BadFormula, the others behind it -/
structure RefK (K : PySem.W.Frag) (mg : Str → Option Value) (C c2 c3 c4 c5 c6 c7 c8 c9 : Addr) : Prop where
  m1 : mg "BadFormula" = some (.ref C)
  m2 : mg "BadText" = some (.ref c2)
  m3 : mg "BadOrder" = some (.ref c3)
  m4 : mg "BadTable" = some (.ref c4)
  m5 : mg "BadPaper" = some (.ref c5)
  m6 : mg "BadQuestion" = some (.ref c6)
  m7 : mg "NoSuch" = some (.ref c7)
  m8 : mg "TooGreat" = some (.ref c8)
  m9 : mg "HangsOn" = some (.ref c9)
  x1 : PySem.W.exmOne K (.ref C) (.ref C) = some true
  xs : ∀ c ∈ ([.ref c2, .ref c3, .ref c4, .ref c5, .ref c6, .ref c7, .ref c8, .ref c9] : List Value), ∃ b, PySem.W.exmOne K (.ref C) c = some b
  k1 : PySem.W.kitOne K (.ref C) (.ref C) = some true
  ks : ∀ c ∈ ([.ref c2, .ref c3, .ref c4, .ref c5, .ref c6, .ref c7, .ref c8, .ref c9, .type "KeyError", .type "OverflowError", .type "RuntimeError"] : List Value), PySem.W.kitOne K (.ref C) c = some false
  kv : PySem.W.kitOne K (.ref C) (.type "ValueError") = some true
  ec : ExcC K C
  fc : XfC K C
  noP : PySem.W.findIn K (.ref C) "place" = some none
  noN : PySem.W.findIn K (.ref C) "name" = some none
def wayD (way : List Nat) : PyData := .tuple (way.map fun n => .int (n : Nat))
/-- the text that is due -/
def dueT (way : List Nat) : Str := ("formula" : Str) ++ " " ++ (wayD way).shown
/-- what _law_refused makes of a deed that is refused so -/
def TTR (K : PySem.W.Frag) (C : Addr) : (XK → Hp → VK → Prop) → Hp → VK → Prop := fun tl H Q =>
  tl (fun cls d H' => ∃ (dx p : Addr) (way : List Nat), cls = .ref C ∧ d = some dx ∧ H' dx = some (.xd [("place", .ref p)]) ∧ SqT K H' p (wayV way) ∧ way.length ≤ 10 ∧ (∀ n ∈ way, n < 16) ∧ ∀ H'', Same H' H'' → Q (.str (dueT way)) H'') H fun _ _ => False
/-! #### ways as data -/
theorem way_all : ∀ way : List Nat, (∀ n ∈ way, n < 16) → PyData.showableAll (way.map fun n => PyData.int (n : Nat)) = true ∧ PyData.hasDictAll (way.map fun n => PyData.int (n : Nat)) = false ∧ PyData.depthAll (way.map fun n => PyData.int (n : Nat)) ≤ 1 ∧ PyData.canLayAll0 (way.map fun n => PyData.int (n : Nat)) = true ∧ PyData.shownAll (way.map fun n => PyData.int (n : Nat)) = way.map natTx
  | [], _ => ⟨rfl, rfl, Nat.zero_le _, rfl, rfl⟩
  | n :: r, h => by
    obtain ⟨a1, a2, a3, a4, a5⟩ := way_all r fun z hz => h z (List.mem_cons_of_mem _ hz)
    have h16 := h n List.mem_cons_self
    have hl : ((n : Nat) : Int).natAbs.log2 < 1920 := by
      rw [Int.natAbs_natCast]
      by_cases h0 : n = 0
      · rw [h0]
        decide
      · exact (Nat.log2_lt h0).mpr (Nat.lt_of_lt_of_le h16 (by
          have := Nat.pow_le_pow_right (n := 2) (by decide) (show 4 ≤ 1920 by decide)
          exact this))
    refine ⟨?_, ?_, ?_, ?_, ?_⟩
    · simp only [List.map_cons, PyData.showableAll, PyData.showable, a1, Bool.and_true]
      exact decide_eq_true hl
    · simp only [List.map_cons, PyData.hasDictAll, PyData.hasDict, a2, Bool.or_self]
    · simp only [List.map_cons, PyData.depthAll, PyData.depth]
      omega
    · simp only [List.map_cons, PyData.canLayAll0, PyData.canLay0, a4, Bool.and_self]
    · simp only [List.map_cons, PyData.shownAll, PyData.shown, a5]
      rfl
theorem way_ok {way : List Nat} (hl : way.length ≤ 10) (h : ∀ n ∈ way, n < 16) : PyData.showable (wayD way) = true ∧ (wayD way).hasDict = false ∧ (wayD way).depth ≤ 60 ∧ (wayD way).shown.length ≤ 500 := by
  obtain ⟨a1, a2, a3, a4, a5⟩ := way_all way h
  unfold wayD
  refine ⟨?_, ?_, ?_, ?_⟩
  · simp only [PyData.showable, a1]
  · simp only [PyData.hasDict, a2]
  · simp only [PyData.depth]
    omega
  · simp only [PyData.shown, a5]
    have h1 := piled_ints way h
    have h2 := fmt_text (way.map natTx)
    omega
theorem way_dp {K : PySem.W.Frag} {H : Hp} {p : Addr} {way : List Nat} (h : SqT K H p (wayV way)) : Dp K H (.ref p) (wayD way) := by
  refine .tup h ?_
  unfold wayV
  clear h
  induction way with
  | nil => exact .nil
  | cons n r ih => exact .cons (.int _) ih
theorem cat_any {H : Hp} {p b : Addr} {xs ys : List V} {Q : VK} (hp : H p = some (.lst xs)) (hb : H b = some (.lst ys)) (hz : xs.length + ys.length ≤ 1000) (q : ∀ H' r, Same H H' → H' r = some (.lst (xs ++ ys)) → Q (.ref r) H') : rCat (.ref p) (.ref b) H Q :=
  ⟨p, b, xs, ys, rfl, rfl, hp, hb, Nat.le_of_lt (small1000 hz), fun r hr => q _ r (same_new hr _) upd_same⟩
def tTold (K : PySem.W.Frag) (C a : Addr) (cls : Value) (d : Option Addr) (w : Str) (cv : Value) : TE := fun σ H Q => σ[1]? = some (some (.ref a)) ∧ cls = .ref C ∧ ∃ (dd : Addr) (fs : List (Str × V)) (b : Bool), d = some dd ∧ H dd = some (.xd fs) ∧ PySem.W.kitOne K (.ref C) cv = some b ∧
  ∀ H' p, Same H H' → H' p = some (.lst (if b = true then [.str w] else [])) → Q (.ref p) H'
section
variable {Y : Cx} {C a cv : Addr} {cls : Value} {d : Option Addr} {oe : Obj} {w x : Str} {k : Nat} {p1 p2 p3 p4 p5 p6 p7 p8 p9 : Pos}
theorem pe_told0 (T : ExcC Y.K C) (hm : (a, oe) ∈ Y.pn) (hz : Zc cls d oe) (hf : ∃ vs, oe.data = .fields vs) (mi : Y.mg "isinstance" = none) (mn : Y.mg "int" = none) (hx : Y.mg x = some (.ref cv)) (hN : Y.N[1]? = some ("caught" : Str)) (gl1 : Gl Y "int") (gl2 : Gl Y "isinstance") (glx : Gl Y x) (hv : Vis Y.env.scope "caught") (hdx : (x == ("__debug__" : Str)) = false) :
    PE Y (.BinOp (.List [.Constant (.str w) k p1] p2) .Mult (.Call (.Name "int" p3) [.Call (.Name "isinstance" p4) [.Name "caught" p5, .Name x p6] [] p7] [] p8) p9) (tTold Y.K C a cls d w (.ref cv)) := by
  have hp := pe_op (pos := p9) op_rep (pe_lst (pos := p2) (pa_cons (pe_str (X := Y) (x := w) (j := k) (pos := p1)) pa_nil)) (pe_callTy (p := p3) (pos := p8) call_int1 gl1 mn (by decide +kernel) (pa_cons (pe_callB (p := p4) (pos := p7) (call_isK T hm hz hf) gl2 mi PyProof.Rows.boot_isinstance (pa_cons (pe_var (pos := p5) (i := 1) hN hv rfl rfl) (pa_cons (pe_glob (pos := p6) (v := .ref cv) glx hx rfl hdx) pa_nil))) pa_nil))
  refine ⟨fun pins s σ H Q I h => hp.run pins s σ H Q I ?_⟩
  obtain ⟨h1, h2, dd, fs, b, h3, h4, h5, q⟩ := h
  refine ⟨(by show 1 ≤ sizeLine; decide), fun r1 hr1 => ⟨.ref a, h1, .ref cv, .ref cv, b, dd, fs, rfl, .own _, h2, h3, s_at (same_new hr1 _) h4, h5, .inr ⟨b, rfl, r1, _, _, rfl, rfl, upd_same, ?_, ?_, ?_, fun r2 hr2 => ?_⟩⟩⟩
  · cases b <;> decide
  · cases b <;> decide
  · cases b
    · show 1 * 0 ≤ sizeLine
      decide
    · show 1 * 1 ≤ sizeLine
      decide
  · refine q _ r2 (Same.trans (same_new hr1 _) (same_new hr2 _)) ?_
    rw [upd_same]
    cases b <;> rfl
end
section
variable {X : Cx} {K : PySem.W.Frag} {C a cv : Addr} {cls : Value} {d : Option Addr} {oe : Obj} {w x : Str} {k : Nat} {p1 p2 p3 p4 p5 p6 p7 p8 p9 : Pos}
theorem pe_told (hK : X.K = K) (T : ExcC K C) (hm : (a, oe) ∈ X.pn) (hz : Zc cls d oe) (hf : ∃ vs, oe.data = .fields vs) (mi : X.mg "isinstance" = none) (mn : X.mg "int" = none) (hx : X.mg x = some (.ref cv)) (hN : X.N[1]? = some ("caught" : Str)) (gl1 : Gl X "int") (gl2 : Gl X "isinstance") (glx : Gl X x) (hv : Vis X.env.scope "caught") (hdx : (x == ("__debug__" : Str)) = false) :
    PE X (.BinOp (.List [.Constant (.str w) k p1] p2) .Mult (.Call (.Name "int" p3) [.Call (.Name "isinstance" p4) [.Name "caught" p5, .Name x p6] [] p7] [] p8) p9) (tTold K C a cls d w (.ref cv)) := by
  subst hK
  exact pe_told0 T hm hz hf mi mn hx hN gl1 gl2 glx hv hdx
theorem call_isKK (hK : X.K = K) (T : ExcC K C) (hm : (a, oe) ∈ X.pn) (hz : Zc cls d oe) (hf : ∃ vs, oe.data = .fields vs) : CallR X (.builtin "isinstance") (rIsK K C a cls d) := by
  subst hK
  exact call_isK T hm hz hf
theorem op_neDK (hK : X.K = K) (hu : X.A.units + 64 < cLine) : OpR X (compareOp .NotEq) (rNeD K) := by
  subst hK
  exact op_neD hu
theorem call_reprK (hK : X.K = K) (hg : X.A.guards = some []) (hu : X.A.units + 64 < cLine) : CallR X (.builtin "repr") (rRepr K) := by
  subst hK
  exact call_reprD hg hu
theorem pe_xfKK {e : Expr} {te : TE} {pos : Pos} {n : Str} (hK : X.K = K) (T : XfC K C) (hno : PySem.W.findIn K (.ref C) n = some none) (hm : (a, oe) ∈ X.pn) (hz : Zc cls d oe) (hf : ∃ vs, oe.data = .fields vs) (he : PE X e te)
    (hb : attributeBase e n X.env (eval e X.env) = eval e X.env := by rfl) : PE X (.Attribute e n pos) (tXfK a cls d C n te) := by
  subst hK
  exact pe_xfK T hno hm hz hf he hb
theorem sl_listK (hK : X.K = K) : SlR X (rSlL K) := by
  subst hK
  exact sl_list
end
section
variable {X : Cx}
theorem ref_gives {g C c2 c3 c4 c5 c6 c7 c8 c9 : Addr} {cdg : Value} {q : Str} (R : RefK X.K X.mg C c2 c3 c4 c5 c6 c7 c8 c9) (gd : X.A.guards = some []) (hu : X.A.units + 200 < cLine) (mi : X.mg "isinstance" = none) (mn : X.mg "int" = none) (ml : X.mg "len" = none) (mrp : X.mg "repr" = none)
    (mK : X.mg "KeyError" = none) (mO : X.mg "OverflowError" = none) (mR : X.mg "RuntimeError" = none) (mV : X.mg "ValueError" = none) :
    GivesTo X nRef "_law_refused" (defScope sRefused) g cdg (defBody sRefused) "deed" q (TTR X.K C) := by
  obtain ⟨prog, w, K, mg, base, A0, N0, s0, H0, env0, out0, stk0, ex0, fn0, calm0, pn0, xe0⟩ := X
  dsimp only at R gd hu mi mn ml mrp mK mO mR mV
  intro f c' s H Q tl act hc h
  have hu3 : A0.units + 3 + 64 < cLine := by omega
  refine ⟨_, pss_cons (ps_set (i := 1) scRefused.nd rfl (Or.inl rfl) pe_non)
    (pss_keep (i := 2) (j := 1) (c1 := .ref C) (c2 := .ref c2) (c3 := .ref c3) (c4 := .ref c4) (c5 := .ref c5) (c6 := .ref c6) (c7 := .ref c7) (c8 := .ref c8) (c9 := .ref c9)
      (tb := fun W D σ H => ∃ Ech : XK, (∀ cls d σ' H', Ech cls d H' → W cls d σ' H') ∧ σ[0]? = some (some (.ref f)) ∧ H c' = some (CodeO c' q) ∧ tl Ech H fun _ H' => D.nx σ H')
      rfl rfl scRefused.nd rfl rfl (Or.inl rfl) rfl rfl rfl (Or.inl rfl) rfl
      (.cons ⟨rfl, rfl, .inl R.m1⟩ (.cons ⟨rfl, rfl, .inl R.m2⟩ (.cons ⟨rfl, rfl, .inl R.m3⟩ (.cons ⟨rfl, rfl, .inl R.m4⟩ (.cons ⟨rfl, rfl, .inl R.m5⟩ (.cons ⟨rfl, rfl, .inl R.m6⟩ (.cons ⟨rfl, rfl, .inl R.m7⟩ (.cons ⟨rfl, rfl, .inl R.m8⟩ (.cons ⟨rfl, rfl, .inl R.m9⟩ .nil))))))))) rfl
      (fun W pn xe tk _ => ?_) (fun a oe cls d pn hz hf =>
        pss_cons (ps_set (i := 3) scRefused.nd rfl (Or.inl rfl) (pe_op op_cat (pe_told (K := K) rfl R.ec (by exact .head _) hz hf mi mn R.m1 (by rfl) (by rfl) (by rfl) (by rfl) (by exact .inl rfl) (by rfl)) (pe_told (K := K) rfl R.ec (by exact .head _) hz hf mi mn R.m2 (by rfl) (by rfl) (by rfl) (by rfl) (by exact .inl rfl) (by rfl))))
        (pss_cons (ps_set (i := 3) scRefused.nd rfl (Or.inl rfl) (pe_op op_cat (pe_op op_cat (pv 3) (pe_told (K := K) rfl R.ec (by exact .head _) hz hf mi mn R.m3 (by rfl) (by rfl) (by rfl) (by rfl) (by exact .inl rfl) (by rfl))) (pe_told (K := K) rfl R.ec (by exact .head _) hz hf mi mn R.m4 (by rfl) (by rfl) (by rfl) (by rfl) (by exact .inl rfl) (by rfl))))
        (pss_cons (ps_set (i := 3) scRefused.nd rfl (Or.inl rfl) (pe_op op_cat (pe_op op_cat (pv 3) (pe_told (K := K) rfl R.ec (by exact .head _) hz hf mi mn R.m5 (by rfl) (by rfl) (by rfl) (by rfl) (by exact .inl rfl) (by rfl))) (pe_told (K := K) rfl R.ec (by exact .head _) hz hf mi mn R.m6 (by rfl) (by rfl) (by rfl) (by rfl) (by exact .inl rfl) (by rfl))))
        (pss_cons (ps_set (i := 3) scRefused.nd rfl (Or.inl rfl) (pe_op op_cat (pe_op op_cat (pv 3) (pe_told (K := K) rfl R.ec (by exact .head _) hz hf mi mn R.m7 (by rfl) (by rfl) (by rfl) (by rfl) (by exact .inl rfl) (by rfl))) (pe_told (K := K) rfl R.ec (by exact .head _) hz hf mi mn R.m8 (by rfl) (by rfl) (by rfl) (by rfl) (by exact .inl rfl) (by rfl))))
        (pss_cons (ps_set (i := 3) scRefused.nd rfl (Or.inl rfl) (pe_op op_cat (pv 3) (pe_told (K := K) rfl R.ec (by exact .head _) hz hf mi mn R.m9 (by rfl) (by rfl) (by rfl) (by rfl) (by exact .inl rfl) (by rfl))))
        (pss_cons (ps_if (PW.pt (pw_or (pt_cmpR op_isN (pv 1) pe_non (nomark _)) (pw_or1 (pt_cmpR op_ne (pe_callB (call_lenK (K := K) rfl) (by rfl) ml PySem.boot_len (pa_cons (pv 3) pa_nil)) pe_int (nomark _)))))
          (pss_one (ps_ret (pe_ifExp (pt_cmpR op_isN (pv 1) pe_non (nomark _)) pe_str pe_str))) pss_nil)
        (pss_cons (ps_set (i := 4) scRefused.nd rfl (Or.inl rfl) (pe_lst (pa_cons (pe_callB (call_isKK (K := K) rfl R.ec (by exact .head _) hz hf) (by rfl) mi PyProof.Rows.boot_isinstance (pa_cons (pv 1) (pa_cons (pe_bltn (v := .ty "KeyError") (by rfl) mK (by decide +kernel) rfl) pa_nil)))
          (pa_cons (pe_callB (call_isKK (K := K) rfl R.ec (by exact .head _) hz hf) (by rfl) mi PyProof.Rows.boot_isinstance (pa_cons (pv 1) (pa_cons (pe_bltn (v := .ty "OverflowError") (by rfl) mO (by decide +kernel) rfl) pa_nil)))
          (pa_cons (pe_callB (call_isKK (K := K) rfl R.ec (by exact .head _) hz hf) (by rfl) mi PyProof.Rows.boot_isinstance (pa_cons (pv 1) (pa_cons (pe_bltn (v := .ty "RuntimeError") (by rfl) mR (by decide +kernel) rfl) pa_nil))) pa_nil)))))
        (pss_cons (ps_set (i := 4) scRefused.nd rfl (Or.inl rfl) (pe_op op_cat (pv 4) (pe_lst (pa_cons (pe_callB (call_isKK (K := K) rfl R.ec (by exact .head _) hz hf) (by rfl) mi PyProof.Rows.boot_isinstance (pa_cons (pv 1) (pa_cons (pe_bltn (v := .ty "ValueError") (by rfl) mV (by decide +kernel) rfl) pa_nil))) pa_nil))))
        (pss_cons (ps_if (pt_cmpR (op_neDK (K := K) rfl hu3) (pv 4) (pe_lst (pa_cons (pe_cmpR op_eq (pe_ix (ix_listK (K := K) rfl) (pv 3) pe_int (fun _ _ => rfl)) pe_str (nomark _)) (pa_cons (pe_cmpR op_eq (pe_ix (ix_listK (K := K) rfl) (pv 3) pe_int (fun _ _ => rfl)) pe_str (nomark _)) (pa_cons (pe_cmpR op_eq (pe_ix (ix_listK (K := K) rfl) (pv 3) pe_int (fun _ _ => rfl)) pe_str (nomark _))
            (pa_cons (pe_cmpR (op_notInK (K := K) rfl) pe_bl (pe_slice (sl_listK (K := K) rfl) (pv 4) po_none (po_some pe_int)) (by rfl)) pa_nil))))) (nomark _)) (pss_one (ps_ret pe_str)) pss_nil)
        (pss_cons (ps_if (pt_cmpR (op_inK (K := K) rfl) (pe_ix (ix_listK (K := K) rfl) (pv 3) pe_int (fun _ _ => rfl)) (pe_tup (pa_cons pe_str (pa_cons pe_str (pa_cons pe_str (pa_cons pe_str (pa_cons pe_str pa_nil)))))) (by rfl))
          (pss_one (ps_ret (pe_op op_add_str (pe_op op_add_str (pe_ix (ix_listK (K := K) rfl) (pv 3) pe_int (fun _ _ => rfl)) pe_str) (pe_callB (call_reprK (K := K) rfl gd hu3) (by rfl) mrp PyProof.Rows.bootS_repr (pa_cons (pe_xfKK (K := K) rfl R.fc R.noP (by exact .head _) hz hf (pv 1)) pa_nil))))) pss_nil)
        (pss_one (ps_ret (pe_ifExp (pt_cmpR (op_inK (K := K) rfl) (pe_ix (ix_listK (K := K) rfl) (pv 3) pe_int (fun _ _ => rfl)) (pe_tup (pa_cons pe_str (pa_cons pe_str pa_nil))) (by rfl))
          (pe_op op_add_str pe_str (pe_callB (call_reprK (K := K) rfl gd hu3) (by rfl) mrp PyProof.Rows.bootS_repr (pa_cons (pe_xfKK (K := K) rfl R.fc R.noN (by exact .head _) hz hf (pv 1)) pa_nil))) (pe_ix (ix_listK (K := K) rfl) (pv 3) pe_int (fun _ _ => rfl)))))))))))))))), ?_⟩
  · refine ⟨fun pins s' σ H' D I h' => ?_⟩
    obtain ⟨Ech, hW, h1, h2, h3⟩ := h'
    have hp := pss_one (ps_expr (pos := ⟨203, 8, 203, 14⟩) (act W pn xe Ech ⟨203, 8, 203, 12⟩ ⟨203, 8, 203, 14⟩ tk hW))
    exact hp.run pins s' σ H' D I ⟨h1, h2, h3⟩
  refine ⟨fun cls d H' => ∃ (dx p : Addr) (way : List Nat), cls = .ref C ∧ d = some dx ∧ H' dx = some (.xd [("place", .ref p)]) ∧ SqT K H' p (wayV way) ∧ way.length ≤ 10 ∧ (∀ n ∈ way, n < 16) ∧ ∀ H'', Same H' H'' → Q (.str (dueT way)) H'', ?_, rfl, hc, h⟩
  rintro cls d σ' H1 ⟨dx, p, way, rfl, rfl, hdx, hp, hl, h16, q⟩
  refine ⟨R.x1, R.xs, fun a ha hlen => ?_⟩
  obtain ⟨s0, s1, s2, s3, s4, rfl⟩ : ∃ s0 s1 s2 s3 s4, σ' = [s0, s1, s2, s3, s4] := by
    match σ', hlen with
    | [s0, s1, s2, s3, s4], _ => exact ⟨s0, s1, s2, s3, s4, rfl⟩
    | [], h => cases h
    | [_], h => cases h
    | [_, _], h => cases h
    | [_, _, _], h => cases h
    | [_, _, _, _], h => cases h
    | _ :: _ :: _ :: _ :: _ :: _ :: tl, h =>
      have h : tl.length + 6 = 5 := h
      omega
  have no : ∀ {σ : L2.St} {w : Str} {cv : Value} (H2 : Hp) (Q1 : VK) (r : Addr), σ[1]? = some (some (.ref a)) → Same H1 H2 → H2 r = some (.lst [V.str "formula"]) → PySem.W.kitOne K (.ref C) cv = some false →
      (∀ H3 r2, Same H1 H3 → H3 r2 = some (.lst [V.str "formula"]) → Q1 (.ref r2) H3) → tTold K C a (.ref C) (some dx) w cv σ H2 (fun y H3 => rCat (.ref r) y H3 Q1) := fun {σ w cv} H2 Q1 r g1 e2 g2 g3 k => by
    refine ⟨g1, rfl, dx, _, false, rfl, e2 _ _ hdx, g3, fun H3 p3 e3 h3 => ?_⟩
    refine cat_any (xs := [V.str "formula"]) (ys := []) (e3 _ _ g2) h3 (by decide) fun H4 r4 e4 h4 => k H4 r4 (Same.trans e2 (Same.trans e3 e4)) h4
  refine ⟨rfl, rfl, dx, _, true, rfl, hdx, R.k1, fun H2 q1 e1 h1 => no H2 _ q1 rfl e1 h1 (R.ks _ (by simp)) fun H3 r3 e3 h3 => ?_⟩
  refine ⟨_, rfl, no H3 _ r3 rfl e3 h3 (R.ks _ (by simp)) fun H4 r4 e4 h4 => no H4 _ r4 rfl e4 h4 (R.ks _ (by simp)) fun H5 r5 e5 h5 => ?_⟩
  refine ⟨_, rfl, no H5 _ r5 rfl e5 h5 (R.ks _ (by simp)) fun H6 r6 e6 h6 => no H6 _ r6 rfl e6 h6 (R.ks _ (by simp)) fun H7 r7 e7 h7 => ?_⟩
  refine ⟨_, rfl, no H7 _ r7 rfl e7 h7 (R.ks _ (by simp)) fun H8 r8 e8 h8 => no H8 _ r8 rfl e8 h8 (R.ks _ (by simp)) fun H9 r9 e9 h9 => ?_⟩
  refine ⟨_, rfl, no H9 _ r9 rfl e9 h9 (R.ks _ (by simp)) fun HA rA eA hA => ?_⟩
  refine ⟨_, rfl, rfl, _, rfl, iteF ⟨_, rfl, _, _, rfl, .inl ⟨_, SqL.of hA, rfl⟩, rfl, _, rfl, iteF ?_⟩⟩
  refine ⟨_, rfl, .ty "KeyError", .type "KeyError", false, dx, _, rfl, .ty _, rfl, rfl, eA _ _ hdx, R.ks _ (by simp), _, rfl, .ty "OverflowError", .type "OverflowError", false, dx, _, rfl, .ty _, rfl, rfl, eA _ _ hdx, R.ks _ (by simp), _, rfl, .ty "RuntimeError", .type "RuntimeError", false, dx, _, rfl, .ty _, rfl, rfl, eA _ _ hdx, R.ks _ (by simp), (by show 3 ≤ sizeLine; decide), fun b1 hb1 => ?_⟩
  have eB := Same.trans eA (same_new hb1 (.lst [.bl false, .bl false, .bl false]))
  refine ⟨_, rfl, _, rfl, .ty "ValueError", .type "ValueError", true, dx, _, rfl, .ty _, rfl, rfl, eB _ _ hdx, R.kv, (by show 1 ≤ sizeLine; decide), fun b2 hb2 => cat_any (s_at (same_new hb2 _) upd_same) upd_same (by decide) fun HC b3 eC hC => ?_⟩
  have eD := Same.trans eB (Same.trans (same_new hb2 (.lst [.bl true])) eC)
  have hrA : HC rA = some (.lst [V.str "formula"]) := (Same.trans (same_new hb1 (.lst [.bl false, .bl false, .bl false])) (Same.trans (same_new hb2 (.lst [.bl true])) eC)) _ _ hA
  refine ⟨_, rfl, _, rfl, rA, _, _, _, rfl, rfl, SqL.of hrA, atI_nat (j := 0) rfl, rfl, _, rfl, rA, _, _, _, rfl, rfl, SqL.of hrA, atI_nat (j := 0) rfl, rfl, _, rfl, rA, _, _, _, rfl, rfl, SqL.of hrA, atI_nat (j := 0) rfl, rfl, ?_⟩
  refine ⟨_, rfl, _, rfl, b3, _, rfl, SqL.of hC, fun b5 hb5 => ?_⟩
  refine ⟨b5, _, rfl, .inl (SqL.of upd_same), rfl, rfl, (by show 4 ≤ sizeLine; decide), fun b6 hb6 => ?_⟩
  have eF := Same.trans (same_new hb5 (.lst (cutV ([V.bl false, V.bl false, V.bl false] ++ [V.bl true]) none (some 3)))) (same_new hb6 (.lst [V.bl (decide (V.str "formula" = V.str "name")), V.bl (decide (V.str "formula" = V.str "great")), V.bl (decide (V.str "formula" = V.str "hangs")), V.bl (if true = true then !inV (V.bl true) (cutV ([V.bl false, V.bl false, V.bl false] ++ [V.bl true]) none (some 3)) else inV (V.bl true) (cutV ([V.bl false, V.bl false, V.bl false] ++ [V.bl true]) none (some 3)))]))
  refine ⟨.list [.bool false, .bool false, .bool false, .bool true], .list [.bool false, .bool false, .bool false, .bool true], .lst (SqL.of (eF _ _ hC)) (.cons (.bl _) (.cons (.bl _) (.cons (.bl _) (.cons (.bl _) .nil)))), .lst (SqL.of upd_same) (.cons (.bl _) (.cons (.bl _) (.cons (.bl _) (.cons (.bl _) .nil)))), by decide, by decide, _, rfl, iteF ?_⟩
  have eG := Same.trans eD eF
  have hr2 := eF _ _ hrA
  clear eF hb5 hb6
  generalize upd (upd HC b5 _) b6 _ = HD at *
  refine ⟨_, rfl, rA, _, _, _, rfl, rfl, SqL.of hr2, atI_nat (j := 0) rfl, (by show 5 ≤ sizeLine; decide), fun t5 ht5 => ⟨t5, _, rfl, .inr (SqT.of upd_same), rfl, rfl, _, rfl, iteT ?_⟩⟩
  have eH := Same.trans eG (same_new ht5 (.tup [V.str "formula", V.str "text", V.str "order", V.str "table", V.str "paper"]))
  have hr3 := (same_new ht5 (.tup [V.str "formula", V.str "text", V.str "order", V.str "table", V.str "paper"])) _ _ hr2
  obtain ⟨g1, g2, g3, g4⟩ := way_ok hl h16
  have z : sizeLine = 16777216 := sizeLine_eq
  have e8 : (("formula" : Str) ++ (" " : Str)).length = 8 := by decide +kernel
  have e7 : ("formula" : Str).length = 7 := by decide +kernel
  have e1 : (" " : Str).length = 1 := by decide +kernel
  refine ⟨_, rfl, rA, _, _, _, rfl, rfl, SqL.of hr3, atI_nat (j := 0) rfl, _, _, rfl, rfl, by omega, _, rfl, rfl, rfl, dx, _, .ref p, rfl, eH _ _ hdx, rfl, p, wayD way, rfl, way_dp (Same.seqT eH hp), g1, g2, g3, by omega, _, _, rfl, rfl, by omega, q _ eH⟩
end
end Kn

set_option Elab.async false
set_option linter.all false
set_option maxRecDepth 100000
set_option maxHeartbeats 4000000
set_option pp.maxSteps 1200
namespace Kn
open PySem L2 TL PySem.Spec PyProof.Rows LamX
/-! ### two lists of the same texts -/
def rEqSS : R2 := fun x y H Q => ∃ (a b : Addr) (ts : List Str), x = .ref a ∧ y = .ref b ∧ H a = some (.lst (ts.map V.str)) ∧ H b = some (.lst (ts.map V.str)) ∧ Q (.bl true) H
theorem op_eqSS {X : Cx} (hu : X.A.units + 64 < cLine) : OpR X (compareOp .Eq) rEqSS := by
  intro pins s σ H x y v u Q I rx ry h
  obtain ⟨a, b, ts, rfl, rfl, ha, hb, q⟩ := h
  cases rx
  cases ry
  obtain ⟨its, r, pl, hz⟩ := I.list (SqL.of ha)
  obtain ⟨its2, r2, pl2, _⟩ := I.list (SqL.of hb)
  have l1 : its.length = ts.length := by rw [← r.length, List.length_map]
  have l2 : its2.length = ts.length := by rw [← r2.length, List.length_map]
  show wpAny (model X.prog X.w) X.A (richCompare .Eq (.ref a) (.ref b)) _ _ s
  refine PySem.SeqAt.RcAt.lists (e := fun _ => true) pl.isList pl2.isList ?_ (by omega) (fun j h1 h2 => ?_) _ _ _ _ ?_
  · rw [List.size_toArray, List.size_toArray, l1, l2]
  · rw [List.size_toArray] at h1 h2
    have hj : (ts.map V.str)[j]? = some (V.str (ts[j]'(by omega))) := by
      rw [List.getElem?_map, List.getElem?_eq_getElem (by omega)]
      rfl
    obtain ⟨u1, e1, t1, rfl⟩ := r.get hj
    obtain ⟨u2, e2, t2, rfl⟩ := r2.get hj
    have g1 : its.toArray[j] = Value.str (ts[j]'(by omega)) t1 := by
      rw [List.getElem?_eq_getElem h1] at e1
      simpa using e1
    have g2 : its2.toArray[j] = Value.str (ts[j]'(by omega)) t2 := by
      rw [List.getElem?_eq_getElem h2] at e2
      simpa using e2
    rw [g1, g2]
    have k := PySem.SeqAt.EqAt.str_str (A := X.A.in1) (s := s) (ts[j]'(by omega)) t1 (ts[j]'(by omega)) t2
    rw [beq_self_eq_true] at k
    exact k
  · have e : (List.range its.toArray.size).all (fun _ => true) = true := by simp
    rw [e]
    exact ⟨.bl true, H, I, rfl, q⟩
/-! ### names as they are met are names -/
theorem pre_names : ∀ (n : Nat) (d : PyData), goodH n d = true → ∀ x ∈ pre n d, isNameS x = true
  | 0, _, h => by cases h
  | n + 1, d, h => by
    obtain ⟨k, o, ps, e, hf, hg, _⟩ := good_some h
    obtain rfl : n = k := Nat.succ.inj e
    intro x hx
    unfold pre at hx
    rw [hf] at hx
    dsimp only at hx
    rcases List.mem_append.mp hx with hx | hx
    · obtain ⟨w, b, hl, ⟨hs, rfl, rfl⟩ | ⟨y, hs, rfl, rfl, hy⟩⟩ := formD_inv hf
      · simp at hx
      · have : x = y := by simpa using hx
        rw [this]
        exact hy
    · obtain ⟨p, hp, hx⟩ := List.mem_flatMap.mp hx
      exact pre_names n p (hg p hp) x hx
theorem fold_sub : ∀ (xs acc : List Str) (x : Str), x ∈ xs.foldl addS acc → x ∈ acc ∨ x ∈ xs
  | [], acc, x, h => .inl h
  | y :: r, acc, x, h => by
    rw [List.foldl_cons] at h
    rcases fold_sub r (addS acc y) x h with h | h
    · unfold addS addN at h
      dsimp only at h
      split at h
      · exact .inl h
      · rcases List.mem_append.mp h with h | h
        · exact .inl h
        · rw [List.mem_singleton.mp h]
          exact .inr List.mem_cons_self
    · exact .inr (List.mem_cons_of_mem _ h)
theorem named_names {n : Nat} {d : PyData} (h : goodH n d = true) : ∀ x ∈ namedR n d, isNameS x = true := fun x hx => by
  rw [namedR_pre] at hx
  rcases fold_sub _ _ _ hx with z | z
  · cases z
  · exact pre_names n d h x z
/-- a list of names as data -/
theorem names_show : ∀ ns : List Str, (∀ x ∈ ns, isNameS x = true) → PyData.showableAll (ns.map PyData.str) = true ∧ PyData.hasDictAll (ns.map PyData.str) = false ∧ PyData.depthAll (ns.map PyData.str) ≤ 1 ∧ ((PyData.shownAll (ns.map PyData.str)).map (·.length)).sum ≤ 100 * ns.length ∧ (PyData.shownAll (ns.map PyData.str)).length = ns.length
  | [], _ => ⟨rfl, rfl, Nat.zero_le _, Nat.zero_le _, rfl⟩
  | x :: r, h => by
    obtain ⟨a1, a2, a3, a4, a5⟩ := names_show r fun z hz => h z (List.mem_cons_of_mem _ hz)
    obtain ⟨x1, x2, x3⟩ := isName_low (h x List.mem_cons_self)
    have r1 := StrLaws.reprText_len x (low_codes x1)
    refine ⟨?_, ?_, ?_, ?_, ?_⟩
    · simp only [List.map_cons, PyData.showableAll, PyData.showable, a1, Bool.and_self]
    · simp only [List.map_cons, PyData.hasDictAll, PyData.hasDict, a2, Bool.or_self]
    · simp only [List.map_cons, PyData.depthAll, PyData.depth]
      omega
    · simp only [List.map_cons, PyData.shownAll, PyData.shown, List.sum_cons, List.length_cons]
      omega
    · simp only [List.map_cons, PyData.shownAll, List.length_cons, a5]
theorem names_ok {ns : List Str} (h : ∀ x ∈ ns, isNameS x = true) (hl : ns.length ≤ 60) : PyData.showable (.list (ns.map PyData.str)) = true ∧ (PyData.list (ns.map PyData.str)).hasDict = false ∧ (PyData.list (ns.map PyData.str)).depth ≤ 60 ∧ (PyData.list (ns.map PyData.str)).shown.length ≤ 10000 := by
  obtain ⟨a1, a2, a3, a4, a5⟩ := names_show ns h
  refine ⟨?_, ?_, ?_, ?_⟩
  · simp only [PyData.showable, a1]
  · simp only [PyData.hasDict, a2]
  · simp only [PyData.depth]
    omega
  · simp only [PyData.shown]
    have := listText_len_le (PyData.shownAll (ns.map PyData.str))
    omega
/-! ### heaps in which tables grow -/
theorem ext_same {H H' : Hp} (e : Same H H') : ExtN H H' := fun b o h _ => e b o h
theorem ext_seqT {K : PySem.W.Frag} {H H' : Hp} (e : ExtN H H') {a : Addr} {xs : List V} (h : SqT K H a xs) : SqT K H' a xs := by
  rcases h with (h | ⟨o, h⟩) | h
  · exact .inl (.inl (e _ _ h (fun ps z => by cases z)))
  · exact .inl (.inr ⟨o, e _ _ h (fun ps z => by cases z)⟩)
  · exact .inr h
theorem Tg.ext {K : PySem.W.Frag} {s l : Addr} {H H' : Hp} {v : V} {d : PyData} (h : Tg K s l H v d) (e : ExtN H H') : Tg K s l H' v d := h.mono (fun _ _ q => ext_seqT e q) (fun _ _ _ _ q => e _ _ q (fun ps z => by cases z)) (fun _ _ _ q => e _ _ q (fun ps z => by cases z))
end Kn

set_option Elab.async false
set_option linter.all false
set_option maxRecDepth 100000
set_option maxHeartbeats 400000
set_option pp.maxSteps 1200
namespace Kn
open PySem L2 TL PySem.Spec PyProof.Rows LamX
/-! ### _law_right -/
/-- _law_refused(lambda: body) -/
theorem pe_lamX {X : Cx} {PA cA g C c2 c3 c4 c5 c6 c7 c8 c9 : Addr} {fdR : FuncData} {K : PySem.W.Frag} {qn : Str} {params : Arguments} {body : Expr} {scope : Scope} {lpos p pos : Pos} {t : XK → TE} (hK : X.K = K) (hq : X.env.qual = qn) (R : RefK X.K X.mg C c2 c3 c4 c5 c6 c7 c8 c9)
    (FR : Fun X.K "_law_refused" "_law_refused" sRefused g fdR) (bR : L2.Binds X.K fdR ["deed"] []) (mg_ : X.mg "_law_refused" = some (.ref g)) (hg : Gl X "_law_refused") (TB : TabB X.base X.mg cA PA) (hcode : X.env.code = .ref cA) (gd : X.A.guards = some []) (hr : Room 7 X.A)
    (mi : X.mg "isinstance" = none) (mn : X.mg "int" = none) (ml : X.mg "len" = none) (mrp : X.mg "repr" = none) (mK : X.mg "KeyError" = none) (mO : X.mg "OverflowError" = none) (mR : X.mg "RuntimeError" = none) (mV : X.mg "ValueError" = none)
    (L : LamS X.env.scope scope) (hdef : defaultsOf params X.env = ([], [])) (hbind : ∀ (q : Str) (cl : List (Str × Addr)) (pm cv ctv : Value), bindArgs (PySem.W.kla_fn "<lambda>" q params body scope cl pm cv ctv) ⟨[], []⟩ = pure [])
    (hbody : ∀ (A : Around) (outer : List Env) (s : Shared) (H : Hp) (E : XK) (f c' : Addr), Room 5 (A.deeper (lamEnv X scope s.heap.objs.size f c')) → PE (lamCx X A outer s H E scope f c') body (t E)) :
    PE X (.Call (.Name "_law_refused" p) [.Lambda params body scope lpos] [] pos) (tLam [(PA, qn ++ "<lambda>")] (TTR K C) t) := by
  subst hK hq
  obtain ⟨oc, od, kV2, doc2, pm2, an2, cdv2, ct2, osl, rfl, lk, hcg⟩ := FR.ex
  have hun := hr.un
  exact pe_lamcall (k := 5) (c := cA) (P := PA) hg mg_ FR.kp lk hcg bR scRefused rfl (Or.inl rfl) (ref_gives R gd (by omega) mi mn ml mrp mK mO mR mV) TB hcode (.head _) (fun p hp _ => by rw [List.mem_singleton.mp hp]) hr L hdef hbind hbody
abbrev nRight : List Str := ["thing", "place", "due", "wrong"]
theorem scRight : FnScope nRight ["thing"] (defScope sRight) := ⟨rfl, rfl, rfl, by decide +kernel, rfl, by decide +kernel, by decide +kernel⟩
abbrev qLam : Str := ("_law_right" : Str) ++ ".<locals>."
def spRight (K : PySem.W.Frag) (T : List (Addr × Str)) : Sp := fun vs H Q _ => ∃ (s l : Addr) (v : V) (d : PyData), vs = [v] ∧ Tg K s l H v d ∧ Tabs T H ∧ ∀ H', ExtN H H' → Tabs T H' → Q (.bl true) H'
section
variable {P : Program} {w : World} {K : PySem.W.Frag} {mg : Str → Option Value} {base : Heap}
theorem ok_right {f cA PA C g c2 c3 c4 c5 c6 c7 c8 c9 : Addr} {fd fdR : FuncData} (F : Fun K "_law_right" "_law_right" sRight f fd) (R : RefK K mg C c2 c3 c4 c5 c6 c7 c8 c9)
    (FR : Fun K "_law_refused" "_law_refused" sRefused g fdR) (bR : L2.Binds K fdR ["deed"] []) (mg_ : mg "_law_refused" = some (.ref g))
    (hco : ∀ (o : Obj) (fd' : FuncData), K.lookup f = some o → o.data = .func fd' → fd'.code = .ref cA) (TB : TabB base mg cA PA)
    (PL : Def P w K mg base CX0 "_law_place" 2 ["thing"] (spPlace K)) (ND : Def P w K mg base (L2.CX P w) "need_formula" 3 ["thing"] (spNeed K C)) (NI : Def P w K mg base (L2.CX P w) "names_in" 5 ["formula"] (spNamesIn K C))
    (NR : Def P w K mg base CX0 "_law_named" 12 ["formula"] (spNamed K 10))
    (mi : mg "isinstance" = none) (mn : mg "int" = none) (ml : mg "len" = none) (mrp : mg "repr" = none) (mK : mg "KeyError" = none) (mO : mg "OverflowError" = none) (mR : mg "RuntimeError" = none) (mV : mg "ValueError" = none) :
    FnG P w K mg base CX0 13 f fd ["thing"] (spRight K [(PA, qLam ++ "<lambda>")]) := by
  refine Fn.okG F scRight (fun vs H Q E h => ?_) (fun cdv A outer s H vs Q E hcd hfd gd hr h => ?_)
  · obtain ⟨s, l, v, d, rfl, _⟩ := h
    rfl
  obtain ⟨s0, l0, v, d, rfl, hv, hT, q⟩ := h
  obtain ⟨o, hlo, kV, doc, pm, an, ct, hdo⟩ := hfd
  obtain rfl : cdv = .ref cA := hco o _ hlo hdo
  have hr2 : Room 2 _ := hr.mono (by omega)
  have hr3 : Room 3 _ := hr.mono (by omega)
  have hr4 : Room 5 _ := hr.mono (by omega)
  have hr6 : Room 7 _ := hr.mono (by omega)
  have hun := hr.un
  have huE : (A.deeper (envOfC "_law_right" (defScope sRight) s.heap.objs.size f (.ref cA))).units + 64 < cLine := by omega
  refine ⟨_, pss_cons (ps_set (i := 1) scRight.nd rfl (Or.inl rfl) (pe_def PL hr2 rfl (pa_cons (pv 0) pa_nil)))
    (pss_cons (ps_if (pt_cmpR op_notN (pv 1) pe_non (nomark _))
      (pss_cons (ps_set (i := 2) scRight.nd rfl (Or.inl rfl) (pe_op op_add_str pe_str (pe_callB (call_reprD gd huE) (by rfl) mrp PyProof.Rows.bootS_repr (pa_cons (pv 1) pa_nil))))
      (pss_cons (ps_set (i := 3) scRight.nd rfl (Or.inl rfl) (pe_lst (pa_cons
        (pe_lamX (K := K) (qn := qLam) (cA := cA) (PA := PA) rfl (by rfl) R FR bR mg_ (by rfl) TB (by rfl) gd hr6 mi mn ml mrp mK mO mR mV (lamS_by (sc := defScope sRight) (by decide +kernel)) (by rfl) (by intros; rfl)
          (fun A outer s H E f c' hrb => pe_defX (E := E) ND (hrb.mono (by omega)) rfl (takes_of rfl rfl rfl rfl) (pa_cons (pv 0) pa_nil))) pa_nil)))
      (pss_one (ps_ret (pe_cmpR (op_eqSS huE) (pe_op op_cat (pv 3) (pe_lst (pa_cons
        (pe_lamX (K := K) (qn := qLam) (cA := cA) (PA := PA) rfl (by rfl) R FR bR mg_ (by rfl) TB (by rfl) gd hr6 mi mn ml mrp mK mO mR mV (lamS_by (sc := defScope sRight) (by decide +kernel)) (by rfl) (by intros; rfl)
          (fun A outer s H E f c' hrb => pe_defX (E := E) NI hrb rfl (takes_of rfl rfl rfl rfl) (pa_cons (pv 0) pa_nil))) pa_nil)))
        (pe_lst (pa_cons (pv 2) (pa_cons (pv 2) pa_nil))) (nomark _)))))) pss_nil)
    (pss_one (ps_ret (pe_and (pe_cmpR op_eq (pe_callB (call_reprD gd huE) (by rfl) mrp PyProof.Rows.bootS_repr (pa_cons (pe_defX ND hr3 rfl L2.takes0 (pa_cons (pv 0) pa_nil)) pa_nil)) (pe_callB (call_reprD gd huE) (by rfl) mrp PyProof.Rows.bootS_repr (pa_cons (pv 0) pa_nil)) (nomark _))
      (pe_one (pe_cmpR op_eq (pe_callB (call_reprD gd huE) (by rfl) mrp PyProof.Rows.bootS_repr (pa_cons (pe_defX NI hr4 rfl L2.takes0 (pa_cons (pv 0) pa_nil)) pa_nil)) (pe_callB (call_reprD gd huE) (by rfl) mrp PyProof.Rows.bootS_repr (pa_cons (pe_def NR hr rfl (pa_cons (pv 0) pa_nil)) pa_nil)) (nomark _))))))), ?_⟩
  have z : sizeLine = 16777216 := sizeLine_eq
  refine ⟨_, rfl, s0, l0, v, d, rfl, hv, fun hnone H1 e1 => ?_, fun way hw H1 p e1 hp hl h16 => ?_⟩
  · obtain ⟨hg, hc⟩ := place_good hnone
    obtain ⟨g1, g2, g3, g4, g5, g6⟩ := good_show 10 d hg
    obtain ⟨a, rfl⟩ : ∃ a, v = .ref a := by
      obtain ⟨k, o', ps, _, hf, _⟩ := good_some hg
      obtain ⟨w', b, _, ⟨_, rfl, _⟩ | ⟨x, _, rfl, _⟩⟩ := formD_inv hf
      · cases hv with
        | @tup a _ _ _ _ => exact ⟨a, rfl⟩
      · cases hv with
        | @tup a _ _ _ _ => exact ⟨a, rfl⟩
    have hv1 := hv.same e1
    have nn : ∀ way, placeD d = some way → False := fun way hw => by
      rw [hnone] at hw
      cases hw
    have nl : (namesD d).length ≤ 60 := by
      rw [← names_same hnone]
      exact Nat.le_trans (named_len hg) hc
    have nm : ∀ x ∈ namesD d, isNameS x = true := by
      rw [← names_same hnone]
      exact named_names hg
    obtain ⟨m1, m2, m3, m4⟩ := names_ok nm nl
    refine ⟨_, rfl, rfl, _, rfl, iteF ?_⟩
    refine ⟨_, rfl, s0, l0, .ref a, d, rfl, hv1, fun _ H2 e2 => ?_, fun way hw => (nn way hw).elim⟩
    have hv2 := hv1.same e2
    refine ⟨a, d, rfl, hv2.dp g1, g2, g4, by omega, by omega, _, rfl, a, d, rfl, hv2.dp g1, g2, g4, by omega, by omega, rfl, _, rfl, ?_⟩
    rw [decide_eq_true (show V.str d.shown = V.str d.shown from rfl)]
    refine iteT ⟨_, rfl, s0, l0, .ref a, d, rfl, hv2, fun _ H3 p3 e3 h3 => ?_, fun way hw => (nn way hw).elim⟩
    refine ⟨p3, .list ((namesD d).map PyData.str), rfl, .lst (SqL.of h3) (dpStrs _), m1, m2, m3, by omega, _, rfl, s0, l0, .ref a, d, rfl, hv2.same e3, hg, hc, fun H4 p4 e4 _ h4 => ?_⟩
    rw [names_same hnone] at h4
    refine ⟨p4, .list ((namesD d).map PyData.str), rfl, .lst (SqL.of h4) (dpStrs _), m1, m2, m3, by omega, rfl, ?_⟩
    rw [decide_eq_true (show V.str (PyData.list ((namesD d).map PyData.str)).shown = V.str (PyData.list ((namesD d).map PyData.str)).shown from rfl)]
    have eA := Same.trans (Same.trans e1 e2) (Same.trans e3 e4)
    exact q _ (ext_same eA) (hT.ext eA)
  · obtain ⟨g1, g2, g3, g4⟩ := way_ok hl h16
    have hdue : ("formula " : Str) ++ (wayD way).shown = dueT way := by
      unfold dueT
      have : ("formula" : Str) ++ (" " : Str) = ("formula " : Str) := by decide +kernel
      rw [this]
    have e8 : ("formula " : Str).length = 8 := by decide +kernel
    have nn : placeD d = none → False := fun hn => by
      rw [hn] at hw
      cases hw
    refine ⟨_, rfl, rfl, _, rfl, iteT ?_⟩
    refine ⟨_, rfl, p, wayD way, rfl, way_dp hp, g1, g2, g3, by omega, _, _, rfl, rfl, by omega, ?_⟩
    rw [hdue]
    have x1 : ExtN H H1 := ext_same e1
    refine ⟨hT.ext e1, fun H2 x2 t2 => ⟨_, rfl, s0, l0, v, d, rfl, hv.ext (x1.trans x2), fun hn => (nn hn).elim, fun way' hw' H3 dx p' e3 _ hx hp' hl' h16' => ⟨dx, p', way', rfl, rfl, hx, hp', hl', h16', fun H4 e4 => ?_⟩⟩⟩
    obtain rfl : way = way' := Option.some.inj (hw.symm.trans hw')
    refine ⟨(by show 1 ≤ sizeLine; decide), fun pw hpw => ?_⟩
    have e5 := Same.trans (Same.trans e3 e4) (same_new hpw (.lst [V.str (dueT way)]))
    have h5 : upd H4 pw (.lst [V.str (dueT way)]) pw = some (.lst [V.str (dueT way)]) := upd_same
    generalize upd H4 pw (.lst [V.str (dueT way)]) = H5 at *
    have x5 : ExtN H H5 := (x1.trans x2).trans (ext_same e5)
    refine ⟨_, rfl, t2.ext e5, fun H6 x6 t6 => ⟨_, rfl, s0, l0, v, d, rfl, hv.ext (x5.trans x6), fun hn => (nn hn).elim, fun way' hw' H7 dx p' e7 _ hx hp' hl' h16' => ⟨dx, p', way', rfl, rfl, hx, hp', hl', h16', fun H8 e9 => ?_⟩⟩⟩
    obtain rfl : way = way' := Option.some.inj (hw.symm.trans hw')
    have h6 := x6 _ _ h5 (fun ps z => by cases z)
    refine ⟨(by show 1 ≤ sizeLine; decide), fun pw2 hpw2 => cat_any (xs := [V.str (dueT way)]) (ys := [V.str (dueT way)]) ((Same.trans (Same.trans e7 e9) (same_new hpw2 _)) _ _ h6) upd_same (by show 2 ≤ 1000; decide) fun H9 r e10 h9 => ⟨_, rfl, _, rfl, (by show 2 ≤ sizeLine; decide), fun pz hpz => ?_⟩⟩
    have eZ := Same.trans (Same.trans (Same.trans e7 e9) (same_new hpw2 (.lst [V.str (dueT way)]))) (Same.trans e10 (same_new hpz (.lst [V.str (dueT way), V.str (dueT way)])))
    exact ⟨r, pz, [dueT way, dueT way], rfl, rfl, s_at (same_new hpz _) h9, upd_same, q _ ((x5.trans x6).trans (ext_same eZ)) (t6.ext eZ)⟩
end
end Kn

set_option Elab.async false
set_option linter.all false
set_option maxRecDepth 100000
set_option maxHeartbeats 1000000
set_option pp.maxSteps 1200
namespace Kn
open PySem L2 TL PySem.Spec PyProof.Rows LamX
/-! ### draws and tables side by side -/
section
variable {K : PySem.W.Frag} {s c l : Addr} {H H' : Hp} {T : List (Addr × Str)}
theorem StOk.ext (h : StOk K H s c l) (e : ExtN H H') (hc : H' c ≠ none) : StOk K H' s c l := by
  obtain ⟨h1, h2, h3, h4, k, ns, ls, a1, a2, a3, a4, a5, a6, a7⟩ := h
  have a3' : SqL K H' c (ns.map V.int) := by
    rcases a3 with (h | ⟨o, h⟩) | h
    · exact .inl (.inl (e _ _ h (fun ps z => by cases z)))
    · exact .inl (.inr ⟨o, e _ _ h (fun ps z => by cases z)⟩)
    · exact .inr h
  exact ⟨h1, h2, h3, hc, k, ns, ls, a1, e _ _ a2 (fun ps z => by cases z), a3', a4, e _ _ a5 (fun ps z => by cases z), a6, a7⟩
theorem tabs_keep (t : Tabs T H) (S : StOk K H s c l) (e : Keep s l H H') : Tabs T H' := by
  obtain ⟨_, _, _, _, k, ns, ls, _, a2, _, _, a5, _, _⟩ := S
  intro p hp
  obtain ⟨ps, h1, h2, h3⟩ := t p hp
  refine ⟨ps, e _ _ (ne_of h1 a2 (by intro z; cases z)) (ne_of h1 a5 (by intro z; cases z)) h1, h2, fun pos cv hc => ?_⟩
  obtain ⟨a, e1, e2⟩ := h3 pos cv hc
  refine ⟨a, e1, e _ _ (fun z => ?_) (fun z => ?_) e2⟩
  · rw [z, a2] at e2
    cases e2
  · rw [z, a5] at e2
    cases e2
end
section
variable {K : PySem.W.Frag} {s c l : Addr} {H H' : Hp} {T : List (Addr × Str)}
theorem TgAll.ext {vs : List V} {ds : List PyData} (h : TgAll K s l H vs ds) (e : ExtN H H') : TgAll K s l H' vs ds := h.mono (fun _ _ q => ext_seqT e q) (fun _ _ _ _ q => e _ _ q (fun ps z => by cases z)) (fun _ _ _ q => e _ _ q (fun ps z => by cases z))
/-- what goes through the whole law -/
structure Thru (K : PySem.W.Frag) (T : List (Addr × Str)) (s c l : Addr) (o : Obj) (ns : List Int) (H : Hp) : Prop where
  st : StOk K H s c l
  tb : Tabs T H
  fr : H c = some (.frz o (.lst (ns.map V.int)))
variable {o : Obj} {ns : List Int}
theorem Thru.keep (t : Thru K T s c l o ns H) (e : Keep s l H H') (S : StOk K H' s c l) : Thru K T s c l o ns H' := ⟨S, tabs_keep t.tb t.st e, e _ _ t.st.cs t.st.cl t.fr⟩
theorem Thru.same (t : Thru K T s c l o ns H) (e : Same H H') : Thru K T s c l o ns H' := ⟨t.st.keep e, Tabs.ext t.tb e, e _ _ t.fr⟩
theorem Thru.ext (t : Thru K T s c l o ns H) (e : ExtN H H') (tb : Tabs T H') : Thru K T s c l o ns H' := by
  have h := e _ _ t.fr (fun ps z => by cases z)
  exact ⟨StOk.ext t.st e (fun z => by rw [z] at h; cases h), tb, h⟩
end
abbrev nLaw : List Str := ["script", "state", "deep", "wide", "k", "thing", "turn", "names", "formula", "bent", "grown"]
theorem scLaw : FnScope nLaw ["script"] (defScope sLaw) := ⟨rfl, rfl, rfl, by decide +kernel, rfl, by decide +kernel, by decide +kernel⟩
def spLaw (K : PySem.W.Frag) (T : List (Addr × Str)) : Sp := fun vs H Q _ => ∃ (c : Addr) (ns : List Int), vs = [.ref c] ∧ SqL K H c (ns.map V.int) ∧ (∃ o, H c = some (.frz o (.lst (ns.map V.int)))) ∧ ns.length ≤ 63 ∧ Tabs T H ∧ ∀ H', Q (.bl true) H'
section
variable {P : Program} {w : World} {K : PySem.W.Frag} {mg : Str → Option Value} {base : Heap}
theorem ok_law {f gR : Addr} {fd fdR : FuncData} {T : List (Addr × Str)} (F : Fun K "law" "law" sLaw f fd) (RG : FnG P w K mg base CX0 13 gR fdR ["thing"] (spRight K T)) (mRg : mg "_law_right" = some (.ref gR)) (kRg : PySem.W.keepIn K (.ref gR) = true) (bRg : L2.Binds K fdR ["thing"] [])
    (BG : Def P w K mg base CX0 "_law_begun" 1 ["script"] (spBegun K)) (DR : Def P w K mg base CX0 "_law_draw" 2 ["state", "many"] (spDraw K)) (NM : Def P w K mg base CX0 "_law_names" 5 ["state", "many"] (spNames K))
    (MD : Def P w K mg base CX0 "_law_made" 13 ["state", "names", "room", "deep"] (spMade K 10)) (BT : Def P w K mg base CX0 "_law_bent" 43 ["state", "thing"] (spBent K 40)) (GW : Def P w K mg base CX0 "_law_grown" 6 ["state", "formula"] (spGrown K))
    (mr : mg "range" = none) (mm : mg "min" = none) (ml : mg "len" = none) :
    FnG P w K mg base CX0 44 f fd ["script"] (spLaw K T) := by
  refine Fn.okG F scLaw (fun vs H Q E h => ?_) (fun cdv A outer s H vs Q E hcd hfd gd hr h => ?_)
  · obtain ⟨c, ns, rfl, _⟩ := h
    rfl
  obtain ⟨c, ns, rfl, hc, ⟨o, hco⟩, h63, hT, q⟩ := h
  have hr1 : Room 1 _ := hr.mono (by omega)
  have hr2 : Room 2 _ := hr.mono (by omega)
  have hr5 : Room 5 _ := hr.mono (by omega)
  have hr6 : Room 6 _ := hr.mono (by omega)
  have hr13 : Room 13 _ := hr.mono (by omega)
  refine ⟨_, pss_cons (ps_set (i := 1) scLaw.nd rfl (Or.inl rfl) (pe_def BG hr1 rfl (pa_cons (pv 0) pa_nil)))
    (pss_cons (ps_asg (pe_tup (pa_cons (pe_tup (pa_cons pe_str pa_nil)) (pa_cons (pe_tup (pa_cons pe_str (pa_cons pe_str pa_nil))) pa_nil))) (pg_tup rfl (pgs_cons (pg_name (i := 2) scLaw.nd rfl (Or.inl rfl)) (pgs_cons (pg_name (i := 3) scLaw.nd rfl (Or.inl rfl)) pgs_nil))))
    (pss_cons (ps_for PassesOwn.never rfl (pi_range1 rfl mr (pa_cons pe_int pa_nil)) (pg_name (i := 4) scLaw.nd rfl (Or.inl rfl)) (pss_one (ps_set (i := 2) scLaw.nd rfl (Or.inl rfl) (pe_tup (pa_cons pe_str (pa_cons (pv 2) pa_nil))))))
    (pss_cons (ps_for PassesOwn.never rfl (pi_range1 rfl mr (pa_cons pe_int pa_nil)) (pg_name (i := 4) scLaw.nd rfl (Or.inl rfl)) (pss_one (ps_set (i := 3) scLaw.nd rfl (Or.inl rfl) (pe_tup (pa_cons pe_str (pa_cons (pv 3) (pa_cons (pv 3) pa_nil)))))))
    (pss_cons (ps_for PassesOwn.never rfl (pi_tup (pe_tup (pa_cons (pv 2) (pa_cons (pv 3) (pa_cons (pe_tup (pa_cons pe_str (pa_cons (pv 3) (pa_cons (pv 2) pa_nil)))) (pa_cons (pe_tup (pa_cons pe_str (pa_cons (pv 2) pa_nil))) (pa_cons (pe_tup (pa_cons pe_str (pa_cons pe_str (pa_cons (pv 2) (pa_cons (pv 3) pa_nil))))) (pa_cons (pe_tup (pa_cons (pv 2) pa_nil)) pa_nil)))))))) (pg_name (i := 5) scLaw.nd rfl (Or.inl rfl))
      (pss_one (ps_if (pt_not (pt_val (pe_callG RG gd hr13 rfl mRg kRg bRg pass0 (pa_cons (pv 5) pa_nil)))) (pss_one (ps_ret pe_bl)) pss_nil)))
    (pss_cons (ps_for PassesOwn.never rfl (pi_range1 rfl mr (pa_cons (pe_op op_add pe_int (pe_callB (call_min2 rfl) (by rfl) mm (by decide +kernel) (pa_cons pe_int (pa_cons (pe_callB call_len_seq (by rfl) ml PySem.boot_len (pa_cons (pv 0) pa_nil)) pa_nil)))) pa_nil)) (pg_name (i := 6) scLaw.nd rfl (Or.inl rfl))
      (pss_cons (ps_set (i := 7) scLaw.nd rfl (Or.inl rfl) (pe_def NM hr5 rfl (pa_cons (pv 1) (pa_cons (pe_def DR hr2 rfl (pa_cons (pv 1) (pa_cons pe_int pa_nil))) pa_nil))))
      (pss_cons (ps_set (i := 8) scLaw.nd rfl (Or.inl rfl) (pe_def MD hr13 rfl (pa_cons (pv 1) (pa_cons (pv 7) (pa_cons (pe_op op_add pe_int (pe_def DR hr2 rfl (pa_cons (pv 1) (pa_cons pe_int pa_nil)))) (pa_cons (pe_def DR hr2 rfl (pa_cons (pv 1) (pa_cons pe_int pa_nil))) pa_nil))))))
      (pss_cons (ps_set (i := 9) scLaw.nd rfl (Or.inl rfl) (pe_def BT hr rfl (pa_cons (pv 1) (pa_cons (pv 8) pa_nil))))
      (pss_cons (ps_set (i := 10) scLaw.nd rfl (Or.inl rfl) (pe_def GW hr6 rfl (pa_cons (pv 1) (pa_cons (pv 8) pa_nil))))
      (pss_one (ps_for PassesOwn.never rfl (pi_tup (pe_tup (pa_cons (pv 8) (pa_cons (pv 9) (pa_cons (pe_def BT hr rfl (pa_cons (pv 1) (pa_cons (pv 9) pa_nil))) (pa_cons (pv 10) (pa_cons (pe_def BT hr rfl (pa_cons (pv 1) (pa_cons (pv 10) pa_nil))) (pa_cons (pe_def GW hr6 rfl (pa_cons (pv 1) (pa_cons (pv 10) pa_nil))) pa_nil)))))))) (pg_name (i := 5) scLaw.nd rfl (Or.inl rfl))
        (pss_one (ps_if (pt_not (pt_val (pe_callG RG gd hr13 rfl mRg kRg bRg pass0 (pa_cons (pv 5) pa_nil)))) (pss_one (ps_ret pe_bl)) pss_nil)))))))))
    (pss_one (ps_ret pe_bl))))))), ?_⟩
  refine ⟨_, rfl, c, ns, rfl, hc, ⟨_, hco⟩, h63, fun H1 s l S1 e1 ns1 nl1 => ?_⟩
  have U1 : Thru K T s c l o ns H1 := ⟨S1, Tabs.ext hT e1, e1 _ _ hco⟩
  clear hc hco hT e1 S1
  refine ⟨(by show 1 ≤ sizeLine; decide), fun p1 hp1 => ⟨(by show 2 ≤ sizeLine; decide), fun p2 hp2 => ⟨(by show 2 ≤ sizeLine; decide), fun p3 hp3 => ⟨p3, _, rfl, SqT.of upd_same, rfl, _, _, rfl, _, _, rfl, rfl, ?_⟩⟩⟩⟩
  have f1 := Same.trans (same_new hp1 (.tup [V.str "yes"])) (Same.trans (same_new hp2 (.tup [V.str "name", V.str "x"])) (same_new hp3 (.tup [V.ref p1, V.ref p2])))
  have U2 := U1.same f1
  have td : Tg K s l _ (V.ref p1) (.tuple [.str "yes"]) := .tup (SqT.of ((Same.trans (same_new hp2 (.tup [V.str "name", V.str "x"])) (same_new hp3 (.tup [V.ref p1, V.ref p2]))) _ _ upd_same)) (.cons (.str _ (by decide +kernel)) .nil)
  have tw : Tg K s l _ (V.ref p2) (.tuple [.str "name", .str "x"]) := .tup (SqT.of ((same_new hp3 (.tup [V.ref p1, V.ref p2])) _ _ upd_same)) (.cons (.str _ (by decide +kernel)) (.cons (.str _ (by decide +kernel)) .nil))
  clear f1 U1
  generalize upd (upd (upd H1 p1 _) p2 _) p3 _ = H2 at *
  refine ⟨3000, rfl, by decide, by decide, for_range (lo := 0) (n := (3000 : Int).toNat) (fun i σ Hx => ∃ (v : V) (d : PyData) (x4 : Option V), σ = [some (.ref c), some (.ref s), some v, some (.ref p2), x4, none, none, none, none, none, none] ∧ Thru K T s c l o ns Hx ∧ Tg K s l Hx v d ∧ Tg K s l Hx (V.ref p2) (.tuple [.str "name", .str "x"]))
    ⟨_, _, _, rfl, U2, td, tw⟩ ?_ ?_⟩
  · rintro i σ Hx hi ⟨v, d, x4, rfl, U, tv, tw⟩
    refine ⟨_, rfl, (by show 2 ≤ sizeLine; decide), fun p hp => ?_⟩
    exact ⟨.ref p, .tuple [.str "not", d], _, rfl, U.same (same_new hp _), .tup (SqT.of upd_same) (.cons (.str _ (by decide +kernel)) (.cons (tv.same (same_new hp _)) .nil)), tw.same (same_new hp _)⟩
  rintro σ H3 ⟨v, d, x4, rfl, U3, tv, tw⟩
  refine ⟨60, rfl, by decide, by decide, for_range (lo := 0) (n := (60 : Int).toNat) (fun i σ Hx => ∃ (u : V) (e : PyData) (x4 : Option V), σ = [some (.ref c), some (.ref s), some v, some u, x4, none, none, none, none, none, none] ∧ Thru K T s c l o ns Hx ∧ Tg K s l Hx v d ∧ Tg K s l Hx u e)
    ⟨_, _, _, rfl, U3, tv, tw⟩ ?_ ?_⟩
  · rintro i σ Hx hi ⟨u, e, x4, rfl, U, tv, tu⟩
    refine ⟨_, rfl, _, rfl, (by show 3 ≤ sizeLine; decide), fun p hp => ?_⟩
    have e1 := same_new hp (.tup [V.str "and", u, u])
    exact ⟨.ref p, .tuple [.str "and", e, e], _, rfl, U.same e1, tv.same e1, .tup (SqT.of upd_same) (.cons (.str _ (by decide +kernel)) (.cons (tu.same e1) (.cons (tu.same e1) .nil)))⟩
  rintro σ H4 ⟨u, e, x4, rfl, U4, tv, tu⟩
  refine ⟨_, rfl, _, rfl, _, rfl, _, rfl, (by show 3 ≤ sizeLine; decide), fun q1 hq1 => ⟨_, rfl, (by show 2 ≤ sizeLine; decide), fun q2 hq2 => ⟨_, rfl, _, rfl, (by show 4 ≤ sizeLine; decide), fun q3 hq3 => ⟨_, rfl, (by show 1 ≤ sizeLine; decide), fun q4 hq4 => ⟨(by show 6 ≤ sizeLine; decide), fun q5 hq5 => ⟨q5, rfl, ⟨_, SqT.of upd_same⟩, ?_⟩⟩⟩⟩⟩⟩
  have k5 := same_new hq5 (.tup [v, u, .ref q1, .ref q2, .ref q3, .ref q4])
  have k4 := Same.trans (same_new hq4 (.tup [v])) k5
  have k3 := Same.trans (same_new hq3 (.tup [V.str "put", V.str "x", v, u])) k4
  have k2 := Same.trans (same_new hq2 (.tup [V.str "name", v])) k3
  have k1 := Same.trans (same_new hq1 (.tup [V.str "or", u, v])) k2
  have U5 := U4.same k1
  have tv5 := tv.same k1
  have tu5 := tu.same k1
  have g1 := SqT.of (K := K) (k2 _ _ (upd_same (H := H4) (a := q1) (o := .tup [V.str "or", u, v])))
  have g2 := SqT.of (K := K) (k3 _ _ upd_same)
  have g3 := SqT.of (K := K) (k4 _ _ upd_same)
  have g4 := SqT.of (K := K) (k5 _ _ upd_same)
  have sm : ∀ {z : Str}, okS z = true → ∀ {Hx : Hp}, Tg K s l Hx (V.str z) (.str z) := fun {z} h {Hx} => .str z h
  have all6 : TgAll K s l _ [v, u, .ref q1, .ref q2, .ref q3, .ref q4] [d, e, .tuple [.str "or", e, d], .tuple [.str "name", d], .tuple [.str "put", .str "x", d, e], .tuple [d]] :=
    .cons tv5 (.cons tu5 (.cons (.tup g1 (.cons (sm (by decide +kernel)) (.cons tu5 (.cons tv5 .nil)))) (.cons (.tup g2 (.cons (sm (by decide +kernel)) (.cons tv5 .nil))) (.cons (.tup g3 (.cons (sm (by decide +kernel)) (.cons (sm (by decide +kernel)) (.cons tv5 (.cons tu5 .nil))))) (.cons (.tup g4 (.cons tv5 .nil)) .nil)))))
  refine for_tup (K := K) (xs := [v, u, .ref q1, .ref q2, .ref q3, .ref q4]) (fun i σ Hx => ∃ x5, σ = [some (.ref c), some (.ref s), some v, some u, x4, x5, none, none, none, none, none] ∧ Thru K T s c l o ns Hx ∧ SqT K Hx q5 [v, u, .ref q1, .ref q2, .ref q3, .ref q4] ∧
      TgAll K s l Hx [v, u, .ref q1, .ref q2, .ref q3, .ref q4] [d, e, .tuple [.str "or", e, d], .tuple [.str "name", d], .tuple [.str "put", .str "x", d, e], .tuple [d]])
    ⟨_, rfl, U5, SqT.of upd_same, all6⟩ (fun i σ Hx _ t => t.choose_spec.2.2.1) ?_ ?_
  · rintro i x σ Hx hi ⟨x5, rfl, U, hq, ha⟩
    obtain ⟨dx, _, hx⟩ := ha.at hi
    refine ⟨_, rfl, s, l, x, dx, rfl, hx, U.tb, fun H' e' t' => ⟨_, rfl, iteF ?_⟩⟩
    exact ⟨_, rfl, U.ext e' t', ext_seqT e' hq, ha.ext e'⟩
  clear U5 tv5 tu5 g1 g2 g3 g4 all6 k1 k2 k3 k4 k5 hq1 hq2 hq3 hq4 hq5 U4 tv tu U3 tw
  rintro σ H6 ⟨x5, rfl, U6, _, _⟩
  have hc6 : SqL K H6 c (ns.map V.int) := .inl (.inr ⟨o, U6.fr⟩)
  have n15 : (0 : Int) ≤ (1 + if ((ns.map V.int).length : Int) < 15 then ((ns.map V.int).length : Int) else 15) ∧ (1 + if ((ns.map V.int).length : Int) < 15 then ((ns.map V.int).length : Int) else 15) ≤ 16 := by
    split <;> omega
  refine ⟨_, rfl, c, _, rfl, .inl hc6, _, _, rfl, _, _, rfl, rfl, _, rfl, Int.le_trans (by decide) n15.1, Int.lt_of_le_of_lt n15.2 (by decide), for_range (lo := 0) (n := (1 + if ((ns.map V.int).length : Int) < 15 then ((ns.map V.int).length : Int) else 15).toNat) (fun i σ Hx => ∃ x2 x3 x4 x5 x6 x7 x8 x9 x10, σ = [some (.ref c), some (.ref s), x2, x3, x4, x5, x6, x7, x8, x9, x10] ∧ Thru K T s c l o ns Hx)
    ⟨_, _, _, _, _, _, _, _, _, rfl, U6⟩ ?_ ?_⟩
  · rintro i σ Hx hi ⟨x2, x3, x4, x5, x6, x7, x8, x9, x10, rfl, U⟩
    refine ⟨_, rfl, _, rfl, s, c, l, 11, rfl, U.st, by decide, by decide, fun Ha n Sa ka n0 n1 => ⟨s, c, l, n, rfl, Sa, n0, by omega, fun Hb pn zs Sb kb nb hb lz wz _ => ?_⟩⟩
    have Ub := (U.keep ka Sa).keep kb Sb
    have npn := Sa.ns nb
    refine ⟨_, rfl, _, rfl, _, rfl, s, c, l, 60, rfl, Sb, by decide, by decide, fun Hc r Sc kc r0 r1 => ⟨_, _, rfl, rfl, _, rfl, s, c, l, 10, rfl, Sc, by decide, by decide, fun Hd dp Sd kd d0 d1 => ⟨s, c, l, pn, zs, 1 + r, dp, rfl, Sd, npn.1, npn.2.1, SqL.of (kd _ _ npn.1 npn.2.1 (kc _ _ npn.1 npn.2.1 hb)), by omega, wz, by omega, by omega, d0, d1, fun He x Se ke ft => ?_⟩⟩⟩
    have Ue := ((Ub.keep kc Sc).keep kd Sd).keep ke Se
    obtain ⟨d1', a1, b1, tx, fm, la, lb⟩ := ft
    have zx := fm.sz
    refine ⟨_, rfl, _, rfl, s, c, l, x, d1', rfl, Se, tx, by omega, by omega, fun Hf y dy Sf kf ty zy => ?_⟩
    refine ⟨_, rfl, _, rfl, s, c, l, x, d1', rfl, Sf, tx.keep Se kf, by omega, fun Hg g dg Sg kg tg zg => ?_⟩
    have Ug := (Ue.keep kf Sf).keep kg Sg
    refine ⟨_, rfl, _, rfl, _, rfl, _, rfl, s, c, l, y, dy, rfl, Sg, ty.keep Sf kg, by omega, by omega, fun Hh y2 dy2 Sh kh ty2 zy2 => ⟨_, rfl, _, rfl, _, rfl, s, c, l, g, dg, rfl, Sh, tg.keep Sg kh, by omega, by omega, fun Hi y3 dy3 Si ki ty3 zy3 => ⟨_, rfl, _, rfl, s, c, l, g, dg, rfl, Si, (tg.keep Sg kh).keep Sh ki, by omega, fun Hj g2 dg2 Sj kj tg2 zg2 => ⟨(by show 6 ≤ sizeLine; decide), fun q5 hq5 => ⟨q5, rfl, ⟨_, SqT.of upd_same⟩, ?_⟩⟩⟩⟩⟩
    have kx : Keep s l He Hj := (((kf.trans kg).trans kh).trans ki).trans kj
    have ky : Keep s l Hf Hj := ((kg.trans kh).trans ki).trans kj
    have kgj : Keep s l Hg Hj := (kh.trans ki).trans kj
    have e5 := same_new hq5 (.tup [x, y, y2, g, y3, g2])
    have Uj := (((Ug.keep kh Sh).keep ki Si).keep kj Sj).same e5
    have all6 : TgAll K s l _ [x, y, y2, g, y3, g2] [d1', dy, dy2, dg, dy3, dg2] :=
      .cons ((tx.keep Se kx).same e5) (.cons ((ty.keep Sf ky).same e5) (.cons ((ty2.keep Sh (ki.trans kj)).same e5) (.cons ((tg.keep Sg kgj).same e5) (.cons ((ty3.keep Si kj).same e5) (.cons (tg2.same e5) .nil)))))
    have h5 := SqT.of (K := K) (upd_same (H := Hj) (a := q5) (o := .tup [x, y, y2, g, y3, g2]))
    refine for_tup (K := K) (xs := [x, y, y2, g, y3, g2]) (fun i σ Hx => ∃ y4 y5 y6 y7 y8 y9 y10 : Option V, ∃ z2 z3 : Option V, σ = [some (.ref c), some (.ref s), z2, z3, y4, y5, y6, y7, y8, y9, y10] ∧ Thru K T s c l o ns Hx ∧ SqT K Hx q5 [x, y, y2, g, y3, g2] ∧ TgAll K s l Hx [x, y, y2, g, y3, g2] [d1', dy, dy2, dg, dy3, dg2])
      ⟨_, _, _, _, _, _, _, _, _, rfl, Uj, h5, all6⟩ (fun i σ Hx _ t => ?_) ?_ ?_
    · obtain ⟨_, _, _, _, _, _, _, _, _, _, _, h, _⟩ := t
      exact h
    · rintro i v σ Hx hi ⟨y4, y5, y6, y7, y8, y9, y10, z2, z3, rfl, U, hq, ha⟩
      obtain ⟨dv, _, hv⟩ := ha.at hi
      refine ⟨_, rfl, s, l, v, dv, rfl, hv, U.tb, fun H' e' t' => ⟨_, rfl, iteF ?_⟩⟩
      exact ⟨_, _, _, _, _, _, _, _, _, rfl, U.ext e' t', ext_seqT e' hq, ha.ext e'⟩
    · rintro σ Hx ⟨y4, y5, y6, y7, y8, y9, y10, z2, z3, rfl, U, _, _⟩
      exact ⟨_, _, _, _, _, _, _, _, _, rfl, U⟩
  · rintro σ Hx ⟨x2, x3, x4, x5, x6, x7, x8, x9, x10, rfl, U⟩
    exact q Hx
end
end Kn

set_option Elab.async false
set_option linter.all false
set_option maxRecDepth 100000
set_option maxHeartbeats 1000000
set_option pp.maxSteps 1200
namespace Kn
open PySem L2 TL PySem.Spec PyProof.Rows LamX
/-! ### the end: the script locked, one table, no repr under way -/
/-- nothing but the script at a and the empty table at t is told -/
def hEnd (a t : Addr) (so : Obj) (xs : List V) : Hp := fun b => if b = a then some (.frz so (.lst xs)) else if b = t then some (.tbl #[]) else none
section
variable {a t : Addr} {so : Obj} {xs : List V}
theorem hEnd_a : hEnd a t so xs a = some (.frz so (.lst xs)) := if_pos rfl
theorem hEnd_t (h : t ≠ a) : hEnd a t so xs t = some (.tbl #[]) := (if_neg h).trans (if_pos rfl)
theorem hEnd_n {b : Addr} (h1 : b ≠ a) (h2 : b ≠ t) : hEnd a t so xs b = none := (if_neg h1).trans (if_neg h2)
theorem hEnd_inv {b : Addr} {u : HO} (h : hEnd a t so xs b = some u) : (b = a ∧ u = .frz so (.lst xs)) ∨ (b = t ∧ u = .tbl #[]) := by
  by_cases h1 : b = a
  · subst h1
    rw [hEnd_a] at h
    exact .inl ⟨rfl, (Option.some.inj h).symm⟩
  · by_cases h2 : b = t
    · subst h2
      rw [hEnd_t h1] at h
      exact .inr ⟨rfl, (Option.some.inj h).symm⟩
    · rw [hEnd_n h1 h2] at h
      cases h
end
abbrev scriptO (vs : List Value) : Obj := { cls := .type "list", data := .seq vs.toArray }
abbrev tabO : Obj := { cls := .none, data := .fields #[] }
theorem end_call {P : Program} {w : World} {K : PySem.W.Frag} {mg mb : Str → Option Value} {k : Nat} {fa a cA t : Addr} {fd : FuncData} {x : Str} {sp : Sp} {s : Shared} {vs : List Value} {ns : List Int}
    (kin : K.In s.heap) (hm : s.heap.Ns mainGlobals mg) (hbn : s.heap.Ns builtinsNs mb) (hbt : ∀ y : Str, y ≠ "__name__" → mb y = bootBuiltins y) (hnl : s.heap.NoLimit) (hgen : s.gens = #[])
    (hta : s.heap.get? t = some tabO) (ktn : K.lookup t = none) (hcd : PySem.W.CodeHd s.heap cA t)
    (hmod : ∃ (bm : Addr) (ob : Obj), mg "__builtins__" = some (.ref bm) ∧ bm ≠ builtinsNs ∧ s.heap.get? bm = some ob ∧ ob.cls = .type "module" ∧ ob.dict = some builtinsNs ∧ ob.data = .plain)
    (hsc : s.heap.get? a = some (scriptO vs)) (kan : K.lookup a = none) (hin : IntsAre vs ns) (hlen : ns.length ≤ sizeLine) (hroom : Room k callerA)
    (hF : ∀ base : Heap, K.In base → base.Ns mainGlobals mg → TabB base mg cA t → FnG P w K mg base CX0 k fa fd [x] sp) (hbi : ∀ (s' : Shared) (u : Value), BindsTo s' fd ⟨[u], []⟩ [(x, u)])
    (hsp : ∀ H : Hp, H t = some (.tbl #[]) → H a = some (.frz (scriptO vs) (.lst (ns.map V.int))) → sp [.ref a] H (fun v _ => v = .bl true) fun _ _ _ => False) :
    codeAny (model P w) callerA (.call (.ref fa) ⟨[.ref a], []⟩) (fun r s' => r = .ok (.ret (.bool true)) ∧ OldK s.heap s'.heap ∧ s'.os = s.os ∧ AllBare s'.gens) s := by
  have nta : t ≠ a := fun z => by
    rw [z, hsc] at hta
    exact absurd (congrArg Obj.data (Option.some.inj hta)) (by intro q; cases q)
  -- what is neither a sequence nor an empty record is neither of the two
  have off : ∀ {b : Addr} {o : Obj}, s.heap.get? b = some o → (∀ us n, o.data ≠ .seq us n) → o.data ≠ .fields #[] → hEnd a t (scriptO vs) (ns.map V.int) b = none := fun {b o} e h1 h2 => by
    refine hEnd_n (fun z => ?_) (fun z => ?_)
    · rw [z, hsc] at e
      exact h1 _ _ (congrArg Obj.data (Option.some.inj e)).symm
    · rw [z, hta] at e
      exact h2 (congrArg Obj.data (Option.some.inj e)).symm
  have ns_base : ∀ {b : Addr} {m : Str → Option Value}, s.heap.Ns b m → (hidT s.heap (hEnd a t (scriptO vs) (ns.map V.int))).Ns b m := fun {b m} ⟨o, es, ep, e, d, r⟩ =>
    ⟨o, es, ep, hidT_get e (off e (fun us n z => by rw [d] at z; cases z) (fun z => by rw [d] at z; cases z)), d, r⟩
  have kb : K.In (hidT s.heap (hEnd a t (scriptO vs) (ns.map V.int))) := fun b o e => hidT_get (kin b o e) (hEnd_n (fun z => by rw [z, kan] at e; cases e) (fun z => by rw [z, ktn] at e; cases e))
  have hok : HOk P w (hEnd a t (scriptO vs) (ns.map V.int)) s.heap := fun b u e => by
    rcases hEnd_inv e with ⟨rfl, rfl⟩ | ⟨rfl, rfl⟩
    · exact ⟨hsc, by rw [List.length_map]; exact hlen, vs, _, vals_ints hin, hsc⟩
    · exact hta
  have tb : TabB (hidT s.heap (hEnd a t (scriptO vs) (ns.map V.int))) mg cA t := by
    refine ⟨?_, ?_, fun z => ?_⟩
    · obtain ⟨o, us, file, tf, flags, tg, inF, text, tt, e1, r1, r2, r3, r4⟩ := hcd
      refine ⟨o, us, file, tf, flags, tg, inF, text, tt, hidT_get e1 (off e1 (fun us' n z => by rw [r2] at z; cases z) (fun z => ?_)), r1, r2, r3, r4⟩
      rw [r2] at z
      cases z
      simp at r3
    · obtain ⟨bm, ob, b1, b2, b3, b4, b5, b6⟩ := hmod
      refine ⟨bm, ob, b1, b2, fun z => ?_, fun z => ?_, hidT_get b3 (off b3 (fun us n z => by rw [b6] at z; cases z) (fun z => by rw [b6] at z; cases z)), b4, b5, b6⟩
      · obtain ⟨o, es, ep, e, d, _⟩ := hm
        rw [← z, b3] at e
        cases e
        rw [b6] at d
        cases d
      · rw [z, hta] at b3
        cases b3
        cases b6
    · obtain ⟨o, es, ep, e, d, _⟩ := hm
      rw [z, hta] at e
      cases e
      cases d
  obtain ⟨mc, n1, n2⟩ := hnl
  have en : Env0 P w K mg (hidT s.heap (hEnd a t (scriptO vs) (ns.map V.int))) callerA [] s (hEnd a t (scriptO vs) (ns.map V.int)) :=
    { frames := rfl, mod := ⟨kb, ns_base hm, ⟨mb, ns_base hbn, hbt⟩, ⟨mc, ns_base n1, n2⟩⟩, bs := fun _ _ e => of_hidT e, bsz := Nat.le_of_eq (hidT_size ..), funs := trivial, frf := (fun b hb => by cases hb), hok := hok, bare := .of_eq hgen }
  have run := (hF _ kb (ns_base hm) tb).run callerA [] s _ ⟨[.ref a], []⟩ [.ref a] [.ref a] _ _ rfl hroom en (hbi s (.ref a)) (.cons rfl .nil) (hsp _ (hEnd_t nta) hEnd_a)
  refine codeAny_mono run fun r s' h => ?_
  match r, h with
  | .error _, h => exact False.elim h
  | .ok .next, h => exact False.elim h
  | .ok .brk, h => exact False.elim h
  | .ok .cont, h => exact False.elim h
  | .ok (.ret u), ⟨v, H', os, bare, un, hok', rv, hv⟩ =>
    have hv : v = .bl true := hv
    subst hv
    have hu : u = Value.bool true := rv
    subst hu
    obtain ⟨more, hmore⟩ := un.tbls t #[] (hEnd_t nta)
    have ht' : s'.heap.get? t = some { cls := .none, data := .fields more } := by
      have := hok' t _ hmore
      rw [Array.empty_append] at this
      exact this
    have stay : ∀ b o, b ≠ t → s.heap.get? b = some o → s'.heap.get? b = some o := fun b o nb e => by
      by_cases ba : b = a
      · subst ba
        obtain ⟨e2, _⟩ := hok' b _ (un.frzs b _ _ hEnd_a)
        rw [hsc] at e
        cases e
        exact e2
      · exact un.keep b o e (hEnd_n ba nb) (fun z => by cases z) (fun z => by cases z)
    refine ⟨rfl, ⟨fun b o e => ?_, fun b o e => ?_⟩, os, bare⟩
    · by_cases hb : b = t
      · subst hb
        rw [hta] at e
        cases e
        exact .inr (.inl ⟨(hcd.tab hta).isCodeTable, rfl, #[], more, rfl, by rw [Array.empty_append]; exact ht'⟩)
      · exact .inl (stay b o hb e)
    · by_cases hb : b = t
      · subst hb
        exact ⟨_, ht'⟩
      · exact ⟨o, stay b o hb e⟩
/-- the walk's end -/
theorem walk_end {l : PySem.W.OpenLaw} {n k : Nat} {q : Program} {loose : List Str} {XP : (Str → Option Value) → Heap → Prop} {YP : World → Heap → Prop} {d : DefRec} {x : Str}
    (hn : l.most = some n) (hn2 : n ≤ sizeLine) (hdf : d.params.defaults = []) (hr : Room k callerA)
    (F : ∀ (w : World) (mg : Str → Option Value) (fa : Addr) (h : Heap), YP w h → h.Ns mainGlobals mg → mg d.name = some (.ref fa) → ∃ (K : PySem.W.Frag) (fd : FuncData) (cA t : Addr) (sp : Sp), K.In h ∧ h.get? t = some tabO ∧ K.lookup t = none ∧ PySem.W.CodeHd h cA t ∧
      (∀ a vs, h.get? a = some (scriptO vs) → K.lookup a = none) ∧ (∀ (s' : Shared) (u : Value), BindsTo s' fd ⟨[u], []⟩ [(x, u)]) ∧
      (∀ (H : Hp) (a : Addr) (so : Obj) (ns : List Int), ns.length ≤ n → H t = some (.tbl #[]) → H a = some (.frz so (.lst (ns.map V.int))) → sp [.ref a] H (fun v _ => v = .bl true) fun _ _ _ => False) ∧
      ∀ base : Heap, K.In base → base.Ns mainGlobals mg → TabB base mg cA t → FnG l.prog w K mg base CX0 k fa fd [x] sp) :
    PySem.W.WalkO q loose XP YP l.row.toRowW d [] (fun f vs => PySem.call f vs) := by
  refine Att.attach_callB hn hdf fun w s₀ s₁ mg mb fa o pm cd doc a vs ns G Y ho hd hcd hmg hobj hints hlen hbits hg => ?_
  obtain ⟨K, fd, cA, t, sp, k1, k2, k3, k4, k5, k6, k7, k8⟩ := F w mg fa _ Y G.T.g hmg
  exact end_call k1 G.T.g G.T.b G.T.builtins G.T.nolimit hg k2 k3 k4 G.T.bmain hobj (k5 _ _ hobj) hints (Nat.le_trans hlen hn2) hr k8 k6 (fun H h1 h2 => k7 H a _ ns hlen h1 h2)
end Kn

set_option Elab.async false
set_option linter.all false
set_option maxRecDepth 100000
set_option maxHeartbeats 1000000
set_option pp.maxSteps 1200
namespace Kn
open PySem L2 TL PySem.Spec PyProof.Rows LamX He
/-! ### what the written part must say -/
def oexB (K : PySem.W.Frag) (C : Addr) : Bool := match K.lookup C with
  | some ⟨.type "type", _, .cls cd, sl⟩ => (match cd.mro, sl.toList with
    | .ref C' :: bm, [_, _, _, _, some (.builtin n), _] => decide (C' = C) && (decide (n = "ValueError.__new__") && (!cd.hasDel && (cd.hasDict && PySem.HandSPX.refsVE bm)))
    | _, _ => false)
  | _ => false
theorem oexB_ok {K : PySem.W.Frag} {C : Addr} (h : oexB K C = true) : ∃ nm q N bs bm sn sub ab col dd k0 k1 k2 k3 k5, K.lookup C = some (excClassObj nm q C N bs bm true sn sub ab col dd k0 k1 k2 k3 k5 "ValueError.__new__") ∧ PySem.HandSPX.refsVE bm = true := by
  unfold oexB at h
  split at h
  · rename_i dd cd sl ho
    split at h
    · rename_i C' bm k0 k1 k2 k3 n k5 hm hs
      simp only [Bool.and_eq_true, decide_eq_true_eq, Bool.not_eq_true'] at h
      obtain ⟨rfl, rfl, hdel, hdi, hbm⟩ := h
      obtain ⟨nm, bs, mro, ns, qn, hd, sn, sub, ab, col, del⟩ := cd
      dsimp only at hm hdel hdi
      subst hm hdel hdi
      obtain ⟨l⟩ := sl
      dsimp only at hs
      subst hs
      exact ⟨nm, qn, ns, bs, bm, sn, sub, ab, col, dd, k0, k1, k2, k3, k5, ho, hbm⟩
    · cases h
  · cases h
def tup2B (K : PySem.W.Frag) (t : Addr) (vs : List V) : Bool := match K.lookup t with
  | some ⟨.type c, _, .seq its _, _⟩ => decide (c = "tuple") && (decide (its.size ≤ sizeLine) && relAll vs its.toList)
  | _ => false
theorem tup2B_ok {K : PySem.W.Frag} {t : Addr} {vs : List V} (h : tup2B K t vs = true) : TupW K t vs := by
  unfold tup2B at h
  split at h
  · rename_i c od its n sl q
    obtain ⟨h1, h2⟩ := ba h
    obtain ⟨h3, h4⟩ := ba h2
    exact ⟨_, its, n, q, congrArg Value.type (of_decide_eq_true h1), rfl, of_decide_eq_true h3, relAll_ok h4⟩
  · cases h
def shpB (K : PySem.W.Frag) (a : Addr) : Bool := shapeTab.all fun p => match PySem.W.nsIn K a p.1 with
  | some (some (.ref t)) => tup2B K t [.int (p.2.1 : Nat), .int (p.2.2 : Nat)]
  | _ => false
theorem shpB_ok {K : PySem.W.Frag} {a : Addr} (h : shpB K a = true) (z : Str) (x y : Nat) (hs : shapeT z = some (x, y)) : ∃ t, PySem.W.nsIn K a z = some (some (.ref t)) ∧ TupW K t [.int (x : Nat), .int (y : Nat)] := by
  have h1 := List.all_eq_true.mp h (z, (x, y)) (shapeT_mem hs)
  dsimp only at h1
  split at h1
  · rename_i t e
    exact ⟨t, e, tup2B_ok h1⟩
  · cases h1
/-- what isn't a key isn't there -/
theorem ns_no {K : PySem.W.Frag} {P : Params} {a : Addr} {ks : List Str} (h : dicW K a = some (keysIn P ks)) {z : Str} (hz : z ∉ ks) : PySem.W.nsIn K a z = some none := by
  unfold dicW at h
  split at h
  · rename_i c es n sl q
    split at h
    · have h2 := Option.some.inj h
      unfold PySem.W.nsIn
      rw [q]
      dsimp only
      have key : ∀ (l : List DictEntry) (ks : List Str), l.map keyOf = keysIn P ks → z ∉ ks → l.find? (·.key.isStr z) = none ∧ l.any (·.refKey) = false := by
        intro l
        induction l with
        | nil => exact fun _ _ _ => ⟨rfl, rfl⟩
        | cons e r ih =>
          intro ks he hz
          cases ks with
          | nil => cases he
          | cons k ks =>
            have he' : keyOf e :: r.map keyOf = some (k, PyData.keyHash P k) :: keysIn P ks := he
            injection he' with h3 h4
            obtain ⟨g1, g2⟩ := ih ks h4 (fun q => hz (List.mem_cons_of_mem _ q))
            unfold keyOf at h3
            split at h3
            · rename_i x t hx
              obtain ⟨rfl, _⟩ := Prod.mk.inj (Option.some.inj h3)
              have hne : ¬ x = z := fun q => hz (by rw [q]; exact List.mem_cons_self)
              have e1 : e.key.isStr z = false := by
                rw [hx]
                show (x == z) = false
                exact beq_eq_false_iff_ne.mpr hne
              have e2 : e.refKey = false := by
                unfold DictEntry.refKey
                rw [hx]
              rw [List.find?_cons, e1, List.any_cons, e2]
              exact ⟨g1, g2⟩
            · cases h3
      obtain ⟨g1, g2⟩ := key _ _ h2 hz
      rw [g1, g2]
      rfl
    · cases h
  · cases h
/-! ### all that is asked of the written part, in one Bool -/
def nm8 : List Str := ["BadText", "BadOrder", "BadTable", "BadPaper", "BadQuestion", "NoSuch", "TooGreat", "HangsOn"]
abbrev gC (K : PySem.W.Frag) : Addr := ga K "BadFormula"
def exB (K : PySem.W.Frag) : Bool :=
  [K.all (fun q => !decide (q.2.cls = .type "list")), oexB K (gC K),
   decide (PySem.W.findIn K (.ref (gC K)) "place" = some none), decide (PySem.W.findIn K (.ref (gC K)) "name" = some none),
   decide (PySem.W.findIn K (.ref (gC K)) "__init__" = some (some (.ref (ma K (gC K) "__init__")))), decide (PySem.W.typeIn K (.ref (ma K (gC K) "__init__")) = some (.type "function")),
   decide (PySem.W.exmOne K (.ref (gC K)) (.ref (gC K)) = some true), nm8.all (fun x => (PySem.W.exmOne K (.ref (gC K)) (.ref (ga K x))).isSome),
   decide (PySem.W.kitOne K (.ref (gC K)) (.ref (gC K)) = some true), nm8.all (fun x => decide (PySem.W.kitOne K (.ref (gC K)) (.ref (ga K x)) = some false)),
   (["KeyError", "OverflowError", "RuntimeError"] : List String).all (fun x => decide (PySem.W.kitOne K (.ref (gC K)) (.type x) = some false)), decide (PySem.W.kitOne K (.ref (gC K)) (.type "ValueError") = some true),
   decide (PySem.W.findIn K (.ref (gC K)) "__getattribute__" = some (some (.builtin "BaseException.__getattribute__"))), decide (PySem.W.findIn K (.ref (gC K)) "__getattr__" = some none),
   decide (PySem.W.subIn K (.ref (gC K)) (.type "BaseException") = some true), PySem.W.hasDictIn K (gC K), decide (PySem.W.findIn K (.ref (gC K)) "__class__" = some (some (.builtin "object.__class__"))),
   decide (PySem.W.specialIn K (.builtin "object.__class__") "__get__" = some (some (.builtin "getset_descriptor.__get__"))), decide (PySem.W.takesIn K (.builtin "object.__class__") = some true), decide (PySem.W.mroIn K (gC K) (.type "object") = some true),
   xfB K (gC K), decide (PySem.W.findIn K (.ref (gC K)) "__setattr__" = some (some (.builtin "object.__setattr__"))), decide (PySem.W.typeIn K (.ref (gC K)) = some (.type "type")), PySem.W.keepIn K (.ref (gC K)),
   shpB K (ga K "SHAPES"), decide (PySem.W.keepIn K (.ref (ga K "law")) = true)].all id
theorem ex_at {l : List Bool} (h : l.all id = true) (i : Nat) {b : Bool} (e : l[i]? = some b) : b = true := List.all_eq_true.mp h b (List.mem_of_getElem? e)
section
variable {K : PySem.W.Frag}
theorem ex_list (h : exB K = true) {a : Addr} {o : Obj} (q : K.lookup a = some o) : o.cls ≠ .type "list" := by
  have h1 := ex_at h 0 rfl
  have h2 := List.all_eq_true.mp h1 (a, o) (lookup_mem q)
  intro z
  dsimp only at h2
  rw [z] at h2
  cases h2
theorem ex_oex (h : exB K = true) : OexC K (gC K) := ⟨oexB_ok (ex_at h 1 rfl), of_decide_eq_true (ex_at h 21 rfl), of_decide_eq_true (ex_at h 14 rfl), of_decide_eq_true (ex_at h 22 rfl), ex_at h 23 rfl⟩
theorem ex_exc (h : exB K = true) : ExcC K (gC K) := ⟨of_decide_eq_true (ex_at h 12 rfl), of_decide_eq_true (ex_at h 13 rfl), of_decide_eq_true (ex_at h 14 rfl), ex_at h 15 rfl, of_decide_eq_true (ex_at h 16 rfl), of_decide_eq_true (ex_at h 17 rfl), of_decide_eq_true (ex_at h 18 rfl), of_decide_eq_true (ex_at h 19 rfl)⟩
theorem ex_ref {mg : Str → Option Value} (h : exB K = true) (g : ∀ x ∈ ("BadFormula" : Str) :: nm8, mg x = some (.ref (ga K x))) : RefK K mg (gC K) (ga K "BadText") (ga K "BadOrder") (ga K "BadTable") (ga K "BadPaper") (ga K "BadQuestion") (ga K "NoSuch") (ga K "TooGreat") (ga K "HangsOn") := by
  have hx := ex_at h 7 rfl
  have hk := ex_at h 9 rfl
  have hb := ex_at h 10 rfl
  have x : ∀ y ∈ nm8, ∃ b, PySem.W.exmOne K (.ref (gC K)) (.ref (ga K y)) = some b := fun y hy => Option.isSome_iff_exists.mp (List.all_eq_true.mp hx y hy)
  have k : ∀ y ∈ nm8, PySem.W.kitOne K (.ref (gC K)) (.ref (ga K y)) = some false := fun y hy => of_decide_eq_true (List.all_eq_true.mp hk y hy)
  have b : ∀ y ∈ (["KeyError", "OverflowError", "RuntimeError"] : List String), PySem.W.kitOne K (.ref (gC K)) (.type y) = some false := fun y hy => of_decide_eq_true (List.all_eq_true.mp hb y hy)
  refine ⟨g _ (by simp), g _ (by simp [nm8]), g _ (by simp [nm8]), g _ (by simp [nm8]), g _ (by simp [nm8]), g _ (by simp [nm8]), g _ (by simp [nm8]), g _ (by simp [nm8]), g _ (by simp [nm8]), of_decide_eq_true (ex_at h 6 rfl), fun c hc => ?_, of_decide_eq_true (ex_at h 8 rfl), fun c hc => ?_, of_decide_eq_true (ex_at h 11 rfl), ex_exc h, xfB_ok (ex_at h 20 rfl), of_decide_eq_true (ex_at h 2 rfl), of_decide_eq_true (ex_at h 3 rfl)⟩
  · have : ∃ y ∈ nm8, c = .ref (ga K y) := by simpa [nm8] using hc
    obtain ⟨y, hy, rfl⟩ := this
    exact x y hy
  · have : (∃ y ∈ nm8, c = .ref (ga K y)) ∨ ∃ y ∈ (["KeyError", "OverflowError", "RuntimeError"] : List String), c = .type y := by
      simp only [List.mem_cons, List.not_mem_nil, or_false] at hc
      rcases hc with rfl | rfl | rfl | rfl | rfl | rfl | rfl | rfl | rfl | rfl | rfl
      · exact .inl ⟨"BadText", by simp [nm8], rfl⟩
      · exact .inl ⟨"BadOrder", by simp [nm8], rfl⟩
      · exact .inl ⟨"BadTable", by simp [nm8], rfl⟩
      · exact .inl ⟨"BadPaper", by simp [nm8], rfl⟩
      · exact .inl ⟨"BadQuestion", by simp [nm8], rfl⟩
      · exact .inl ⟨"NoSuch", by simp [nm8], rfl⟩
      · exact .inl ⟨"TooGreat", by simp [nm8], rfl⟩
      · exact .inl ⟨"HangsOn", by simp [nm8], rfl⟩
      · exact .inr ⟨"KeyError", by simp, rfl⟩
      · exact .inr ⟨"OverflowError", by simp, rfl⟩
      · exact .inr ⟨"RuntimeError", by simp, rfl⟩
    rcases this with ⟨y, hy, rfl⟩ | ⟨y, hy, rfl⟩
    · exact k y hy
    · exact b y hy
theorem fun_of {x qual : Str} {st : Stmt} {f : Addr} {fd : FuncData} (F : FunD K x qual (defArgs st) (defBody st) (defScope st) [] [] f fd) : L2.Fun K x qual st f fd := by
  obtain ⟨oc, od, dV, kV, doc, pm, an, cdv, ct, osl, rfl, lk, hcd, hd, _⟩ := F.ex
  rcases hd with ⟨_, rfl⟩ | ⟨h, _⟩
  · exact ⟨⟨oc, od, kV, doc, pm, an, cdv, ct, osl, rfl, lk, hcd⟩, F.kp⟩
  · exact absurd rfl h
end
end Kn

set_option Elab.async false
set_option linter.all false
set_option maxRecDepth 100000
set_option maxHeartbeats 1000000
set_option pp.maxSteps 1200
namespace Kn
open PySem L2 TL PySem.Spec PyProof.Rows LamX He
/-! ### names that the head tells of -/
def gl : List Str := (["is_name", "is_formed", "name_in", "parts_of", "need_formula", "parts_met", "names_in", "_law_mixed", "_law_begun", "_law_draw", "_law_one", "_law_word", "_law_names", "_law_rooms", "_law_made", "_law_own", "_law_named", "_law_is_name", "_law_place", "_law_bent", "_law_refused", "_law_grown", "_law_right", "law", "SHAPES", "BadFormula", "BadText", "BadOrder", "BadTable", "BadPaper", "BadQuestion", "NoSuch", "TooGreat", "HangsOn"] : List String).map Str.ofString
def fr : List Str := ["isinstance", "str", "tuple", "len", "range", "reversed", "list", "int", "repr", "min", "ValueError", "KeyError", "OverflowError", "RuntimeError"]
def faL : List Fa := gl.map .glo ++ (fr.map .free ++ [.int "MOST_PARTS" 60, .int "MOST_WITHIN" 9, .int "MOST_NAMES" 10, .int "MOST_LETTERS" 8])
abbrev dOf (x : Str) (st : Stmt) : DefD := ⟨(x, none), x, x, defArgs st, defBody st, defScope st, [], []⟩
def fnL : List DefD := [dOf "is_name" sIsName, dOf "is_formed" sIsFormed, dOf "name_in" sNameIn, dOf "parts_of" sPartsOf, dOf "need_formula" sNeed, dOf "parts_met" sPartsMet, dOf "names_in" sNamesIn, dOf "_law_mixed" sMixed, dOf "_law_begun" sBegun, dOf "_law_draw" sDraw, dOf "_law_one" sOne, dOf "_law_word" sWord, dOf "_law_names" sNames, dOf "_law_rooms" sRooms, dOf "_law_made" sMade, dOf "_law_own" sOwn, dOf "_law_named" sNamed, dOf "_law_is_name" sLIsName, dOf "_law_place" sPlace, dOf "_law_bent" sBent, dOf "_law_refused" sRefused, dOf "_law_grown" sGrown, dOf "_law_right" sRight, dOf "law" sLaw,
  ⟨("BadFormula", some "__init__"), "__init__", "BadFormula.__init__", defArgs sBFInit, defBody sBFInit, defScope sBFInit, [], []⟩]
abbrev shK : List Str := shapeTab.map (·.1)
def tsL : List Tab := [(fun K => ga K "SHAPES", shK)]
def tfL : List Defn := [("_law_right", none)]
theorem shapeT_key {z : Str} (h : shapeT z = none) : z ∉ shK := by
  have key : ∀ l : List (Str × (Nat × Nat)), l.lookup z = none → z ∉ l.map (·.1) := by
    intro l
    induction l with
    | nil => exact fun _ q => by cases q
    | cons p r ih =>
      obtain ⟨y, v⟩ := p
      intro e q
      rw [List.lookup_cons] at e
      cases hb : (z == y) with
      | true =>
        rw [hb] at e
        cases e
      | false =>
        rw [hb] at e
        rcases List.mem_cons.mp q with q | q
        · rw [q, beq_self_eq_true] at hb
          cases hb
        · exact ih e q
  exact key shapeTab h
section
variable {P : Program} {w : World} {K : PySem.W.Frag} {mg : Str → Option Value} {base h : Heap}
theorem mkDef {x : Str} {st : Stmt} {fd : FuncData} {cx : CXT} {k : Nat} {ps : List Str} {sp : Sp} (F : L2.Fun K x x st (ga K x) fd) (m : mg x = some (.ref (ga K x))) (b : L2.Binds K fd ps []) (ok : FnOk P w K mg base cx k (ga K x) fd ps sp) : Def P w K mg base cx x k ps sp := ⟨⟨_, _, m, F.kp, b, ok⟩⟩
theorem shp_of (c : SaysX faL fnL tsL tfL exB w h K) : ShpT K w (ga K "SHAPES") := by
  obtain ⟨es, n, D⟩ := c.t.tab 0 (t := (fun K => ga K "SHAPES", shK)) rfl
  have e : tsL.map (fun t => dicW K (t.1 K)) = tsL.map fun t => some (keysIn w.params t.2) := congrArg (fun z : AlT => z.2) c.t
  have e2 : dicW K (ga K "SHAPES") = some (keysIn w.params shK) := (List.cons.inj e).1
  exact ⟨⟨es, n, D.at_, D.lit⟩, D.low, fun z x y hs => shpB_ok (ex_at c.more 24 rfl) z x y hs, fun z hz => ns_no e2 (shapeT_key hz)⟩
theorem all_law (X : K.In h) (G : h.Ns mainGlobals mg) (c : SaysX faL fnL tsL tfL exB w h K) :
    ∃ (fd : FuncData) (cA t : Addr), h.get? t = some tabO ∧ K.lookup t = none ∧ PySem.W.CodeHd h cA t ∧ (∀ (s' : Shared) (u : Value), BindsTo s' fd ⟨[u], []⟩ [("script", u)]) ∧
      ∀ base : Heap, K.In base → base.Ns mainGlobals mg → TabB base mg cA t → FnG P w K mg base CX0 44 (ga K "law") fd ["script"] (spLaw K [(t, qLam ++ "<lambda>")]) := by
  have g : ∀ x ∈ gl, mg x = some (.ref (ga K x)) := fun x hx => He.glo_ok X G (c.t.d.facts (List.mem_append_left _ (List.mem_map.mpr ⟨x, hx, rfl⟩)))
  have f : ∀ x ∈ fr, mg x = none := fun x hx => He.free_ok X G (c.t.d.facts (List.mem_append_right _ (List.mem_append_left _ (List.mem_map.mpr ⟨x, hx, rfl⟩))))
  have i : ∀ (x : Str) (n : Int), Fa.int x n ∈ ([.int "MOST_PARTS" 60, .int "MOST_WITHIN" 9, .int "MOST_NAMES" 10, .int "MOST_LETTERS" 8] : List Fa) → ∃ t, mg x = some (.int n t) := fun x n hx => He.int_ok X G (c.t.d.facts (List.mem_append_right _ (List.mem_append_right _ hx)))
  have d : ∀ (x : Str) (st : Stmt), dOf x st ∈ fnL → ∃ fd, L2.Fun K x x st (ga K x) fd := fun x st hx => let ⟨fd, F⟩ := c.t.d.defs hx; ⟨fd, fun_of F⟩
  obtain ⟨t60, i60⟩ := i "MOST_PARTS" 60 (by simp)
  obtain ⟨t9, i9⟩ := i "MOST_WITHIN" 9 (by simp)
  obtain ⟨t10, i10⟩ := i "MOST_NAMES" 10 (by simp)
  obtain ⟨t8, i8⟩ := i "MOST_LETTERS" 8 (by simp)
  have mi := f "isinstance" (by decide)
  have ms := f "str" (by decide)
  have mt := f "tuple" (by decide)
  have ml := f "len" (by decide)
  have mr := f "range" (by decide)
  have mv := f "reversed" (by decide)
  have mL := f "list" (by decide)
  have mn := f "int" (by decide)
  have mrp := f "repr" (by decide)
  have mm := f "min" (by decide)
  have mV := f "ValueError" (by decide)
  have mK := f "KeyError" (by decide)
  have mO := f "OverflowError" (by decide)
  have mR := f "RuntimeError" (by decide)
  have S := shp_of c
  have gS := g "SHAPES" (by decide)
  have R := ex_ref c.more fun x hx => g x (by
    have : ∀ y ∈ ("BadFormula" : Str) :: nm8, y ∈ gl := by decide
    exact this x hx)
  obtain ⟨fIsName, FIsName⟩ := d "is_name" sIsName (by simp [fnL])
  obtain ⟨fIsFormed, FIsFormed⟩ := d "is_formed" sIsFormed (by simp [fnL])
  obtain ⟨fNameIn, FNameIn⟩ := d "name_in" sNameIn (by simp [fnL])
  obtain ⟨fPartsOf, FPartsOf⟩ := d "parts_of" sPartsOf (by simp [fnL])
  obtain ⟨fNeed, FNeed⟩ := d "need_formula" sNeed (by simp [fnL])
  obtain ⟨fPtM, FPtM⟩ := d "parts_met" sPartsMet (by simp [fnL])
  obtain ⟨fNamesIn, FNamesIn⟩ := d "names_in" sNamesIn (by simp [fnL])
  obtain ⟨fMixed, FMixed⟩ := d "_law_mixed" sMixed (by simp [fnL])
  obtain ⟨fBegun, FBegun⟩ := d "_law_begun" sBegun (by simp [fnL])
  obtain ⟨fDraw, FDraw⟩ := d "_law_draw" sDraw (by simp [fnL])
  obtain ⟨fOne, FOne⟩ := d "_law_one" sOne (by simp [fnL])
  obtain ⟨fWord, FWord⟩ := d "_law_word" sWord (by simp [fnL])
  obtain ⟨fNames, FNames⟩ := d "_law_names" sNames (by simp [fnL])
  obtain ⟨fRooms, FRooms⟩ := d "_law_rooms" sRooms (by simp [fnL])
  obtain ⟨fMade, FMade⟩ := d "_law_made" sMade (by simp [fnL])
  obtain ⟨fOwn, FOwn⟩ := d "_law_own" sOwn (by simp [fnL])
  obtain ⟨fNamed, FNamed⟩ := d "_law_named" sNamed (by simp [fnL])
  obtain ⟨fLIsName, FLIsName⟩ := d "_law_is_name" sLIsName (by simp [fnL])
  obtain ⟨fPlace, FPlace⟩ := d "_law_place" sPlace (by simp [fnL])
  obtain ⟨fBent, FBent⟩ := d "_law_bent" sBent (by simp [fnL])
  obtain ⟨fRefused, FRefused⟩ := d "_law_refused" sRefused (by simp [fnL])
  obtain ⟨fGrown, FGrown⟩ := d "_law_grown" sGrown (by simp [fnL])
  obtain ⟨fRight, FRight⟩ := d "_law_right" sRight (by simp [fnL])
  obtain ⟨fLaw, FLaw0⟩ := c.t.d.defs (d := dOf "law" sLaw) (by simp [fnL])
  have FLaw : L2.Fun K "law" "law" sLaw (ga K "law") fLaw := fun_of FLaw0
  obtain ⟨fInit, FInit0⟩ := c.t.d.defs (d := ⟨("BadFormula", some "__init__"), "__init__", "BadFormula.__init__", defArgs sBFInit, defBody sBFInit, defScope sBFInit, [], []⟩) (by simp [fnL])
  have FInit : L2.Fun K "__init__" "BadFormula.__init__" sBFInit (ma K (gC K) "__init__") fInit := fun_of FInit0
  -- how the arguments bind
  have hp : (("_law_right", none) : Defn) ∈ tfL := List.mem_cons_self
  refine ⟨fLaw, (cT K ("_law_right", none)).1, (cT K ("_law_right", none)).2, c.empty _ hp, c.out _ hp, PySem.W.codeHd_of_K X (c.hd _ hp), ?_, fun base KB GB TB => ?_⟩
  · exact fun s' u => FunD.bindsA (ps := ["script"]) FLaw0 (fun _ _ _ _ _ _ us hl => match us, hl with | [_], _ => rfl) s' [u] rfl
  · have hco : ∀ (o : Obj) (fd' : FuncData), K.lookup (ga K "_law_right") = some o → o.data = .func fd' → fd'.code = .ref (cT K ("_law_right", none)).1 := fun o fd' ho hd => by
      obtain ⟨oc, od, kV, doc, pm, an, cdv, ct, osl, e1, lk, hcd⟩ := FRight.ex
      obtain ⟨cc, rfl⟩ := codeIn_ref hcd
      have e2 : codeOf K ("_law_right", none) = cc := codeOf_eq lk (by rw [e1])
      rw [lk] at ho
      cases ho
      cases hd
      rw [e1]
      show Value.ref cc = Value.ref (codeOf K ("_law_right", none))
      rw [e2]
    have IN : Def P w K mg base CX0 "is_name" 1 ["thing"] (spIsName K) := mkDef FIsName (g _ (by decide)) (FIsName.binds fun _ _ _ _ _ _ us hl => match us, hl with | [_], _ => rfl) (ok_isname FIsName mi ms ml i8)
    have IF : Def P w K mg base CX0 "is_formed" 2 ["part"] (spIsFormed K) := mkDef FIsFormed (g _ (by decide)) (FIsFormed.binds fun _ _ _ _ _ _ us hl => match us, hl with | [_], _ => rfl) (ok_isformed FIsFormed IN mi ms mt ml gS S)
    have NI : Def P w K mg base CX0 "name_in" 1 ["part"] (spNameIn K) := mkDef FNameIn (g _ (by decide)) (FNameIn.binds fun _ _ _ _ _ _ us hl => match us, hl with | [_], _ => rfl) (ok_namein FNameIn gS S)
    have PO : Def P w K mg base CX0 "parts_of" 1 ["part"] (spPartsOf K) := mkDef FPartsOf (g _ (by decide)) (FPartsOf.binds fun _ _ _ _ _ _ us hl => match us, hl with | [_], _ => rfl) (ok_partsof FPartsOf gS S)
    have BF : BFS P w K mg base (gC K) (ma K (gC K) "__init__") fInit := ⟨ex_oex c.more, g _ (by decide), R.noP, of_decide_eq_true (ex_at c.more 4 rfl), of_decide_eq_true (ex_at c.more 5 rfl), FInit.binds fun _ _ _ _ _ _ us hl => match us, hl with | [_, _], _ => rfl, ok_bf FInit mV (by kernel_rfl)⟩
    have ND : Def P w K mg base (L2.CX P w) "need_formula" 3 ["thing"] (spNeed K (gC K)) := mkDef FNeed (g _ (by decide)) (FNeed.binds fun _ _ _ _ _ _ us hl => match us, hl with | [_], _ => rfl) (ok_need FNeed BF IF NI PO ml mr mv i60 ⟨_, rfl⟩ i9 ⟨_, rfl⟩ i10 ⟨_, rfl⟩)
    have PtM : Def P w K mg base (L2.CX P w) "parts_met" 4 ["formula"] (spPartsMet K (gC K)) := mkDef FPtM (g _ (by decide)) (FPtM.binds fun _ _ _ _ _ _ us hl => match us, hl with | [_], _ => rfl) (ok_partsmet FPtM ND PO)
    have NS : Def P w K mg base (L2.CX P w) "names_in" 5 ["formula"] (spNamesIn K (gC K)) := mkDef FNamesIn (g _ (by decide)) (FNamesIn.binds fun _ _ _ _ _ _ us hl => match us, hl with | [_], _ => rfl) (ok_namesin FNamesIn PtM NI mL)
    have MX : Def P w K mg base CX0 "_law_mixed" 1 ["cell", "k"] spMixed := mkDef FMixed (g _ (by decide)) (FMixed.binds fun _ _ _ _ _ _ us hl => match us, hl with | [_, _], _ => rfl) (ok_mixed FMixed)
    have BG : Def P w K mg base CX0 "_law_begun" 1 ["script"] (spBegun K) := mkDef FBegun (g _ (by decide)) (FBegun.binds fun _ _ _ _ _ _ us hl => match us, hl with | [_], _ => rfl) (ok_begun FBegun)
    have DR : Def P w K mg base CX0 "_law_draw" 2 ["state", "many"] (spDraw K) := mkDef FDraw (g _ (by decide)) (FDraw.binds fun _ _ _ _ _ _ us hl => match us, hl with | [_, _], _ => rfl) (ok_draw FDraw MX ml)
    have ON : Def P w K mg base CX0 "_law_one" 3 ["state", "things"] (spOne K) := mkDef FOne (g _ (by decide)) (FOne.binds fun _ _ _ _ _ _ us hl => match us, hl with | [_, _], _ => rfl) (ok_one FOne DR ml)
    have WD : Def P w K mg base CX0 "_law_word" 4 ["state"] (spWord K) := mkDef FWord (g _ (by decide)) (FWord.binds fun _ _ _ _ _ _ us hl => match us, hl with | [_], _ => rfl) (ok_word FWord DR ON mr mn)
    have NM : Def P w K mg base CX0 "_law_names" 5 ["state", "many"] (spNames K) := mkDef FNames (g _ (by decide)) (FNames.binds fun _ _ _ _ _ _ us hl => match us, hl with | [_, _], _ => rfl) (ok_names FNames WD mr)
    have RM : Def P w K mg base CX0 "_law_rooms" 3 ["state", "room", "many"] (spRooms K) := mkDef FRooms (g _ (by decide)) (FRooms.binds fun _ _ _ _ _ _ us hl => match us, hl with | [_, _, _], _ => rfl) (ok_rooms FRooms DR mr)
    have bM : L2.Binds K fMade ["state", "names", "room", "deep"] [] := FMade.binds fun _ _ _ _ _ _ us hl => match us, hl with | [_, _, _, _], _ => rfl
    have MD : Def P w K mg base CX0 "_law_made" 13 ["state", "names", "room", "deep"] (spMade K 10) := mkDef FMade (g _ (by decide)) bM (all_made FMade bM (g _ (by decide)) DR ON RM 10)
    have OW : Def P w K mg base CX0 "_law_own" 1 ["formula"] (spOwn K) := mkDef FOwn (g _ (by decide)) (FOwn.binds fun _ _ _ _ _ _ us hl => match us, hl with | [_], _ => rfl) (ok_own FOwn mL)
    have bN : L2.Binds K fNamed ["formula"] [] := FNamed.binds fun _ _ _ _ _ _ us hl => match us, hl with | [_], _ => rfl
    have NR : Def P w K mg base CX0 "_law_named" 12 ["formula"] (spNamed K 10) := mkDef FNamed (g _ (by decide)) bN (all_named FNamed bN (g _ (by decide)) OW 10)
    have LN : Def P w K mg base CX0 "_law_is_name" 1 ["thing"] (spLIsName K) := mkDef FLIsName (g _ (by decide)) (FLIsName.binds fun _ _ _ _ _ _ us hl => match us, hl with | [_], _ => rfl) (ok_lisname FLIsName mi ms ml)
    have PL : Def P w K mg base CX0 "_law_place" 2 ["thing"] (spPlace K) := mkDef FPlace (g _ (by decide)) (FPlace.binds fun _ _ _ _ _ _ us hl => match us, hl with | [_], _ => rfl) (ok_place FPlace LN OW mi ms mt ml mn mr)
    have bB : L2.Binds K fBent ["state", "thing"] [] := FBent.binds fun _ _ _ _ _ _ us hl => match us, hl with | [_, _], _ => rfl
    have BT : Def P w K mg base CX0 "_law_bent" 43 ["state", "thing"] (spBent K 40) := mkDef FBent (g _ (by decide)) bB (all_bent FBent bB (g _ (by decide)) DR ON mi mt ml 40)
    have GW : Def P w K mg base CX0 "_law_grown" 6 ["state", "formula"] (spGrown K) := mkDef FGrown (g _ (by decide)) (FGrown.binds fun _ _ _ _ _ _ us hl => match us, hl with | [_, _], _ => rfl) (ok_grown FGrown DR ON NM mr)
    have RG := ok_right (P := P) (w := w) (base := base) FRight R FRefused (FRefused.binds fun _ _ _ _ _ _ us hl => match us, hl with | [_], _ => rfl) (g _ (by decide)) hco TB PL ND NS NR mi mn ml mrp mK mO mR mV
    exact ok_law FLaw RG (g _ (by decide)) FRight.kp (FRight.binds fun _ _ _ _ _ _ us hl => match us, hl with | [_], _ => rfl) BG DR NM MD BT GW mr mm ml
end
end Kn

set_option Elab.async false
set_option linter.all false
set_option maxRecDepth 100000
set_option maxHeartbeats 1000000
namespace Kn
open PySem PySem.Spec PyProof.Rows L2 LamX He
/-! ### the facts looked at in the heap that the head tells of -/
theorem fin_law {P : Program} {w : World} {K : PySem.W.Frag} {mg : Str → Option Value} {h : Heap} {fa t : Addr} (X : K.In h) (G : h.Ns mainGlobals mg) (hfa : mg ("law" : Str) = some (.ref fa))
    (hT : obsT faL fnL tsL K = valT fnL tsL w) (hE : exB K = true) (hH : (tfL.all fun p => PySem.W.codeHdIn K (cT K p).1 (cT K p).2) = true) (ht : (cT K ("_law_right", none)).2 = t) (hO : K.lookup t = none) (hh : h.get? t = some tabO) :
    ∃ (K' : PySem.W.Frag) (fd : FuncData) (cA t : Addr) (sp : Sp), K'.In h ∧ h.get? t = some tabO ∧ K'.lookup t = none ∧ PySem.W.CodeHd h cA t ∧
      (∀ a vs, h.get? a = some (scriptO vs) → K'.lookup a = none) ∧ (∀ (s' : Shared) (u : Value), BindsTo s' fd ⟨[u], []⟩ [("script", u)]) ∧
      (∀ (H : Hp) (a : Addr) (so : Obj) (ns : List Int), ns.length ≤ 63 → H t = some (.tbl #[]) → H a = some (.frz so (.lst (ns.map V.int))) → sp [.ref a] H (fun v _ => v = .bl true) fun _ _ _ => False) ∧
      ∀ base : Heap, K'.In base → base.Ns mainGlobals mg → TabB base mg cA t → FnG P w K' mg base CX0 44 fa fd ["script"] sp := by
  have c : SaysX faL fnL tsL tfL exB w h K := ⟨hT, hE, fun p hp => List.all_eq_true.mp hH p hp, fun p hp => by
    rw [List.mem_singleton.mp hp, ht]
    exact hO, fun p hp => by
    rw [List.mem_singleton.mp hp, ht]
    exact hh⟩
  obtain ⟨fd, cA, t2, e1, e2, e3, e4, e5⟩ := all_law (P := P) (mg := mg) X G c
  have e := hfa.symm.trans (He.glo_ok X G (c.t.d.facts (List.mem_append_left _ (List.mem_map.mpr ⟨"law", by decide, rfl⟩))))
  have e6 : fa = ga K "law" := Value.ref.inj (Option.some.inj e)
  subst e6
  refine ⟨K, fd, cA, t2, spLaw K [(t2, qLam ++ "<lambda>")], X, e1, e2, e3, fun a vs q => ?_, e4, fun H a so ns hl h1 h2 => ?_, e5⟩
  · cases r : K.lookup a with
    | none => rfl
    | some o =>
      have r1 := X a o r
      rw [q] at r1
      have r2 := Option.some.inj r1
      exact absurd (by rw [← r2]) (ex_list hE r)
  · exact ⟨a, ns, rfl, .inl (.inr ⟨so, h2⟩), ⟨so, h2⟩, hl, fun p hp => by
      rw [List.mem_singleton.mp hp]
      exact TabS.nil h1, fun _ => rfl⟩
end Kn

set_option Elab.async false
set_option linter.all false
set_option maxRecDepth 100000
open PySem PySem.W PyProof.Rows in
set_option maxRecDepth 100000 in
set_option maxHeartbeats 0 in
theorem PySem.Challenge.cw_knotweb_k01_formulas_looked_at_holds : PySem.Challenge.rw_knotweb_k01_formulas_looked_at.Holds := by
  w_on; o_law; k_head; (case hw => w_witness2)
  k_fill
  refine Kn.walk_end (l := PySem.Challenge.rw_knotweb_k01_formulas_looked_at) (n := 63) (k := 44) (x := "script") rfl (by decide) (by kernel_rfl) ⟨rfl, by decide, by decide⟩ ?F
  intro w mg fa h Y G hmg0
  exact Kn.fin_law (km_in_of Y) G hmg0 (by kernel_rfl) (by kernel_rfl) (by kernel_rfl) (by kernel_rfl) (by kernel_rfl) (km_tabs_of Y _ (.head _))
